import PyProof.Rows.All
import Wide.All
import OpenK.AllK
import Wide.FinOn
import Lean
import PyProof.EqAt
import PyProof.EqKinds
import PyProof.TupleCall
import PyProof.StrBlockL
import PyProof.IsiH_list
import PyProof.AttrMiss
import PyProof.ConsumeWalk
import PyProof.TupleIter
import KE.KDictOf
import PyProof.DictWalks
import KE.KDictList
import PyProof.NeKinds
import PyProof.ZipIter
import PyProof.StrLawsOcc
import Wide.Txt
import KE.KIntText
import PyProof.DictValues
import PyProof.StrOps2
import PyProof.StrCalls6
import PyProof.StrCalls5
import PyProof.DictItems
import PyProof.Rows.FStr
import PyProof.Rows.SortRuns
import KE.KSortTup
import PyProof.NeData
import PyProof.P3Eq
import PyProof.Rows.Chain
import PyProof.Rows.RuleIs
import PyProof.DictRoadsH
import PyProof.TupleKey
import Wide.Seal
import PyProof.MaxThree
import KE.KRevIter
import PyProof.ListNew
import PyProof.Rows.FactsT2
import PyProof.SeqI3
import PyProof.Rows.SeqCalls
import PyProof.Rows.BitMore
import PySem.Challenge.RW_everguard_k44_stands_ahead
set_option Elab.async false
set_option linter.all false
set_option maxRecDepth 100000
def abc:=@List.length_map
def adj:=@List.getElem?_eq_getElem
def adk:=@PySem.wpAny_bind
def adl:=@PySem.Heap.get?_push_of_some
def adm:=@List.length_append
def adn:=@Nat.le_refl
def ado:=@List.getElem?_map
def adp:=@List.map_append
def adq:=@List.mem_cons
def ads:=@List.mem_map
def adt:=@List.getElem?_eq_some_iff
def adu:=@List.mem_append
def adv:=@PySem.wpAny_pure
def adw:=@if_neg
def adx:=@List.mem_cons_of_mem
def ady:=@Nat.le_trans
def adz:=@List.size_toArray
def adA:=@List.getD_eq_getElem?_getD
def adB:=@List.mem_cons_self
def adF:=@List.mem_append_right
def adG:=@Ne.symm
def adH:=@PySem.Heap.lt_size
def adI:=@List.not_mem_nil
def adJ:=@List.mem_singleton
def adK:=@List.nodup_append
def adL:=@List.length_cons
def adM:=@if_pos
def adN:=@Option.some.inj
def adO:=@Bool.false_ne_true
def adP:=@PySem.Heap.get?_push_size
def adQ:=@List.map_cons
def adR:=@Nat.ne_of_lt
def adS:=@decide_eq_false
def adT:=@List.mem_append_left
def adU:=@List.length_take
def adV:=@Nat.le_add_right
def adW:=@Nat.zero_le
def adX:=@List.mem_of_getElem?
def adY:=@Nat.lt_of_lt_of_le
def adZ:=@PySem.F.plainAttrs_list
def ad0:=@Nat.le_succ_of_le
def ad1:=@List.nodup_cons
def ad2:=@List.length_singleton
def ad3:=@decide_eq_true
def ad4:=@decide_eq_true_eq
def ad5:=@List.take_length
def ad6:=@PySem.PassesOwn.never
def ad7:=@PySem.F.slot_list_append
def ad8:=@PySem.F.type_list_append
def ad9:=@PyProof.Rows.boot_dict
def aea:=@Bool.eq_iff_iff
def aeb:=@Bool.and_eq_true
def aec:=@or_false
def aed:=@List.take_of_length_le
def aee:=@List.getElem_mem
def aef:=@of_decide_eq_true
def aeg:=@List.append_assoc
def aeh:=@PySem.wpAny_seqItems
def aei:=@PySem.W.mg_none_of
def aej:=@beq_eq_false_iff_ne
def aek:=@PyProof.Rows.wpS_bind
def ael:=@Int.toNat_natCast
def aem:=@PySem.boot_len
def aen:=@List.take_succ
def aeo:=@Nat.pow_le_pow_right
def aep:=@PySem.wpAny_field
def aeq:=@PyProof.Rows.boot_isinstance
def aer:=@Sum.inr.inj
def aes:=@PySem.F.slot_dict_get
def aet:=@List.mem_of_mem_take
def aeu:=@PyProof.Rows.boot_list
def aev:=@Nat.not_lt_zero
def aew:=@List.take_append_drop
def aex:=@List.nodup_nil
def aey:=@Nat.lt_irrefl
def aez:=@PyProof.Rows.callWith_type1
def aeA:=@PySem.wpAny_callSpecial?_slot
def aeB:=@PySem.wpAny_setField_rec
def aeC:=@List.map_map
def aeD:=@List.getElem?_append_right
def aeE:=@List.find?_cons_of_pos
def aeF:=@PySem.sizeLine_eq
def aeG:=@PySem.Heap.SameBut.update
def aeH:=@PySem.wpAny_holding
def aeI:=@List.getElem?_append_left
def aeJ:=@List.drop_eq_getElem_cons
def aeK:=@Option.map_some
def aeL:=@Nat.lt_of_le_of_lt
def aeM:=@List.length_drop
def aeN:=@PySem.wpAny_call_entry
def aeO:=@List.all_eq_true
def aeP:=@Nat.succ_le_succ
def aeQ:=@PySem.W.mg_of
def aeR:=@PyProof.Rows.wpS_pure
def aeS:=@List.map_nil
def aeT:=@List.map_congr_left
def aeU:=@PySem.F.entry_dict_get
def aeV:=@PySem.Calls.callWith_builtin
def aeW:=@List.find?_cons_of_neg
def aeX:=@PySem.F.slot_tuple_iterator_next
def aeY:=@PySem.wpAny_mono
def aeZ:=@PySem.tupleKind_room_in1
def ae0:=@Bool.false_eq_true
def ae1:=@List.mem_of_find?_eq_some
def ae2:=@List.mem_filter
def ae3:=@PySem.wpAny_passesOwn
def ae4:=@PySem.F.slot_list_getattribute
def ae5:=@Nat.le_of_lt
def ae7:=@Nat.ne_of_gt
def ae8:=@Array.length_toList
def ae9:=@PySem.mem_of_lookup
def afa:=@PySem.F.plainAttrs_dict
def afb:=@List.length_eq_zero_iff
def afc:=@List.cons_append
def afd:=@List.lookup_cons
def afe:=@List.any_eq_true
def aff:=@PySem.Heap.size_push
def afg:=@PySem.F.plainAttrs_str
def afh:=@PyProof.Rows.boot_bool
def afi:=@PySem.Calls.spliced_cons
def afj:=@Int.emod_lt_of_pos
def afk:=@List.append_nil
def afl:=@List.find?_cons
def afm:=@List.length_nil
def afn:=@List.forIn_cons
def afo:=@List.nil_append
def afp:=@PySem.F.slot_zip_next
def afq:=@PyProof.Rows.wpS_forRange
def afr:=@Nat.pow_succ
def afs:=@List.any_cons
def aft:=@List.map_take
def afu:=@PySem.Calls.evalArgs_plain
def afv:=@PySem.wpAny_updateSeq_pair
def afw:=@PySem.W.kia_one
def afx:=@List.getElem_map
def afy:=@PySem.Heap.size_update
def afz:=@Nat.mul_le_mul_left
def afA:=@beq_iff_eq
def afB:=@PySem.F.args_tuple_add_2
def afC:=@PyProof.Rows.assignInOrder_cons
def afD:=@PySem.wpAny_Call_Name_kw
def afE:=@PySem.F.args_dict_get_2
def afF:=@PySem.F.entry_tuple_add
def afG:=@Nat.min_eq_left
def afH:=@Int.emod_nonneg
def afI:=@List.foldl_cons
def afJ:=@List.length_zip
def afK:=@List.cons.inj
def afL:=@List.getElem?_drop
def afM:=@List.find?_eq_none
def afN:=@PyProof.Rows.boot_tuple
def afO:=@Option.map_eq_some_iff
def afP:=@PySem.F.slot_tuple_add
def afQ:=@Sum.inl.inj
def afR:=@PySem.wpAny_truthy_bool
def afS:=@PySem.Calls.spliced_nil
def afT:=@PySem.typeIs_str
def afU:=@PySem.call_meets
def afV:=@PySem.wpAny_rule
def afW:=@PySem.wpAny_newObj_type
def afX:=@Nat.lt_succ_of_lt
def afY:=@List.length_range
def afZ:=@List.pairwise_map
def af0:=@List.Pairwise.imp
def af1:=@if_false
def af2:=@List.forIn_nil
def af3:=@PySem.call_meetsIn
def af4:=@PySem.F.type_dict_get
def af5:=@Array.getElem?_toList
def af6:=@not_or
def af7:=@Nat.lt_succ_self
def af8:=@PySem.Around.in1_units
def af9:=@PySem.F.args_tuple_iterator_next_1
def aga:=@PySem.wpAny_onRaise
def agb:=@List.filterMap_cons
def agc:=@PySem.wpAny_execs_nil
def agd:=@List.of_mem_zip
def age:=@if_true
def agf:=@ne_true_of_eq_false
def agg:=@PySem.F.entry_tuple_iterator_next
def agh:=@PyProof.Rows.get?_update_seq
def agi:=@PySem.F.slot_str_startswith
def agj:=@PySem.F.type_str_startswith
def agk:=@PySem.Calls.Name_function_global
def agl:=@Int.fdiv_eq_ediv_of_nonneg
def agm:=@Nat.mod_two_eq_zero_or_one
def agn:=@PySem.F.args_str_split_2
def ago:=@Option.toList_some
def agp:=@decide_eq_true_iff
def agq:=@Int.lt_of_le_of_lt
def agr:=@Classical.byContradiction
def ags:=@PySem.wpAny_newTuple
def agt:=@PySem.Calls.call_function_entry
def agu:=@List.mem_take_iff_getElem
def agv:=@PySem.wpAny_pyIter_list
def agw:=@Option.isSome_iff_exists
def agx:=@List.getElem?_take_of_lt
def agy:=@Option.isSome_map
def agz:=@PySem.wpAny_Call_method
def agA:=@PySem.F.entry_str_split
def agB:=@List.length_erase_of_mem
def agC:=@PySem.F.args_zip_next_1
def agD:=@PySem.F.slot_dict_update
def agE:=@List.foldl_append
def agF:=@List.getElem?_inj
def agG:=@PySem.Paired.length
def agH:=@PySem.wpAny_standAt
def agI:=@Nat.le_succ
def agJ:=@PySem.Paired.snoc
def agK:=@PySem.F.args_dict_get_3
def agL:=@PySem.wpAny_letGo
def agM:=@PySem.wpAny_getItem_str_slice
def agN:=@List.map_drop
def agO:=@PySem.wpAny_attempt
def agP:=@PyProof.Rows.wpS_mono
def agQ:=@PyProof.Rows.listUpdate_at
def agR:=@PySem.wpAny_newList
def agS:=@Nat.add_assoc
def agT:=@Prod.mk.inj
def agU:=@List.mem_singleton_self
def agV:=@List.getElem_inj
def agW:=@PySem.wpAny_Dict_empty
def agX:=@PySem.noFill_tuple_add
def agY:=@Option.getD_none
def agZ:=@beq_self_eq_true
def ag0:=@Nat.le_of_not_lt
def ag1:=@PySem.F.slot_str_split
def ag2:=@PySem.F.entry_zip_next
def ag3:=@List.zipIdx_cons
def ag4:=@List.getElem?_set_self
def ag5:=@List.length_pos_of_mem
def ag6:=@Nat.lt_of_succ_lt_succ
def ag7:=@Nat.le_of_eq
def ag8:=@PySem.codeAny_mono
def ag9:=@Nat.lt_trans
def aha:=@PySem.wpAny_specialOf
def ahb:=@PySem.SeqAt.in_listAt
def ahc:=@PySem.wpAny_typeOf
def ahd:=@List.zipIdx_nil
def ahe:=@PyProof.Rows.boot_int
def ahf:=@Nat.zero_add
def ahg:=@List.cons.injEq
def ahh:=@PyProof.Rows.boot_min
def ahi:=@List.getElem?_reverse
def ahj:=@List.getElem?_toArray
def ahk:=@List.getElem?_set_ne
def ahl:=@Array.mem_toList_iff
def ahm:=@List.length_dropLast
def ahn:=@List.mem_erase_of_ne
def aho:=@List.mem_of_mem_drop
def ahp:=@List.getElem?_of_mem
def ahq:=@List.dropLast_subset
def ahr:=@List.mem_range
def ahs:=@PySem.wpAny_listPart
def aht:=@PySem.wpAny_bindName
def ahu:=@Array.size_map
def ahv:=@Nat.add_le_add_left
def ahw:=@List.filter_eq_self
def ahx:=@List.getElem_of_mem
def ahy:=@PyProof.Rows.wpS_get
def ahz:=@Array.append_assoc
def ahA:=@List.mem_filterMap
def ahB:=@PySem.W.plainGet_of
def ahC:=@PySem.seq_tuple_add
def ahD:=@List.all_cons
def ahE:=@Prod.ext
def ahF:=@List.set_comm
def ahG:=@Bool.and_true
def ahH:=@Array.forIn_toList
def ahI:=@Nat.and_one_is_mod
def ahJ:=@List.flatten_cons
def ahK:=@not_false_eq_true
def ahL:=@bne_self_eq_false
def ahM:=@List.flatMap_cons
def ahN:=@List.find?_append
def ahO:=@Int.le_trans
def ahP:=@and_true
namespace L2
open PySem PySem.Spec PyProof.Rows
abbrev Key:=Sum Int Str
def jj:Key->Value->Bool
 | .inl k,v=>Value.isInt k v
 | .inr x,v=>Value.isStrOf x v
def YY(w:World):Key->Int
 | .inl k=>hashInt k
 | .inr x=>hashStr w x
theorem d4:∀{k:Key}{v:Value},jj k v=true->(∃i t,k=Sum.inl i/\v=Value.int i t)\/(∃x t,k=Sum.inr x/\v=Value.str x t)
 | .inl i,v,h=>by
  obtain⟨t,e⟩:=Value.isInt_shape (k:=i) (v:=v) h
  exact .inl ⟨i,t,rfl,e⟩
 | .inr x,v,h=>by
  obtain⟨t,e⟩:=Value.isStrOf_shape (x:=x) (v:=v) h
  exact .inr ⟨x,t,rfl,e⟩
theorem E2(i:Int)(t:Tok):jj (.inl i) (.int i t)=true:=by simp[jj,Value.isInt]
theorem E3(x:Str)(t:Tok):jj (.inr x) (.str x t)=true:=by simp[jj,Value.isStrOf]
theorem Nx(a b:Int):decide ((Sum.inl a:Key)=Sum.inl b)=(a == b):=by
 by_cases e:a=b
 . subst e;simp
 . have h:¬ (Sum.inl a:Key)=Sum.inl b:=λq=>e (afQ q)
   rw[adS h]
   exact(aej.mpr e).symm
theorem Ny(a b:Str):decide ((Sum.inr a:Key)=Sum.inr b)=decide (a=b):=by
 by_cases e:a=b
 . subst e;simp
 . have h:¬ (Sum.inr a:Key)=Sum.inr b:=λq=>e (aer q)
   rw[adS h,adS e]
theorem Nz(a:Int)(b:Str):decide ((Sum.inl a:Key)=Sum.inr b)=false:=adS (λq=>nomatch q)
theorem NA(a:Str)(b:Int):decide ((Sum.inr a:Key)=Sum.inl b)=false:=adS (λq=>nomatch q)
def bt(prog:Program)(w:World):PySem.KeyKind prog w Key where
 is:=jj
 hash:=YY w
 inj:=λv a b ha hb=>by
  rcases d4 ha with⟨i,t,rfl,rfl⟩|⟨x,t,rfl,rfl⟩
  . rcases d4 hb with⟨j,u,rfl,e⟩|⟨y,u,rfl,e⟩
    . injection e with e1 _;rw[e1]
    . exact nomatch e
  . rcases d4 hb with⟨j,u,rfl,e⟩|⟨y,u,rfl,e⟩
    . exact nomatch e
    . injection e with e1 _;rw[e1]
 byValue:=λk v h=>by
  rcases d4 h with⟨i,t,rfl,rfl⟩|⟨x,t,rfl,rfl⟩ <;> rfl
 pyHash:=λhv h=>by
  rcases d4 hv with⟨i,t,rfl,rfl⟩|⟨x,t,rfl,rfl⟩
  . exact wpAny_pyHash_int h
  . exact wpAny_pyHash_str h
 eqBool:=λhu hv h=>by
  rcases d4 hu with⟨i,t,rfl,rfl⟩|⟨x,t,rfl,rfl⟩
  . rcases d4 hv with⟨j,u,rfl,rfl⟩|⟨y,u,rfl,rfl⟩
    . rw[Nx]at h;exact wpAny_eqBool_int h
    . rw[Nz]at h;exact SeqAt.EqAt.int_str i t y u _ _ _ _ h
  . rcases d4 hv with⟨j,u,rfl,rfl⟩|⟨y,u,rfl,rfl⟩
    . rw[NA]at h;exact SeqAt.EqAt.str_int x t j u _ _ _ _ h
    . rw[Ny]at h;exact wpAny_eqBool_str h
 «strs»:=λk x t v h=>by
  rcases d4 h with⟨i,u,rfl,e⟩|⟨y,u,rfl,e⟩
  . exact nomatch e
  . injection e with e1 _
    subst e1
    cases v <;> rfl
theorem Dk(prog:Program)(w:World)(k:Key)(v:Value):(bt prog w).is k v=jj k v:=rfl
theorem Br(prog:Program)(w:World)(i:Int)(t:Tok):(bt prog w).is (.inl i) (.int i t)=true:=E2 i t
theorem Bs(prog:Program)(w:World)(x:Str)(t:Tok):(bt prog w).is (.inr x) (.str x t)=true:=E3 x t
inductive V where
 | aY|bl (b:Bool)|int (i:Int)|str (x:Str)|og (b:Array UInt8)|wG (b:UInt64)|ref (a:Addr)|ty (n:String)
 deriving DecidableEq
def RelV:V->Value->Prop
 | .aY,u=>u=Value.none
 | .bl b,u=>u=Value.bool b
 | .int i,u=>∃t,u=Value.int i t
 | .str x,u=>∃t,u=Value.str x t
 | .og b,u=>∃t,u=Value.bytes b t
 | .wG b,u=>∃t,u=Value.float b t
 | .ref a,u=>u=Value.ref a
 | .ty n,u=>u=Value.type n
abbrev Vals:List V->List Value->Prop:=Paired RelV
theorem Vals.length{xs:List V}{us:List Value}(r:Vals xs us):xs.length=us.length:=agG r
theorem Vals.get:∀{xs:List V}{us:List Value}{i:Nat}{x:V},Vals xs us->xs[i]?=some x->∃u,us[i]?=some u/\RelV x u
 | _,_,_,_,.nil,e=>by simp at e
 | _,_,0,_,.cons r _,e=>by simp at e;subst e;exact⟨_,rfl,r⟩
 | _,_,i+1,x,.cons _ t,e=>by
  obtain⟨u,h1,h2⟩:=Vals.get (i:=i) (x:=x) t (by simpa using e)
  exact⟨u,by simpa using h1,h2⟩
theorem Vals.set{x:V}{u:Value}(r:RelV x u):∀{xs:List V}{us:List Value}(i:Nat),Vals xs us->Vals (xs.set i x) (us.set i u)
 | _,_,_,.nil=>.nil
 | _,_,0,.cons _ t=>.cons r t
 | _,_,i+1,.cons q t=>.cons q (Vals.set r i t)
theorem Vals.append:∀{xs ys:List V}{us ws:List Value},Vals xs us->Vals ys ws->Vals (xs++ys) (us++ws)
 | _,_,_,_,.nil,s=>s
 | _,_,_,_,.cons r t,s=>.cons r (Vals.append t s)
theorem Vals.take:∀{xs:List V}{us:List Value}(n:Nat),Vals xs us->Vals (xs.take n) (us.take n)
 | _,_,0,_=>.nil
 | _,_,_+1,.nil=>.nil
 | _,_,n+1,.cons r t=>.cons r (Vals.take n t)
theorem Vals.drop:∀{xs:List V}{us:List Value}(n:Nat),Vals xs us->Vals (xs.drop n) (us.drop n)
 | _,_,0,r=>r
 | _,_,_+1,.nil=>.nil
 | _,_,n+1,.cons _ t=>Vals.drop n t
def gv:Option V->Option Value->Prop
 | some v,some u=>RelV v u
 | none,none=>True
 | _,_=>False
def KV{κ:Type} : List (κ×V)->List (κ×Value)->Prop:=Paired λ(p:κ×V) (q:κ×Value)=>p.1=q.1/\RelV p.2 q.2
def kV:Key->V
 | .inl i=>.int i
 | .inr x=>.str x
inductive HO where
 /-- a list -/
 | lst (xs:List V)
 /-- a tuple (never changes) -/
 | tup (xs:List V)
 /-- a dict whose keys are ints and texts;one whose keys are tuples of ints and texts (the empty one is both) -/
 | dK (kvs:List (Key×V))|dT (kvs:List (List Key×V))
 /-- a set of ints: its members,its size -/
 | set (S:Int->Bool) (n:Nat)
 /-- an instance of the class at C,its dict at dx,its attributes -/
 | ins (C dx:Addr) (fs:List (Str×V))
 /-- the dict of the instance at x -/
 | own (x:Addr)
 /-- the dict of an exception -/
 | xd (fs:List (Str×V))
 /-- a bound method,f of x -/
 | met (f x:Addr)
 /-- a range object lo,lo+1,.. below hi -/
 | NB (lo hi:Int)
 /-- a thing that is known to the object (the script;a dict while a loop walks it): read,never written while it is so -/
 | gh (o:Obj) (u:HO)
 /-- a code object's table -/
 | yq (ps:Array Value)
 /-- any other thing,by what is true of its one object (a def of one's own: SetO a S n:=HO.ext λh=>..) -/
 | ext (φ:Heap->Prop)
abbrev Hp:=Addr->Option HO
def upd(H:Hp)(a:Addr)(o:HO):Hp:=λb=>if b=a then some o else H b
theorem af{H:Hp}{a:Addr}{o:HO} : upd H a o a=some o:=by unfold upd;rw[adM rfl]
theorem ah{H:Hp}{a b:Addr}{o:HO}(h:b≠a):upd H a o b=H b:=by unfold upd;rw[adw h]
theorem gd{H:Hp}{a:Addr}{o u:HO} : upd (upd H a o) a u=upd H a u:=by
 funext b;unfold upd;split <;> rfl
theorem aL{H:Hp}{a b:Addr}{o u:HO}(h:H a=some o)(h':H b=some u)(d:o≠u):a≠b:=by
 intro e;subst e;rw[h]at h';exact d (adN h')
theorem ae{H:Hp}{a b:Addr}{o:HO}(h:H a=some o)(h':H b=none):a≠b:=by
 intro e;subst e;rw[h]at h';cases h'
section
variable (P:Program) (w:World)
def bJ(H:Hp)(h:Heap)(a:Addr):HO->Prop
 | .lst xs=>xs.length<=sizeLine/\∃(its:List Value) (n:Nat),Vals xs its/\h.get? a=some {cls:=.type "list",data:=.seq its.toArray n}
 | .tup xs=>xs.length<=sizeLine/\∃its:List Value,Vals xs its/\IsTup h a its.toArray
 | .dK kvs=>kvs.length<=sizeLine/\(a == sysModules)=false/\∃vs,KV kvs vs/\h.DictOf (bt P w) a vs
 | .dT kvs=>kvs.length<=sizeLine/\(a == sysModules)=false/\∃xs:List (List Key×Addr×Value),
  Paired (λ(p:List Key×V) (q:List Key×Addr×Value)=>p.1=q.1/\H q.2.1=some (.tup (p.1.map kV))/\RelV p.2 q.2.2) kvs xs/\
  ∃o es ep,h.get? a=some o/\o.ExactDict/\o.data=.dict es ep/\es.toList=xs.map (entryOfKey (tupleKind (bt P w)))/\(xs.map (·.1)).Nodup
 | .set S n=>h.SetOf (intKind P w) a S n
 | .ins C dx fs=>H dx=some (.own a)/\fs.length<=1000/\dx≠a/\h.get? a=some (W.instObj C dx)/\
  ∃mA,h.Ns1 dx mA/\(∀f,gv (fs.lookup f) (mA f))/\PySem.Within mA (fs.map (·.1))
 | .own _=>∃o,h.get? a=some o
 | .xd fs=>∃mA,h.Ns1 a mA/\∀f,gv (fs.lookup f) (mA f)
 | .NB lo hi=>∃t u v,h.get? a=some {cls:=.type "range",data:=.fields #[.int lo t,.int hi u,.int 1 v] }
 | .gh o u=>h.get? a=some o/\bJ H h a u
 | .yq ps=>h.get? a=some {cls:=.none,data:=.fields ps}
 | .met f x=>h.get? a=some (W.methodObj (.ref f) (.ref x))
 | .ext φ=>φ h/\(∃o,h.get? a=some o)/\∀h1 h2:Heap,φ h1->(∀o,h1.get? a=some o->h2.get? a=some o)->φ h2
def eC(H:Hp)(h:Heap):Prop:=∀a o,H a=some o->bJ P w H h a o
end
section
variable {P:Program}{w:World}{H H':Hp}{h h':Heap}{a:Addr}{o:HO}
theorem bJ.lt(x:bJ P w H h a o):a<h.objs.size:=by
 cases o with
 | lst xs=>obtain⟨_,_,_,_,e⟩:=x;exact adH e
 | tup xs=>obtain⟨_,_,_,p⟩:=x;exact p.lt
 | dK kvs=>obtain⟨_,_,_,_,o,_,_,e,_⟩:=x;exact adH e
 | dT kvs=>obtain⟨_,_,_,_,o,_,_,e,_⟩:=x;exact adH e
 | set S n=>obtain⟨o,_,_,_,e,_⟩:=x;exact adH e
 | ins C dx fs=>obtain⟨_,_,_,e,_⟩:=x;exact adH e
 | own y=>obtain⟨_,e⟩:=x;exact adH e
 | xd fs=>obtain⟨_,⟨_,_,_,e,_⟩,_⟩:=x;exact adH e
 | NB lo hi=>obtain⟨_,_,_,e⟩:=x;exact adH e
 | gh ob u=>obtain⟨e,_⟩:=x;exact adH e
 | yq ps=>exact adH (show h.get? a=some _ from x)
 | met f y=>exact adH (show h.get? a=some _ from x)
 | ext φ=>obtain⟨_,⟨_,e⟩,_⟩:=x;exact adH e
theorem Paired.cM{α β:Type}{F G:α->β->Prop} : ∀{l₁:List α}{l₂:List β},Paired F l₁ l₂->(∀a b,F a b->G a b)->Paired G l₁ l₂
 | _,_,.nil,_=>.nil
 | _,_,.cons r t,f=>.cons (f _ _ r) (Paired.cM t f)
theorem bJ.iJ(x:bJ P w H h a o) (k:∀b u,(b=a\/H b=some (.own a))->h.get? b=some u->h'.get? b=some u)
 (ho:∀b,H b=some (.own a)->H' b=some (.own a)) (ht:∀b xs,H b=some (.tup xs)->H' b=some (.tup xs)):bJ P w H' h' a o:=by
 induction o with
 | lst xs=>obtain⟨z,its,n,r,e⟩:=x;exact⟨z,its,n,r,k _ _ (.inl rfl) e⟩
 | tup xs=>obtain⟨z,its,r,ob,e,c⟩:=x;exact⟨z,its,r,ob,k _ _ (.inl rfl) e,c⟩
 | dK kvs=>obtain⟨z,y,vs,r,ob,es,ep,e,c⟩:=x;exact⟨z,y,vs,r,ob,es,ep,k _ _ (.inl rfl) e,c⟩
 | dT kvs=>
  obtain⟨z,y,xs,r,ob,es,ep,e,c⟩:=x
  exact⟨z,y,xs,Paired.cM r λp q z=>⟨z.1,ht _ _ z.2.1,z.2.2⟩,ob,es,ep,k _ _ (.inl rfl) e,c⟩
 | set S n=>obtain⟨ob,es,ep,t,e,c⟩:=x;exact⟨ob,es,ep,t,k _ _ (.inl rfl) e,c⟩
 | ins C dx fs=>
  obtain⟨d,z,ne,e,mA,⟨od,es,ep,e2,c⟩,r⟩:=x
  exact⟨ho _ d,z,ne,k _ _ (.inl rfl) e,mA,⟨od,es,ep,k _ _ (.inr d) e2,c⟩,r⟩
 | own y=>obtain⟨ob,e⟩:=x;exact⟨ob,k _ _ (.inl rfl) e⟩
 | xd fs=>obtain⟨mA,⟨od,es,ep,e,c⟩,r⟩:=x;exact⟨mA,⟨od,es,ep,k _ _ (.inl rfl) e,c⟩,r⟩
 | NB lo hi=>obtain⟨t,u,v,e⟩:=x;exact⟨t,u,v,k _ _ (.inl rfl) e⟩
 | gh ob u ih=>obtain⟨e,q⟩:=x;exact⟨k _ _ (.inl rfl) e,ih q⟩
 | yq ps=>
  have e:h.get? a=some {cls:=.none,data:=.fields ps}:=x
  show h'.get? a=some {cls:=.none,data:=.fields ps}
  exact k a _ (.inl rfl) e
 | met f y=>
  have e:h.get? a=some (W.methodObj (.ref f) (.ref y)):=x
  show h'.get? a=some (W.methodObj (.ref f) (.ref y))
  exact k a _ (.inl rfl) e
 | ext φ=>obtain⟨p,⟨o,e⟩,st⟩:=x;exact⟨st _ _ p λo q=>k _ _ (.inl rfl) q,⟨o,k _ _ (.inl rfl) e⟩,st⟩
theorem eC.lt(x:eC P w H h)(e:H a=some o):a<h.objs.size:=(x a o e).lt
theorem eC.fresh(x:eC P w H h)(e:h.objs.size<=a):H a=none:=by
 cases q:H a with
 | none=>rfl
 | some u=>exact absurd (adY (x.lt q) e) (aey _)
theorem eC.kept(x:eC P w H h)(k:∀b u,h.get? b=some u->h'.get? b=some u):eC P w H h':=λa o e=>
 (x a o e).iJ (λb u _ q=>k b u q) (λ_ q=>q) λ_ _ q=>q
theorem eC.laid(x:eC P w H h)(k:∀b u,h.get? b=some u->h'.get? b=some u)(hp:h.objs.size<=a) (new:bJ P w (upd H a o) h' a o):eC P w (upd H a o) h':=λb u e=>by
 have hn:=x.fresh hp
 by_cases hb:b=a
 . subst hb;rw[af]at e;cases e;exact new
 . rw[ah hb]at e
   exact(x b u e).iJ (λc v _ q=>k c v q) (λc q=>by rw[ah (ae q hn)];exact q) λc xs q=>by rw[ah (ae q hn)];exact q
end
def Rd(H:Hp)(a:Addr)(u:HO):Prop:=H a=some u\/∃o,H a=some (.gh o u)
theorem Rd.of{H:Hp}{a:Addr}{u:HO}(h:H a=some u):Rd H a u:=.inl h
theorem Rd.ok{P:Program}{w:World}{H:Hp}{h:Heap}{a:Addr}{u:HO}(r:Rd H a u)(x:eC P w H h):bJ P w H h a u:=by
 rcases r with r|⟨o,r⟩
 . exact x a u r
 . obtain⟨_,q⟩:=x a _ r
   exact q
def E4:Option HO->Prop
 | some (.lst _)=>True
 | some (.dK _)=>True
 | some (.dT _)=>True
 | some (.set _ _)=>True
 | some (.ins _ _ _)=>True
 | some (.ext _)=>True
 | _=>False
section
variable {P:Program}{w:World}{H:Hp}{h h':Heap}{x e:Addr}{o':HO}
theorem eC.write(ok:eC P w H h) (mu:E4 (H x)) (he:e=x\/H e=some (.own x)) (k:∀b u,b≠e->h.get? b=some u->h'.get? b=some u) (BF:∃u,h'.get? e=some u)
 (new:bJ P w (upd H x o') h' x o'):eC P w (upd H x o') h':=λb u q=>by
 have Dl:∀c y,H c=some (.own y)->c≠x:=λc y r z=>by subst z;rw[r]at mu;exact mu
 have YZ:∀c xs,H c=some (.tup xs)->c≠x:=λc xs r z=>by subst z;rw[r]at mu;exact mu
 by_cases hb:b=x
 . subst hb;rw[af]at q;cases q;exact new
 . rw[ah hb]at q
   by_cases lD:b=e
   . have q':H b=some (.own x):=by
      rcases he with z|z
      . exact absurd (lD.trans z) hb
      . rw[lD];exact z
     rw[q]at q';cases q'
     obtain⟨v,hv⟩:=BF
     exact⟨v,by rw[lD];exact hv⟩
   . refine(ok b u q).iJ (λc v hc r=>k c v ?_ r) (λc r=>by rw[ah (Dl c b r)];exact r) λc xs r=>by rw[ah (YZ c xs r)];exact r
     rcases hc with rfl|hc
     . exact lD
     . rintro rfl
       rcases he with z|z
       . exact Dl c b hc z
       . rw[hc]at z;cases z;exact hb rfl
end
structure Un(fs ex:List Addr) (H H':Hp) (h h':Heap):Prop where
 keep:∀b o,h.get? b=some o->H b=none->b∉fs->b∉ex->h'.get? b=some o
 slot:∀b o,h.get? b=some o->H b=none->b∈fs->b∉ex->∃sl,h'.get? b=some {o with slots:=sl}
 free:∀b o,h.get? b=some o->H b=none->b∉ex->H' b=none
 there:∀b o,h.get? b=some o->b∉ex->∃o',h'.get? b=some o'
 hU:∀b xs,H b=some (.tup xs)->H' b=some (.tup xs)
 frzs:∀b o u,H b=some (.gh o u)->H' b=some (.gh o u)
 tbls:∀b ps,H b=some (.yq ps)->∃more,H' b=some (.yq (ps++more))
section
variable {fs fs' ex ex':List Addr}{H H1 H2:Hp}{h h1 h2 h':Heap}{a x e:Addr}{o:HO}
theorem Un.any(u:Un fs ex H H1 h h1){b:Addr}{ob:Obj}(q:h.get? b=some ob)(n:H b=none)(hx:b∉ex):∃sl,h1.get? b=some {ob with slots:=sl}:=by
 by_cases hb:b∈fs
 . exact u.slot b ob q n hb hx
 . exact⟨ob.slots,u.keep b ob q n hb hx⟩
theorem Un.trans(a:Un fs ex H H1 h h1)(b:Un fs ex H1 H2 h1 h2):Un fs ex H H2 h h2 where
 keep:=λc ob q n hc hx=>b.keep c ob (a.keep c ob q n hc hx) (a.free c ob q n hx) hc hx
 slot:=λc ob q n hc hx=>by
  obtain⟨sl,e1⟩:=a.slot c ob q n hc hx
  obtain⟨NC,e2⟩:=b.slot c _ e1 (a.free c ob q n hx) hc hx
  exact⟨NC,e2⟩
 free:=λc ob q n hx=>by
  obtain⟨o',e1⟩:=a.there c ob q hx
  exact b.free c o' e1 (a.free c ob q n hx) hx
 there:=λc ob q hx=>by
  obtain⟨o',e1⟩:=a.there c ob q hx
  exact b.there c o' e1 hx
 hU:=λc xs q=>b.hU c xs (a.hU c xs q)
 frzs:=λc ob xs q=>b.frzs c ob xs (a.frzs c ob xs q)
 tbls:=λc ps q=>by
  obtain⟨m1,e1⟩:=a.tbls c ps q
  obtain⟨m2,e2⟩:=b.tbls c _ e1
  exact⟨m1++m2,by rw[e2,ahz]⟩
theorem Un.kept(k:∀b u,h.get? b=some u->h'.get? b=some u):Un fs ex H H h h':=
 ⟨λb ob q _ _ _=>k b ob q,λb ob q _ _ _=>⟨ob.slots,k b ob q⟩,λ_ _ _ n _=>n,λb ob q _=>⟨ob,k b ob q⟩,λ_ _ q=>q,λ_ _ _ q=>q,λ_ ps q=>⟨#[],by rw[q];simp⟩⟩
theorem Un.refl:Un fs ex H H h h:=Un.kept λ_ _ q=>q
theorem Un.laid(k:∀b u,h.get? b=some u->h'.get? b=some u)(hp:h.objs.size<=a)(hn:H a=none):Un fs ex H (upd H a o) h h' where
 keep:=λb u q _ _ _=>k b u q
 slot:=λb u q _ _ _=>⟨u.slots,k b u q⟩
 free:=λb u q n _=>by rw[ah (adR (adY (adH q) hp))];exact n
 there:=λb u q _=>⟨u,k b u q⟩
 hU:=λb xs q=>by rw[ah (ae q hn)];exact q
 frzs:=λb u xs q=>by rw[ah (ae q hn)];exact q
 tbls:=λb ps q=>⟨#[],by rw[ah (ae q hn),q];simp⟩
theorem Un.write(mu:E4 (H x)) (he:e=x\/H e=some (.own x)) (k:∀b u,b≠e->h.get? b=some u->h'.get? b=some u) (BF:∃u,h'.get? e=some u):Un fs ex H (upd H x o) h h':=by
 have hx:∀b,H b=none->b≠x:=λb n z=>by subst z;rw[n]at mu;exact mu
 have hb:∀b,H b=none->b≠e:=λb n z=>by
  subst z
  rcases he with r|r
  . exact hx b n r
  . rw[n]at r;cases r
 have hm:∀b u,H b=some u->¬ E4 (some u)->b≠x:=λb u q nm z=>by subst z;rw[q]at mu;exact nm mu
 refine⟨λb u q n _ _=>k b u (hb b n) q,λb u q n _ _=>⟨u.slots,k b u (hb b n) q⟩,λb u q n _=>by rw[ah (hx b n)];exact n,λb u q _=>?_,
  λb xs q=>by rw[ah (hm b _ q λz=>z)];exact q,λb u xs q=>by rw[ah (hm b _ q λz=>z)];exact q,λb ps q=>⟨#[],by rw[ah (hm b _ q λz=>z),q];simp⟩⟩
 by_cases lD:b=e
 . subst lD;exact BF
 . exact⟨u,k b u lD q⟩
end
def JU(h:Heap)(H:Hp):List Addr:=(List.range h.objs.size).filter λa=>(H a).isSome
def oY(h:Heap)(H:Hp):Heap:=W.hideAll h (JU h H)
theorem E5(h:Heap)(H:Hp):(oY h H).objs.size=h.objs.size:=W.hideAll_size _ _
theorem HW{h:Heap}{H:Hp}{b:Addr}{o:Obj}(e:h.get? b=some o)(n:H b=none):(oY h H).get? b=some o:=
 W.hideAll_get _ e λhm=>by
  have q:(H b).isSome=true:=(ae2.mp hm).2
  rw[n]at q;simp at q
theorem Mg{h:Heap}{H:Hp}{b:Addr}{o:Obj}(e:(oY h H).get? b=some o):h.get? b=some o/\H b=none:=by
 have e':h.get? b=some o:=W.of_hideAll (JU h H) e
 refine⟨e',?_⟩
 cases q:H b with
 | none=>rfl
 | some x=>
  have hm:b∈JU h H:=ae2.mpr ⟨ahr.mpr (adH e'),by simp[q]⟩
  have z:(oY h H).get? b=none:=W.hideAll_none (JU h H) hm
  rw[z]at e;cases e
def Mh(g h:Heap)(L:Addr):List (Addr×Obj):=(List.range h.objs.size).filterMap λa=>if a=L\/(g.get? a).isSome=true then none else (h.get? a).map λo=>(a,o)
def rest(g h:Heap)(L d:Addr):List (Addr×Obj):=(Mh g h L).filter λp=>decide (p.1≠d)
structure Mod(K:W.Frag) (mg:Str->Option Value) (base:Heap):Prop where
 kin:K.In base
 glob:base.Ns mainGlobals mg
 blt:∃mb,base.Ns builtinsNs mb/\∀x:Str,x ≠ "__name__" -> mb x=bootBuiltins x
 nolimit:base.NoLimit
structure Cx where
 prog:Program
 w:World
 K:W.Frag
 mg:Str->Option Value
 base:Heap
 A:Around
 N:List Str
 ly:Shared
 NF:Hp
 env:Env
 outer:List Env
 stack:List Env
 ex:List Addr
 fn:Str->Bool
 calm:Bool
 pn:List (Addr×Obj)
 xe:Value->Shared->Prop
def pW(l:List Env):List Addr:=l.filterMap (·.frame)
abbrev Cx.fs(X:Cx):List Addr:=pW X.outer
def NG(sc:Scope)(x:Str):Prop:=sc.names.lookup x=some .local\/sc.names.lookup x=some .cell\/sc.names.lookup x=some .free
def Loc(sc:Scope)(x:Str):Prop:=sc.names.lookup x=some .local\/sc.names.lookup x=some .cell
def Look(env:Env)(h:Heap)(m:Str->Option Value)(x:Str)(u:Value):Prop:=
 (env.kindOf x=some .local/\m x=some u)\/((env.kindOf x=some .cell\/env.kindOf x=some .free)/\∃c,env.cells.lookup x=some c/\h.IsCell c (some u))
structure Cx.Ok(X:Cx):Prop where
 mod:Mod X.K X.mg X.base
 kind:X.env.scope.kind=.function
 glob:X.env.globals=mainGlobals
 blt:X.env.builtins=builtinsNs
 above:X.ly.heap.objs.size<=X.env.locals
 inj:∀x y c,X.env.cells.lookup x=some c->X.env.cells.lookup y=some c->x=y
 has:∀x,(X.env.kindOf x=some .cell\/X.env.kindOf x=some .free)->∃c,X.env.cells.lookup x=some c
 cab:∀x c,X.fn x=true->X.env.cells.lookup x=some c->X.ly.heap.objs.size<=c
 hd:X.calm=true->X.A.handled=none
 frames:X.A.frames=some X.stack
 stk:X.stack=X.outer\/(X.stack=X.env::X.outer/\X.env.frame=some X.env.locals)
 exf:∀b∈X.ex,b≠X.env.locals/\∀x c,X.env.cells.lookup x=some c->c≠b
 bs:∀b o,X.base.get? b=some o->X.ly.heap.get? b=some o/\X.NF b=none
 bsz:X.base.objs.size<=X.ly.heap.objs.size
 noex:∀b o,X.base.get? b=some o->b∉X.ex
 exfs:∀b∈X.ex,b∉X.fs
 jP:X.ly.heap.FunFrames X.base X.outer
 frf:∀b∈X.fs,X.NF b=none
structure Inv(X:Cx) (pins:List (Addr×Obj)) (σ:List (Option V)) (H:Hp) (s:Shared):Prop where
 ok:X.Ok
 os:s.os=X.ly.os
 bare:AllBare s.gens
 base:Un X.fs X.ex X.NF H X.ly.heap s.heap
 loc:∃m,s.heap.Ns X.env.locals m/\∀(i:Nat) (x:Str) (v:V),X.N[i]?=some x->σ[i]?=some (some v)->NG X.env.scope x->∃u,RelV v u/\Look X.env s.heap m x u
 cell:∀x c,X.env.cells.lookup x=some c->∃v,s.heap.IsCell c v
 free:H X.env.locals=none
 freeC:∀x c,X.env.cells.lookup x=some c->H c=none
 pin:∀p∈X.pn++pins,s.heap.get? p.1=some p.2/\H p.1=none/\p.1≠X.env.locals/\p.1∉X.fs/\∀v,p.2.data≠.cell v
 hok:eC X.prog X.w H s.heap
 len:σ.length=X.N.length
section
variable {X:Cx}{pins:List (Addr×Obj)}{σ:List (Option V)}{H H':Hp}{s:Shared}{h':Heap}
theorem Cx.Ok.Y0(ok:X.Ok){b:Addr}{o:Obj}(e:X.base.get? b=some o):b∉X.fs:=λhb=>by
 have:=(ok.jP.mem hb).1
 rw[e]at this;cases this
theorem Inv.bs(I:Inv X pins σ H s):∀b o,X.base.get? b=some o->s.heap.get? b=some o/\H b=none:=λb o e=>
 ⟨I.base.keep b o (I.ok.bs b o e).1 (I.ok.bs b o e).2 (I.ok.Y0 e) (I.ok.noex b o e),I.base.free b o (I.ok.bs b o e).1 (I.ok.bs b o e).2 (I.ok.noex b o e)⟩
theorem Inv.bk(I:Inv X pins σ H s):∀b o,X.base.get? b=some o->s.heap.get? b=some o:=λb o e=>(I.bs b o e).1
theorem Inv.mod(I:Inv X pins σ H s):Mod X.K X.mg X.base:=I.ok.mod
theorem Inv.hZ(I:Inv X pins σ H s):X.K.In s.heap:=I.ok.mod.kin.keeps I.bk
theorem Inv.lt(I:Inv X pins σ H s):X.env.locals<s.heap.objs.size:=let ⟨_,hn,_⟩:=I.loc;hn.lt
theorem Inv.sz(I:Inv X pins σ H s):X.ly.heap.objs.size<=s.heap.objs.size:=ady I.ok.above (ae5 I.lt)
theorem Inv.Y1(I:Inv X pins σ H s){a:Addr}(h:s.heap.objs.size<=a):a∉X.fs:=λhb=>by
 obtain⟨_,o,ho,_⟩:=I.ok.jP.mem hb
 exact absurd (adY (adH ho) (ady I.sz h)) (aey _)
theorem Inv.yu(I:Inv X pins σ H s):∀x c,X.env.cells.lookup x=some c->c≠X.env.locals:=λx c e z=>by
 obtain⟨v,o,ho,hd⟩:=I.cell x c e
 obtain⟨m,⟨o',es,ep,lE,hd',_⟩,_⟩:=I.loc
 rw[z,lE]at ho;cases ho;rw[hd']at hd;cases hd
theorem Inv.jP(I:Inv X pins σ H s):s.heap.FunFrames X.base X.outer:=by
 have all:∀(l:List Env),(∀b∈pW l,b∈X.fs)->X.ly.heap.FunFrames X.base l->s.heap.FunFrames X.base l:=by
  intro l
  induction l with
  | nil=>intro _ _;trivial
  | cons env r ih=>
   intro hs hl
   obtain⟨hk,⟨L,o,hf,hn,ho,hd⟩,hr⟩:=hl
   have hL:L∈X.fs:=hs L (by unfold pW;rw[agb,hf];exact adB)
   obtain⟨sl,e⟩:=I.base.slot L o ho (I.ok.frf L hL) hL λz=>I.ok.exfs L z hL
   exact⟨hk,⟨L,_,hf,hn,e,hd⟩,ih (λb hb=>hs b (by unfold pW;rw[agb,hf];exact adx _ hb)) hr⟩
 exact all X.outer (λ_ hb=>hb) I.ok.jP
theorem Inv.stack(I:Inv X pins σ H s):s.heap.FunFrames X.base X.stack:=by
 rcases I.ok.stk with e|⟨e,hf⟩
 . rw[e];exact I.jP
 . rw[e]
   obtain⟨m,hn,_⟩:=I.loc
   refine .cons (by rw[I.ok.kind];decide) hf hn ?_ I.jP
   exact Heap.get?_none_of_le (ady I.ok.bsz I.ok.above)
theorem Inv.um(I:Inv X pins σ H s):∀b∈pW X.stack,b∈X.env.locals::X.fs:=λb hb=>by
 rcases I.ok.stk with e|⟨e,hf⟩
 . rw[e]at hb;exact adx _ hb
 . rw[e]at hb
   unfold pW at hb
   rw[agb,hf]at hb
   exact hb
theorem Inv.BG(I:Inv X pins σ H s):∀b∈pW X.stack,H b=none:=λb hb=>by
 rcases adq.mp (I.um b hb) with e|hb
 . rw[e];exact I.free
 . obtain⟨_,o,ho,_⟩:=I.ok.jP.mem hb
   exact I.base.free b o ho (I.ok.frf b hb) λz=>I.ok.exfs b z hb
theorem Inv.step{g':Array GenState}{t':Nat}{d':Drawn}{ch:List Addr}(I:Inv X pins σ H s)
 (sI:∀b∈ch,(b∈X.ex\/X.ly.heap.objs.size<=b)/\b≠X.env.locals/\(∀x c,X.env.cells.lookup x=some c->c≠b)/\∀p∈X.pn++pins,p.1≠b)
 (keep:∀b o,b≠X.env.locals->b∉X.fs->b∉ch->s.heap.get? b=some o->H b=none->h'.get? b=some o)
 (slot:∀b o,b≠X.env.locals->b∈X.fs->b∉ch->s.heap.get? b=some o->H b=none->∃sl,h'.get? b=some {o with slots:=sl}) (free:∀b o,b∉ch->s.heap.get? b=some o->H b=none->H' b=none)
 (there:∀b o,b∉ch->s.heap.get? b=some o->∃o',h'.get? b=some o')
 (hU:∀b xs,H b=some (.tup xs)->H' b=some (.tup xs)) (frzs:∀b o u,H b=some (.gh o u)->H' b=some (.gh o u)) (tbls:∀b ps,H b=some (.yq ps)->∃more,H' b=some (.yq (ps++more)))
 (ns:∀m,s.heap.Ns X.env.locals m->h'.Ns X.env.locals m) (hok:eC X.prog X.w H' h') (hg:AllBare g') :
 Inv X pins σ H' {s with heap:=h',gens:=g',drawn:=d',toks:=t'}:=by
 have Wv:∀b o,X.ly.heap.get? b=some o->b≠X.env.locals:=λb o e=>adR (adY (adH e) I.ok.above)
 have JV:∀b o,X.ly.heap.get? b=some o->b∉X.ex->b∉ch:=λb o e hx hb=>by
  rcases (sI b hb).1 with z|z
  . exact hx z
  . exact absurd (adY (adH e) z) (aey _)
 have cellK:∀x c,X.env.cells.lookup x=some c->∀v,s.heap.IsCell c v->h'.IsCell c v:=λx c e v ⟨o,ho,hd⟩=>by
  have E6:c∉ch:=λz=>(sI c z).2.2.1 x c e rfl
  by_cases hc:c∈X.fs
  . obtain⟨sl,q⟩:=slot c o (I.yu x c e) hc E6 ho (I.freeC x c e)
    exact⟨_,q,hd⟩
  . exact⟨o,keep c o (I.yu x c e) hc E6 ho (I.freeC x c e),hd⟩
 refine⟨I.ok,I.os,hg,⟨λb o e n hb hx=>?_,λb o e n hb hx=>?_,λb o e n hx=>?_,λb o e hx=>?_,λb xs e=>hU b xs (I.base.hU b xs e),λb o xs e=>frzs b o xs (I.base.frzs b o xs e),λb ps e=>?_⟩,?_,λx c e=>?_,?_,λx c e=>?_,λp hp=>?_,hok,I.len⟩
 . exact keep b o (Wv b o e) hb (JV b o e hx) (I.base.keep b o e n hb hx) (I.base.free b o e n hx)
 . obtain⟨sl,e1⟩:=I.base.slot b o e n hb hx
   obtain⟨NC,e2⟩:=slot b _ (Wv b o e) hb (JV b o e hx) e1 (I.base.free b o e n hx)
   exact⟨NC,e2⟩
 . obtain⟨o',e1⟩:=I.base.there b o e hx
   exact free b o' (JV b o e hx) e1 (I.base.free b o e n hx)
 . obtain⟨o',e1⟩:=I.base.there b o e hx
   exact there b o' (JV b o e hx) e1
 . obtain⟨m1,e1⟩:=I.base.tbls b ps e
   obtain⟨m2,e2⟩:=tbls b _ e1
   exact⟨m1++m2,by rw[e2,ahz]⟩
 . obtain⟨m,hn,hl⟩:=I.loc
   refine⟨m,ns m hn,λi x v e1 e2 e3=>?_⟩
   obtain⟨u,r,l⟩:=hl i x v e1 e2 e3
   refine⟨u,r,?_⟩
   rcases l with l|⟨k,c,e,z⟩
   . exact .inl l
   . exact .inr ⟨k,c,e,cellK x c e _ z⟩
 . obtain⟨v,z⟩:=I.cell x c e
   exact⟨v,cellK x c e v z⟩
 . obtain⟨m,⟨o,_,_,ho,_⟩,_⟩:=I.loc
   exact free _ o (λz=>(sI _ z).2.1 rfl) ho I.free
 . obtain⟨v,o,ho,hd⟩:=I.cell x c e
   exact free c o (λz=>(sI c z).2.2.1 x c e rfl) ho (I.freeC x c e)
 . obtain⟨e,n,ne,nf,d⟩:=I.pin p hp
   have E6:p.1∉ch:=λz=>(sI p.1 z).2.2.2 p hp rfl
   exact⟨keep p.1 p.2 ne nf E6 e n,free p.1 p.2 E6 e n,ne,nf,d⟩
theorem Inv.un{t':Nat}(I:Inv X pins σ H s)(u:Un X.fs [] H H' s.heap h')(hok:eC X.prog X.w H' h'):Inv X pins σ H' {s with heap:=h',toks:=t'}:=by
 obtain⟨m,⟨o,es,ep,ho,r⟩,_⟩:=id I.loc
 obtain⟨sl,hL⟩:=u.any ho I.free (by simp)
 exact I.step (g':=s.gens) (d':=s.drawn) (ch:=[]) (λ_ z=>nomatch z) (λb o _ hb _ e n=>u.keep b o e n hb (by simp)) (λb o _ hb _ e n=>u.slot b o e n hb (by simp)) (λb o _ e n=>u.free b o e n (by simp)) (λb o _ e=>u.there b o e (by simp)) u.hU u.frzs u.tbls (λm' hm=>by
  obtain⟨o',E7,E8,lE,r'⟩:=hm
  rw[ho]at lE;cases lE
  exact⟨_,E7,E8,hL,r'⟩) hok I.bare
theorem Inv.call{g':Array GenState}{t':Nat}{d':Drawn}{ch:List Addr}(I:Inv X pins σ H s) (u:Un (pW X.stack) ch H H' s.heap h') (hok:eC X.prog X.w H' h') (hg:AllBare g')
 (sI:∀b∈ch,(b∈X.ex\/X.ly.heap.objs.size<=b)/\b≠X.env.locals/\(∀x c,X.env.cells.lookup x=some c->c≠b)/\∀p∈X.pn++pins,p.1≠b) :
 Inv X pins σ H' {s with heap:=h',gens:=g',drawn:=d',toks:=t'}:=by
 obtain⟨m,⟨o,es,ep,ho,r⟩,_⟩:=id I.loc
 obtain⟨sl,hL⟩:=u.any ho I.free λz=>(sI _ z).2.1 rfl
 exact I.step (ch:=ch) sI (λb o hL hb hc e n=>u.keep b o e n (λz=>(adq.mp (I.um b z)).elim hL hb) hc) (λb o _ _ hc e n=>u.any e n hc) (λb o hc e n=>u.free b o e n hc) (λb o hc e=>u.there b o e hc) u.hU u.frzs u.tbls (λm' hm=>by
  obtain⟨o',E7,E8,lE,r'⟩:=hm
  rw[ho]at lE;cases lE
  exact⟨_,E7,E8,hL,r'⟩) hok hg
theorem Inv.turned{t':Nat}{it:Addr}(I:Inv X pins σ H s)(k:∀b o,b≠it->s.heap.get? b=some o->h'.get? b=some o)(hn:H it=none)(hL:it≠X.env.locals)
 (h1:it∈X.ex\/X.ly.heap.objs.size<=it) (h2:∀x c,X.env.cells.lookup x=some c->c≠it) (h3:∀p∈X.pn++pins,p.1≠it):Inv X pins σ H {s with heap:=h',toks:=t'}:=by
 have Ww:∀b u,H b=some u->b≠it:=λb u e z=>by rw[z,hn]at e;cases e
 refine I.step (g':=s.gens) (d':=s.drawn) (ch:=[it]) (λb hb=>?_) (λb o _ _ hc e _=>k b o (λz=>hc (by simp[z])) e) (λb o _ _ hc e _=>⟨o.slots,k b o (λz=>hc (by simp[z])) e⟩) (λ_ _ _ _ n=>n)
  (λb o hc e=>⟨o,k b o (λz=>hc (by simp[z])) e⟩) (λ_ _ e=>e) (λ_ _ _ e=>e) (λb ps e=>⟨#[],by rw[e];simp⟩) (λm hm=>?_) (λb u e=>?_) I.bare
 . have e:b=it:=by simpa using hb
   subst e
   exact⟨h1,hL,h2,h3⟩
 . obtain⟨o,es,ep,ho,r⟩:=hm
   exact⟨o,es,ep,k _ o (adG hL) ho,r⟩
 . refine(I.hok b u e).iJ (λc v hc q=>k c v ?_ q) (λ_ q=>q) λ_ _ q=>q
   rcases hc with z|z
   . rw[z];exact Ww b u e
   . exact Ww c _ z
theorem Inv.tok(I:Inv X pins σ H s)(t:Nat):Inv X pins σ H {s with toks:=t}:=I.un (h':=s.heap) (t':=t) Un.refl I.hok
theorem Inv.kept{t':Nat}(I:Inv X pins σ H s)(k:∀b u,s.heap.get? b=some u->h'.get? b=some u):Inv X pins σ H {s with heap:=h',toks:=t'}:=I.un (Un.kept k) (I.hok.kept k)
theorem Inv.laid{a:Addr}{o:HO}{t':Nat}(I:Inv X pins σ H s)(k:∀b u,s.heap.get? b=some u->h'.get? b=some u)(hp:s.heap.objs.size<=a) (new:bJ X.prog X.w (upd H a o) h' a o) :
 Inv X pins σ (upd H a o) {s with heap:=h',toks:=t'}:=I.un (Un.laid k hp (I.hok.fresh hp)) (I.hok.laid k hp new)
theorem Inv.write{x e:Addr}{o:HO}{t':Nat}(I:Inv X pins σ H s) (mu:E4 (H x)) (he:e=x\/H e=some (.own x)) (k:∀b u,b≠e->s.heap.get? b=some u->h'.get? b=some u) (BF:∃u,h'.get? e=some u)
 (new:bJ X.prog X.w (upd H x o) h' x o):Inv X pins σ (upd H x o) {s with heap:=h',toks:=t'}:=I.un (Un.write mu he k BF) (I.hok.write mu he k BF new)
theorem Inv.BH{JW:List (Addr×Obj)}(I:Inv X pins σ H s) (h:∀p∈JW,s.heap.get? p.1=some p.2/\H p.1=none/\p.1≠X.env.locals/\p.1∉X.fs/\∀v,p.2.data≠.cell v):Inv X JW σ H s:=
 ⟨I.ok,I.os,I.bare,I.base,I.loc,I.cell,I.free,I.freeC,λp hp=>(adu.mp hp).elim (λz=>I.pin p (adT _ z)) (h p),I.hok,I.len⟩
theorem yw{N:List Str}(hN:N.Nodup){i j:Nat}{x:Str}(a:N[i]?=some x)(b:N[j]?=some x):i=j:=by
 obtain⟨h1,e1⟩:=adt.mp a
 obtain⟨h2,e2⟩:=adt.mp b
 exact(agV hN).mp (e1.trans e2.symm)
theorem wH{M:Model}{A:Around}{E:Value->Shared->Prop}{i:Nat}{x:Str}{v:V}{u:Value}{Q:Unit->Shared->Prop}(I:Inv X pins σ H s)(hN:X.N.Nodup)(hi:X.N[i]?=some x)(hx:Loc X.env.scope x)(r:RelV v u)
 (h:∀s',Inv X pins (σ.set i (some v)) H s'->(∃a,Heap.SameBut a s.heap s'.heap/\(a=X.env.locals\/X.env.cells.lookup x=some a))->Q () s') (hf:X.fn x=true\/X.env.scope.names.lookup x=some .local:=by first|exact .inl rfl|exact .inr rfl|assumption):wpAny M A (storeName X.env x u) Q E s:=by
 obtain⟨m,hn,hl⟩:=id I.loc
 have Y2:(X.env.scope.kind == .class || (X.env.scope.kind == .module && X.env.locals != X.env.globals))=false:=by rw[I.ok.kind];rfl
 have hiσ:i < σ.length:=by rw[I.len];exact(adt.mp hi).1
 have yu:=I.yu
 have tracked:∀{a:Addr}{h':Heap},(∃o,s.heap.get? a=some o/\H a=none)->Heap.SameBut a s.heap h'->eC X.prog X.w H h':=λ{a h'} ha hs b ob e=>by
  obtain⟨_,_,JX⟩:=ha
  refine(I.hok b ob e).iJ (λc w' hc q=>(hs.2 c ?_).trans q) (λ_ q=>q) λ_ _ q=>q
  rintro rfl
  rcases hc with rfl|hc
  . rw[JX]at e;cases e
  . rw[JX]at hc;cases hc
 rcases hx with hk|hk
 . refine wpAny_storeName_local hk hn (λh' yx hs=>?_) Y2
   obtain⟨oL,_,_,yy,_⟩:=id hn
   refine h _ ⟨I.ok,I.os,I.bare,⟨λb o e n hb hx=>?_,λb o e n hb hx=>?_,I.base.free,λb o e hx=>?_,I.base.hU,I.base.frzs,I.base.tbls⟩,⟨_,yx,λj y v' e1 e2 e3=>?_⟩,λy c e=>?_,I.free,I.freeC,λp hp=>?_,tracked ⟨oL,yy,I.free⟩ hs,by simpa using I.len⟩ ⟨_,hs,.inl rfl⟩
   . exact(hs.2 b (adR (adY (adH e) I.ok.above))).trans (I.base.keep b o e n hb hx)
   . obtain⟨sl,e1⟩:=I.base.slot b o e n hb hx
     exact⟨sl,(hs.2 b (adR (adY (adH e) I.ok.above))).trans e1⟩
   . obtain⟨o',e1⟩:=I.base.there b o e hx
     exact⟨o',(hs.2 b (adR (adY (adH e) I.ok.above))).trans e1⟩
   . by_cases hj:j=i
     . subst hj
       rw[hi]at e1;cases e1
       rw[ag4 hiσ]at e2
       cases e2
       exact⟨u,r,.inl ⟨hk,by simp⟩⟩
     . rw[ahk (adG hj)]at e2
       obtain⟨u',r',q⟩:=hl j y v' e1 e2 e3
       refine⟨u',r',?_⟩
       rcases q with⟨k,e⟩|⟨k,c,e,z⟩
       . refine .inl ⟨k,?_⟩
         have:y≠x:=λe=>hj (yw hN e1 (e ▸ hi))
         simp[this,e]
       . exact .inr ⟨k,c,e,z.sameBut hs (yu y c e)⟩
   . obtain⟨w',z⟩:=I.cell y c e
     exact⟨w',z.sameBut hs (yu y c e)⟩
   . obtain⟨e,n,ne,nf,d⟩:=I.pin p hp
     exact⟨(hs.2 p.1 ne).trans e,n,ne,nf,d⟩
 . have NH:X.fn x=true:=by
    rcases hf with z|z
    . exact z
    . rw[z]at hk;cases hk
   obtain⟨c,hc⟩:=I.ok.has x (.inl hk)
   obtain⟨w',z⟩:=I.cell x c hc
   refine wpAny_storeName_cell I.ok.kind hk hc z (λh' iD hs=>?_)
   obtain⟨oc,wI,Y3⟩:=id z
   refine h {s with heap:=h'} ⟨I.ok,I.os,I.bare,⟨λb o e n hb hx=>?_,λb o e n hb hx=>?_,I.base.free,λb o e hx=>?_,I.base.hU,I.base.frzs,I.base.tbls⟩,⟨m,hn.sameBut hs (adG (yu x c hc)),λj y v' e1 e2 e3=>?_⟩,λy c' e=>?_,I.free,I.freeC,λp hp=>?_,tracked ⟨oc,wI,I.freeC x c hc⟩ hs,by simpa using I.len⟩ ⟨c,hs,.inr hc⟩
   . exact(hs.2 b (adR (adY (adH e) (I.ok.cab x c NH hc)))).trans (I.base.keep b o e n hb hx)
   . obtain⟨sl,e1⟩:=I.base.slot b o e n hb hx
     exact⟨sl,(hs.2 b (adR (adY (adH e) (I.ok.cab x c NH hc)))).trans e1⟩
   . obtain⟨o',e1⟩:=I.base.there b o e hx
     exact⟨o',(hs.2 b (adR (adY (adH e) (I.ok.cab x c NH hc)))).trans e1⟩
   . by_cases hj:j=i
     . subst hj
       rw[hi]at e1;cases e1
       rw[ag4 hiσ]at e2
       cases e2
       exact⟨u,r,.inr ⟨.inl hk,c,hc,iD⟩⟩
     . rw[ahk (adG hj)]at e2
       obtain⟨u',r',q⟩:=hl j y v' e1 e2 e3
       refine⟨u',r',?_⟩
       rcases q with q|⟨k,c',e,z'⟩
       . exact .inl q
       . refine .inr ⟨k,c',e,z'.sameBut hs ?_⟩
         rintro rfl
         exact hj (yw hN e1 (I.ok.inj _ _ _ e hc ▸ hi))
   . by_cases Wx:c'=c
     . subst Wx;exact⟨_,iD⟩
     . obtain⟨w2,z2⟩:=I.cell y c' e
       exact⟨w2,z2.sameBut hs Wx⟩
   . obtain⟨e,n,ne,nf,d⟩:=I.pin p hp
     refine⟨(hs.2 p.1 ?_).trans e,n,ne,nf,d⟩
     intro q
     rw[q,wI]at e
     have q':oc=p.2:=adN e
     exact d w' (by rw[← q'];exact Y3)
theorem mm{M:Model}{A:Around}{E:Value->Shared->Prop}{i:Nat}{x:Str}{v:V}{u:Value}{Q:Unit->Shared->Prop}(I:Inv X pins σ H s)(hN:X.N.Nodup)(hi:X.N[i]?=some x)(hx:Loc X.env.scope x)(r:RelV v u)
 (h:∀s',Inv X pins (σ.set i (some v)) H s'->Q () s') (hf:X.fn x=true\/X.env.scope.names.lookup x=some .local:=by first|exact .inl rfl|exact .inr rfl|assumption):wpAny M A (storeName X.env x u) Q E s:=
 wH I hN hi hx r (λs' I' _=>h s' I') hf
theorem Inv.Sg{s':Shared}{ch:List Addr}(I:Inv X pins σ H s)(ho:s'.os=s.os) (u:Un (pW X.stack) ch H H' s.heap s'.heap) (hok:eC X.prog X.w H' s'.heap) (hg:AllBare s'.gens)
 (sI:∀b∈ch,(b∈X.ex\/X.ly.heap.objs.size<=b)/\b≠X.env.locals/\(∀x c,X.env.cells.lookup x=some c->c≠b)/\∀p∈X.pn++pins,p.1≠b):Inv X pins σ H' s':=by
 obtain⟨h',g',d',t',o'⟩:=s'
 have e:o'=s.os:=ho
 subst e
 exact I.call (g':=g') (t':=t') (d':=d') u hok hg sI
end
abbrev XK:=Value->Option Addr->Hp->Prop
abbrev St:=List (Option V)
abbrev VK:=V->Hp->Prop
abbrev TE:=St->Hp->VK->Prop
abbrev TT:=St->Hp->(Bool->Hp->Prop)->Prop
abbrev TA:=St->Hp->(List V->Hp->Prop)->Prop
structure Ends where
 nx:St->Hp->Prop
 rt:VK
 bk:St->Hp->Prop:=λ_ _=>False
 ct:St->Hp->Prop:=λ_ _=>False
abbrev TS:=Ends->St->Hp->Prop
def EP(X:Cx) (pins:List (Addr×Obj)) (σ:St) (Q:VK) (u:Value) (s':Shared):Prop:=∃v H',Inv X pins σ H' s'/\RelV v u/\Q v H'
def TP(X:Cx) (pins:List (Addr×Obj)) (σ:St) (Q:Bool->Hp->Prop) (b:Bool) (s':Shared):Prop:=∃H',Inv X pins σ H' s'/\Q b H'
def AP(X:Cx) (pins:List (Addr×Obj)) (σ:St) (Q:List V->Hp->Prop) (us:List Value) (s':Shared):Prop:=∃vs H',Inv X pins σ H' s'/\Vals vs us/\Q vs H'
def SP(X:Cx) (pins:List (Addr×Obj)) (D:Ends) (f:Flow) (s':Shared):Prop:=
 match f with
 | .next=>∃bY H',Inv X pins bY H' s'/\D.nx bY H'
 | .brk=>∃bY H',Inv X pins bY H' s'/\D.bk bY H'
 | .cont=>∃bY H',Inv X pins bY H' s'/\D.ct bY H'
 | .ret u=>∃v bY H',Inv X pins bY H' s'/\RelV v u/\D.rt v H'
def PE(X:Cx)(e:Expr)(t:TE):Prop:=
 ∀(pins:List (Addr×Obj)) (s:Shared) (σ:St) (H:Hp) (Q:VK),Inv X pins σ H s->t σ H Q->wpAny (model X.prog X.w) X.A (eval e X.env) (EP X pins σ Q) X.xe s
def PT(X:Cx)(e:Expr)(t:TT):Prop:=
 ∀(pins:List (Addr×Obj)) (s:Shared) (σ:St) (H:Hp) (Q:Bool->Hp->Prop),Inv X pins σ H s->t σ H Q->wpAny (model X.prog X.w) X.A (isTrue e X.env (eval e X.env)) (TP X pins σ Q) X.xe s
def PW(X:Cx)(e:Expr)(t:TT):Prop:=
 ∀(whole:Sem Value) (pins:List (Addr×Obj)) (s:Shared) (σ:St) (H:Hp) (Q:Bool->Hp->Prop),Inv X pins σ H s->t σ H Q->wpAny (model X.prog X.w) X.A (isTrue e X.env whole) (TP X pins σ Q) X.xe s
theorem PW.pt{X:Cx}{e:Expr}{t:TT}(h:PW X e t):PT X e t:=h _
def PA(X:Cx)(es:List Expr)(t:TA):Prop:=
 ∀(pos:Pos) (pins:List (Addr×Obj)) (s:Shared) (σ:St) (H:Hp) (Q:List V->Hp->Prop),Inv X pins σ H s->t σ H Q->wpAny (model X.prog X.w) X.A (spliced (backTo pos (starEach es X.env))) (AP X pins σ Q) X.xe s
def PS(X:Cx)(st:Stmt)(t:TS):Prop:=
 ∀(pins:List (Addr×Obj)) (s:Shared) (σ:St) (H:Hp) (D:Ends),Inv X pins σ H s->t D σ H->wpAny (model X.prog X.w) X.A (exec st X.env) (SP X pins D) X.xe s
def ja(X:Cx)(st:List Stmt)(t:TS):Prop:=
 ∀(pins:List (Addr×Obj)) (s:Shared) (σ:St) (H:Hp) (D:Ends),Inv X pins σ H s->t D σ H->wpAny (model X.prog X.w) X.A (execs st X.env) (SP X pins D) X.xe s
theorem aP{α:Type}{t:Sem α}{Q Q':α->Shared->Prop}{M:Model}{A:Around}{E:Value->Shared->Prop}{s:Shared}(h:wpAny M A t Q E s)(hQ:∀a s,Q a s->Q' a s):wpAny M A t Q' E s:=aeY h hQ λ_ _ x=>x
section
variable {X:Cx}
theorem bin{a b:Expr}{ta tb:TE}(ha:PE X a ta)(hb:PE X b tb){pins:List (Addr×Obj)}{s:Shared}{σ:St}{H:Hp}{R:V->V->Hp->Prop}(I:Inv X pins σ H s) (h:ta σ H λx H1=>tb σ H1 λy H2=>R x y H2)
 {α:Type}{Q:α->Shared->Prop}{f:Value->Value->Sem α}
 (hf:∀v u s2 x y H2,Inv X pins σ H2 s2->RelV x v->RelV y u->R x y H2->wpAny (model X.prog X.w) X.A (f v u) Q X.xe s2) :
 wpAny (model X.prog X.w) X.A (eval a X.env) (λv dw=>wpAny (model X.prog X.w) X.A (eval b X.env) (λu vP=>wpAny (model X.prog X.w) X.A (f v u) Q X.xe vP) X.xe dw) X.xe s:=by
 refine aP (ha pins s σ H _ I h) λv s1 ⟨x,H1,I1,r1,q1⟩=>?_
 refine aP (hb pins s1 σ H1 _ I1 q1) λu s2 ⟨y,H2,I2,r2,q2⟩=>?_
 exact hf v u s2 x y H2 I2 r1 r2 q2
def iL(i:Nat):TE:=λσ H Q=>∃v,σ[i]?=some (some v)/\Q v H
def tC(v:V):TE:=λ_ H Q=>Q v H
theorem NI{i:Nat}{x:Str}{pos:Pos}(hN:X.N[i]?=some x)(hv:NG X.env.scope x) (hd:(x == ("__debug__" : Str))=false:=by decide) (qy:(x == ("__classdict__" : Str))=false:=by decide):PE X (.Name x pos) (iL i):=by
 intro pins s σ H Q I h
 obtain⟨v,e,h⟩:=h
 obtain⟨m,hn,hl⟩:=I.loc
 obtain⟨u,r,l⟩:=hl i x v hN e hv
 have fin:EP X pins σ Q u s:=⟨v,H,I,r,h⟩
 rcases l with⟨hk,hm⟩|⟨hk,c,hc,JY⟩
 . exact wpAny_Name (wpAny_loadName_local I.ok.kind hk hn hm fin) hd
 . rcases hk with hk|hk
   . exact wpAny_Name (wpAny_loadName_cell I.ok.kind hk hc JY fin) hd
   . exact wpAny_Name (wpAny_loadName_free I.ok.kind hk hc JY fin qy) hd
theorem ao{i j pos} : PE X (.Constant (.int i) j pos) (tC (.int i)):=λ_ _ _ H _ I h=>wpAny_Constant_int ⟨.int i,H,I.tok _,⟨_,rfl⟩,h⟩
theorem jk{b j pos} : PE X (.Constant (.bool b) j pos) (tC (.bl b)):=λ_ _ _ H _ I h=>Constant_bool ⟨.bl b,H,I,rfl,h⟩
theorem NJ{j pos} : PE X (.Constant .none j pos) (tC .aY):=λ_ _ _ H _ I h=>Constant_none ⟨.aY,H,I,rfl,h⟩
theorem bp{x j pos} : PE X (.Constant (.str x) j pos) (tC (.str x)):=λ_ _ _ H _ I h=>Calls.Constant_str ⟨.str x,H,I.tok _,⟨_,rfl⟩,h⟩
def Gl(X:Cx)(x:Str):Prop:=X.env.kindOf x=some .globalImplicit
theorem BI{E:Value->Shared->Prop}{pins:List (Addr×Obj)}{s:Shared}{σ:St}{H:Hp}{x:Str}{u:Value}{pos:Pos}{Q:Value->Shared->Prop}(I:Inv X pins σ H s) (hg:Gl X x) (hm:X.mg x=some u) (h:Q u s)
 (hd:(x == ("__debug__" : Str))=false:=by decide):wpAny (model X.prog X.w) X.A (eval (.Name x pos) X.env) Q E s:=
 agk I.ok.kind hg (Calls.loadGlobal_global (by rw[I.ok.glob];exact I.mod.glob.keeps I.bk) hm h) hd
theorem mn{E:Value->Shared->Prop}{pins:List (Addr×Obj)}{s:Shared}{σ:St}{H:Hp}{x:Str}{u:Value}{pos:Pos}{Q:Value->Shared->Prop}(I:Inv X pins σ H s) (hg:Gl X x) (hm:X.mg x=none) (hv:bootBuiltins x=some u) (h:Q u s)
 (hn:x ≠ "__name__":=by decide) (hd:(x == ("__debug__" : Str))=false:=by decide):wpAny (model X.prog X.w) X.A (eval (.Name x pos) X.env) Q E s:=by
 obtain⟨mb,h1,h2⟩:=I.mod.blt
 exact agk I.ok.kind hg (Calls.loadGlobal_builtin (by rw[I.ok.glob];exact I.mod.glob.keeps I.bk) hm (by rw[I.ok.blt];exact h1.keeps I.bk) ((h2 x hn).trans hv) h) hd
theorem lV{x:Str}{v:V}{u:Value}{pos:Pos}(hg:Gl X x)(hm:X.mg x=none)(hv:bootBuiltins x=some u)(r:RelV v u)(hn:x ≠ "__name__":=by decide) (hd:(x == ("__debug__" : Str))=false:=by decide):PE X (.Name x pos) (tC v):=
 λ_ _ _ H _ I h=>mn I hg hm hv ⟨v,H,I,r,h⟩ hn hd
variable {a b:Expr}{ta tb:TE}{pos:Pos}
def PC(X:Cx)(op:CmpOp)(a b:Expr)(t:TE):Prop:=
 ∀(pins:List (Addr×Obj)) (s:Shared) (σ:St) (H:Hp) (Q:VK),Inv X pins σ H s->t σ H Q->
  wpAny (model X.prog X.w) X.A (eval a X.env) (λv dw=>wpAny (model X.prog X.w) X.A (eval b X.env) (λu vP=>wpAny (model X.prog X.w) X.A (compareOp op v u) (EP X pins σ Q) X.xe vP) X.xe dw) X.xe s
theorem yz(b:Expr){op:CmpOp}(h:op≠.In)(h2:op≠.NotIn):behindInMarks op b=false:=by
 have e1:(op == CmpOp.In)=false:=by cases op <;> first|rfl|exact absurd rfl h
 have e2:(op == CmpOp.NotIn)=false:=by cases op <;> first|rfl|exact absurd rfl h2
 cases b <;> simp[behindInMarks,e1,e2]
def Y4(ta:TE):TE:=λσ H Q=>ta σ H λx H1=>Q (.bl (decide (x=.aY))) H1
theorem RelV.HX{x:V}{v:Value}(r:RelV x v):(v == Value.none)=decide (x=.aY):=by
 cases x with
 | aY=>cases r;rfl
 | bl _=>cases r;rfl
 | int _=>obtain⟨t,rfl⟩:=r;rfl
 | str _=>obtain⟨t,rfl⟩:=r;rfl
 | og _=>obtain⟨t,rfl⟩:=r;rfl
 | wG _=>obtain⟨t,rfl⟩:=r;rfl
 | ref _=>cases r;rfl
 | ty _=>cases r;rfl
theorem uo{j pos'} (ha:PE X a ta):PC X .Is a (.Constant .none j pos') (Y4 ta):=by
 intro pins s σ H Q I h
 refine aP (ha pins s σ H _ I h) λv s1 ⟨x,H1,I1,r1,q1⟩=>?_
 exact Constant_none (is_none_gen ⟨.bl _,H1,I1,by rw[r1.HX];rfl,q1⟩)
def tB(t:TE):TT:=λσ H Q=>t σ H λx H1=>∃c,x=.bl c/\Q c H1
theorem NK{op:CmpOp}{t:TE}(h:PC X op a b t) (h1:behindInMarks op b=false:=by first|exact yz _ (by decide) (by decide)|rfl):PE X (.Compare a [op] [b] pos) t:=λpins s σ H Q I hw=>wpAny_Compare1 (h pins s σ H Q I hw) h1
theorem eD{op:CmpOp}{t:TE}(h:PC X op a b t) (h1:behindInMarks op b=false:=by first|exact yz _ (by decide) (by decide)|rfl):PT X (.Compare a [op] [b] pos) (tB t):=by
 intro pins s σ H Q I hw
 refine wpAny_isTrue_Compare1 (aP (h pins s σ H _ I hw) λv s1 h1=>aP h1 λu s2 h2=>aP h2 λc s3 ⟨x,H1,I1,r1,q1⟩=>?_) h1
 obtain⟨d,rfl,q⟩:=q1
 cases r1
 exact afR ⟨H1,I1,q⟩
theorem jl{e:Expr}{t:TE}(h:PE X e t) (he:∀whole,isTrue e X.env whole=(do let v ← whole;standAt e.pos;holding [v] (truthy v)):=by intro _;rfl):PT X e (tB t):=by
 intro pins s σ H Q I hw
 refine isTrue_plain (aP (h pins s σ H _ I hw) λv s1 ⟨x,H1,I1,r1,q1⟩=>?_) (he _)
 obtain⟨d,rfl,q⟩:=q1
 cases r1
 exact afR ⟨H1,I1,q⟩
variable {tA JZ:TT}{rest:List Expr}
def Y5(t u:TT):TT:=λσ H Q=>t σ H λc H1=>if c=true then u σ H1 Q else Q false H1
def tOr(t u:TT):TT:=λσ H Q=>t σ H λc H1=>if c=true then Q true H1 else u σ H1 Q
def Y6(t:TT):TT:=λσ H Q=>t σ H λc H1=>Q (!c) H1
theorem BJ(ha:PT X a tA):PW X (.BoolOp .And [a] pos) tA:=by
 intro wh pins s σ H Q I h
 refine isTrue_and (aP (ha pins s σ H Q I h) λc s1 e=>?_)
 cases c with
 | true=>exact isTrue_and_nil e
 | false=>exact e
theorem yA(ha:PT X a tA):PW X (.BoolOp .Or [a] pos) tA:=by
 intro wh pins s σ H Q I h
 refine isTrue_or (aP (ha pins s σ H Q I h) λc s1 e=>?_)
 cases c with
 | false=>exact isTrue_or_nil e
 | true=>exact e
theorem E9(ha:PT X a tA) (hb:PW X (.BoolOp .And (b::rest) pos) JZ):PW X (.BoolOp .And (a::b::rest) pos) (Y5 tA JZ):=by
 intro wh pins s σ H Q I h
 refine isTrue_and (aP (ha pins s σ H _ I h) λc s1 ⟨H1,I1,q1⟩=>?_)
 cases c with
 | true=>exact hb wh pins s1 σ H1 Q I1 q1
 | false=>exact⟨H1,I1,q1⟩
theorem ur(ha:PT X a tA) (hb:PW X (.BoolOp .Or (b::rest) pos) JZ):PW X (.BoolOp .Or (a::b::rest) pos) (tOr tA JZ):=by
 intro wh pins s σ H Q I h
 refine isTrue_or (aP (ha pins s σ H _ I h) λc s1 ⟨H1,I1,q1⟩=>?_)
 cases c with
 | true=>exact⟨H1,I1,q1⟩
 | false=>exact hb wh pins s1 σ H1 Q I1 q1
theorem yB(ha:PT X a tA):PT X (.UnaryOp .Not a pos) (Y6 tA):=by
 intro pins s σ H Q I h
 exact isTrue_not (ha pins s σ H (λc H1=>Q (!c) H1) I h)
def Sh(ta tb:TE):TE:=λσ H Q=>ta σ H λx H1=>∃c,x=.bl c/\if c=true then tb σ H1 Q else Q (.bl false) H1
theorem Fb{op} {t:TE}(h:PE X a t):PE X (.BoolOp op [a] pos) t:=λpins s σ H Q I hw=>BoolOp_one (h pins s σ H Q I hw)
theorem yC(ha:PE X a ta) (hb:PE X (.BoolOp .And (b::rest) pos) tb):PE X (.BoolOp .And (a::b::rest) pos) (Sh ta tb):=by
 intro pins s σ H Q I h
 refine BoolOp_and (aP (ha pins s σ H _ I h) λv s1 ⟨x,H1,I1,r1,q1⟩=>?_)
 obtain⟨c,rfl,q1⟩:=q1
 cases r1
 refine afR ?_
 cases c with
 | true=>exact hb pins s1 σ H1 Q I1 q1
 | false=>exact⟨.bl false,H1,I1,rfl,q1⟩
def tIf(t:TT)(ta tb:TE):TE:=λσ H Q=>t σ H λc H1=>if c=true then ta σ H1 Q else tb σ H1 Q
theorem oZ{c:Expr}(hc:PT X c tA)(ha:PE X a ta)(hb:PE X b tb):PE X (.IfExp c a b pos) (tIf tA ta tb):=by
 intro pins s σ H Q I h
 refine wpAny_IfExp (aP (hc pins s σ H _ I h) λd s1 ⟨H1,I1,q1⟩=>?_)
 cases d with
 | true=>exact ha pins s1 σ H1 Q I1 q1
 | false=>exact hb pins s1 σ H1 Q I1 q1
end
def aw(K:W.Frag)(H:Hp)(a:Addr)(xs:List V):Prop:=
 Rd H a (.lst xs)\/
  ∃(o:Obj) (its:Array Value) (n:Nat),K.lookup a=some o/\o.cls=.type "list" /\ o.dict=none/\o.data=.seq its n/\its.size<=sizeLine/\Vals xs its.toList
def aS(K:W.Frag)(H:Hp)(a:Addr)(xs:List V):Prop:=
 Rd H a (.tup xs)\/
  ∃(o:Obj) (its:Array Value) (n:Nat),K.lookup a=some o/\o.cls=.type "tuple" /\ o.data=.seq its n/\its.size<=sizeLine/\Vals xs its.toList
def Y7:Value->Option V
 | .none=>some .aY
 | .bool b=>some (.bl b)
 | .int i _=>some (.int i)
 | .str x _=>some (.str x)
 | .bytes b _=>some (.og b)
 | .float b _=>some (.wG b)
 | .ref a=>some (.ref a)
 | .type n=>some (.ty n)
 | _=>none
theorem RelV.abs{x:V}{u:Value}(r:RelV x u):Y7 u=some x:=by
 cases x with
 | aY=>cases r;rfl
 | bl _=>cases r;rfl
 | int _=>obtain⟨t,rfl⟩:=r;rfl
 | str _=>obtain⟨t,rfl⟩:=r;rfl
 | og _=>obtain⟨t,rfl⟩:=r;rfl
 | wG _=>obtain⟨t,rfl⟩:=r;rfl
 | ref _=>cases r;rfl
 | ty _=>cases r;rfl
theorem RelV.inj{x y:V}{u:Value}(r:RelV x u)(q:RelV y u):x=y:=adN (r.abs.symm.trans q.abs)
theorem Vals.inj:∀{xs ys:List V}{us:List Value},Vals xs us->Vals ys us->xs=ys
 | _,_,_,.nil,.nil=>rfl
 | _,_,_,.cons r t,.cons r' t'=>by rw[r.inj r',Vals.inj t t']
section
variable {X:Cx}{pins:List (Addr×Obj)}{σ:St}{H:Hp}{s:Shared}{a:Addr}{xs ys:List V}
theorem aw.of{K:W.Frag}(h:H a=some (.lst xs)):aw K H a xs:=.inl (.inl h)
theorem aS.of{K:W.Frag}(h:H a=some (.tup xs)):aS K H a xs:=.inl (.inl h)
theorem Inv.list(I:Inv X pins σ H s)(h:aw X.K H a xs):∃its:List Value,Vals xs its/\PlainL s.heap a its.toArray/\xs.length<=sizeLine:=by
 rcases h with h|⟨o,its,n,hk,hc,hd,hs,hz,r⟩
 . obtain⟨z,its,n,r,e⟩:=h.ok I.hok
   exact⟨its,r,⟨_,n,e,rfl,rfl,rfl⟩,z⟩
 . refine⟨its.toList,r,⟨o,n,I.hZ a o hk,hc,hd,by simpa using hs⟩,?_⟩
   have e:=r.length
   simp only[ae8]at e
   omega
theorem Inv.tuple(I:Inv X pins σ H s)(h:aS X.K H a xs):∃its:List Value,Vals xs its/\IsTup s.heap a its.toArray/\xs.length<=sizeLine:=by
 rcases h with h|⟨o,its,n,hk,hc,hs,hz,r⟩
 . obtain⟨z,its,r,p⟩:=h.ok I.hok
   exact⟨its,r,p,z⟩
 . refine⟨its.toList,r,⟨o,I.hZ a o hk,hc,n,by simpa using hs⟩,?_⟩
   have e:=r.length
   simp only[ae8]at e
   omega
theorem Inv.tG(I:Inv X pins σ H s)(h:aw X.K H a xs)(h':aw X.K H a ys):xs=ys:=by
 obtain⟨its,r,⟨o,n,e,_,_,d⟩,_⟩:=I.list h
 obtain⟨its',r',⟨o',n',e',_,_,d'⟩,_⟩:=I.list h'
 rw[e]at e';cases e'
 rw[d]at d'
 injection d' with d1 _
 have:its=its':=by simpa using congrArg Array.toList d1
 subst this
 exact r.inj r'
theorem Inv.qz(I:Inv X pins σ H s)(h:aS X.K H a xs)(h':aS X.K H a ys):xs=ys:=by
 obtain⟨its,r,⟨o,e,_,n,d⟩,_⟩:=I.tuple h
 obtain⟨its',r',⟨o',e',_,n',d'⟩,_⟩:=I.tuple h'
 rw[e]at e';cases e'
 rw[d]at d'
 injection d' with d1 _
 have:its=its':=by simpa using congrArg Array.toList d1
 subst this
 exact r.inj r'
end
abbrev Cx.nP(X:Cx)(E:Value->Shared->Prop):Cx:={X with xe:=E}
abbrev Cx.yD(X:Cx):Cx:=X.nP λ_ _=>False
theorem Cx.Ok.nP{X:Cx}(ok:X.Ok)(E:Value->Shared->Prop):(X.nP E).Ok:=
 ⟨ok.mod,ok.kind,ok.glob,ok.blt,ok.above,ok.inj,ok.has,ok.cab,ok.hd,ok.frames,ok.stk,ok.exf,ok.bs,ok.bsz,ok.noex,ok.exfs,ok.jP,ok.frf⟩
theorem Cx.Ok.kF{X:Cx}{E:Value->Shared->Prop}(ok:(X.nP E).Ok):X.Ok:=
 ⟨ok.mod,ok.kind,ok.glob,ok.blt,ok.above,ok.inj,ok.has,ok.cab,ok.hd,ok.frames,ok.stk,ok.exf,ok.bs,ok.bsz,ok.noex,ok.exfs,ok.jP,ok.frf⟩
section
variable {X:Cx}{pins:List (Addr×Obj)}{σ:St}{H:Hp}{s:Shared}{E:Value->Shared->Prop}
theorem Inv.nP(I:Inv X pins σ H s)(E:Value->Shared->Prop):Inv (X.nP E) pins σ H s:=⟨I.ok.nP E,I.os,I.bare,I.base,I.loc,I.cell,I.free,I.freeC,I.pin,I.hok,I.len⟩
theorem Inv.kF(I:Inv (X.nP E) pins σ H s):Inv X pins σ H s:=⟨I.ok.kF,I.os,I.bare,I.base,I.loc,I.cell,I.free,I.freeC,I.pin,I.hok,I.len⟩
theorem SP.kF{D:Ends}{f:Flow}{s':Shared}(h:SP (X.nP E) pins D f s'):SP X pins D f s':=by
 cases f with
 | next=>obtain⟨bY,H',I,q⟩:=h;exact⟨bY,H',I.kF,q⟩
 | brk=>obtain⟨bY,H',I,q⟩:=h;exact⟨bY,H',I.kF,q⟩
 | cont=>obtain⟨bY,H',I,q⟩:=h;exact⟨bY,H',I.kF,q⟩
 | ret u=>obtain⟨v,bY,H',I,r,q⟩:=h;exact⟨v,bY,H',I.kF,r,q⟩
theorem ja.yD{st:List Stmt}{t:TS}(h:ja X.yD st t):ja X st t:=λpins s σ H D I hw=>
 aeY (h pins s σ H D (I.nP _) hw) (λ_ _ q=>q.kF) λ_ _ z=>False.elim z
end
section
variable {X:Cx}{st:Stmt}{rest:List Stmt}{t u:TS}{e:Expr}{te:TE}{pos:Pos}
def Si:TS:=λD σ H=>D.nx σ H
def eF(t u:TS):TS:=λD σ H=>t {D with nx:=u D} σ H
theorem bf:ja X [] Si:=λ_ _ σ H _ I h=>agc ⟨σ,H,I,h⟩
theorem ai(h1:PS X st t)(h2:ja X rest u):ja X (st::rest) (eF t u):=by
 intro pins s σ H D I h
 refine wpAny_execs_cons (aP (h1 pins s σ H {D with nx:=u D} I h) λf s1 q=>?_)
 cases f with
 | next=>
  obtain⟨bY,H',I',q⟩:=q
  exact h2 pins s1 bY H' D I' q
 | ret v=>exact q
 | brk=>exact q
 | cont=>exact q
theorem av(h1:PS X st t):ja X [st] t:=by
 intro pins s σ H D I h
 refine wpAny_execs_cons (aP (h1 pins s σ H D I h) λf s1 q=>?_)
 cases f with
 | next=>exact agc q
 | ret v=>exact q
 | brk=>exact q
 | cont=>exact q
theorem Inv.quiet{pins:List (Addr×Obj)}{σ:St}{H:Hp}{s:Shared}(I:Inv X pins σ H s):interactive X.env=false:=by simp[interactive,I.ok.kind]
def Sj(te:TE):TS:=λD σ H=>te σ H λ_ H1=>D.nx σ H1
theorem eu(he:PE X e te)(hs:swapsWith e none pos.line X.env=pure false:=by rfl):PS X (.Expr e pos) (Sj te):=by
 intro pins s σ H D I h
 exact wpAny_Expr_any (aP (he pins s σ H _ I h) λv s1 ⟨x,H1,I1,r1,q1⟩=>⟨σ,H1,I1,q1⟩) I.quiet hs
def HY(te:TE):TS:=λD σ H=>te σ H D.rt
theorem aN(he:PE X e te):PS X (.Return (some e) pos) (HY te):=by
 intro pins s σ H D I h
 exact wpAny_Return_some (aP (he pins s σ H _ I h) λv s1 ⟨x,H1,I1,r1,q1⟩=>⟨x,σ,H1,I1,r1,q1⟩)
def Sk:TS:=λD _ H=>D.rt .aY H
theorem BK:PS X (.Return none pos) Sk:=λ_ _ σ H _ I h=>wpAny_Return_none ⟨.aY,σ,H,I,rfl,h⟩
def Y8(c:TT)(t u:TS):TS:=λD σ H=>c σ H λb H1=>if b=true then t D σ H1 else u D σ H1
theorem cw{c:Expr}{a b:List Stmt}{tc:TT}(hc:PT X c tc)(ha:ja X a t)(hb:ja X b u):PS X (.If c a b pos) (Y8 tc t u):=by
 intro pins s σ H D I h
 refine wpAny_If (aP (hc pins s σ H _ I h) λd s1 ⟨H1,I1,q1⟩=>?_)
 cases d with
 | true=>exact ha pins s1 σ H1 D I1 q1
 | false=>exact hb pins s1 σ H1 D I1 q1
def NL:TS:=λ_ _ _=>False
theorem Fc{sts:List Stmt} : ja X sts NL:=λ_ _ _ _ _ _ h=>h.elim
end
abbrev TG:=V->St->Hp->(St->Hp->Prop)->Prop
abbrev yE:=List V->St->Hp->(St->Hp->Prop)->Prop
def PG(X:Cx)(target:Expr)(t:TG):Prop:=
 ∀(pins:List (Addr×Obj)) (s:Shared) (σ:St) (H:Hp) (v:V) (u:Value) (Q:St->Hp->Prop),Inv X pins σ H s->RelV v u->t v σ H Q->
  wpAny (model X.prog X.w) X.A (assign target X.env u) (λ_ s'=>∃bY H',Inv X pins bY H' s'/\Q bY H') X.xe s
def J0(X:Cx)(ts:List Expr)(t:yE):Prop:=
 ∀(pins:List (Addr×Obj)) (s:Shared) (σ:St) (H:Hp) (vs:List V) (us:List Value) (Q:St->Hp->Prop),Inv X pins σ H s->Vals vs us->t vs σ H Q->
  wpAny (model X.prog X.w) X.A (assignInOrder ((assignEach ts X.env).map (·.2)) us) (λ_ s'=>∃bY H',Inv X pins bY H' s'/\Q bY H') X.xe s
abbrev HZ:=V->V->V->Hp->(Hp->Prop)->Prop
def NM(X:Cx)(t:HZ):Prop:=
 ∀(pins:List (Addr×Obj)) (s:Shared) (σ:St) (H:Hp) (o i v:V) (ov iv u:Value) (Q:Hp->Prop),Inv X pins σ H s->RelV o ov->RelV i iv->RelV v u->t o i v H Q->
  wpAny (model X.prog X.w) X.A (setItem ov iv u) (λ_ s'=>∃H',Inv X pins σ H' s'/\Q H') X.xe s
section
variable {X:Cx}{pos:Pos}
def fg(i:Nat):TG:=λv σ H Q=>Q (σ.set i (some v)) H
theorem aH{i:Nat}{x:Str}(hN:X.N.Nodup)(hi:X.N[i]?=some x)(hx:Loc X.env.scope x)(hf:X.fn x=true\/X.env.scope.names.lookup x=some .local:=by first|exact .inl rfl|exact .inr rfl|assumption):PG X (.Name x pos) (fg i):=by
 intro pins s σ H v u Q I r h
 exact wpAny_assign_Name (mm I hN hi hx r (λs' I'=>⟨_,H,I',h⟩) hf)
def Dm:yE:=λvs σ H Q=>vs=[]/\Q σ H
def o7(t:TG)(u:yE):yE:=λvs σ H Q=>∃v r,vs=v::r/\t v σ H λbY H'=>u r bY H' Q
theorem iA:J0 X [] Dm:=by
 intro pins s σ H vs us Q I r h
 obtain⟨e,h⟩:=h
 subst e
 cases r
 exact assignInOrder_nil ⟨σ,H,I,h⟩
theorem cg{e:Expr}{es:List Expr}{t:TG}{u:yE}(h1:PG X e t)(h2:J0 X es u)
 (hs:(assignEach (e::es) X.env).map (·.2)=assign e X.env::(assignEach es X.env).map (·.2):=by rfl):J0 X (e::es) (o7 t u):=by
 intro pins s σ H vs us Q I r h
 obtain⟨v,vr,e1,h⟩:=h
 subst e1
 cases r with
 | cons r rr=>
  rw[hs]
  refine afC (aP (h1 pins s σ H _ _ _ I r h) λ_ s1 ⟨Mi,H1,I1,q1⟩=>?_)
  exact h2 pins s1 Mi H1 _ _ Q I1 rr q1
def Dn(K:W.Frag)(n:Nat)(t:yE):TG:=λv σ H Q=>∃a xs,v=.ref a/\aS K H a xs/\xs.length=n/\t xs σ H Q
theorem jm{es:List Expr}{k:Nat}{t:yE}{n:Nat}(hc:X.calm=true)(h:J0 X es t)
 (hn:(assignEach es X.env).length=n:=by rfl) (nu:(assignEach es X.env).findIdx? (·.1)=none:=by rfl):PG X (.Tuple es k pos) (Dn X.K n t):=by
 intro pins s σ H v u Q I r hw
 obtain⟨a,xs,e1,hq,hl,hw⟩:=hw
 subst e1
 cases r
 obtain⟨its,rv,ht,hz⟩:=I.tuple hq
 refine assign_Tuple_tuple (I.ok.hd hc) ht (by simp[hn,← hl,rv.length]) nu λh' hx=>?_
 have I1:Inv X pins σ H {s with heap:=h'}:=I.kept (t':=s.toks) λb o e=>hx b o (adR (adH e)) e
 exact h pins _ σ H xs _ Q I1 (by simpa using rv) hw
def Y9(to ti:TE)(t:HZ):TG:=λv σ H Q=>to σ H λo H1=>ti σ H1 λi H2=>t o i v H2 λH3=>Q σ H3
theorem NN{o i:Expr}{to ti:TE}{t:HZ}(ho:PE X o to)(hi:PE X i ti)(hs:NM X t)
 (ha:∀v,assign (.Subscript o i pos) X.env v=(do
  let ov ← holding [v] (eval o X.env)
  let iv ← holding [v,ov] (eval i X.env)
  standAt pos
  holding [v,ov,iv] (setItem ov iv v)
  release [v,ov,iv] []):=by intro _;rfl):PG X (.Subscript o i pos) (Y9 to ti t):=by
 intro pins s σ H v u Q I r h
 rw[ha]
 refine adk (aeH (aP (ho pins s σ H _ I h) λov s1 ⟨x,H1,I1,r1,q1⟩=>?_))
 refine adk (aeH (aP (hi pins s1 σ H1 _ I1 q1) λiv s2 ⟨y,H2,I2,r2,q2⟩=>?_))
 refine adk (agH (adk (aeH (aP (hs pins s2 σ H2 x y v ov iv u _ I2 r1 r2 r q2) λ_ s3 ⟨H3,I3,q3⟩=>?_))))
 exact wpAny_release ⟨σ,H3,I3,q3⟩
def Ia(te:TE)(g:TG):TS:=λD σ H=>te σ H λx H1=>g x σ H1 D.nx
theorem NO{tg e:Expr}{te:TE}{g:TG}(he:PE X e te)(hg:PG X tg g)(hs:swapsWithSole [tg] e pos.line X.env=pure false:=by rfl)(hw:swappedStores [tg] e X.env=pure none:=by rfl)
 (h1:(assignEach [tg] X.env).map (·.2)=[assign tg X.env]:=by rfl):PS X (.Assign [tg] e pos) (Ia te g):=by
 intro pins s σ H D I h
 refine wpAny_Assign_stores (aP (he pins s σ H _ I h) λv s1 ⟨x,H1,I1,r1,q1⟩=>?_) hs hw
 rw[h1]
 exact aP (hg pins s1 σ H1 x v _ I1 r1 q1) λ_ s2 q=>q
theorem aD{i:Nat}{x:Str}{e:Expr}{te:TE}{pos':Pos}(hN:X.N.Nodup)(hi:X.N[i]?=some x)(hx:Loc X.env.scope x)(he:PE X e te) (hs:swapsWith e (some (.Name x pos')) pos.line X.env=pure false:=by rfl) (hf:X.fn x=true\/X.env.scope.names.lookup x=some .local:=by first|exact .inl rfl|exact .inr rfl|assumption) :
 PS X (.Assign [.Name x pos'] e pos) (Ia te (fg i)):=by
 intro pins s σ H D I h
 refine wpAny_Assign_Name (aP (he pins s σ H _ I h) λv s1 ⟨y,H1,I1,r1,q1⟩=>?_) hs
 exact mm I1 hN hi hx r1 (λs2 I2=>⟨_,H1,I2,q1⟩) hf
end
section
variable {X:Cx}{pos:Pos}
def NP(c:TT)(tb:TS):TS:=λD σ H=>∃W:Nat->St->Hp->Prop,(∃m,W m σ H)/\∀m σ H,W m σ H->
 c σ H λb H1=>if b=true then ∃N:St->Hp->Prop,(∀bY H',N bY H'->∃m',m'<m/\W m' bY H')/\tb {D with nx:=N,ct:=N,bk:=D.nx} σ H1 else D.nx σ H1
theorem Ib{c:Expr}{body:List Stmt}{tc:TT}{tb:TS}(hp:PassesOwn (model X.prog X.w) X.A X.env X.xe) (hc:PT X c tc) (hb:ja X body tb):PS X (.While c body [] pos) (NP tc tb):=by
 intro pins s σ H D I h
 obtain⟨W,⟨m0,w0⟩,turn⟩:=h
 refine wpAny_While (codeAny_whileLoop (λn s'=>∃bY H',Inv X pins bY H' s'/\W n bY H') ?_ m0 ⟨σ,H,I,w0⟩)
 rintro n s1 ⟨Mi,H1,I1,w1⟩
 refine ae3 hp (aP (hc pins s1 Mi H1 _ I1 (turn n Mi H1 w1)) λb s2 ⟨H2,I2,q2⟩=>?_)
 cases b with
 | true=>
  obtain⟨N,hN,q2⟩:=q2
  rw[adM rfl]
  refine ae3 hp (aP (hb pins s2 Mi H2 _ I2 q2) λf s3 q3=>?_)
  cases f with
  | next=>
   obtain⟨yF,H3,I3,n3⟩:=q3
   obtain⟨m',hm,w3⟩:=hN yF H3 n3
   exact⟨m',hm,yF,H3,I3,w3⟩
  | cont=>
   obtain⟨yF,H3,I3,n3⟩:=q3
   obtain⟨m',hm,w3⟩:=hN yF H3 n3
   exact⟨m',hm,yF,H3,I3,w3⟩
  | brk=>exact q3
  | ret v=>exact q3
 | false=>
  rw[adw adO]
  exact agc ⟨Mi,H2,I2,q2⟩
end
structure It where
 go:Nat->Hp->Prop
 yld:Nat->Hp->V->Hp->Prop
 stop:Nat->Hp->Prop
def jn(X:Cx) (pins:List (Addr×Obj)) (H:Hp) (b:Addr):Prop:=
 H b=none/\b≠X.env.locals/\b∉X.fs/\(b∈X.ex\/X.ly.heap.objs.size<=b)/\(∀x c,X.env.cells.lookup x=some c->c≠b)/\∀p∈X.pn++pins,p.1≠b
theorem Inv.tH{X:Cx}{pins:List (Addr×Obj)}{σ:St}{H H':Hp}{s:Shared}{b:Addr}(I:Inv X pins σ H s) (hb:s.heap.objs.size<=b) (hn:H' b=none):jn X pins H' b:=by
 refine⟨hn,ae7 (adY I.lt hb),I.Y1 hb,.inr (ady I.sz hb),λx c e z=>?_,λp hp z=>?_⟩
 . obtain⟨v,q⟩:=I.cell x c e
   exact absurd (adY q.lt (by rw[z];exact hb)) (aey _)
 . exact absurd (adY (adH (I.pin p hp).1) (by rw[z];exact hb)) (aey _)
structure Turn(P:Program) (w:World) (K:W.Frag) (tg:Expr) (J:It) (fp:List Addr) (it:Addr) (tn:Nat->Heap->Prop):Prop where
 mem:it∈fp
 obj:∀i h,tn i h->∀b∈fp,∃o,h.get? b=some o/\∀v,o.data≠.cell v
 keep:∀i h h',tn i h->(∀b∈fp,∀o,h.get? b=some o->h'.get? b=some o)->tn i h'
 item:∀(X:Cx),X.prog=P->X.w=w->X.K=K->X.calm=true->∀(i:Nat) (pins:List (Addr×Obj)) (s:Shared) (σ:St) (H:Hp) (E:Value->Shared->Prop),Inv X pins σ H s->(∀b∈fp,jn X pins H b)->tn i s.heap->J.go i H->
  wpAny (model P w) X.A (pyNext (.ref it)) (λr s1=>∃u,r=some u/\
   wpAny (model P w) X.A (letOwnedTupleGo tg (.ref it) u) (λ_ s2=>∃x H',Inv X pins σ H' s2/\RelV x u/\J.yld i H x H'/\tn (i+1) s2.heap/\∀b∈fp,H' b=none) E s1) E s
 done:∀(X:Cx),X.prog=P->X.w=w->X.K=K->X.calm=true->∀(i:Nat) (pins:List (Addr×Obj)) (s:Shared) (σ:St) (H:Hp) (E:Value->Shared->Prop),Inv X pins σ H s->(∀b∈fp,jn X pins H b)->tn i s.heap->J.stop i H->
  wpAny (model P w) X.A (pyNext (.ref it)) (λr s1=>r=none/\Inv X pins σ H s1) E s
 self:∀(A:Around) (i:Nat) (s:Shared) (Q:Value->Shared->Prop) (E:Value->Shared->Prop),tn i s.heap->Q (.ref it) s->wpAny (model P w) A (pyIter (.ref it)) Q E s
abbrev TI:=St->Hp->(It->Hp->Prop)->Prop
def Wy(X:Cx) (pins:List (Addr×Obj)) (σ:St) (tg:Expr) (R:It->Hp->Prop) (NQ:Value) (s2:Shared):Prop:=
 ∃(it:Addr) (fp:List Addr) (tn:Nat->Heap->Prop) (J:It) (H':Hp),NQ=.ref it/\Inv X pins σ H' s2/\Turn X.prog X.w X.K tg J fp it tn/\tn 0 s2.heap/\(∀b∈fp,jn X pins H' b)/\R J H'
def PI(X:Cx)(tg iter:Expr)(wi:TI):Prop:=
 ∀(pins:List (Addr×Obj)) (s:Shared) (σ:St) (H:Hp) (R:It->Hp->Prop),Inv X pins σ H s->wi σ H R->
  wpAny (model X.prog X.w) X.A (eval iter X.env) (λv s1=>wpAny (model X.prog X.w) X.A (pyIter v) (Wy X pins σ tg R) X.xe s1) X.xe s
theorem uu{M:Model}{A:Around}{E:Value->Shared->Prop}{s:Shared}{tg:Expr}{it:Addr}{u:Value}{o:Obj}{n:String}{vs:Array Value}{Q:Unit->Shared->Prop}(ho:s.heap.get? it=some o)(hc:o.cls=.type n)(hd:o.data=.fields vs)
 (hn:["enumerate", "zip", "dict_itemiterator", "dict_reverseitemiterator", "odict_iterator", "itertools.zip_longest", "itertools.pairwise"].contains n=false) (hQ:Q () s):wpAny M A (letOwnedTupleGo tg (.ref it) u) Q E s:=by
 unfold letOwnedTupleGo
 cases tg <;> first
  | exact adv hQ
  | (cases u <;> first
      | exact adv hQ
      | (refine adk (wpAny_load ho ?_)
         rw[hc,hd]
         show wpAny M A (if (["enumerate", "zip", "dict_itemiterator", "dict_reverseitemiterator", "odict_iterator", "itertools.zip_longest", "itertools.pairwise"].contains n && vs[0]? == some (rawInt _))=true then _ else _) Q E s
         rw[adw (by intro h;rw[hn,Bool.false_and]at h;cases h)]
         exact adv hQ))
def uv(K:W.Frag)(a:Addr):It:=
 ⟨λi H=>∃xs x,aw K H a xs/\xs[i]?=some x,λi H x H'=>H'=H/\∀xs,aw K H a xs->xs[i]?=some x,λi H=>∃xs,aw K H a xs/\xs.length<=i⟩
def yG(lo:Int)(n:Nat):It:=⟨λi _=>i<n,λi H x H'=>H'=H/\x=.int (lo+i),λi _=>n<=i⟩
theorem Fe{P:Program}{w:World}{K:W.Frag}{tg:Expr}(a it:Addr):Turn P w K tg (uv K a) [it] it (λi h=>h.IsListIter it a i) where
 mem:=by simp
 obj:=λi h st b hb=>by
  have e:b=it:=by simpa using hb
  subst e
  obtain⟨o,e,c,d⟩:=st
  exact⟨o,e,λv z=>by rw[d]at z;cases z⟩
 keep:=λi h h' st k=>st.at λo e=>k it (by simp) o e
 item:=by
  intro X hP hw hK hc i pins s σ H E I hf st hg
  subst hP hw hK
  obtain⟨xs,x,hq,hx⟩:=hg
  obtain⟨its,rv,p,hz⟩:=I.list hq
  obtain⟨u,hu,ru⟩:=rv.get hx
  obtain⟨f0,f1,f2,f3,f4,f5⟩:=hf it (by simp)
  refine wpAny_pyNext_list_item st p.isList (x:=u) (by simpa using hu) λh' cj sb=>?_
  have I1:Inv X pins σ H {s with heap:=h'}:=I.turned (t':=s.toks) (λb o hb e=>(sb.2 b hb).trans e) f0 f1 f3 f4 f5
  obtain⟨o,e,c,d⟩:=id cj
  exact⟨u,rfl,uu (s:={s with heap:=h'}) e c d (by decide) ⟨x,H,I1,ru,⟨rfl,λys hy=>by rw[I.tG hy hq];exact hx⟩,cj,λb hb=>(hf b hb).1⟩⟩
 done:=by
  intro X hP hw hK hc i pins s σ H E I hf st hg
  subst hP hw hK
  obtain⟨xs,hq,hx⟩:=hg
  obtain⟨its,rv,p,hz⟩:=I.list hq
  obtain⟨f0,f1,f2,f3,f4,f5⟩:=hf it (by simp)
  have hl:=rv.length
  exact wpAny_pyNext_list_end (I.ok.hd hc) st p.isList (by simp;omega) λh' eb=>⟨rfl,I.turned (t':=s.toks) (λb o hb e=>eb b o hb e) f0 f1 f3 f4 f5⟩
 self:=λ_ _ _ _ _ st h=>wpAny_pyIter_listiter st h
theorem Dq{P:Program}{w:World}{K:W.Frag}{tg:Expr}(it:Addr)(lo:Int)(n:Nat):Turn P w K tg (yG lo n) [it] it (λi h=>IsRangeIter h it (lo+(i:Nat)*1) ((n:Int)-(i:Nat)) 1) where
 mem:=by simp
 obj:=λi h st b hb=>by
  have e:b=it:=by simpa using hb
  subst e
  exact⟨_,st,λv z=>by
   have z':Data.fields _=Data.cell v:=z
   cases z'⟩
 keep:=λi h h' st k=>k it (by simp) _ st
 item:=by
  intro X hP hw hK hc i pins s σ H E I hf st hg
  subst hP hw hK
  obtain⟨f0,f1,f2,f3,f4,f5⟩:=hf it (by simp)
  have W:=Walks.range (prog:=X.prog) (w:=X.w) (I.ok.hd hc) it lo 1 n
  refine W.item i s _ _ hg st λv h' tk hv cj kk=>?_
  obtain⟨t,rfl⟩:=hv
  have I1:Inv X pins σ H {s with heap:=h',toks:=tk}:=I.turned (λb o hb e=>kk b o (by simpa using hb) e) f0 f1 f3 f4 f5
  refine⟨_,rfl,uu (s:={s with heap:=h',toks:=tk}) (n:="range_iterator") cj rfl rfl (by decide) ⟨.int (lo+i),H,I1,⟨t,?_⟩,⟨rfl,rfl⟩,cj,λb hb=>(hf b hb).1⟩⟩
  rw[Int.mul_one]
 done:=by
  intro X hP hw hK hc i pins s σ H E I hf st hg
  subst hP hw hK
  obtain⟨f0,f1,f2,f3,f4,f5⟩:=hf it (by simp)
  exact wpAny_pyNext_range_end (I.ok.hd hc) st (by have:n<=i:=hg;omega) λh' eb=>⟨rfl,I.turned (t':=s.toks) (λb o hb e=>eb b o hb e) f0 f1 f3 f4 f5⟩
 self:=λ_ _ _ _ _ st h=>wpAny_pyIter_rangeiter st h
section
variable {X:Cx}{tg:Expr}
def J1(K:W.Frag)(tl:TE):TI:=λσ H R=>tl σ H λx H1=>∃a,x=.ref a/\(∃xs,aw K H1 a xs)/\R (uv K a) H1
theorem c8{l:Expr}{tl:TE}(hl:PE X l tl):PI X tg l (J1 X.K tl):=by
 intro pins s σ H R I h
 refine aP (hl pins s σ H _ I h) λv s1 ⟨x,H1,I1,r1,q1⟩=>?_
 obtain⟨a,e,⟨xs,hq⟩,q⟩:=q1
 subst e
 cases r1
 obtain⟨its,rv,p,hz⟩:=I1.list hq
 refine agv p.isList ?_
 refine⟨s1.heap.objs.size,[s1.heap.objs.size],_,_,H1,rfl,I1.kept (t':=s1.toks) λb o e=>adl _ e,Fe a _,⟨_,adP _ rfl,rfl,rfl⟩,λb hb=>?_,q⟩
 have e:b=s1.heap.objs.size:=by simpa using hb
 subst e
 exact I1.tH (adn _) (I1.hok.fresh (adn _))
theorem Ic{pins:List (Addr×Obj)}{σ:St}{H:Hp}{s:Shared}{R:It->Hp->Prop}{E:Value->Shared->Prop}{lo hi:Int}{t u v:Tok}{tk:Nat}(I:Inv X pins σ H s) (h1 : -(2 ^ 62)<=lo) (h2:lo<2 ^ 62) (h3 : -(2 ^ 62)<=hi) (h4:hi<2 ^ 62)
 (q:R (yG lo (hi-lo).toNat) H):wpAny (model X.prog X.w) X.A (pyIter (.ref s.heap.objs.size)) (Wy X pins σ tg R) E {s with heap:=s.heap.push {cls:=.type "range",data:=.fields #[.int lo t,.int hi u,.int 1 v] },toks:=tk}:=by
 refine wpAny_pyIter_range (IsRange.new ..) (small_one h1 h2 h3 h4) ?_
 have I1:Inv X pins σ H {s with heap:=s.heap.push {cls:=.type "range",data:=.fields #[.int lo t,.int hi u,.int 1 v] },toks:=tk}:=I.kept λb o e=>adl _ e
 refine⟨(s.heap.push {cls:=.type "range",data:=.fields #[.int lo t,.int hi u,.int 1 v] }).objs.size,[(s.heap.push {cls:=.type "range",data:=.fields #[.int lo t,.int hi u,.int 1 v] }).objs.size],_,_,H,rfl,
  I1.kept (t':=tk) λb o e=>adl _ e,Dq _ lo (hi-lo).toNat,?_,λb hb=>?_,q⟩
 . have e1:lo+((0:Nat):Int)*1=lo:=by simp
   have e2:(((hi-lo).toNat:Nat):Int)-((0:Nat):Int)=Builtin.Range.rangeSize lo hi 1:=by rw[rangeSize_one];split <;> omega
   show IsRangeIter _ _ (lo+((0:Nat):Int)*1) ((((hi-lo).toNat:Nat):Int)-((0:Nat):Int)) 1
   rw[e1,e2]
   exact adP _ rfl
 . have e:b=(s.heap.push {cls:=.type "range",data:=.fields #[.int lo t,.int hi u,.int 1 v] }).objs.size:=by simpa using hb
   subst e
   exact I1.tH (adn _) (I1.hok.fresh (adn _))
def Sl(ta:TA):TI:=λσ H R=>ta σ H λvs H1=>∃j:Int,vs=[.int j] /\ -(2 ^ 62)<=j/\j<2 ^ 62/\R (yG 0 j.toNat) H1
theorem cW{a:Expr}{ta:TA}{p pos:Pos}(hg:Gl X "range")(hm:X.mg "range" = none)(ha:PA X [a] ta) (hs:starEach [a] X.env=[(false,eval a X.env)]:=by rfl):PI X tg (.Call (.Name "range" p) [a] [] pos) (Sl ta):=by
 intro pins s σ H R I h
 refine Call_ (mn I hg hm boot_range (aez (aP (ha pos pins s σ H _ I h) λus s1 ⟨vs,H1,I1,r1,q1⟩=>?_) hs rfl))
 obtain⟨j,e,q1,q2,q⟩:=q1
 subst e
 cases r1 with
 | cons r rr=>
  cases rr
  obtain⟨t,rfl⟩:=r
  exact call_range_1 (Ic I1 (by omega) (by omega) q1 q2 (by simpa using q))
def Za(wi:TI)(g:TG)(tb:TS):TS:=λD σ H=>wi σ H λJ H1=>∃W:Nat->Nat->St->Hp->Prop,(∃m,W 0 m σ H1)/\∀i m σ H,W i m σ H->
 (J.stop i H/\D.nx σ H)\/(J.go i H/\∃N:St->Hp->Prop,(∀bY H',N bY H'->∃m',m'<m/\W (i+1) m' bY H')/\∀x H',J.yld i H x H'->g x σ H' λia H2=>tb {D with nx:=N,ct:=N,bk:=D.nx} ia H2)
def qB(fp:List Addr)(h:Heap):List (Addr×Obj):=fp.filterMap λb=>(h.get? b).map λo=>(b,o)
theorem lL{fp:List Addr}{h:Heap}{b:Addr}{o:Obj}(hb:b∈fp)(e:h.get? b=some o):(b,o)∈qB fp h:=ahA.mpr ⟨b,hb,by rw[e];rfl⟩
theorem Ff{fp:List Addr}{h:Heap}{p:Addr×Obj}(hp:p∈qB fp h):p.1∈fp/\h.get? p.1=some p.2:=by
 obtain⟨b,hb,e⟩:=ahA.mp hp
 cases q:h.get? b with
 | none=>rw[q]at e;cases e
 | some o=>
  rw[q]at e
  have e':(b,o)=p:=adN e
  subst e'
  exact⟨hb,q⟩
theorem Inv.pinned{pins:List (Addr×Obj)}{σ:St}{H:Hp}{s:Shared}{fp:List Addr}(I:Inv X pins σ H s) (hf:∀b∈fp,jn X pins H b) (ho:∀b∈fp,∃o,s.heap.get? b=some o/\∀v,o.data≠.cell v):Inv X (pins++qB fp s.heap) σ H s:=
 I.BH λp hp=>(adu.mp hp).elim (λz=>I.pin p (adF _ z)) λz=>by
  obtain⟨hb,e⟩:=Ff z
  obtain⟨f0,f1,f2,_⟩:=hf p.1 hb
  obtain⟨o,e',d⟩:=ho p.1 hb
  rw[e]at e';cases e'
  exact⟨e,f0,f1,f2,d⟩
theorem Inv.o8{pins pl:List (Addr×Obj)}{σ:St}{H:Hp}{s:Shared}(I:Inv X (pins++pl) σ H s):Inv X pins σ H s:=I.BH λp hp=>I.pin p (adF _ (adT _ hp))
theorem dJ{iter:Expr}{body:List Stmt}{wi:TI}{g:TG}{tb:TS}{pos:Pos}(hp:PassesOwn (model X.prog X.w) X.A X.env X.xe) (hc:X.calm=true) (hi:PI X tg iter wi) (hg:PG X tg g) (hb:ja X body tb)
 (hs:∀x,foldedSetIterable iter X.env x=pure x:=by intro _;rfl):PS X (.For tg iter body [] pos) (Za wi g tb):=by
 intro pins s σ H D I h
 refine wpAny_For (aP (hi pins s σ H _ I h) λv s1 h1=>aP h1 λNQ s2 h2=>?_) hs
 obtain⟨it,fp,tn,J,H2,e,I2,T,sL,f2,W,⟨m0,w0⟩,turn⟩:=h2
 subst e
 have Ie:∀{H':Hp},(∀b∈fp,H' b=none)->∀b∈fp,jn X pins H' b:=λhn b hb=>⟨hn b hb,(f2 b hb).2⟩
 refine codeAny_forLoop_any (λn s'=>∃i bY H',Inv X pins bY H' s'/\tn i s'.heap/\(∀b∈fp,H' b=none)/\W i n bY H') ?_ m0 ⟨0,σ,H2,I2,sL,λb hb=>(f2 b hb).1,w0⟩
 rintro n s3 ⟨i,yF,H3,I3,Wz,WA,w3⟩
 rcases turn i n yF H3 w3 with⟨stop,qn⟩|⟨go,N,hN,step⟩
 . refine ae3 hp (aP (T.done X rfl rfl rfl hc i pins s3 yF H3 X.xe I3 (Ie WA) Wz stop) λr s4 ⟨hr,I4⟩=>?_)
   subst hr
   exact agc ⟨yF,H3,I4,qn⟩
 . refine ae3 hp (aP (T.item X rfl rfl rfl hc i pins s3 yF H3 X.xe I3 (Ie WA) Wz go) λr s4 ⟨u,hr,h4⟩=>?_)
   subst hr
   refine ae3 hp (aP h4 λ_ s5 ⟨x,H5,I5,r5,y5,BL,J2⟩=>?_)
   have I5':=I5.pinned (Ie J2) (T.obj _ _ BL)
   refine ae3 hp (aP (hg _ s5 yF H5 x u _ I5' r5 (step x H5 y5)) λ_ s6 ⟨σ6,H6,I6,q6⟩=>?_)
   refine ae3 hp (aP (hb _ s6 σ6 H6 _ I6 q6) λf s7 q7=>?_)
   have again:∀{yH:St}{H7:Hp},Inv X (pins++qB fp s5.heap) yH H7 s7->N yH H7->∃m,m<n/\∃i bY H',Inv X pins bY H' s7/\tn i s7.heap/\(∀b∈fp,H' b=none)/\W i m bY H':=λ{yH H7} I7 n7=>by
    obtain⟨m',hm,w7⟩:=hN yH H7 n7
    refine⟨m',hm,i+1,yH,H7,I7.o8,T.keep _ _ _ BL λb hb o e=>(I7.pin (b,o) (adF _ (adF _ (lL hb e)))).1,λb hb=>?_,w7⟩
    obtain⟨o,e,d⟩:=T.obj _ _ BL b hb
    exact(I7.pin (b,o) (adF _ (adF _ (lL hb e)))).2.1
   cases f with
   | next=>obtain⟨yH,H7,I7,n7⟩:=q7;exact again I7 n7
   | cont=>obtain⟨yH,H7,I7,n7⟩:=q7;exact again I7 n7
   | brk=>obtain⟨yH,H7,I7,q7⟩:=q7;exact⟨yH,H7,I7.o8,q7⟩
   | ret v=>obtain⟨x7,yH,H7,I7,r7,q7⟩:=q7;exact⟨x7,yH,H7,I7.o8,r7,q7⟩
end
theorem jQ{K:W.Frag}{a:Addr}{xs:List V}{g:TG}{tb:TS}{D:Ends}{σ:St}{H:Hp}(Pv:Nat->St->Hp->Prop)(h0:Pv 0 σ H)(hl:∀i σ H,i<=xs.length->Pv i σ H->aw K H a xs)
 (hs:∀i x σ H,xs[i]?=some x->Pv i σ H->g x σ H λia H2=>tb {D with nx:=Pv (i+1),ct:=Pv (i+1),bk:=D.nx} ia H2) (hd:∀σ H,Pv xs.length σ H->D.nx σ H) :
 ∃W:Nat->Nat->St->Hp->Prop,(∃m,W 0 m σ H)/\∀i m σ H,W i m σ H->
  ((uv K a).stop i H/\D.nx σ H)\/((uv K a).go i H/\∃N:St->Hp->Prop,(∀bY H',N bY H'->∃m',m'<m/\W (i+1) m' bY H')/\∀x H',(uv K a).yld i H x H'->g x σ H' λia H2=>tb {D with nx:=N,ct:=N,bk:=D.nx} ia H2):=by
 refine⟨λi m σ H=>m=xs.length-i/\i<=xs.length/\Pv i σ H,⟨xs.length,by simp,adW _,h0⟩,?_⟩
 rintro i m σ H ⟨rfl,hi,p⟩
 have q:=hl i σ H hi p
 by_cases eN:i<xs.length
 . refine .inr ⟨⟨xs,xs[i],q,by simp[eN]⟩,Pv (i+1),λbY H' p'=>⟨xs.length-(i+1),by omega,rfl,eN,p'⟩,λx H' y=>?_⟩
   obtain⟨e,y⟩:=y
   subst e
   exact hs i x σ _ (y xs q) p
 . have e:i=xs.length:=by omega
   subst e
   exact .inl ⟨⟨xs,q,adn _⟩,hd σ H p⟩
theorem gj{lo:Int}{n:Nat}{g:TG}{tb:TS}{D:Ends}{σ:St}{H:Hp}(Pv:Nat->St->Hp->Prop)(h0:Pv 0 σ H)
 (hs:∀i σ H,i<n->Pv i σ H->g (.int (lo+i)) σ H λia H2=>tb {D with nx:=Pv (i+1),ct:=Pv (i+1),bk:=D.nx} ia H2) (hd:∀σ H,Pv n σ H->D.nx σ H) :
 ∃W:Nat->Nat->St->Hp->Prop,(∃m,W 0 m σ H)/\∀i m σ H,W i m σ H->
  ((yG lo n).stop i H/\D.nx σ H)\/((yG lo n).go i H/\∃N:St->Hp->Prop,(∀bY H',N bY H'->∃m',m'<m/\W (i+1) m' bY H')/\∀x H',(yG lo n).yld i H x H'->g x σ H' λia H2=>tb {D with nx:=N,ct:=N,bk:=D.nx} ia H2):=by
 refine⟨λi m σ H=>m=n-i/\i<=n/\Pv i σ H,⟨n,by simp,adW _,h0⟩,?_⟩
 rintro i m σ H ⟨rfl,hi,p⟩
 by_cases eN:i<n
 . refine .inr ⟨eN,Pv (i+1),λbY H' p'=>⟨n-(i+1),by omega,rfl,eN,p'⟩,λx H' y=>?_⟩
   obtain⟨e,y⟩:=y
   subst e y
   exact hs i σ _ eN p
 . have e:i=n:=by omega
   subst e
   exact .inl ⟨adn _,hd σ H p⟩
abbrev R2:=V->V->Hp->VK->Prop
def gp(X:Cx)(f:Value->Value->Sem Value)(r:R2):Prop:=
 ∀(pins:List (Addr×Obj)) (s:Shared) (σ:St) (H:Hp) (x y:V) (v u:Value) (Q:VK),Inv X pins σ H s->RelV x v->RelV y u->r x y H Q->
  wpAny (model X.prog X.w) X.A (f v u) (EP X pins σ Q) X.xe s
def NR(X:Cx)(f:Value->Sem Value)(r:V->Hp->VK->Prop):Prop:=
 ∀(pins:List (Addr×Obj)) (s:Shared) (σ:St) (H:Hp) (x:V) (v:Value) (Q:VK),Inv X pins σ H s->RelV x v->r x H Q->
  wpAny (model X.prog X.w) X.A (f v) (EP X pins σ Q) X.xe s
def fJ(X:Cx)(f:Value)(r:List V->Hp->VK->Prop):Prop:=
 ∀(pins:List (Addr×Obj)) (s:Shared) (σ:St) (H:Hp) (xs:List V) (us:List Value) (Q:VK),Inv X pins σ H s->Vals xs us->r xs H Q->
  wpAny (model X.prog X.w) X.A (call f us) (EP X pins σ Q) X.xe s
def wJ(r:R2)(ta tb:TE):TE:=λσ H Q=>ta σ H λx H1=>tb σ H1 λy H2=>r x y H2 Q
def tUn(r:V->Hp->VK->Prop)(ta:TE):TE:=λσ H Q=>ta σ H λx H1=>r x H1 Q
def rI(C:Int->Int->Prop)(g:Int->Int->V):R2:=λx y H Q=>∃i j,x=.int i/\y=.int j/\C i j/\Q (g i j) H
def yI(g:Int->Int->V):R2:=λx y H Q=>∃i j,x=.int i/\y=.int j/\Q (g i j) H
def rU(g:Int->V):V->Hp->VK->Prop:=λx H Q=>∃i,x=.int i/\Q (g i) H
section
variable {X:Cx}{a b c:Expr}{ta tb tc:TE}{pos:Pos}
theorem Ig(ha:PE X a ta)(hb:PE X b tb){pins:List (Addr×Obj)}{s:Shared}{σ:St}{H:Hp}{R:V->V->Hp->Prop}(I:Inv X pins σ H s)
 (h:ta σ H λx H1=>tb σ H1 λy H2=>R x y H2){Q:Value->Shared->Prop}{f:Value->Value->Sem Value}
 (hf:∀v u s2 x y H2,Inv X pins σ H2 s2->RelV x v->RelV y u->R x y H2->wpAny (model X.prog X.w) X.A (f v u) Q X.xe s2) :
 wpAny (model X.prog X.w) X.A (eval a X.env) (λv dw=>wpAny (model X.prog X.w) X.A (eval b X.env) (λu vP=>wpAny (model X.prog X.w) X.A (f v u) Q X.xe vP) X.xe dw) X.xe s:=by
 refine aP (ha pins s σ H _ I h) λv s1 ⟨x,H1,I1,r1,q1⟩=>?_
 refine aP (hb pins s1 σ H1 _ I1 q1) λu s2 ⟨y,H2,I2,r2,q2⟩=>?_
 exact hf v u s2 x y H2 I2 r1 r2 q2
theorem aT{op:Operator}{r:R2}(ho:gp X (binaryOp op) r) (ha:PE X a ta) (hb:PE X b tb):PE X (.BinOp a op b pos) (wJ r ta tb):=by
 intro pins s σ H Q I h
 exact wpAny_BinOp (Ig ha hb I h λv u s2 x y H2 I2 rx ry q=>ho pins s2 σ H2 x y v u Q I2 rx ry q)
theorem Sm{op:UnaryOp}{r:V->Hp->VK->Prop}(ho:NR X (unaryOp op) r) (ha:PE X a ta):PE X (.UnaryOp op a pos) (tUn r ta):=by
 intro pins s σ H Q I h
 exact UnaryOp_ (aP (ha pins s σ H _ I h) λv s1 ⟨x,H1,I1,r1,q1⟩=>ho pins s1 σ H1 x v Q I1 r1 q1)
theorem J4{f:Value->Value->Sem Value}{C:Int->Int->Prop}{g:Int->Int->Int}
 (rule:∀(i j:Int) (t u:Tok) (s:Shared) (Q:Value->Shared->Prop) (E:Value->Shared->Prop),C i j->Q (.int (g i j) s.toks) {s with toks:=s.toks+1} -> wpAny (model X.prog X.w) X.A (f (.int i t) (.int j u)) Q E s) :
 gp X f (rI C λi j=>.int (g i j)):=by
 intro pins s σ H x y v u Q I rx ry h
 obtain⟨i,j,rfl,rfl,hc,q⟩:=h
 obtain⟨t,rfl⟩:=rx
 obtain⟨t',rfl⟩:=ry
 exact rule i j t t' s _ _ hc ⟨.int (g i j),H,I.tok _,⟨_,rfl⟩,q⟩
theorem Ih{f:Value->Value->Sem Value}{g:Int->Int->Int}
 (rule:∀(i j:Int) (t u:Tok) (s:Shared) (Q:Value->Shared->Prop) (E:Value->Shared->Prop),Q (.int (g i j) s.toks) {s with toks:=s.toks+1} -> wpAny (model X.prog X.w) X.A (f (.int i t) (.int j u)) Q E s) :
 gp X f (yI λi j=>.int (g i j)):=by
 intro pins s σ H x y v u Q I rx ry h
 obtain⟨i,j,rfl,rfl,q⟩:=h
 obtain⟨t,rfl⟩:=rx
 obtain⟨t',rfl⟩:=ry
 exact rule i j t t' s _ _ ⟨.int (g i j),H,I.tok _,⟨_,rfl⟩,q⟩
theorem NS{f:Value->Value->Sem Value}{g:Int->Int->Bool}
 (rule:∀(i j:Int) (t u:Tok) (s:Shared) (Q:Value->Shared->Prop) (E:Value->Shared->Prop),Q (.bool (g i j)) s->wpAny (model X.prog X.w) X.A (f (.int i t) (.int j u)) Q E s) :
 gp X f (yI λi j=>.bl (g i j)):=by
 intro pins s σ H x y v u Q I rx ry h
 obtain⟨i,j,rfl,rfl,q⟩:=h
 obtain⟨t,rfl⟩:=rx
 obtain⟨t',rfl⟩:=ry
 exact rule i j t t' s _ _ ⟨.bl (g i j),H,I,rfl,q⟩
def Zb(i j:Int):Prop:=0<j/\j<1073741824
def Ii(i j:Int):Prop:=(-(2 ^ 64)<i/\i<2 ^ 64)\/(-(2 ^ 64)<j/\j<2 ^ 64)
theorem Ii.ok{i j:Int}(h:Ii i j):IntMulOk i j:=by
 rcases h with⟨h1,h2⟩|⟨h1,h2⟩
 . exact .of_left (intBits_le_64 h1 h2)
 . exact .of_right (intBits_le_64 h1 h2)
theorem Dr(k:Nat):(0:Int)<=2 ^ k:=by
 rw[two_pow_cast]
 exact Int.natCast_nonneg _
theorem fh:gp X (binaryOp .Add) (yI λi j=>.int (i+j)):=Ih λ_ _ _ _ _ _ _ q=>add_int q
theorem Fg:gp X (binaryOp .Sub) (yI λi j=>.int (i-j)):=Ih λ_ _ _ _ _ _ _ q=>sub_int q
theorem jo:gp X (binaryOp .Mult) (rI Ii λi j=>.int (i*j)):=J4 λ_ _ _ _ _ _ _ hc q=>mul_int q hc.ok
theorem rL:gp X (binaryOp .FloorDiv) (rI Zb λi j=>.int (i / j)):=J4 λi j _ _ _ _ _ hc q=>by
 have h1:(0:Int)<j:=hc.1
 have h2:j<1073741824:=hc.2
 exact floordiv_int (by omega) (by rw[agl i (by omega)];exact q) (.inl (PyProof.noPylong_small (by omega)))
theorem jq:gp X (binaryOp .Mod) (rI (λ_ j=>0<j) λi j=>.int (i % j)):=J4 λi j _ _ _ _ _ hc q=>by
 have h1:(0:Int)<j:=hc
 exact mod_int' (by omega) (by rw[Int.fmod_eq_emod_of_nonneg i (by omega)];exact q)
theorem NT:gp X (binaryOp .RShift) (rI (λ_ j=>0<=j) λi j=>.int (i / 2 ^ j.toNat)):=J4 λi j _ _ _ _ _ hc q=>
 rshift_int hc (by rw[agl i (Dr _)];exact q)
theorem NU:gp X (binaryOp .BitAnd) (yI λi j=>.int (Builtin.bitAnd i j)):=Ih λ_ _ _ _ _ _ _ q=>and_int q
theorem unI{f:Value->Sem Value}{g:Int->Int}
 (rule:∀(i:Int) (t:Tok) (s:Shared) (Q:Value->Shared->Prop) (E:Value->Shared->Prop),Q (.int (g i) s.toks) {s with toks:=s.toks+1} -> wpAny (model X.prog X.w) X.A (f (.int i t)) Q E s) :
 NR X f (rU λi=>.int (g i)):=by
 intro pins s σ H x v Q I rx h
 obtain⟨i,rfl,q⟩:=h
 obtain⟨t,rfl⟩:=rx
 exact rule i t s _ _ ⟨.int (g i),H,I.tok _,⟨_,rfl⟩,q⟩
theorem NV:NR X (unaryOp .USub) (rU λi=>.int (-i)):=unI λ_ _ _ _ _ q=>neg_int q
end
def NW:V->V->Bool
 | .aY,.aY=>true | .aY,.int _=>true | .int _,.aY=>true | .aY,.bl _=>true | .bl _,.aY=>true | .aY,.str _=>true | .str _,.aY=>true
 | .int _,.int _=>true | .bl _,.bl _=>true | .str _,.str _=>true | .og _,.og _=>true
 | .int _,.str _=>true | .str _,.int _=>true | .bl _,.str _=>true | .str _,.bl _=>true
 | _,_=>false
def rEq:R2:=λx y H Q=>NW x y=true/\Q (.bl (decide (x=y))) H
def rNe:R2:=λx y H Q=>NW x y=true/\Q (.bl (!decide (x=y))) H
theorem BM{i j:Int} : decide (V.int i=V.int j)=(i == j):=by
 rw[aea]
 simp
theorem Fh{i j:Bool} : decide (V.bl i=V.bl j)=(i == j):=by
 rw[aea]
 simp
theorem BN{i j:Str} : decide (V.str i=V.str j)=(i == j):=by
 rw[aea]
 simp
theorem BO{i j:Array UInt8} : decide (V.og i=V.og j)=(i.toList == j.toList):=by
 rw[aea]
 cases i
 cases j
 simp
section
variable {X:Cx}{a b c:Expr}{ta tb tc:TE}{pos:Pos}
theorem bZ{pins:List (Addr×Obj)}{σ:St}{H:Hp}{s:Shared}{Q:VK}{k k':Bool}(I:Inv X pins σ H s) (q:Q (.bl k) H) (e:k=k'):EP X pins σ Q (.bool k') s:=by
 subst e
 exact⟨.bl k,H,I,rfl,q⟩
theorem jr:gp X (compareOp .Eq) rEq:=by
 intro pins s σ H x y v u Q I rx ry h
 obtain⟨hs,q⟩:=h
 cases x with
 | aY=>
  cases rx
  cases y with
  | aY=>cases ry;exact PySem.EqNone.eq_none_none (bZ I q (by simp))
  | bl j=>cases ry;exact PySem.EqNone.eq_none_bool (bZ I q (by simp))
  | int j=>obtain⟨t',rfl⟩:=ry;exact PySem.EqNone.eq_none_int (bZ I q (by simp))
  | str j=>obtain⟨t',rfl⟩:=ry;exact PySem.EqNone.eq_none_str (bZ I q (by simp))
  | _=>exact absurd (show false=true from hs) adO
 | bl i=>
  cases rx
  cases y with
  | aY=>cases ry;exact PySem.EqNone.eq_bool_none (bZ I q (by simp))
  | bl j=>cases ry;exact eq_bool (bZ I q Fh)
  | str j=>obtain⟨t',rfl⟩:=ry;exact PySem.EqMixed.eq_bool_str (bZ I q (by simp))
  | _=>exact absurd (show false=true from hs) adO
 | int i=>
  obtain⟨t,rfl⟩:=rx
  cases y with
  | aY=>cases ry;exact PySem.EqNone.eq_int_none (bZ I q (by simp))
  | int j=>obtain⟨t',rfl⟩:=ry;exact eq_int (bZ I q BM)
  | str j=>obtain⟨t',rfl⟩:=ry;exact PySem.EqMixed.eq_int_str (bZ I q (by simp))
  | _=>exact absurd (show false=true from hs) adO
 | str i=>
  obtain⟨t,rfl⟩:=rx
  cases y with
  | aY=>cases ry;exact PySem.EqNone.eq_str_none (bZ I q (by simp))
  | bl j=>cases ry;exact PySem.EqMixed.eq_str_bool (bZ I q (by simp))
  | int j=>obtain⟨t',rfl⟩:=ry;exact PySem.EqMixed.eq_str_int (bZ I q (by simp))
  | str j=>obtain⟨t',rfl⟩:=ry;exact eq_str (bZ I q BN)
  | _=>exact absurd (show false=true from hs) adO
 | og i=>
  obtain⟨t,rfl⟩:=rx
  cases y with
  | og j=>obtain⟨t',rfl⟩:=ry;exact W.eq_bytes (bZ I q BO)
  | _=>exact absurd (show false=true from hs) adO
 | _=>cases y <;> exact absurd (show false=true from hs) adO
theorem J5:gp X (compareOp .NotEq) rNe:=by
 intro pins s σ H x y v u Q I rx ry h
 obtain⟨hs,q⟩:=h
 cases x with
 | aY=>
  cases rx
  cases y with
  | aY=>cases ry;exact PySem.EqNone.ne_none_none (bZ I q (by simp))
  | bl j=>cases ry;exact PySem.EqNone.ne_none_bool (bZ I q (by simp))
  | int j=>obtain⟨t',rfl⟩:=ry;exact PySem.EqNone.ne_none_int (bZ I q (by simp))
  | str j=>obtain⟨t',rfl⟩:=ry;exact PySem.EqNone.ne_none_str (bZ I q (by simp))
  | _=>exact absurd (show false=true from hs) adO
 | bl i=>
  cases rx
  cases y with
  | aY=>cases ry;exact PySem.EqNone.ne_bool_none (bZ I q (by simp))
  | bl j=>cases ry;exact ne_bool (bZ I q (congrArg not Fh))
  | str j=>obtain⟨t',rfl⟩:=ry;exact PySem.EqMixed.ne_bool_str (bZ I q (by simp))
  | _=>exact absurd (show false=true from hs) adO
 | int i=>
  obtain⟨t,rfl⟩:=rx
  cases y with
  | aY=>cases ry;exact PySem.EqNone.ne_int_none (bZ I q (by simp))
  | int j=>obtain⟨t',rfl⟩:=ry;exact ne_int (bZ I q (congrArg not BM))
  | str j=>obtain⟨t',rfl⟩:=ry;exact PySem.EqMixed.ne_int_str (bZ I q (by simp))
  | _=>exact absurd (show false=true from hs) adO
 | str i=>
  obtain⟨t,rfl⟩:=rx
  cases y with
  | aY=>cases ry;exact PySem.EqNone.ne_str_none (bZ I q (by simp))
  | bl j=>cases ry;exact PySem.EqMixed.ne_str_bool (bZ I q (by simp))
  | int j=>obtain⟨t',rfl⟩:=ry;exact PySem.EqMixed.ne_str_int (bZ I q (by simp))
  | str j=>obtain⟨t',rfl⟩:=ry;exact ne_str (bZ I q (congrArg not BN))
  | _=>exact absurd (show false=true from hs) adO
 | og i=>
  obtain⟨t,rfl⟩:=rx
  cases y with
  | og j=>obtain⟨t',rfl⟩:=ry;exact W.ne_bytes (bZ I q (congrArg not BO))
  | _=>exact absurd (show false=true from hs) adO
 | _=>cases y <;> exact absurd (show false=true from hs) adO
theorem yf:gp X (compareOp .Lt) (yI λi j=>.bl (decide (i<j))):=NS λ_ _ _ _ _ _ _ q=>lt_int q
theorem yg:gp X (compareOp .Gt) (yI λi j=>.bl (decide (j<i))):=NS λ_ _ _ _ _ _ _ q=>gt_int q
theorem cU(b:Expr){op:CmpOp}(h:op≠.In:=by decide)(h2:op≠.NotIn:=by decide):behindInMarks op b=false:=by
 have e1:(op == CmpOp.In)=false:=by cases op <;> first|rfl|exact absurd rfl h
 have e2:(op == CmpOp.NotIn)=false:=by cases op <;> first|rfl|exact absurd rfl h2
 cases b <;> simp[behindInMarks,e1,e2]
theorem vQ{op:CmpOp}{r:R2}(ho:gp X (compareOp op) r) (ha:PE X a ta) (hb:PE X b tb) (hm:behindInMarks op b=false):PE X (.Compare a [op] [b] pos) (wJ r ta tb):=by
 intro pins s σ H Q I h
 exact wpAny_Compare1 (Ig ha hb I h λv u s2 x y H2 I2 rx ry q=>ho pins s2 σ H2 x y v u Q I2 rx ry q) hm
def Sn(t:TE):TT:=λσ H Q=>t σ H λx H'=>∃k,x=.bl k/\Q k H'
theorem cF{op:CmpOp}{r:R2}(ho:gp X (compareOp op) r) (ha:PE X a ta) (hb:PE X b tb) (hm:behindInMarks op b=false):PT X (.Compare a [op] [b] pos) (Sn (wJ r ta tb)):=by
 intro pins s σ H Q I h
 refine wpAny_isTrue_Compare1 (aP (ha pins s σ H _ I h) λv s1 ⟨x,H1,I1,r1,q1⟩=>aP (hb pins s1 σ H1 _ I1 q1) λu s2 ⟨y,H2,I2,r2,q2⟩=>
  aP (ho pins s2 σ H2 x y v u _ I2 r1 r2 q2) λc s3 ⟨z,H3,I3,r3,k,e,q3⟩=>?_) hm
 subst e
 cases r3
 exact afR ⟨H3,I3,q3⟩
theorem oh:(sizeLine:Nat)<2 ^ 63:=by rw[aeF];decide
theorem fi:gp X (binaryOp .Add) (λx y H Q=>∃i j,x=.str i/\y=.str j/\i.length+j.length<=sizeLine/\Q (.str (i++j)) H):=by
 intro pins s σ H x y v u Q I rx ry h
 obtain⟨i,j,rfl,rfl,hz,q⟩:=h
 obtain⟨t,rfl⟩:=rx
 obtain⟨t',rfl⟩:=ry
 exact add_str (λt' tk=>⟨.str (i++j),H,I.tok _,⟨_,rfl⟩,q⟩) hz
theorem vals1{x:V}{us:List Value}(r:Vals [x] us):∃u,us=[u]/\RelV x u:=by
 cases r with
 | cons r1 r2=>cases r2;exact⟨_,rfl,r1⟩
theorem vals2{x y:V}{us:List Value}(r:Vals [x,y] us):∃u w',us=[u,w']/\RelV x u/\RelV y w':=by
 cases r with
 | cons r1 r2=>
  cases r2 with
  | cons r3 r4=>cases r4;exact⟨_,_,rfl,r1,r3⟩
theorem Fi(hc:X.calm=true):fJ X (.builtin "min") (λxs H Q=>∃i j,xs=[.int i,.int j]/\Q (.int (if j<i then j else i)) H):=by
 intro pins s σ H xs us Q I r h
 obtain⟨i,j,rfl,q⟩:=h
 obtain⟨u,w',rfl,⟨t,rfl⟩,⟨t',rfl⟩⟩:=vals2 r
 refine min_two_ints (I.ok.hd hc) λh' tk k=>⟨_,H,I.kept k,?_,q⟩
 by_cases hj:j<i
 . rw[adM hj,adM hj];exact⟨_,rfl⟩
 . rw[adw hj,adw hj];exact⟨_,rfl⟩
theorem Fj:fJ X (.type "int") (λxs H Q=>(∃i,xs=[.int i]/\Q (.int i) H)\/∃k,xs=[.bl k]/\Q (.int (if k then 1 else 0)) H):=by
 intro pins s σ H xs us Q I r h
 rcases h with⟨i,rfl,q⟩|⟨k,rfl,q⟩
 . obtain⟨u,rfl,t,rfl⟩:=vals1 r
   exact call_int_int ⟨.int i,H,I,⟨_,rfl⟩,q⟩
 . obtain⟨u,rfl,r1⟩:=vals1 r
   cases r1
   exact call_int_bool ⟨.int (if k then 1 else 0),H,I.tok _,⟨_,rfl⟩,q⟩
end
structure tI(h:Heap) (x dx C:Addr) (mA:Str->Option Value):Prop where
 obj:h.get? x=some (W.instObj C dx)
 ns:h.Ns1 dx mA
 ne:dx≠x
theorem Fl{h:Heap}{dx:Addr}{mA:Str->Option Value}(n:h.Ns1 dx mA):∃od,h.get? dx=some od/\∀name,W.lookIn name od=some (mA name):=by
 obtain⟨o,es,ep,ho,hd,hk,_,hm⟩:=n
 refine⟨o,ho,λname=>?_⟩
 have e:=hm name
 unfold nsFind findBy at e
 rw[← Array.find?_toList]at e
 unfold W.lookIn
 rw[hd]
 dsimp only
 split
 . rename_i y q
   rw[q]at e
   exact congrArg some e
 . rename_i q
   rw[q]at e
   have a:es.toList.any (·.refKey)=false:=by
    rw[List.any_eq_false]
    intro y hy
    obtain⟨z,t,jt⟩:=hk y (ahl.mp hy)
    simp[DictEntry.refKey,jt]
   have a':¬ es.toList.any (·.refKey)=true:=by rw[a];exact adO
   rw[adw a']
   exact congrArg some e
theorem tI.look{h:Heap}{x dx C:Addr}{mA:Str->Option Value}(I:tI h x dx C mA):∃od,W.InstAt h x (W.instObj C dx) C (some od)/\∀name,W.lookIn name od=some (mA name):=
 let ⟨od,ho,hl⟩:=Fl I.ns
 ⟨od,⟨I.obj,rfl,rfl,ho⟩,hl⟩
section
variable {prog:Program}{w:World}{A:Around}{E:Value->Shared->Prop}{s:Shared}{K:W.Frag}{x dx C f:Addr}{mA:Str->Option Value}{name:Str}{v:Value}
theorem get_map{expr:Bool}{Q:Value->Shared->Prop}(X:K.In s.heap)(I:tI s.heap x dx C mA)(hg:W.plainGet K C name=true)(hh:W.hasDictIn K C=true)
 (ha:W.findIn K (.ref C) name=some none) (hv:mA name=some v) (Fn:W.handedIn v=true) (h:Q v {s with toks:=s.toks+1}) :
 wpAny (model prog w) A (getAttr (.ref x) name expr) Q E s:=by
 obtain⟨od,J,hl⟩:=I.look
 exact W.get_value X J (ahB hg).1 (W.findObj_own hh ha rfl (by rw[hl,hv])) Fn h
theorem Ij{pl:Sem Bool}{Q:Value×List Value->Shared->Prop}(X:K.In s.heap)(I:tI s.heap x dx C mA)(hg:W.plainGet K C name=true)
 (hf:W.findIn K (.ref C) name=some (some (.ref f))) (ht:W.isFn K (.ref f)=true) (hv:mA name=none) (h:Q (.ref f,[.ref x]) s) :
 wpAny (model prog w) A (getMethod (.ref x) name pl) Q E s:=by
 obtain⟨od,J,hl⟩:=I.look
 exact W.method_fn X J (ahB hg).1 (ahB hg).2 hf (afA.mp ht) (by show (W.lookIn name od).map (·.isSome)=some false;rw[hl,hv];rfl) h
theorem Mj{ns:List Str}{Q:Unit->Shared->Prop}(X:K.In s.heap)(I:tI s.heap x dx C mA)
 (hs:W.findIn K (.ref C) "__setattr__" = some (some (.builtin "object.__setattr__"))) (hp:W.plainOver K C=true) (ht:W.takerIn K C name=some none) (hh:W.hasDictIn K C=true)
 (hw:PySem.Within mA ns) (hsz:ns.length<=sizeLine)
 (h:∀h',tI h' x dx C (λy=>if y=name then some v else mA y)->Heap.SameBut dx s.heap h'->Q () {s with heap:=h',toks:=s.toks+2}) :
 wpAny (model prog w) A (setAttr (.ref x) name v) Q E s:=by
 obtain⟨od,J,hl⟩:=I.look
 refine W.set_plain X J hs (W.osa_open (s:={s with toks:=s.toks+1}) (r:=none) X J hp ht λb=>?_)
 obtain⟨cd,hc,hd'⟩:=W.any_some hh
 have hx:s.heap.get? x=some ⟨.ref C,some dx,.plain,#[]⟩:=I.obj
 refine adk (adv (adk (adk (wpAny_loadPart hx (adk (W.Looks.here (s:={s with toks:=s.toks+1}) (W.looks_clsIn X hc) ?_))))))
 rw[hd']
 refine adv (a:=some dx) (adk (adv (adk ?_)))
 refine wpAny_nsSet1 (s:={s with toks:=s.toks+1}) I.ns λh' iE uw=>?_
 obtain⟨oD,esD,epD,hoD,hdD,hcD⟩:=iE.count (PySem.Within.cons name v hw)
 refine adk (wpAny_lookBehind hoD (by rw[hdD];exact pastItsLine_dict (ady hcD (by rw[adL];omega))) ?_)
 exact adv (h _ ⟨(uw.2 _ (adG I.ne)).trans I.obj,iE,I.ne⟩ uw)
theorem Ik{R:Result->Shared->Prop}{vs:List Value}{kw:List (Str×Value)}(X:K.In s.heap) (hm:W.makesIn K C=true)
 (hi:W.findIn K (.ref C) "__init__" = some (some (.ref f))) (hf:W.typeIn K (.ref f)=some (.type "function"))
 (h:codeAny (model prog w) (A.under (.builtin "type.__call__" ⟨.ref C::vs,kw⟩)) (.call (.ref f) ⟨.ref (s.heap.objs.size+1)::vs,kw⟩) (W.InitBack (s.heap.objs.size+1) R)
  {s with heap:=(s.heap.push W.emptyDict).push (W.instObj C s.heap.objs.size)}) :
 codeAny (model prog w) A (.call (.ref C) ⟨vs,kw⟩) R s:=by
 obtain⟨hh,g,d,t,os⟩:=s
 exact W.make_core (W.makes_of X hm) (W.looks_findIn X hi) (λself=>W.bind_fn X self hf) (.inl rfl) h
end
def aq(f:Str)(v:V):List (Str×V)->List (Str×V)
 | []=>[(f,v)]
 | (g,x)::r=>if g=f then (g,v)::r else (g,x)::aq f v r
theorem aj(f g:Str)(v:V):∀fs:List (Str×V),(aq f v fs).lookup g=if g=f then some v else fs.lookup g
 | []=>by
  show List.lookup g [(f,v)]=_
  by_cases h:g=f
  . have hb:(g == f)=true:=afA.mpr h
    simp only[List.lookup,hb,adM h]
  . have hb:(g == f)=false:=aej.mpr h
    simp only[List.lookup,hb,adw h]
 | (k,x)::r=>by
  have ih:=aj f g v r
  rw[show aq f v ((k,x)::r)=(if k=f then (k,v)::r else (k,x)::aq f v r) from rfl]
  by_cases hk:k=f
  . rw[adM hk]
    by_cases h:g=k
    . have hb:(g == k)=true:=afA.mpr h
      simp only[List.lookup,hb,adM (h.trans hk)]
    . have hb:(g == k)=false:=aej.mpr h
      simp only[List.lookup,hb,adw (λe:g=f=>h (e.trans hk.symm))]
  . rw[adw hk]
    by_cases h:g=k
    . have hb:(g == k)=true:=afA.mpr h
      simp only[List.lookup,hb,adw (λe:g=f=>hk (h.symm.trans e))]
    . have hb:(g == k)=false:=aej.mpr h
      simp only[List.lookup,hb]
      exact ih
theorem qC(f:Str)(v:V):∀fs:List (Str×V),f∈(aq f v fs).map (·.1)/\∀g,g∈fs.map (·.1)->g∈(aq f v fs).map (·.1)
 | []=>⟨by simp[aq],λg h=>by simp at h⟩
 | (k,x)::r=>by
  obtain⟨i1,i2⟩:=qC f v r
  rw[show aq f v ((k,x)::r)=(if k=f then (k,v)::r else (k,x)::aq f v r) from rfl]
  by_cases hk:k=f
  . rw[adM hk]
    subst hk
    exact⟨by simp,λg h=>by simpa using h⟩
  . rw[adw hk]
    refine⟨?_,λg h=>?_⟩
    . rw[adQ]
      exact adx _ i1
    . rw[adQ]at h ⊢
      rcases adq.mp h with e|e
      . exact adq.mpr (.inl e)
      . exact adx _ (i2 g e)
theorem nQ(f:Str)(v:V):∀fs:List (Str×V),(aq f v fs).length<=fs.length+1
 | []=>by simp[aq]
 | (k,x)::r=>by
  have ih:=nQ f v r
  rw[show aq f v ((k,x)::r)=(if k=f then (k,v)::r else (k,x)::aq f v r) from rfl]
  by_cases hk:k=f
  . rw[adM hk,adL,adL];omega
  . rw[adw hk,adL,adL];omega
theorem gv.some_of{v:V}{o:Option Value}(r:gv (some v) o):∃u,o=some u/\RelV v u:=by
 cases o with
 | none=>exact(show False from r).elim
 | some u=>exact⟨u,rfl,r⟩
theorem gv.none_of{o:Option Value}(r:gv none o):o=none:=by
 cases o with
 | none=>rfl
 | some u=>exact(show False from r).elim
theorem Fo{v:V}{u:Value}(r:RelV v u):W.handedIn u=true:=by
 cases v with
 | aY=>cases(show u=Value.none from r);rfl
 | bl b=>cases(show u=Value.bool b from r);rfl
 | int i=>obtain⟨t,e⟩:=(show ∃t,u=Value.int i t from r);cases e;rfl
 | str x=>obtain⟨t,e⟩:=(show ∃t,u=Value.str x t from r);cases e;rfl
 | og b=>obtain⟨t,e⟩:=(show ∃t,u=Value.bytes b t from r);cases e;rfl
 | wG b=>obtain⟨t,e⟩:=(show ∃t,u=Value.float b t from r);cases e;rfl
 | ref a=>cases(show u=Value.ref a from r);rfl
 | ty n=>cases(show u=Value.type n from r);rfl
section
variable {P:Program}{w:World}{H H':Hp}{h h':Heap}{a C dx:Addr}{fs fs':List (Str×V)}
theorem rM(hok:eC P w H h) (e:H a=some (.ins C dx fs)):∃mA,tI h a dx C mA/\(∀f,gv (fs.lookup f) (mA f))/\PySem.Within mA (fs.map (·.1))/\fs.length<=1000/\H dx=some (.own a):=by
 obtain⟨d,z,ne,ob,mA,n,r,q⟩:=(show bJ P w H h a (.ins C dx fs) from hok a _ e)
 exact⟨mA,⟨ob,n,ne⟩,r,q,z,d⟩
end
structure om(K:W.Frag) (C:Addr):Prop where
 pg:W.plainGet K C Str.empty=true
 hd:W.hasDictIn K C=true
 po:W.plainOver K C=true
 sa:W.findIn K (.ref C) "__setattr__" = some (some (.builtin "object.__setattr__"))
theorem om.get{K:W.Frag}{C:Addr}(c:om K C)(f:Str):W.plainGet K C f=true:=c.pg
def cA(K:W.Frag)(C:Addr)(f:Str):Prop:=W.findIn K (.ref C) f=some none
theorem cA.So{K:W.Frag}{C:Addr}{f:Str}(n:cA K C f):W.takerIn K C f=some none:=by
 unfold W.takerIn
 rw[show W.findIn K (.ref C) f=some none from n]
 rfl
structure Meth(K:W.Frag) (C:Addr) (m:Str) (f:Addr):Prop where
 at_:W.findIn K (.ref C) m=some (some (.ref f))
 fn:W.isFn K (.ref f)=true
 kp:W.keepIn K (.ref f)=true
section
variable {X:Cx}{pins:List (Addr×Obj)}{σ:St}{H:Hp}{s:Shared}{a C dx:Addr}{fs:List (Str×V)}{f:Str}{v:V}{A:Around}{E:Value->Shared->Prop}
theorem Ds{b:Bool}{Q:Value->Shared->Prop}(I:Inv X pins σ H s) (e:H a=some (.ins C dx fs)) (c:om X.K C) (n:cA X.K C f) (l:fs.lookup f=some v)
 (h:∀u s',Inv X pins σ H s'->RelV v u->Q u s'):wpAny (model X.prog X.w) A (getAttr (.ref a) f b) Q E s:=by
 obtain⟨mA,O,r,_,_,_⟩:=rM I.hok e
 obtain⟨u,hu,ru⟩:=gv.some_of (v:=v) (o:=mA f) (by rw[← l];exact r f)
 exact get_map I.hZ O (c.get f) c.hd n hu (Fo ru) (h u _ (I.tok _) ru)
theorem ux{m:Str}{g:Addr}{pl:Sem Bool}{Q:Value×List Value->Shared->Prop}(I:Inv X pins σ H s) (e:H a=some (.ins C dx fs)) (c:om X.K C) (k:Meth X.K C m g) (l:fs.lookup m=none)
 (h:Q (.ref g,[.ref a]) s):wpAny (model X.prog X.w) A (getMethod (.ref a) m pl) Q E s:=by
 obtain⟨mA,O,r,_,_,_⟩:=rM I.hok e
 have hn:mA m=none:=gv.none_of (by rw[← l];exact r m)
 exact Ij I.hZ O (c.get m) k.at_ k.fn hn h
theorem Dt{y:V}{u:Value}{Q:Unit->Shared->Prop}(I:Inv X pins σ H s) (e:H a=some (.ins C dx fs)) (c:om X.K C) (n:cA X.K C f) (hl:fs.length<1000) (ry:RelV y u)
 (h:∀s',Inv X pins σ (upd H a (.ins C dx (aq f y fs))) s'->Q () s'):wpAny (model X.prog X.w) A (setAttr (.ref a) f u) Q E s:=by
 obtain⟨mA,O,r,wi,_,ho⟩:=rM I.hok e
 have hz:(fs.map (·.1)).length<=sizeLine:=by rw[abc,aeF];omega
 refine Mj I.hZ O c.sa c.po n.So c.hd wi hz λh' O' sb=>h _ ?_
 have hd:∃o,h'.get? dx=some o:=let ⟨o,_,_,e',_⟩:=O'.ns; ⟨o,e'⟩
 refine I.write (x:=a) (e:=dx) (by rw[e];exact True.intro) (.inr ho) (λb q hb z=>(sb.2 b hb).trans z) hd ?_
 refine⟨by rw[ah O.ne];exact ho,?_,O.ne,O'.obj,_,O'.ns,λg=>?_,λg hg=>?_⟩
 . have:=nQ f y fs;omega
 . show gv ((aq f y fs).lookup g) (if g=f then some u else mA g)
   rw[aj]
   by_cases q:g=f
   . rw[adM q,adM q];exact ry
   . rw[adw q,adw q];exact r g
 . by_cases q:g=f
   . rw[q];exact(qC f y fs).1
   . refine(qC f y fs).2 g (wi g λz=>hg ?_)
     show (if g=f then some u else mA g)=none
     rw[adw q];exact z
theorem Inv.made(I:Inv X pins σ H s):Inv X pins σ (upd (upd H s.heap.objs.size (.own (s.heap.objs.size+1))) (s.heap.objs.size+1) (.ins C s.heap.objs.size []))
 {s with heap:=(s.heap.push W.emptyDict).push (W.instObj C s.heap.objs.size)}:=by
 have e1:(s.heap.push W.emptyDict).get? s.heap.objs.size=some W.emptyDict:=adP s.heap rfl
 have e2:((s.heap.push W.emptyDict).push (W.instObj C s.heap.objs.size)).get? (s.heap.objs.size+1)=some (W.instObj C s.heap.objs.size):=by
  have:=adP (s.heap.push W.emptyDict) (o:=W.instObj C s.heap.objs.size) rfl
  rwa[aff]at this
 have e3:(s.heap.push W.emptyDict).Ns s.heap.objs.size (λ_=>none):=⟨W.emptyDict,#[],_,e1,rfl,(λe he=>absurd he (by simp)),λ_=>rfl⟩
 have I1:=I.laid (a:=s.heap.objs.size) (o:=.own (s.heap.objs.size+1)) (h':=s.heap.push W.emptyDict) (t':=s.toks) (λb u q=>adl _ q) (adn _) ⟨_,e1⟩
 refine I1.laid (a:=s.heap.objs.size+1) (o:=.ins C s.heap.objs.size []) (t':=s.toks) (λb u q=>adl _ q) (ag7 (aff _ _)) ?_
 have ne:s.heap.objs.size≠s.heap.objs.size+1:=adR (af7 _)
 refine⟨by rw[ah ne,af],adW _,ne,e2,λ_=>none,(Heap.Ns1.of_empty e3).at λo q=>adl _ q,λ_=>True.intro,λy hy=>absurd rfl hy⟩
theorem Ml{prog:Program}{w:World}{env:Env}{e:Expr}{f:Str}{pos:Pos}{s:Shared}{Q:Value->Shared->Prop}(hb:attributeBase e f env (eval e env)=eval e env)
 (h:wpAny (model prog w) A (eval e env) (λo dw=>wpAny (model prog w) A (getAttr o f true) Q E dw) E s):wpAny (model prog w) A (eval (.Attribute e f pos) env) Q E s:=
 Attribute_any_ h (by rw[arm_eval_Attribute,hb])
end
def Zc(K:W.Frag)(ta:TE)(f:Str):TE:=λσ H Q=>ta σ H λx H1=>∃a C dx fs v,x=.ref a/\H1 a=some (.ins C dx fs)/\om K C/\cA K C f/\fs.lookup f=some v/\Q v H1
def Zd(K:W.Frag)(ta tv:TE)(f:Str):TS:=λD σ H=>tv σ H λy H1=>ta σ H1 λx H2=>∃a C dx fs,x=.ref a/\H2 a=some (.ins C dx fs)/\om K C/\cA K C f/\fs.length<1000/\
 D.nx σ (upd H2 a (.ins C dx (aq f y fs)))
section
variable {X:Cx}{o e value:Expr}{f:Str}{pos pos' Ze:Pos}{ta tv:TE}
theorem aM(he:PE X e ta) (hb:attributeBase e f X.env (eval e X.env)=eval e X.env):PE X (.Attribute e f pos) (Zc X.K ta f):=by
 intro pins s σ H Q I h
 refine Ml hb (aP (he pins s σ H _ I h) λu s1 ⟨x,H1,I1,rx,a,C,dx,fs,v,ex,ea,c,n,l,q⟩=>?_)
 subst ex
 obtain rfl:u=Value.ref a:=rx
 exact Ds I1 ea c n l λu' s2 I2 ru=>⟨v,H1,I2,ru,q⟩
theorem dh(ha:PE X o ta)(hv:PE X value tv) (hs:swapsWith value (some (.Attribute o f pos')) pos.line X.env=pure false):PS X (.Assign [.Attribute o f pos'] value pos) (Zd X.K ta tv f):=by
 intro pins s σ H D I h
 refine plainObj_wpAny_Assign_Attribute (aP (hv pins s σ H _ I h) λu s1 ⟨y,H1,I1,ry,q⟩=>aP (ha pins s1 σ H1 _ I1 q) λov s2 ⟨x,H2,I2,rx,a,C,dx,fs,ex,ea,c,n,l,q2⟩=>?_) hs
 subst ex
 obtain rfl:ov=Value.ref a:=rx
 exact Dt I2 ea c n l ry λs3 I3=>⟨σ,_,I3,q2⟩
theorem Se{pl:Sem Bool}{m:Str}{apos:Pos}{args:List Expr}{pins:List (Addr×Obj)}{s:Shared}{σ:St}{H:Hp}{Q:Value->Shared->Prop}{te:TE}(he:PE X e te) (I:Inv X pins σ H s)
 (h:te σ H λx H1=>∃a C dx fs g,x=.ref a/\H1 a=some (.ins C dx fs)/\om X.K C/\Meth X.K C m g/\fs.lookup m=none/\
  ∀s1,Inv X pins σ H1 s1->wpAny (model X.prog X.w) X.A (callWith pos (.ref g) [.ref a] (backTo pos (starEach args X.env)) (backToKw pos (keywordEach [] X.env))) Q X.xe s1)
 (ht:eval (.Call (.Attribute e m apos) args [] pos) X.env=(do
  let ov ← eval e X.env
  standAt apos.atName
  let (f,first) ← holding [ov] (getMethod ov m pl)
  callWith pos f first (backTo pos (starEach args X.env)) (backToKw pos (keywordEach [] X.env)))) :
 wpAny (model X.prog X.w) X.A (eval (.Call (.Attribute e m apos) args [] pos) X.env) Q X.xe s:=by
 refine W.methodCall_KW (pl:=pl) (aP (he pins s σ H _ I h) λu s1 ⟨x,H1,I1,rx,a,C,dx,fs,g,ex,ea,c,k,l,q⟩=>?_) ht
 subst ex
 obtain rfl:u=Value.ref a:=rx
 exact ux I1 ea c k l (q s1 I1)
end
section
variable {X:Cx}{pins:List (Addr×Obj)}{σ:St}{H:Hp}{s:Shared}{A:Around}{E:Value->Shared->Prop}{Q:Value->Shared->Prop}{c:Value}{b:Bool}
inductive jR(K:W.Frag) (H:Hp):V->Value->Prop where
 | aY:jR K H .aY (.type "NoneType")
 | bl (x:Bool):jR K H (.bl x) (.type "bool")
 | int (i:Int):jR K H (.int i) (.type "int")
 | str (x:Str):jR K H (.str x) (.type "str")
 | wG (x:UInt64):jR K H (.wG x) (.type "float")
 | lst {a:Addr}{xs:List V}(e:H a=some (.lst xs)):jR K H (.ref a) (.type "list")
 | gh {a:Addr}{o:Obj}{xs:List V}(e:H a=some (.gh o (.lst xs))):jR K H (.ref a) (.type "list")
 | tup {a:Addr}{xs:List V}(e:H a=some (.tup xs)):jR K H (.ref a) (.type "tuple")
 | dK {a:Addr}{kvs:List (Key×V)}(e:H a=some (.dK kvs)):jR K H (.ref a) (.type "dict")
 | dT {a:Addr}{kvs:List (List Key×V)}(e:H a=some (.dT kvs)):jR K H (.ref a) (.type "dict")
 | ins {a C dx:Addr}{fs:List (Str×V)}(e:H a=some (.ins C dx fs)) (cl:om K C) (ha:W.findIn K (.ref C) "__class__" = some (some (.builtin "object.__class__")))
  (hn:W.specialIn K (.builtin "object.__class__") "__get__" = some (some (.builtin "getset_descriptor.__get__"))) (Fp:W.takesIn K (.builtin "object.__class__")=some true)
  (hm:W.mroIn K C (.type "object")=some true):jR K H (.ref a) (.ref C)
theorem Fq{x:V}{u t:Value}(I:Inv X pins σ H s)(rx:RelV x u)(ty:jR X.K H x t)(e:W.kitOne X.K t c=some b) (h:∀tk,Q (.bool b) {s with toks:=tk}) :
 wpAny (model X.prog X.w) A (call (.builtin "isinstance") [u,c]) Q E s:=by
 cases ty with
 | aY=>cases(show u=Value.none from rx);exact afw W.kitx_none I.hZ True.intro e (λz=>nomatch z) h
 | bl y=>cases(show u=Value.bool y from rx);exact afw W.kitx_bool I.hZ True.intro e (λz=>nomatch z) h
 | int i=>obtain⟨t,q⟩:=(show ∃t,u=Value.int i t from rx);cases q;exact afw W.kitx_int I.hZ True.intro e (λz=>nomatch z) h
 | str y=>obtain⟨t,q⟩:=(show ∃t,u=Value.str y t from rx);cases q;exact afw W.kitx_str I.hZ True.intro e (λz=>nomatch z) h
 | wG y=>obtain⟨t,q⟩:=(show ∃t,u=Value.float y t from rx);cases q;exact afw W.kitx_float I.hZ True.intro e (λz=>nomatch z) h
 | @lst a xs ea=>
  cases(show u=Value.ref a from rx)
  obtain⟨_,_,n,_,h1⟩:=(show bJ X.prog X.w H s.heap a (.lst xs) from I.hok a _ ea)
  exact afw W.kitx_list I.hZ ⟨_,h1,rfl⟩ e (λz=>nomatch z) h
 | @gh a ob xs ea=>
  cases(show u=Value.ref a from rx)
  obtain⟨_,_,_,n,_,h1⟩:=(show bJ X.prog X.w H s.heap a (.gh ob (.lst xs)) from I.hok a _ ea)
  exact afw W.kitx_list I.hZ ⟨_,h1,rfl⟩ e (λz=>nomatch z) h
 | @tup a xs ea=>
  cases(show u=Value.ref a from rx)
  obtain⟨_,_,_,p⟩:=(show bJ X.prog X.w H s.heap a (.tup xs) from I.hok a _ ea)
  obtain⟨o,h1,h2,_⟩:=p
  exact afw W.kitx_tuple I.hZ ⟨o,h1,h2⟩ e (λz=>nomatch z) h
 | @dK a kvs ea=>
  cases(show u=Value.ref a from rx)
  obtain⟨_,_,vs,_,p⟩:=(show bJ X.prog X.w H s.heap a (.dK kvs) from I.hok a _ ea)
  obtain⟨o,es,ep,h1,h2,_⟩:=p
  exact afw W.kitx_dict I.hZ ⟨o,h1,h2.1⟩ e (λz=>nomatch z) h
 | @dT a kvs ea=>
  cases(show u=Value.ref a from rx)
  obtain⟨_,_,xs,_,o,es,ep,h1,h2,_⟩:=(show bJ X.prog X.w H s.heap a (.dT kvs) from I.hok a _ ea)
  exact afw W.kitx_dict I.hZ ⟨o,h1,h2.1⟩ e (λz=>nomatch z) h
 | @ins a C dx fs ea cl ha hn Fp hm=>
  cases(show u=Value.ref a from rx)
  obtain⟨mA,O,_⟩:=rM I.hok ea
  obtain⟨od,J,_⟩:=O.look
  exact afw (W.kitx_own (cl.get _) cl.hd ha hn Fp hm) I.hZ J e (λz=>nomatch z) h
end
structure aZ(k:Nat) (A:Around):Prop where
 hd:A.handled=none
 dp:A.depth+3*k+5<recursionLimit
 un:A.units+16*k+200<cLine
theorem aZ.mono{j k:Nat}{A:Around}(r:aZ k A)(h:j<=k):aZ j A:=⟨r.hd,by have:=r.dp;omega,by have:=r.un;omega⟩
theorem aZ.deeper{k:Nat}{A:Around}(r:aZ (k+1) A) (env:Env):aZ k (A.deeper env):=
 ⟨r.hd,by have:=r.dp;show A.depth+1+3*k+5<_;omega,by have:=r.un;show A.units+3+16*k+200<_;omega⟩
theorem aZ.in1{k:Nat}{A:Around}(r:aZ (k+1) A):aZ k A.in1:=
 ⟨r.hd,by have:=r.dp;show A.depth+3*k+5<_;omega,by have:=r.un;show A.units+1+16*k+200<_;omega⟩
theorem Dv{A:Around}{C:Addr}{us:List Value}{kw:List (Str×Value)} : (A.under (.builtin "type.__call__" ⟨.ref C::us,kw⟩)).depth=A.depth+1:=by
 first|rfl|simp[Around.under,Code.weight,Code.isCreation,Code.isGuard,Code.isCaller,Code.frames,Code.isFrame,guardIds]
theorem Dw{A:Around}{C:Addr}{us:List Value}{kw:List (Str×Value)} : (A.under (.builtin "type.__call__" ⟨.ref C::us,kw⟩)).units=A.units+1:=by
 first|rfl|simp[Around.under,Code.cUnits,Code.frames,Code.isFrame]
theorem aZ.make{k:Nat}{A:Around}(r:aZ (k+1) A) (C:Addr) (us:List Value) (kw:List (Str×Value)):aZ k (A.under (.builtin "type.__call__" ⟨.ref C::us,kw⟩)):=
 ⟨r.hd,by have:=r.dp;rw[Dv];omega,by have:=r.un;rw[Dw];omega⟩
theorem aZ.depth{k:Nat}{A:Around}(r:aZ k A):A.depth<recursionLimit:=by have:=r.dp;omega
theorem aZ.units{k:Nat}{A:Around}(r:aZ k A):A.units+64<cLine:=by have:=r.un;omega
def vR:TA:=λ_ H Q=>Q [] H
def ju(ta:TE)(tr:TA):TA:=λσ H Q=>ta σ H λx H1=>tr σ H1 λxs H2=>Q (x::xs) H2
section
variable {X:Cx}{e:Expr}{es:List Expr}{te:TE}{t:TA}{pos:Pos}
theorem ag:PA X [] vR:=λ_ _ _ _ H Q I h=>afS ⟨[],H,I,.nil,h⟩
theorem aa(ha:PE X e te)(hr:PA X es t) (hs:starEach (e::es) X.env=(false,eval e X.env)::starEach es X.env:=by rfl):PA X (e::es) (ju te t):=by
 intro pos pins s σ H Q I h
 rw[hs]
 show wpAny _ _ (spliced ((false,eval e X.env)::backTo pos (starEach es X.env))) _ _ s
 refine afi (aP (ha pins s σ H _ I h) λu s1 ⟨x,H1,I1,r1,q1⟩=>?_)
 exact aP (hr pos pins s1 σ H1 _ I1 q1) λus s2 ⟨xs,H2,I2,r2,q2⟩=>⟨x::xs,H2,I2,.cons r1 r2,q2⟩
def Il(t:TA):TE:=λσ H Q=>t σ H λxs H1=>xs.length<=sizeLine/\∀p,H1 p=none->Q (.ref p) (upd H1 p (.tup xs))
def Zf(t:TA):TE:=λσ H Q=>t σ H λxs H1=>xs.length<=sizeLine/\∀p,H1 p=none->Q (.ref p) (upd H1 p (.lst xs))
theorem eE{x1} (h:PA X es t):PE X (.Tuple es x1 pos) (Il t):=by
 intro pins s σ H Q I hq
 refine wpAny_Tuple_spliced (aP (h pos pins s σ H _ I hq) λus s1 ⟨xs,H1,I1,r,z,q⟩=>⟨by rw[← r.length];exact z,?_⟩)
 have hf:H1 s1.heap.objs.size=none:=I1.hok.fresh (adn _)
 refine⟨.ref s1.heap.objs.size,upd H1 s1.heap.objs.size (.tup xs),I1.laid (t':=s1.toks) (λb u e=>adl _ e) (adn _) ?_,rfl,q _ hf⟩
 exact⟨z,us,r,⟨_,adP _ rfl,rfl,_,rfl⟩⟩
theorem cK(h:PA X es t):PE X (.List es pos) (Zf t):=by
 intro pins s σ H Q I hq
 refine wpAny_List_spliced (aP (h pos pins s σ H _ I hq) λus s1 ⟨xs,H1,I1,r,z,q⟩=>⟨by rw[← r.length];exact z,?_⟩)
 have hf:H1 s1.heap.objs.size=none:=I1.hok.fresh (adn _)
 refine⟨.ref s1.heap.objs.size,upd H1 s1.heap.objs.size (.lst xs),I1.laid (t':=s1.toks) (λb u e=>adl _ e) (adn _) ?_,rfl,q _ hf⟩
 exact⟨z,us,0,r,adP _ rfl⟩
end
abbrev Sp:=List V->Hp->VK->XK->Prop
abbrev qD:=List Env->Hp->Shared->XK->Value->Shared->Prop
structure nS(P:Program) (w:World) (K:W.Frag) (mg:Str->Option Value) (base:Heap) (A:Around) (outer:List Env) (s:Shared) (H:Hp):Prop where
 frames:A.frames=some outer
 mod:Mod K mg base
 bs:∀b o,base.get? b=some o->s.heap.get? b=some o/\H b=none
 bsz:base.objs.size<=s.heap.objs.size
 jP:s.heap.FunFrames base outer
 frf:∀b∈pW outer,H b=none
 hok:eC P w H s.heap
 bare:AllBare s.gens
def CE(outer:List Env)(P:Program)(w:World)(H:Hp)(s:Shared)(Q:VK)(u:Value)(s':Shared):Prop:=
 ∃v H',s'.os=s.os/\AllBare s'.gens/\Un (pW outer) [] H H' s.heap s'.heap/\eC P w H' s'.heap/\RelV v u/\Q v H'
def CR(CX:qD)(outer:List Env)(P:Program)(w:World)(H:Hp)(s:Shared)(Q:VK)(E:XK)(r:Result)(s':Shared):Prop:=
 match r with
 | .ok (.ret u)=>CE outer P w H s Q u s'
 | .ok _=>False
 | .error e=>CX outer H s E e s'
structure ay(P:Program) (w:World) (K:W.Frag) (mg:Str->Option Value) (base:Heap) (CX:qD) (k:Nat) (f:Addr) (fd:FuncData) (ps:List Str) (sp:Sp):Prop where
 len:∀vs H Q E,sp vs H Q E->vs.length=ps.length
 run:∀(A:Around) (outer:List Env) (s:Shared) (H:Hp) (args:Args) (us:List Value) (vs:List V) (Q:VK) (E:XK),aZ k A->nS P w K mg base A outer s H->BindsTo s fd args (ps.zip us)->Vals vs us->sp vs H Q E->
  codeAny (model P w) A (.call (.ref f) args) (CR CX outer P w H s Q E) s
theorem nS.make{P:Program}{w:World}{K:W.Frag}{mg:Str->Option Value}{base:Heap}{A:Around}{outer:List Env}{s:Shared}{H:Hp}(e:nS P w K mg base A outer s H)(C:Addr)(us:List Value) (kw:List (Str×Value)) :
 nS P w K mg base (A.under (.builtin "type.__call__" ⟨.ref C::us,kw⟩)) outer s H:=⟨by first|exact e.frames|(simpa[Around.under,Code.envs,Code.isFrame,pushEnvs]using e.frames),e.mod,e.bs,e.bsz,e.jP,e.frf,e.hok,e.bare⟩
theorem nS.in1{P:Program}{w:World}{K:W.Frag}{mg:Str->Option Value}{base:Heap}{A:Around}{outer:List Env}{s:Shared}{H:Hp}(e:nS P w K mg base A outer s H) :
 nS P w K mg base A.in1 outer s H:=⟨e.frames,e.mod,e.bs,e.bsz,e.jP,e.frf,e.hok,e.bare⟩
section
variable {X:Cx}{pins:List (Addr×Obj)}{σ:St}{H:Hp}{s s':Shared}
theorem Inv.NY(I:Inv X pins σ H s):nS X.prog X.w X.K X.mg X.base X.A X.stack s H:=
 ⟨I.ok.frames,I.ok.mod,I.bs,ady I.ok.bsz I.sz,I.stack,I.BG,I.hok,I.bare⟩
theorem Inv.after{Q:VK}{u:Value}(I:Inv X pins σ H s)(h:CE X.stack X.prog X.w H s Q u s'):EP X pins σ Q u s':=by
 obtain⟨v,H',os,bare,un,hok,r,q⟩:=h
 obtain⟨hh,g,d,t,os'⟩:=s'
 obtain rfl:os'=s.os:=os
 exact⟨v,H',I.call (h':=hh) (g':=g) (d':=d) (t':=t) (ch:=[]) un hok bare (λb z=>absurd z (by simp)),r,q⟩
end
def J6(sp:Sp)(jv:List V)(E:XK)(t:TA):TE:=λσ H Q=>t σ H λvs H1=>sp (vs++jv) H1 Q E
def Sq(C:Addr)(m:Str)(sp:Sp)(jv:List V)(E:XK)(ta:TE)(t:TA):TE:=λσ H Q=>ta σ H λx H1=>∃a dx fs,x=.ref a/\H1 a=some (.ins C dx fs)/\fs.lookup m=none/\
 t σ H1 λvs H2=>sp (x::(vs++jv)) H2 Q E
def Sr(C:Addr)(sp:Sp)(jv:List V)(E:XK)(t:TA):TE:=λσ H Q=>t σ H λvs H1=>∀x dx,H1 x=none->H1 dx=none->dx≠x->
 sp (.ref x::(vs++jv)) (upd (upd H1 dx (.own x)) x (.ins C dx [])) (λv H2=>v=.aY/\Q (.ref x) H2) E
def Binds(K:W.Frag)(fd:FuncData)(ps:List Str)(ds:List Value):Prop:=
 ∀(s:Shared) (us:List Value),K.In s.heap->(us++ds).length=ps.length->BindsTo s fd ⟨us,[]⟩ (ps.zip (us++ds))
theorem Binds.all{K:W.Frag}{fd:FuncData}{ps:List Str}(h:∀us:List Value,us.length=ps.length->bindArgs fd ⟨us,[]⟩=pure (ps.zip us)):Binds K fd ps []:=λs us _ hl=>by
 rw[afk]at hl ⊢
 exact .of_eq (h us hl)
def Passes(CX:qD)(X:Cx)(E:XK):Prop:=∀(pins:List (Addr×Obj)) (σ:St) (H:Hp) (s:Shared) (e:Value) (s':Shared),Inv X pins σ H s->CX X.stack H s E e s'->X.xe e s'
section
variable {X:Cx}{CX:qD}{k:Nat}{f C:Addr}{fd:FuncData}{ps:List Str}{sp:Sp}{jv:List V}{ds:List Value}{E:XK}{x m:Str}{p pos apos:Pos}{e o:Expr}{es:List Expr}{ta:TE}{t:TA}
theorem Fs{pins:List (Addr×Obj)}{σ:St}{H:Hp}{s:Shared}{Q:VK}{us:List Value}{vs:List V}(F:ay X.prog X.w X.K X.mg X.base CX k f fd ps sp) (hr:aZ k X.A) (hb:Binds X.K fd ps ds) (hd:Vals jv ds) (hx:Passes CX X E)
 (I:Inv X pins σ H s) (r:Vals vs us) (h:sp (vs++jv) H Q E):wpAny (model X.prog X.w) X.A (call (.ref f) us) (EP X pins σ Q) X.xe s:=by
 have r2:Vals (vs++jv) (us++ds):=r.append hd
 have hl:(us++ds).length=ps.length:=by rw[← r2.length];exact F.len _ _ _ _ h
 refine wpAny_call (ag8 (F.run X.A X.stack s H ⟨us,[]⟩ (us++ds) (vs++jv) Q E hr I.NY (hb s us I.hZ hl) r2 h) λr s' hq=>?_)
 cases r with
 | error e=>exact hx pins σ H s e s' I hq
 | ok fl=>
  cases fl with
  | ret u=>exact I.after hq
  | next=>exact False.elim hq
  | brk=>exact False.elim hq
  | cont=>exact False.elim hq
theorem aE(F:ay X.prog X.w X.K X.mg X.base CX k f fd ps sp)(hr:aZ k X.A)(hg:Gl X x) (hm:X.mg x=some (.ref f)) (hk:W.keepIn X.K (.ref f)=true) (hb:Binds X.K fd ps ds) (hd:Vals jv ds) (hx:Passes CX X E)
 (ha:PA X (e::es) t) (pX:(x == ("__debug__" : Str))=false:=by decide) (he:starEach (e::es) X.env=(false,eval e X.env)::starEach es X.env:=by rfl) (jH:(backTo pos (starEach es X.env)).any (·.1)=false:=by rfl) :
 PE X (.Call (.Name x p) (e::es) [] pos) (J6 sp jv E t):=by
 intro pins s σ H Q I h
 refine afD (BI I hg hm ?_ pX)
 refine W.callWith_K (h₀:=X.base) I.ok.mod.kin hk (aP (ha pos pins s σ H _ I h) λus s1 ⟨vs,H1,I1,r,q⟩=>⟨I1.hZ,?_⟩) he jH
 exact Fs F hr hb hd hx I1 r q
theorem aV{pl:Sem Bool}(he:PE X o ta)(c:om X.K C)(hm:Meth X.K C m f)(F:ay X.prog X.w X.K X.mg X.base CX k f fd ps sp)(hr:aZ k X.A)(hb:Binds X.K fd ps ds)(hd:Vals jv ds)(hx:Passes CX X E) (ha:PA X (e::es) t)
 (nu:starEach (e::es) X.env=(false,eval e X.env)::starEach es X.env:=by rfl) (jH:(backTo pos (starEach es X.env)).any (·.1)=false:=by rfl)
 (ht:eval (.Call (.Attribute o m apos) (e::es) [] pos) X.env=(do
  let ov ← eval o X.env
  standAt apos.atName
  let (f,first) ← holding [ov] (getMethod ov m pl)
  callWith pos f first (backTo pos (starEach (e::es) X.env)) (backToKw pos (keywordEach [] X.env))):=by rfl) :
 PE X (.Call (.Attribute o m apos) (e::es) [] pos) (Sq C m sp jv E ta t):=by
 intro pins s σ H Q I h
 refine W.methodCall_KW (pl:=pl) (aP (he pins s σ H _ I h) λu s1 ⟨x,H1,I1,rx,a,dx,fs,ex,ea,l,q⟩=>?_) ht
 subst ex
 obtain rfl:u=Value.ref a:=rx
 refine ux I1 ea c hm l ?_
 refine W.callWith_K (first:=[.ref a]) (h₀:=X.base) I.ok.mod.kin hm.kp (aP (ha pos pins s1 σ H1 _ I1 q) λus s2 ⟨vs,H2,I2,r,q2⟩=>⟨I2.hZ,?_⟩) nu jH
 exact Fs (us:=.ref a::us) (vs:=.ref a::vs) F hr hb hd hx I2 (.cons rfl r) q2
structure Mk(K:W.Frag) (C f:Addr):Prop where
 makes:W.makesIn K C=true
 init:W.findIn K (.ref C) "__init__" = some (some (.ref f))
 fn:W.isFn K (.ref f)=true
 kp:W.keepIn K (.ref C)=true
theorem Im{pins:List (Addr×Obj)}{σ:St}{H:Hp}{s:Shared}{Q:VK}{us:List Value}{vs:List V}(M:Mk X.K C f) (F:ay X.prog X.w X.K X.mg X.base CX k f fd ps sp) (hr:aZ (k+1) X.A) (hb:Binds X.K fd ps ds) (hd:Vals jv ds)
 (hx:Passes CX X E) (I:Inv X pins σ H s) (r:Vals vs us)
 (h:∀x dx,H x=none->H dx=none->dx≠x->sp (.ref x::(vs++jv)) (upd (upd H dx (.own x)) x (.ins C dx [])) (λv H2=>v=.aY/\Q (.ref x) H2) E) :
 wpAny (model X.prog X.w) X.A (call (.ref C) us) (EP X pins σ Q) X.xe s:=by
 have hq:=h (s.heap.objs.size+1) s.heap.objs.size (I.hok.fresh (agI _)) (I.hok.fresh (adn _)) (adR (af7 _))
 have I2:=Inv.made (C:=C) I
 have r2:Vals (V.ref (s.heap.objs.size+1)::(vs++jv)) (Value.ref (s.heap.objs.size+1)::(us++ds)):=.cons rfl (r.append hd)
 have hl:(Value.ref (s.heap.objs.size+1)::us++ds).length=ps.length:=by
  have e:=r2.length
  rw[F.len _ _ _ _ hq]at e
  exact e.symm
 refine wpAny_call (Ik (f:=f) I.hZ M.makes M.init (afA.mp M.fn) (ag8 (F.run _ X.stack _ _ ⟨Value.ref (s.heap.objs.size+1)::us,[]⟩ (Value.ref (s.heap.objs.size+1)::(us++ds)) _ _ E (hr.make C us [])
  (I2.NY.make C us []) (hb _ (Value.ref (s.heap.objs.size+1)::us) I2.hZ hl) r2 hq) λr s' yJ=>?_))
 cases r with
 | error e=>exact hx pins σ _ _ e s' I2 yJ
 | ok fl=>
  cases fl with
  | ret u=>
   obtain⟨v,H',I3,rv,ev,q3⟩:=I2.after yJ
   subst ev
   exact⟨rv,⟨V.ref (s.heap.objs.size+1),H',I3,rfl,q3⟩⟩
  | next=>exact False.elim yJ
  | brk=>exact False.elim yJ
  | cont=>exact False.elim yJ
theorem vS(M:Mk X.K C f)(F:ay X.prog X.w X.K X.mg X.base CX k f fd ps sp) (hr:aZ (k+1) X.A) (hg:Gl X x) (hm:X.mg x=some (.ref C)) (hb:Binds X.K fd ps ds) (hd:Vals jv ds) (hx:Passes CX X E)
 (ha:PA X (e::es) t) (pX:(x == ("__debug__" : Str))=false:=by decide) (he:starEach (e::es) X.env=(false,eval e X.env)::starEach es X.env:=by rfl) (jH:(backTo pos (starEach es X.env)).any (·.1)=false:=by rfl) :
 PE X (.Call (.Name x p) (e::es) [] pos) (Sr C sp jv E t):=by
 intro pins s σ H Q I h
 refine afD (BI I hg hm ?_ pX)
 refine W.callWith_K (h₀:=X.base) I.ok.mod.kin M.kp (aP (ha pos pins s σ H _ I h) λus s1 ⟨vs,H1,I1,r,q⟩=>⟨I1.hZ,?_⟩) he jH
 exact Im M F hr hb hd hx I1 r q
end
section
variable {X:Cx}{CX:qD}{k:Nat}{f C:Addr}{fd:FuncData}{ps ks:List Str}{sp:Sp}{E:XK}{x m:Str}{p pos apos ah6:Pos}{e o:Expr}{es:List Expr}{kws:List Keyword}{te ta:TE}{t tk:TA}{nm:Option Str}
variable {g:List Value->List Value->List Value}{gV:List V->List V->List V}
end
structure aQ(N P:List Str) (sc:Scope):Prop where
 kind:sc.kind=.function
 co:sc.isCoroutine=false
 gen:sc.isGenerator=false
 nd:N.Nodup
 pre:N.take P.length=P
 par:∀x∈P,sc.names.lookup x=some .local\/sc.names.lookup x=some .cell
 nofree:∀y∈sc.names,y.2≠.free
theorem wK{kindOf:Str->Option NameKind}{x:Str} : ∀{binds:List (Str×Value)}{m:Str->Option Value},(∀v,(x,v)∉binds)->bindL kindOf binds m x=m x
 | [],_,_=>rfl
 | (n,v)::r,m,h=>by
  unfold bindL
  rw[wK λw hw=>h w (adx _ hw)]
  split
  . have:x≠n:=by rintro rfl;exact h v adB
    simp[this]
  . rfl
theorem wL{kindOf:Str->Option NameKind}{x:Str} : ∀{binds:List (Str×Value)}{m:Str->Option Value},(∀v,(x,v)∉binds)->bindC kindOf binds m x=m x
 | [],_,_=>rfl
 | (n,v)::r,m,h=>by
  unfold bindC
  rw[wL λw hw=>h w (adx _ hw)]
  split
  . rfl
  . have:x≠n:=by rintro rfl;exact h v adB
    simp[this]
theorem wM{kindOf:Str->Option NameKind}{x:Str}{v:Value} : ∀{P:List Str}{vs:List Value}{i:Nat}{m:Str->Option Value},P.Nodup->P[i]?=some x->vs[i]?=some v->kindOf x=some .local->
 bindL kindOf (P.zip vs) m x=some v
 | [],_,_,_,_,h,_,_=>by simp at h
 | _::_,[],_,_,_,_,h,_=>by simp at h
 | p::P,w::vs,0,m,nd,h1,h2,hk=>by
  simp at h1 h2;subst h1;subst h2
  show bindL kindOf ((p,w)::P.zip vs) m p=_
  unfold bindL
  rw[wK λv hv=>(ad1.mp nd).1 (agd hv).1,adM hk]
  simp
 | p::P,w::vs,i+1,m,nd,h1,h2,hk=>by
  show bindL kindOf ((p,w)::P.zip vs) m x=_
  unfold bindL
  exact wM (i:=i) (ad1.mp nd).2 (by simpa using h1) (by simpa using h2) hk
theorem wN{kindOf:Str->Option NameKind}{x:Str}{v:Value} : ∀{P:List Str}{vs:List Value}{i:Nat}{m:Str->Option Value},P.Nodup->P[i]?=some x->vs[i]?=some v->kindOf x≠some .local->
 bindC kindOf (P.zip vs) m x=some v
 | [],_,_,_,_,h,_,_=>by simp at h
 | _::_,[],_,_,_,_,h,_=>by simp at h
 | p::P,w::vs,0,m,nd,h1,h2,hk=>by
  simp at h1 h2;subst h1;subst h2
  show bindC kindOf ((p,w)::P.zip vs) m p=_
  unfold bindC
  rw[wL λv hv=>(ad1.mp nd).1 (agd hv).1,adw hk]
  simp
 | p::P,w::vs,i+1,m,nd,h1,h2,hk=>by
  show bindC kindOf ((p,w)::P.zip vs) m x=_
  unfold bindC
  exact wN (i:=i) (ad1.mp nd).2 (by simpa using h1) (by simpa using h2) hk
def start(N:List Str)(vs:List V):St:=vs.map some++List.replicate (N.length-vs.length) none
def o9(CX:qD)(P:Program)(w:World)(K:W.Frag)(mg:Str->Option Value)(base:Heap)(N:List Str)(qual:Str)(scope:Scope)(f:Addr)(cd:Value)(A:Around)(outer:List Env)(s:Shared)(H:Hp)(E:XK):Cx where
 prog:=P
 w:=w
 K:=K
 mg:=mg
 base:=base
 A:=A.deeper (envOfC qual scope s.heap.objs.size f cd)
 N:=N
 ly:=s
 NF:=H
 env:=envOfC qual scope s.heap.objs.size f cd
 outer:=outer
 stack:=envOfC qual scope s.heap.objs.size f cd::outer
 ex:=[]
 calm:=true
 fn:=λ_=>true
 pn:=[]
 xe:=λe s'=>wpAny (model P w) (A.deeper (envOfC qual scope s.heap.objs.size f cd)) (leaving (envOfC qual scope s.heap.objs.size f cd) e) (λ_ Ft=>CX outer H s E e Ft) (λe' Ft=>CX outer H s E e' Ft) s'
theorem yK{sc:Scope}{n:Nat}{x:Str}(h:sc.names.lookup x=some .cell):∃c,(cellsFrom n sc.names []).lookup x=some c:=by
 have q:=W.cellsFrom_some sc.names n [] (.inl h)
 exact agw.mp q
theorem Fu{CX:qD}{P:Program}{w:World}{K:W.Frag}{mg:Str->Option Value}{base:Heap}{N ps:List Str}{qual:Str}{scope:Scope}{f:Addr}{cd:Value}{A:Around}{outer:List Env}{s s1:Shared}{H:Hp}{E:XK}{us:List Value}{vs:List V}
 (S:aQ N ps scope) (hd:A.handled=none) (e0:nS P w K mg base A outer s H) (hl:vs.length=ps.length) (r:Vals vs us)
 (x:InCallC s s.heap.objs.size (bindL (envOfC qual scope s.heap.objs.size f cd).kindOf (ps.zip us) λ_=>none) (cellsFrom (s.heap.objs.size+1) scope.names []) (bindC (envOfC qual scope s.heap.objs.size f cd).kindOf (ps.zip us) λ_=>none) s1) :
 Inv (o9 CX P w K mg base N qual scope f cd A outer s H E) [] (start N vs) H s1:=by
 have jH:ps.length<=N.length:=by have:=congrArg List.length S.pre;rw[adU]at this;omega
 obtain⟨h1,tk,rfl,hk⟩:=x.done
 have Fv:∀b:Addr,b∉(o9 CX P w K mg base N qual scope f cd A outer s H E).ex:=λb z=>absurd (show b∈([]:List Addr) from z) (by simp)
 refine⟨⟨e0.mod,S.kind,rfl,rfl,adn _,λy z c h1 h2=>?_,λy hy=>?_,λy c _ h=>?_,λ_=>hd,Around.frames_deeper e0.frames,.inr ⟨rfl,rfl⟩,λb z=>absurd z (Fv b),e0.bs,e0.bsz,λb _ _=>Fv b,λb z=>absurd z (Fv b),e0.jP,e0.frf⟩,
  rfl,e0.bare,Un.kept hk,⟨_,x.toInCall.ns,λi y v h1 h2 h3=>?_⟩,λy c h=>⟨_,x.cell y c h⟩,e0.hok.fresh (adn _),λy c h=>?_,λp hp=>absurd (show p∈([]:List (Addr×Obj)) from hp) (by simp),e0.hok.kept hk,?_⟩
 . exact name_of_addr x.apart (ae9 h1) (ae9 h2)
 . have hy:scope.names.lookup y=some .cell\/scope.names.lookup y=some .free:=hy
   rcases hy with hy|hy
   . exact yK hy
   . exact absurd rfl (S.nofree _ (ae9 hy))
 . exact ae5 (x.above y c (ae9 h))
 . have hi:i<vs.length:=by
    unfold start at h2
    by_cases hi:i<vs.length
    . exact hi
    . rw[aeD (by simpa using hi)]at h2
      rw[List.getElem?_replicate]at h2
      split at h2 <;> cases h2
   have ha:vs[i]?=some v:=by
    unfold start at h2
    rw[aeI (by simpa using hi),ado]at h2
    cases e:vs[i]? with
    | none=>rw[e]at h2;cases h2
    | some a=>rw[e]at h2;cases h2;rfl
   obtain⟨u,hu,rv⟩:=r.get ha
   have hp:ps[i]?=some y:=by
    rw[← S.pre,agx (by omega)];exact h1
   have WB:ps.Nodup:=by rw[← S.pre];exact S.nd.sublist (List.take_sublist _ _)
   refine⟨u,rv,?_⟩
   rcases S.par y (adX hp) with k|k
   . exact .inl ⟨k,wM WB hp hu k⟩
   . obtain⟨c,e⟩:=yK (n:=s.heap.objs.size+1) k
     refine .inr ⟨.inl k,c,e,?_⟩
     have q:=x.cell y c e
     rw[wN WB hp hu (by show scope.names.lookup y≠_;rw[k];decide)]at q
     exact q
 . exact e0.hok.fresh (ae5 (x.above y c (ae9 h)))
 . unfold start
   show _=N.length
   rw[adm,abc,List.length_replicate]
   omega
theorem Ss{CX:qD}{P:Program}{w:World}{K:W.Frag}{mg:Str->Option Value}{base:Heap}{k:Nat}{f:Addr}{name qual:Str}{params:Arguments}{body:List Stmt}{scope:Scope}{dV kV doc pm cdv ct oc:Value}{an od:Option Addr}
 {wO:Array (Option Value)}{N ps:List Str}{sp:Sp}(lk:K.lookup f=some ⟨oc,od,.func (W.fnOf name qual params body scope dV kV doc pm an cdv ct),wO⟩) (qy:W.codeIn K cdv qual=true) (S:aQ N ps scope)
 (len:∀vs H Q E,sp vs H Q E->vs.length=ps.length)
 (Dx:∀(A:Around) (outer:List Env) (s:Shared) (H:Hp) (vs:List V) (Q:VK) (E:XK),aZ k (A.deeper (envOfC qual scope s.heap.objs.size f cdv))->sp vs H Q E->
  ∃t,ja (o9 CX P w K mg base N qual scope f cdv A outer s H E) body t/\t {nx:=λ_ H'=>Q .aY H',rt:=Q} (start N vs) H) :
 ay P w K mg base CX (k+1) f (W.fnOf name qual params body scope dV kV doc pm an cdv ct) ps sp:=by
 refine⟨len,λA outer s H args us vs Q E hr e0 hb r pY=>?_⟩
 have hl:=len _ _ _ _ pY
 have KX:K.In s.heap:=e0.mod.kin.keeps λb o e=>(e0.bs b o e).1
 have lim:s.heap.NoLimit:=e0.mod.nolimit.keeps λb o e=>(e0.bs b o e).1
 have Su:∀y∈ps.zip us,scope.names.lookup y.1=some .local\/(scope.names.lookup y.1=some .cell/\((cellsFrom (s.heap.objs.size+1) scope.names []).lookup y.1).isSome=true):=λ⟨n,v⟩ hy=>by
  rcases S.par n (agd hy).1 with q|q
  . exact .inl q
  . exact .inr ⟨q,W.cellsFrom_some _ _ _ (.inl q)⟩
 refine codeAny_call_function hr.depth (KX _ _ lk) rfl S.co S.gen rfl (W.codeRec_of KX qy) (hb _ _ _ _ ?_)
 refine wpAny_newFunctionEnv_cells S.kind Su λenv he s1 x=>?_
 subst he
 refine⟨lim.keeps x.toInCall.keep,codeAny_func ?_⟩
 obtain⟨t,ht,hq⟩:=Dx A outer s H vs Q E (hr.deeper _) pY
 have I:Inv (o9 CX P w K mg base N qual scope f cdv A outer s H E) [] (start N vs) H s1:=Fu S hr.hd e0 hl r x
 refine aeY (ht [] s1 (start N vs) H _ I hq) (λfl s' hs=>?_) λe s' hs=>hs
 have fin:∀{bY:St}{H':Hp}{v:V}{u:Value},Inv (o9 CX P w K mg base N qual scope f cdv A outer s H E) [] bY H' s'->RelV v u->Q v H'->CE outer P w H s Q u s':=
  λ{bY H' v u} J rv q=>⟨v,H',J.os,J.bare,J.base,J.hok,rv,q⟩
 cases fl with
 | ret u=>
  obtain⟨v,bY,H',J,rv,q⟩:=hs
  exact fin J rv q
 | next=>
  obtain⟨bY,H',J,q⟩:=hs
  exact fin (v:=V.aY) (u:=Value.none) J rfl q
 | brk=>
  obtain⟨_,_,_,q⟩:=hs
  exact False.elim q
 | cont=>
  obtain⟨_,_,_,q⟩:=hs
  exact False.elim q
section
variable {X:Cx}{x:Str}{p pos:Pos}{e:Expr}{es:List Expr}{t:TA}{id T:String}{r:List V->Hp->VK->Prop}
def WC(r:List V->Hp->VK->Prop)(t:TA):TE:=λσ H Q=>t σ H λvs H1=>r vs H1 Q
theorem bz(hc:fJ X (.builtin id) r) (hg:Gl X x) (hm:X.mg x=none) (hv:bootBuiltins x=some (.builtin id)) (ha:PA X (e::es) t) (hn:x ≠ "__name__":=by decide) (pX:(x == ("__debug__" : Str))=false:=by decide)
 (he:starEach (e::es) X.env=(false,eval e X.env)::starEach es X.env:=by rfl) (jH:(backTo pos (starEach es X.env)).any (·.1)=false:=by rfl):PE X (.Call (.Name x p) (e::es) [] pos) (WC r t):=by
 intro pins s σ H Q I h
 refine afD (mn I hg hm hv ?_ hn pX)
 exact PyProof.Rows.callWith_builtin1 (aP (ha pos pins s σ H _ I h) λus s1 ⟨vs,H1,I1,r1,q1⟩=>hc pins s1 σ H1 vs us Q I1 r1 q1) he jH
theorem bw(hc:fJ X (.type T) r) (hg:Gl X x) (hm:X.mg x=none) (hv:bootBuiltins x=some (.type T)) (ha:PA X (e::es) t) (hn:x ≠ "__name__":=by decide) (pX:(x == ("__debug__" : Str))=false:=by decide)
 (he:starEach (e::es) X.env=(false,eval e X.env)::starEach es X.env:=by rfl) (jH:(backTo pos (starEach es X.env)).any (·.1)=false:=by rfl):PE X (.Call (.Name x p) (e::es) [] pos) (WC r t):=by
 intro pins s σ H Q I h
 refine afD (mn I hg hm hv ?_ hn pX)
 exact aez (aP (ha pos pins s σ H _ I h) λus s1 ⟨vs,H1,I1,r1,q1⟩=>hc pins s1 σ H1 vs us Q I1 r1 q1) he jH
end
section
variable {κ:Type}[DecidableEq κ]
def aI(kvs:List (κ×V)) (k:κ):Option V:=(kvs.find? λkv=>decide (kv.1=k)).map (·.2)
def putK(kvs:List (κ×V)) (k:κ) (v:V):List (κ×V):=
 if (kvs.any λkv=>decide (kv.1=k))=true then kvs.map (λkv=>if kv.1=k then (kv.1,v) else kv) else kvs++[(k,v)]
theorem cD{p:κ×V}{r:List (κ×V)}{k:κ}(e:p.1=k):aI (p::r) k=some p.2:=by simp[aI,afl,e]
theorem cy{p:κ×V}{r:List (κ×V)}{k:κ}(e:¬ p.1=k):aI (p::r) k=aI r k:=by simp[aI,afl,e]
theorem jS(k:κ):∀kvs:List (κ×V),(kvs.any λkv=>decide (kv.1=k))=(aI kvs k).isSome
 | []=>rfl
 | p::r=>by
  rw[afs]
  by_cases e:p.1=k
  . simp only[cD e,ad3 e,Bool.true_or,Option.isSome_some]
  . rw[cy e,adS e,Bool.false_or];exact jS k r
theorem yL(k j:κ)(y:V):∀kvs:List (κ×V),aI (kvs.map λkv=>if kv.1=k then (kv.1,y) else kv) j=(aI kvs j).map λx=>if j=k then y else x
 | []=>rfl
 | p::r=>by
  have ih:=yL k j y r
  rw[adQ]
  by_cases h:p.1=k
  . rw[adM h]
    by_cases e:p.1=j
    . rw[cD (p:=(p.1,y)) e,cD e,aeK,adM (e.symm.trans h)]
    . rw[cy (p:=(p.1,y)) e,cy e,ih]
  . rw[adw h]
    by_cases e:p.1=j
    . rw[cD (p:=p) e,cD e,aeK,adw (λz=>h (e.trans z))]
    . rw[cy (p:=p) e,cy e,ih]
theorem kG(k j:κ)(y:V):∀kvs:List (κ×V),aI kvs k=none->aI (kvs++[(k,y)]) j=if j=k then some y else aI kvs j
 | [],_=>by
  by_cases e:k=j
  . rw[adM e.symm];exact cD (p:=(k,y)) e
  . rw[adw (λz=>e z.symm)];exact cy (p:=(k,y)) e
 | p::r,hn=>by
  rw[afc]
  have hk:¬ p.1=k:=λz=>by rw[cD z]at hn;cases hn
  rw[cy hk]at hn
  have ih:=kG k j y r hn
  by_cases e:p.1=j
  . rw[cD e,cD e,adw (λz=>hk (e.trans z))]
  . rw[cy e,cy e,ih]
theorem eO(kvs:List (κ×V)) (k j:κ) (y:V):aI (putK kvs k y) j=if j=k then some y else aI kvs j:=by
 unfold putK
 by_cases a:(kvs.any λkv=>decide (kv.1=k))=true
 . rw[adM a,yL]
   rw[jS]at a
   by_cases e:j=k
   . obtain⟨x,hx⟩:=agw.mp a
     rw[adM e,e,hx,aeK,adM rfl]
   . rw[adw e]
     cases aI kvs j with
     | none=>rfl
     | some x=>rw[aeK,adw e]
 . rw[adw a]
   refine kG k j y kvs ?_
   rw[jS]at a
   cases q:aI kvs k with
   | none=>rfl
   | some x=>rw[q]at a;exact(a rfl).elim
theorem d5(kvs:List (κ×V)) (k:κ) (v:V):(putK kvs k v).length<=kvs.length+1:=by
 unfold putK
 split
 . rw[abc];omega
 . rw[adm,adL,afm];omega
theorem gw{kvs:List (κ×V)}{k:κ}(v:V) (h:aI kvs k=none):putK kvs k v=kvs++[(k,v)]:=by
 unfold putK
 rw[jS,h]
 exact adw (by decide)
theorem gv.kI{o:Option V}{u:Option Value}(r:gv o u):o.isSome=u.isSome:=by
 cases o with
 | none=>cases u with
  | none=>rfl
  | some _=>exact(show False from r).elim
 | some _=>cases u with
  | none=>exact(show False from r).elim
  | some _=>rfl
theorem gv.getD{o:Option V}{u:Option Value}{d:V}{d':Value}(r:gv o u)(rd:RelV d d'):RelV (o.getD d) (u.getD d'):=by
 cases o with
 | none=>cases u with
  | none=>exact rd
  | some _=>exact(show False from r).elim
 | some _=>cases u with
  | none=>exact(show False from r).elim
  | some _=>exact r
theorem KV.val{kvs:List (κ×V)}{vs:List (κ×Value)}(r:KV kvs vs) (k:κ):gv (aI kvs k) (valueAt vs k):=by
 unfold KV at r
 induction r with
 | nil=>exact True.intro
 | @cons p q ps qs h t ih=>
  obtain⟨h1,h2⟩:=h
  by_cases e:p.1=k
  . have e':q.1=k:=h1.symm.trans e
    have b:valueAt (q::qs) k=some q.2:=by simp[valueAt,afl,e']
    rw[cD e,b];exact h2
  . have e':¬ q.1=k:=λz=>e (h1.trans z)
    have b:valueAt (q::qs) k=valueAt qs k:=by simp[valueAt,afl,e']
    rw[cy e,b];exact ih
theorem KV.any{kvs:List (κ×V)}{vs:List (κ×Value)}(r:KV kvs vs) (k:κ):(kvs.any λkv=>decide (kv.1=k))=vs.any λkv=>decide (kv.1=k):=by
 unfold KV at r
 induction r with
 | nil=>rfl
 | cons h t ih=>rw[afs,afs,ih,h.1]
theorem KV.Io{kvs:List (κ×V)}{vs:List (κ×Value)}(r:KV kvs vs) (k:κ){y:V}{u:Value}(ry:RelV y u) :
 KV (kvs.map λkv=>if kv.1=k then (kv.1,y) else kv) (vs.map λkv=>if kv.1=k then (kv.1,u) else kv):=by
 unfold KV at r ⊢
 induction r with
 | nil=>exact .nil
 | @cons p q ps qs h t ih=>
  rw[adQ,adQ]
  refine .cons ?_ ih
  obtain⟨h1,h2⟩:=h
  by_cases e:p.1=k
  . rw[adM e,adM (h1.symm.trans e)];exact⟨h1,ry⟩
  . rw[adw e,adw (λz=>e (h1.trans z))];exact⟨h1,h2⟩
theorem KV.put{kvs:List (κ×V)}{vs:List (κ×Value)}(r:KV kvs vs) (k:κ){y:V}{u:Value}(ry:RelV y u):KV (putK kvs k y) (stored vs k u):=by
 unfold putK stored
 rw[r.any k]
 by_cases e:(vs.any λkv=>decide (kv.1=k))=true
 . rw[adM e,adM e];exact r.Io k ry
 . rw[adw e,adw e];exact agJ r ⟨rfl,ry⟩
theorem KV.length{kvs:List (κ×V)}{vs:List (κ×Value)}(r:KV kvs vs):kvs.length=vs.length:=agG r
end
theorem lN{P:Program}{w:World}{k:Key}{u:Value}(r:RelV (kV k) u):(bt P w).is k u=true:=by
 cases k with
 | inl i=>obtain⟨t,e⟩:=(show ∃t,u=Value.int i t from r);subst e;exact Br P w i t
 | inr x=>obtain⟨t,e⟩:=(show ∃t,u=Value.str x t from r);subst e;exact Bs P w x t
theorem wQ{P:Program}{w:World} : ∀{ks:List Key}{us:List Value},Vals (ks.map kV) us->ItemsAre (bt P w) ks us
 | [],_,r=>by rw[aeS]at r;cases r;exact .nil
 | k::ks,_,r=>by
  rw[adQ]at r
  cases r with
  | cons h t=>exact .cons (lN h) (wQ t)
abbrev KT(H:Hp):List (List Key×V)->List (List Key×Addr×Value)->Prop:=Paired λp q=>p.1=q.1/\H q.2.1=some (.tup (p.1.map kV))/\RelV p.2 q.2.2
theorem KT.val{H:Hp}{kvs:List (List Key×V)}{xs:List (List Key×Addr×Value)}(r:KT H kvs xs) (k:List Key):gv (aI kvs k) ((atKey xs k).map (·.2)):=by
 induction r with
 | nil=>exact True.intro
 | @cons p q ps qs h t ih=>
  obtain⟨h1,_,h2⟩:=h
  by_cases e:p.1=k
  . have e':q.1=k:=h1.symm.trans e
    have b:atKey (q::qs) k=some q.2:=by simp[atKey,afl,e']
    rw[cD e,b];exact h2
  . have e':¬ q.1=k:=λz=>e (h1.trans z)
    have b:atKey (q::qs) k=atKey qs k:=by simp[atKey,afl,e']
    rw[cy e,b];exact ih
theorem KT.Io{H:Hp}{kvs:List (List Key×V)}{xs:List (List Key×Addr×Value)}(r:KT H kvs xs) (k:List Key){y:V}{u:Value}(ry:RelV y u) :
 KT H (kvs.map λkv=>if kv.1=k then (kv.1,y) else kv) (xs.map (putAt k u)):=by
 induction r with
 | nil=>exact .nil
 | @cons p q ps qs h t ih=>
  rw[adQ,adQ]
  refine .cons ?_ ih
  obtain⟨h1,h2,h3⟩:=h
  unfold putAt
  by_cases e:p.1=k
  . rw[adM e,adM (h1.symm.trans e)];exact⟨h1,h2,ry⟩
  . rw[adw e,adw (λz=>e (h1.trans z))];exact⟨h1,h2,h3⟩
theorem KT.put{H:Hp}{kvs:List (List Key×V)}{xs:List (List Key×Addr×Value)}(r:KT H kvs xs) (k:List Key){b:Addr}{y:V}{u:Value}(hb:H b=some (.tup (k.map kV))) (ry:RelV y u) :
 KT H (putK kvs k y) (storedH xs k b u):=by
 have e:(kvs.any λkv=>decide (kv.1=k))=(atKey xs k).isSome:=by
  rw[jS,(r.val k).kI,agy]
 unfold putK storedH
 rw[e]
 by_cases q:(atKey xs k).isSome=true
 . rw[adM q,adM q];exact r.Io k ry
 . rw[adw q,adw q];exact agJ r ⟨rfl,hb,ry⟩
theorem KT.keeps{H H':Hp}{kvs:List (List Key×V)}{xs:List (List Key×Addr×Value)}(r:KT H kvs xs) (ht:∀b ys,H b=some (.tup ys)->H' b=some (.tup ys)):KT H' kvs xs:=
 Paired.cM r λ_ _ z=>⟨z.1,ht _ _ z.2.1,z.2.2⟩
section
variable {P:Program}{w:World}{H:Hp}{h:Heap}{a:Addr}
theorem J7{u:HO}(ok:eC P w H h)(e:Rd H a u):bJ P w H h a u:=e.ok ok
theorem jw{kvs:List (Key×V)}(ok:eC P w H h) (e:Rd H a (.dK kvs)):kvs.length<=sizeLine/\(a == sysModules)=false/\∃vs,KV kvs vs/\h.DictOf (bt P w) a vs:=
 show bJ P w H h a (.dK kvs) from J7 ok e
theorem uy{kvs:List (Key×V)}(ok:eC P w H h) (e:H a=some (.dK kvs)):kvs.length<=sizeLine/\(a == sysModules)=false/\∃vs,KV kvs vs/\h.DictOf (bt P w) a vs:=jw ok (.inl e)
theorem mq{ks:List Key}(ok:eC P w H h) (e:H a=some (.tup (ks.map kV))):(tupleKind (bt P w)).is h ks a:=by
 obtain⟨_,its,r,o,h1,h2,n,h3⟩:=(show bJ P w H h a (.tup (ks.map kV)) from ok a _ e)
 exact⟨o,its.toArray,n,h1,h2,h3,by simpa using wQ r⟩
theorem ny{kvs:List (List Key×V)}(ok:eC P w H h) (e:Rd H a (.dT kvs)):kvs.length<=sizeLine/\(a == sysModules)=false/\
 ∃xs,KT H kvs xs/\h.DictOfH (tupleKind (bt P w)) a xs:=by
 obtain⟨z,y,xs,r,o,es,ep,h1,h2,h3,h4,h5⟩:=(show bJ P w H h a (.dT kvs) from J7 ok e)
 refine⟨z,y,xs,r,o,es,ep,h1,h2,h3,h4,λx hx=>?_,h5⟩
 have all:∀{l:List (List Key×V)}{m:List (List Key×Addr×Value)},KT H l m->∀x∈m,(tupleKind (bt P w)).is h x.1 x.2.1:=by
  intro l m q
  induction q with
  | nil=>intro x hx;exact nomatch hx
  | @cons p q ps qs hq t ih=>
   intro x hx
   rcases adq.mp hx with e|hx
   . subst e
     exact mq ok (by rw[← hq.1];exact hq.2.1)
   . exact ih x hx
 exact all r x hx
theorem Sv{kvs:List (List Key×V)}(ok:eC P w H h) (e:H a=some (.dT kvs)):kvs.length<=sizeLine/\(a == sysModules)=false/\
 ∃xs,KT H kvs xs/\h.DictOfH (tupleKind (bt P w)) a xs:=ny ok (.inl e)
end
def br(H:Hp)(a:Addr)(y:V)(r:Option V):Prop:=
 (∃kvs k,Rd H a (.dK kvs)/\y=kV k/\r=aI kvs k)\/∃kvs k b,Rd H a (.dT kvs)/\y=.ref b/\H b=some (.tup (k.map kV))/\r=aI kvs k
def eP(H:Hp)(a:Addr)(y v:V)(H':Hp):Prop:=
 (∃kvs k,H a=some (.dK kvs)/\y=kV k/\kvs.length<sizeLine/\H'=upd H a (.dK (putK kvs k v)))\/
 ∃kvs k b,H a=some (.dT kvs)/\y=.ref b/\H b=some (.tup (k.map kV))/\kvs.length<sizeLine/\H'=upd H a (.dT (putK kvs k v))
theorem br.k{H:Hp}{a:Addr}{kvs:List (Key×V)}{k:Key}(e:H a=some (.dK kvs)):br H a (kV k) (aI kvs k):=.inl ⟨kvs,k,.inl e,rfl,rfl⟩
theorem br.t{H:Hp}{a b:Addr}{kvs:List (List Key×V)}{k:List Key}(e:H a=some (.dT kvs)) (eb:H b=some (.tup (k.map kV))):br H a (.ref b) (aI kvs k):=.inr ⟨kvs,k,b,.inl e,rfl,eb,rfl⟩
theorem eP.k{H:Hp}{a:Addr}{kvs:List (Key×V)}{k:Key}{v:V}(e:H a=some (.dK kvs)) (hl:kvs.length<sizeLine):eP H a (kV k) v (upd H a (.dK (putK kvs k v))):=.inl ⟨kvs,k,e,rfl,hl,rfl⟩
theorem eP.t{H:Hp}{a b:Addr}{kvs:List (List Key×V)}{k:List Key}{v:V}(e:H a=some (.dT kvs)) (eb:H b=some (.tup (k.map kV))) (hl:kvs.length<sizeLine) :
 eP H a (.ref b) v (upd H a (.dT (putK kvs k v))):=.inr ⟨kvs,k,b,e,rfl,eb,hl,rfl⟩
section
variable {X:Cx}{pins:List (Addr×Obj)}{σ:St}{H:Hp}{s:Shared}{a:Addr}{y v:V}{u r:Value}{o:Option V}{A:Around}{E:Value->Shared->Prop}
theorem Inv.big(I:Inv X pins σ H s):sysModules<s.heap.objs.size:=by
 have h:mainGlobals<s.heap.objs.size:=(I.mod.glob.keeps I.bk).lt
 exact ag9 (by decide) h
theorem Fw{Q:Value->Shared->Prop}(hu:A.units+1<cLine)(I:Inv X pins σ H s) (g:br H a y (some v)) (ry:RelV y u) (h:∀w' s',Inv X pins σ H s'->RelV v w'->Q w' s') :
 wpAny (model X.prog X.w) A (getItem (.ref a) u) Q E s:=by
 rcases g with⟨kvs,k,e,ey,l⟩|⟨kvs,k,b,e,ey,eb,l⟩
 . subst ey
   obtain⟨z,hd,vs,rel,dd⟩:=jw I.hok e
   obtain⟨w',hw,kJ⟩:=gv.some_of (v:=v) (o:=valueAt vs k) (by rw[l];exact rel.val k)
   exact wpAny_getItem_of (lN ry) dd.mapOf hw (h w' _ (I.tok _) kJ)
 . subst ey
   cases(show u=Value.ref b from ry)
   obtain⟨z,hd,xs,rel,dd⟩:=ny I.hok e
   obtain⟨w',hw,kJ⟩:=gv.some_of (v:=v) (o:=(atKey xs k).map (·.2)) (by rw[l];exact rel.val k)
   obtain⟨p,hp,fu⟩:=afO.mp hw
   refine wpAny_getItem_heap (aeZ hu) (mq I.hok eb) dd hp ?_
   rw[fu]
   exact h w' _ (I.tok _) kJ
theorem Zg{Q:Value->Shared->Prop}(hu:A.units+1<cLine)(I:Inv X pins σ H s)(g:br H a y o)(ry:RelV y u) (h:∀s',Inv X pins σ H s'->Q (.bool o.isSome) s') :
 wpAny (model X.prog X.w) A (compareOp .In u (.ref a)) Q E s:=by
 rcases g with⟨kvs,k,e,ey,l⟩|⟨kvs,k,b,e,ey,eb,l⟩
 . subst ey
   obtain⟨z,hd,vs,rel,dd⟩:=jw I.hok e
   refine wpAny_in_of (lN ry) hd dd.mapOf ?_
   rw[← (rel.val k).kI,← l]
   exact h _ (I.tok _)
 . subst ey
   cases(show u=Value.ref b from ry)
   obtain⟨z,hd,xs,rel,dd⟩:=ny I.hok e
   refine wpAny_in_heap (aeZ hu) (mq I.hok eb) hd dd ?_
   have q:=(rel.val k).kI
   rw[agy]at q
   rw[← q,← l]
   exact h _ (I.tok _)
theorem Mm{Q:Value->Shared->Prop}(hu:A.units+1<cLine)(I:Inv X pins σ H s)(g:br H a y o)(ry:RelV y u) (h:∀s',Inv X pins σ H s'->Q (.bool (!o.isSome)) s') :
 wpAny (model X.prog X.w) A (compareOp .NotIn u (.ref a)) Q E s:=by
 rcases g with⟨kvs,k,e,ey,l⟩|⟨kvs,k,b,e,ey,eb,l⟩
 . subst ey
   obtain⟨z,hd,vs,rel,dd⟩:=jw I.hok e
   refine wpAny_notIn_of (lN ry) hd dd.mapOf ?_
   rw[← (rel.val k).kI,← l]
   exact h _ (I.tok _)
 . subst ey
   cases(show u=Value.ref b from ry)
   obtain⟨z,hd,xs,rel,dd⟩:=ny I.hok e
   refine wpAny_notIn_heap (aeZ hu) (mq I.hok eb) hd dd ?_
   have q:=(rel.val k).kI
   rw[agy]at q
   rw[← q,← l]
   exact h _ (I.tok _)
theorem oo{h':Heap}{t':Nat}{ob:HO}(I:Inv X pins σ H s) (mu:E4 (H a)) (hs:Heap.SameBut a s.heap h') (he:∃q,h'.get? a=some q) (new:bJ X.prog X.w (upd H a ob) h' a ob) :
 Inv X pins σ (upd H a ob) {s with heap:=h',toks:=t'} :=
 I.write (x:=a) (e:=a) mu (.inl rfl) (λb q hb z=>(hs.2 b hb).trans z) he new
theorem oq{P:Program}{w:World}{H':Hp}{h':Heap}{kvs:List (Key×V)}{vs:List (Key×Value)}(z:kvs.length<=sizeLine) (hd:(a == sysModules)=false) (rel:KV kvs vs) (dd:h'.DictOf (bt P w) a vs) :
 bJ P w H' h' a (.dK kvs):=⟨z,hd,vs,rel,dd⟩
theorem Fx{H':Hp}{Q:Unit->Shared->Prop}(hu:A.units+1<cLine)(I:Inv X pins σ H s)(g:eP H a y v H')(ry:RelV y u)(rv:RelV v r) (h:∀s',Inv X pins σ H' s'->Q () s') :
 wpAny (model X.prog X.w) A (setItem (.ref a) u r) Q E s:=by
 rcases g with⟨kvs,k,e,ey,l,eH⟩|⟨kvs,k,b,e,ey,eb,l,eH⟩
 . subst ey eH
   obtain⟨z,hd,vs,rel,dd⟩:=uy I.hok e
   have hz:vs.length<=sizeLine:=by rw[← rel.length];exact z
   have hl:(putK kvs k v).length<=sizeLine:=by have:=d5 kvs k v;omega
   refine wpAny_setItem_pairs (hsz:=hz) (lN ry) dd λh' nz hs=>h _ ?_
   have he:∃q,h'.get? a=some q:=let ⟨q,_,_,hq,_⟩:=nz; ⟨q,hq⟩
   exact oo I (by rw[e];exact True.intro) hs he (oq hl hd (rel.put k rv) nz)
 . subst ey eH
   cases(show u=Value.ref b from ry)
   obtain⟨z,hd,xs,rel,dd⟩:=Sv I.hok e
   have hz:xs.length<=sizeLine:=by rw[← agG rel];exact z
   have hl:(putK kvs k v).length<=sizeLine:=by have:=d5 kvs k v;omega
   refine wpAny_setItem_heap (hsz:=hz) (aeZ hu) (mq I.hok eb) dd λh' nz hs=>h _ ?_
   obtain⟨q,es,ep,hq,h2,h3,h4,_,h5⟩:=nz
   refine oo I (by rw[e];exact True.intro) hs ⟨q,hq⟩ ⟨hl,hd,_,(rel.put k eb rv).keeps λc ys ec=>?_,q,es,ep,hq,h2,h3,h4,h5⟩
   rw[ah (aL ec e (λz=>nomatch z))]
   exact ec
end
section
variable {X:Cx}{pins:List (Addr×Obj)}{σ:St}{H:Hp}{s:Shared}{a:Addr}{kvs:List (Key×V)}{k:Key}{u:Value}{A:Around}{E:Value->Shared->Prop}
end
def NZ(i:Expr):Prop:=∀ov iv,subscripted i false ov iv=operate [ov,iv] (getItem ov iv)
theorem Mn{prog:Program}{w:World}{A:Around}{E:Value->Shared->Prop}{s:Shared}{env:Env}{value slice:Expr}{pos:Pos}{T id:String}{Q:Value->Shared->Prop}
 (hl:typeLookup (.type T) "__getitem__" = pure (some (.builtin id))) (hs:NZ slice)
 (h:wpAny (model prog w) A (eval value env) (λo dw=>wpAny (model prog w) A (eval slice env) (λi vP=>vP.TypeIs o T/\wpAny (model prog w) A (getItem o i) Q E vP) E dw) E s) :
 wpAny (model prog w) A (eval (.Subscript value slice pos) env) Q E s:=by
 refine Subscript_ (aeY h (λo dw nT=>aeY nT (λi vP tJ=>?_) λ_ _ x=>x) λ_ _ x=>x)
 obtain⟨hT,tJ⟩:=tJ
 unfold subscriptTail
 refine adk ?_
 rw[getitemInPython_of_ne hT.not_modules]
 refine adk (aha hT hl ?_)
 have fin:wpAny (model prog w) A (subscripted slice false o i) (λr Mo=>wpAny (model prog w) A (letTemporaryGo value o r >>= λ_=>pure r) Q E Mo) E vP:=by
  rw[hs o i]
  exact wpAny_operating (aeY tJ (λr Mo vT=>adk (wpAny_letTemporaryGo (adv vT))) λ_ _ x=>x)
 first
  | exact adv (adk fin)
  | exact adk (adv (adk fin))
  | exact adk fin
theorem Bt{X:Cx}{pins:List (Addr×Obj)}{σ:St}{H:Hp}{s:Shared}{a:Addr}{y:V}{o:Option V}(I:Inv X pins σ H s) (g:br H a y o):s.TypeIs (.ref a) "dict":=by
 rcases g with⟨kvs,k,e,_,_⟩|⟨kvs,k,b,e,_,_,_⟩
 . obtain⟨_,_,vs,_,dd⟩:=jw I.hok e
   exact dd.typeIs
 . obtain⟨_,_,xs,_,dd⟩:=ny I.hok e
   exact dd.typeIs
def Dy(td ty:TE):TE:=λσ H Q=>td σ H λx H1=>ty σ H1 λy H2=>∃a v,x=.ref a/\br H2 a y (some v)/\Q v H2
def Zh(ty td:TE):TE:=λσ H Q=>ty σ H λy H1=>td σ H1 λx H2=>∃a o,x=.ref a/\br H2 a y o/\Q (.bl o.isSome) H2
def Mp(ty td:TE):TE:=λσ H Q=>ty σ H λy H1=>td σ H1 λx H2=>∃a o,x=.ref a/\br H2 a y o/\Q (.bl (!o.isSome)) H2
def Sw(td ty tv:TE):TS:=λD σ H=>tv σ H λv H1=>td σ H1 λx H2=>ty σ H2 λy H3=>∃a H4,x=.ref a/\eP H3 a y v H4/\D.nx σ H4
section
variable {X:Cx}{o i e value:Expr}{pos pos' Ze:Pos}{td ty tv:TE}
theorem cG(hu:X.A.units+1<cLine)(ho:PE X o td)(hi:PE X i ty)(hs:NZ i):PE X (.Subscript o i pos) (Dy td ty):=by
 intro pins s σ H Q I h
 refine Mn PySem.F.slot_dict_getitem.lookup hs (aP (ho pins s σ H _ I h) λu s1 ⟨x,H1,I1,rx,q1⟩=>aP (hi pins s1 σ H1 _ I1 q1) λiv s2 ⟨y,H2,I2,ry,a,v,ex,g,q2⟩=>?_)
 subst ex
 obtain rfl:u=Value.ref a:=rx
 exact⟨Bt I2 g,Fw hu I2 g ry λw' s3 I3 kJ=>⟨v,H2,I3,kJ,q2⟩⟩
theorem ou(hu:X.A.units+1<cLine)(hi:PE X i ty)(ho:PE X o td):PC X .In i o (Zh ty td):=by
 intro pins s σ H Q I h
 refine aP (hi pins s σ H _ I h) λiv s1 ⟨y,H1,I1,ry,q1⟩=>aP (ho pins s1 σ H1 _ I1 q1) λu s2 ⟨x,H2,I2,rx,a,ov,ex,g,q2⟩=>?_
 subst ex
 obtain rfl:u=Value.ref a:=rx
 exact Zg hu I2 g ry λs3 I3=>⟨.bl ov.isSome,H2,I3,rfl,q2⟩
theorem kQ(hu:X.A.units+1<cLine)(hi:PE X i ty)(ho:PE X o td):PC X .NotIn i o (Mp ty td):=by
 intro pins s σ H Q I h
 refine aP (hi pins s σ H _ I h) λiv s1 ⟨y,H1,I1,ry,q1⟩=>aP (ho pins s1 σ H1 _ I1 q1) λu s2 ⟨x,H2,I2,rx,a,ov,ex,g,q2⟩=>?_
 subst ex
 obtain rfl:u=Value.ref a:=rx
 exact Mm hu I2 g ry λs3 I3=>⟨.bl (!ov.isSome),H2,I3,rfl,q2⟩
theorem dQ(hu:X.A.units+1<cLine)(ho:PE X o td)(hi:PE X i ty)(hv:PE X value tv) (hs:swapsWith value (some (.Subscript o i pos')) pos.line X.env=pure false) :
 PS X (.Assign [.Subscript o i pos'] value pos) (Sw td ty tv):=by
 intro pins s σ H D I h
 refine wpAny_Assign_Subscript (aP (hv pins s σ H _ I h) λr s1 ⟨v,H1,I1,rv,q1⟩=>aP (ho pins s1 σ H1 _ I1 q1) λu s2 ⟨x,H2,I2,rx,q2⟩=>aP (hi pins s2 σ H2 _ I2 q2) λiv s3 ⟨y,H3,I3,ry,a,H4,ex,g,q3⟩=>?_) hs
 subst ex
 obtain rfl:u=Value.ref a:=rx
 exact Fx hu I3 g ry rv λs4 I4=>⟨σ,H4,I4,q3⟩
end
theorem yM{P:Program}{w:World}{H:Hp}(h:Heap)(hb:sysModules<h.objs.size):bJ P w H (h.push {cls:=.type "dict",data:=.dict #[] }) h.objs.size (.dK []):=
 ⟨adW _,aej.mpr (adG (adR hb)),[],.nil,Heap.DictOf.new h⟩
theorem Ip{P:Program}{w:World}{H:Hp}(h:Heap)(hb:sysModules<h.objs.size):bJ P w H (h.push {cls:=.type "dict",data:=.dict #[] }) h.objs.size (.dT []):=
 ⟨adW _,aej.mpr (adG (adR hb)),[],.nil,_,#[],0,adP _ rfl,⟨rfl,rfl,rfl⟩,rfl,rfl,aex⟩
def N0:TE:=λ_ H Q=>∀p,H p=none->Q (.ref p) (upd H p (.dK []))
def N1:TE:=λ_ H Q=>∀p,H p=none->Q (.ref p) (upd H p (.dT []))
section
variable {X:Cx}{pos:Pos}
theorem jT:PE X (.Dict [] [] pos) N0:=λpins s σ H Q I h=>
 agW ⟨.ref s.heap.objs.size,_,I.laid (a:=s.heap.objs.size) (o:=.dK []) (t':=s.toks) (λ_ _ q=>adl _ q) (adn _) (yM s.heap I.big),rfl,h _ (I.hok.fresh (adn _))⟩
theorem yN:PE X (.Dict [] [] pos) N1:=λpins s σ H Q I h=>
 agW ⟨.ref s.heap.objs.size,_,I.laid (a:=s.heap.objs.size) (o:=.dT []) (t':=s.toks) (λ_ _ q=>adl _ q) (adn _) (Ip s.heap I.big),rfl,h _ (I.hok.fresh (adn _))⟩
end
def yO:List (TE×TE)->St->Hp->(List (V×V)->Hp->Prop)->Prop
 | [],_,H,Q=>Q [] H
 | (tk,tv)::r,σ,H,Q=>tk σ H λx H1=>tv σ H1 λy H2=>yO r σ H2 λps H3=>Q ((x,y)::ps) H3
abbrev VV:List (V×V)->List (Value×Value)->Prop:=Paired λp q=>RelV p.1 q.1/\RelV p.2 q.2
def J8(X:Cx)(pos:Pos) (keys:List (Option Expr)) (values:List Expr) (uz:List (TE×TE)):Prop:=
 ∀(pins:List (Addr×Obj)) (s:Shared) (σ:St) (H:Hp) (Q:List (V×V)->Hp->Prop),Inv X pins σ H s->yO uz σ H Q->
  wpAny (model X.prog X.w) X.A (evalPairs (pairTrees keys values X.env pos)) (λvs s'=>∃ps H',Inv X pins σ H' s'/\VV ps vs/\Q ps H') X.xe s
theorem ow{X:Cx}{pos:Pos} : J8 X pos [] [] []:=λpins s σ H Q I h=>pairTrees_nil_walk ⟨[],H,I,.nil,h⟩
theorem eQ{X:Cx}{pos:Pos}{k v:Expr}{ks:List (Option Expr)}{vs:List Expr}{tk tv:TE}{uz:List (TE×TE)}(hk:PE X k tk) (hv:PE X v tv) (hr:J8 X pos ks vs uz) :
 J8 X pos (some k::ks) (v::vs) ((tk,tv)::uz):=λpins s σ H Q I h=>
 pairTrees_cons_walk (aP (hk pins s σ H _ I h) λu s1 ⟨x,H1,I1,rx,q1⟩=>aP (hv pins s1 σ H1 _ I1 q1) λw2 s2 ⟨y,H2,I2,ry,q2⟩=>
  aP (hr pins s2 σ H2 _ I2 q2) λws s3 ⟨ps,H3,I3,rel,q3⟩=>⟨(x,y)::ps,H3,I3,.cons ⟨rx,ry⟩ rel,q3⟩)
def bG(kvs more:List (Key×V)):List (Key×V):=more.foldl (λacc kv=>putK acc kv.1 kv.2) kvs
theorem KV.merge:∀{more:List (Key×V)}{rs:List (Key×Value)}{kvs:List (Key×V)}{vs:List (Key×Value)},KV more rs->KV kvs vs->KV (bG kvs more) (merged vs rs):=by
 intro more rs kvs vs r
 unfold KV at r
 induction r generalizing kvs vs with
 | nil=>intro q;exact q
 | @cons p q ps qs h t ih=>
  intro r0
  have e:KV (putK kvs p.1 p.2) (stored vs q.1 q.2):=by
   have:=r0.put p.1 h.2
   rw[← h.1];exact this
  exact ih e
theorem eZ:∀(more kvs:List (Key×V)),(bG kvs more).length<=kvs.length+more.length
 | [],kvs=>by show kvs.length<=kvs.length+0;omega
 | p::r,kvs=>by
  have h1:=eZ r (putK kvs p.1 p.2)
  have h2:=d5 kvs p.1 p.2
  show (bG (putK kvs p.1 p.2) r).length<=_
  rw[adL];omega
theorem uA{P:Program}{w:World} : ∀{kvs:List (Key×V)}{ws:List (Value×Value)},VV (kvs.map λkv=>(kV kv.1,kv.2)) ws->∃rs,Carries (bt P w) ws rs/\KV kvs rs
 | [],_,r=>by rw[aeS]at r;cases r;exact⟨[],True.intro,.nil⟩
 | p::kvs,_,r=>by
  rw[adQ]at r
  cases r with
  | @cons a b as bs h t=>
   obtain⟨rs,c,q⟩:=uA (P:=P) (w:=w) t
   obtain⟨b1,b2⟩:=b
   exact⟨(p.1,b2)::rs,⟨lN h.1,rfl,c⟩,.cons ⟨rfl,h.2⟩ q⟩
def Sx(uz:List (TE×TE)):TE:=λσ H Q=>∀p,H p=none->yO uz σ (upd H p (.dK [])) λps H2=>H2 p=some (.dK [])/\∃kvs:List (Key×V),ps=kvs.map (λkv=>(kV kv.1,kv.2))/\kvs.length<=15/\Q (.ref p) (upd H2 p (.dK (bG [] kvs)))
theorem ox{X:Cx}{pos:Pos}{keys:List (Option Expr)}{values:List Expr}{uz:List (TE×TE)}(h:J8 X pos keys values uz) (ib:keys.all (·.isSome)=true) (hl:keys.length=values.length) (h0:keys≠[])
 (N2:keys.length<=15):PE X (.Dict keys values pos) (Sx uz):=by
 intro pins s σ H Q I q
 have hn:=I.hok.fresh (adn s.heap.objs.size)
 have I1:=I.laid (a:=s.heap.objs.size) (o:=.dK []) (h':=s.heap.push {cls:=.type "dict",data:=.dict #[] }) (t':=s.toks) (λ_ _ q=>adl _ q) (adn _) (yM s.heap I.big)
 refine wpAny_Dict_walk (knd:=bt X.prog X.w) ib hl h0 N2 (aP (h pins _ σ _ _ I1 (q _ hn)) λws s2 ⟨ps,H2,I2,rel,e,kvs,ep,lk,q2⟩=>?_)
 subst ep
 obtain⟨rs,c,rk⟩:=uA (P:=X.prog) (w:=X.w) rel
 obtain⟨z,hd,vs0,r0,dd⟩:=uy I2.hok e
 cases r0
 refine⟨rs,c,dd,λh' nz hs=>⟨.ref s.heap.objs.size,_,?_,rfl,q2⟩⟩
 have hz:(bG [] kvs).length<=sizeLine:=by
  have h1:=eZ kvs []
  rw[afm]at h1
  rw[aeF];omega
 have he:∃q,h'.get? s.heap.objs.size=some q:=let ⟨q,_,_,hq,_⟩:=nz; ⟨q,hq⟩
 exact oo I2 (by rw[e];exact True.intro) hs he (oq hz hd (rk.merge .nil) nz)
structure M1(X:Cx) (o:Expr) (m:Str) (apos:Pos) (e:Expr) (dU:Pos):Prop where
 base:attributeBase o m X.env (eval o X.env)=eval o X.env
 iG:((backTo dU (starEach [e] X.env)).all (λx=>!x.1) && (backToKw dU (keywordEach [] X.env)).all (λx=>x.1.isSome)
  && decide (([e]:List Expr).length+([]:List Keyword).length+(if ([]:List Keyword).isEmpty then 0 else 1)<30))=true
 line:(apos.endLine == dU.line)=true
 trees:backTo dU (starEach [e] X.env)=[(false,eval e X.env)]
structure M2(X:Cx) (o:Expr) (m:Str) (apos:Pos) (e f:Expr) (dU:Pos):Prop where
 base:attributeBase o m X.env (eval o X.env)=eval o X.env
 iG:((backTo dU (starEach [e,f] X.env)).all (λx=>!x.1) && (backToKw dU (keywordEach [] X.env)).all (λx=>x.1.isSome)
  && decide (([e,f]:List Expr).length+([]:List Keyword).length+(if ([]:List Keyword).isEmpty then 0 else 1)<30))=true
 line:(apos.endLine == dU.line)=true
 trees:backTo dU (starEach [e,f] X.env)=[(false,eval e X.env),(false,eval f X.env)]
def N3(H:Hp)(a:Addr):Prop:=(∃kvs,Rd H a (.dK kvs))\/∃kvs,Rd H a (.dT kvs)
theorem Fy{X:Cx}{pins:List (Addr×Obj)}{σ:St}{H:Hp}{s:Shared}{a:Addr}(I:Inv X pins σ H s) (d:N3 H a) :
 s.TypeIs (.ref a) "dict" /\ (∀b,Value.ref a=.ref b->∃ob,s.heap.get? b=some ob/\ob.dict=none)/\(a == sysModules)=false:=by
 rcases d with⟨kvs,e⟩|⟨kvs,e⟩
 . obtain⟨_,hd,vs,_,dd⟩:=jw I.hok e
   refine⟨dd.typeIs,λb q=>?_,hd⟩
   cases q
   obtain⟨ob,_,_,h1,h2,_⟩:=dd
   exact⟨ob,h1,h2.2.1⟩
 . obtain⟨_,hd,xs,_,dd⟩:=ny I.hok e
   refine⟨dd.typeIs,λb q=>?_,hd⟩
   cases q
   obtain⟨ob,_,_,h1,h2,_⟩:=dd
   exact⟨ob,h1,h2.2.1⟩
section
variable {X:Cx}{pins:List (Addr×Obj)}{σ:St}{H:Hp}{s:Shared}{a:Addr}{y d:V}{u r:Value}{o:Option V}{A:Around}{E:Value->Shared->Prop}
theorem N4{Q:Value->Shared->Prop}(hu:A.units+1<cLine)(I:Inv X pins σ H s)(g:br H a y o)(ry:RelV y u) (h:∀w' s',Inv X pins σ H s'->RelV (o.getD .aY) w'->Q w' s') :
 wpAny (model X.prog X.w) A (call (.builtin "dict.get") [.ref a,u]) Q E s:=by
 rcases g with⟨kvs,k,e,ey,l⟩|⟨kvs,k,b,e,ey,eb,l⟩
 . subst ey
   obtain⟨z,hd,vs,rel,dd⟩:=jw I.hok e
   refine af3 aes dd.typeIs aeU (afE _ _) (meets_dict_get (bt X.prog X.w) a (lN ry) hd) ⟨_,dd.mapOf,h _ _ (I.tok _) ?_⟩
   rw[l]
   exact(rel.val k).getD rfl
 . subst ey
   cases(show u=Value.ref b from ry)
   obtain⟨z,hd,xs,rel,dd⟩:=ny I.hok e
   refine af3 aes dd.typeIs aeU (afE _ _) (meetsH_dict_get (tupleKind (bt X.prog X.w)) a b hd) ⟨aeZ hu,k,xs,mq I.hok eb,dd,h _ _ (I.tok _) ?_⟩
   rw[l]
   exact(rel.val k).getD rfl
theorem N5{Q:Value->Shared->Prop}(hu:A.units+1<cLine)(I:Inv X pins σ H s)(g:br H a y o)(ry:RelV y u)(rd:RelV d r) (h:∀w' s',Inv X pins σ H s'->RelV (o.getD d) w'->Q w' s') :
 wpAny (model X.prog X.w) A (call (.builtin "dict.get") [.ref a,u,r]) Q E s:=by
 rcases g with⟨kvs,k,e,ey,l⟩|⟨kvs,k,b,e,ey,eb,l⟩
 . subst ey
   obtain⟨z,hd,vs,rel,dd⟩:=jw I.hok e
   refine af3 aes dd.typeIs aeU (agK _ _ _) (meets_dict_get_default (bt X.prog X.w) a (lN ry) hd r) ⟨_,dd.mapOf,h _ _ (I.tok _) ?_⟩
   rw[l]
   exact(rel.val k).getD rd
 . subst ey
   cases(show u=Value.ref b from ry)
   obtain⟨z,hd,xs,rel,dd⟩:=ny I.hok e
   refine af3 aes dd.typeIs aeU (agK _ _ _) (meetsH_dict_get_default (tupleKind (bt X.prog X.w)) a b hd r) ⟨aeZ hu,k,xs,mq I.hok eb,dd,h _ _ (I.tok _) ?_⟩
   rw[l]
   exact(rel.val k).getD rd
end
def N6(td ty:TE):TE:=λσ H Q=>td σ H λx H1=>∃a,x=.ref a/\N3 H1 a/\ty σ H1 λy H2=>∃o,br H2 a y o/\Q (o.getD .aY) H2
def N7(td ty tx:TE):TE:=λσ H Q=>td σ H λx H1=>∃a,x=.ref a/\N3 H1 a/\ty σ H1 λy H2=>tx σ H2 λz H3=>∃o,br H3 a y o/\Q (o.getD z) H3
section
variable {X:Cx}{o e f:Expr}{apos dU:Pos}{td ty tx:TE}
theorem tK(hu:X.A.units+1<cLine)(ho:PE X o td)(he:PE X e ty)(m:M1 X o "get" apos e dU):PE X (.Call (.Attribute o "get" apos) [e] [] dU) (N6 td ty):=by
 intro pins s σ H Q I h
 refine agz m.base m.iG m.line afa aes af4 (aP (ho pins s σ H _ I h) λu s1 ⟨x,H1,I1,rx,a,ex,d,q1⟩=>?_)
 subst ex
 obtain rfl:u=Value.ref a:=rx
 obtain⟨t1,t2,_⟩:=Fy I1 d
 refine⟨t1,t2,?_⟩
 rw[m.trees]
 refine aeV rfl (afu (afi (aP (he pins s1 σ H1 _ I1 q1) λiv s2 ⟨y,H2,I2,ry,ov,g,q2⟩=>afS ?_)))
 exact N4 hu I2 g ry λw' s3 I3 kJ=>⟨_,H2,I3,kJ,q2⟩
theorem yP(hu:X.A.units+1<cLine)(ho:PE X o td)(he:PE X e ty)(hf:PE X f tx)(m:M2 X o "get" apos e f dU):PE X (.Call (.Attribute o "get" apos) [e,f] [] dU) (N7 td ty tx):=by
 intro pins s σ H Q I h
 refine agz m.base m.iG m.line afa aes af4 (aP (ho pins s σ H _ I h) λu s1 ⟨x,H1,I1,rx,a,ex,d,q1⟩=>?_)
 subst ex
 obtain rfl:u=Value.ref a:=rx
 obtain⟨t1,t2,_⟩:=Fy I1 d
 refine⟨t1,t2,?_⟩
 rw[m.trees]
 refine aeV rfl (afu (afi (aP (he pins s1 σ H1 _ I1 q1) λiv s2 ⟨y,H2,I2,ry,q2⟩=>
  afi (aP (hf pins s2 σ H2 _ I2 q2) λfv s3 ⟨z,H3,I3,rz,ov,g,q3⟩=>afS ?_))))
 exact N5 hu I3 g ry rz λw' s4 I4 kJ=>⟨_,H3,I4,kJ,q3⟩
end
section
variable {X:Cx}{pins:List (Addr×Obj)}{σ:St}{H:Hp}{s:Shared}{a:Addr}{kvs:List (Key×V)}{A:Around}{E:Value->Shared->Prop}
theorem Iq{Q:Value->Shared->Prop}(I:Inv X pins σ H s) (e:Rd H a (.dK kvs)) (h:∀p s',H p=none->Inv X pins σ (upd H p (.dK kvs)) s'->Q (.ref p) s'):wpAny (model X.prog X.w) A (call (.type "dict") [.ref a]) Q E s:=by
 obtain⟨z,hd,vs,rel,dd⟩:=jw I.hok e
 refine kt_call_dict hd dd (by rw[← rel.length];exact z) λh' nz hs=>?_
 refine h _ _ (I.hok.fresh (adn _)) (I.laid (a:=s.heap.objs.size) (o:=.dK kvs) (t':=s.toks) (λb q hq=>?_) (adn _) (oq z (aej.mpr (adG (adR I.big))) rel nz))
 exact(hs.2 b (adR (adH hq))).trans (adl _ hq)
end
section
variable {X:Cx}{pins:List (Addr×Obj)}{σ:St}{H:Hp}{s:Shared}{a:Addr}{y:V}{u:Value}{A:Around}{E:Value->Shared->Prop}
end
end L2
namespace HT
open PySem PyProof.Rows
def lexLt:List Int->List Int->Bool
 | [],[]=>false
 | [],_::_=>true
 | _::_,[]=>false
 | x::xs,y::ys=>if x=y then lexLt xs ys else decide (x<y)
theorem Dz(x y:Int)(xs ys:List Int):lexLt (x::xs) (y::ys)=if x=y then lexLt xs ys else decide (x<y):=rfl
section
open PySem.SeqAt
open PySem.AutoSeq1 (wpAny_loadPart')
open PySem.MeetsSeq PySem.MeetsSeq2 PySem.MeetsSeq3
end
section
variable {prog:Program}{w:World}{A:Around}{E:Value->Shared->Prop}{s:Shared}
theorem Mq{t b:Addr}{vs ws:List Value}{Q:Value->Shared->Prop}(ht:IsTup s.heap t vs.toArray)(hb:IsTup s.heap b ws.toArray)(hv:vs≠[])
 (h1:ws=[]->Q (.ref t) s) (h2:ws≠[]->Q (.ref s.heap.objs.size) {s with heap:=s.heap.push {cls:=.type "tuple",data:=.seq (vs++ws).toArray} })
 (hsz:vs.length+ws.length<=sizeLine):wpAny (model prog w) A (binaryOp .Add (.ref t) (.ref b)) Q E s:=by
 obtain⟨⟨cls,dd,data,sl⟩,ho,hc,n,hd⟩:=id ht
 obtain⟨⟨Zi,BP,data2,J9⟩,yQ,jI,n2,hd2⟩:=id hb
 simp only at hc hd jI hd2
 subst hc hd jI hd2
 have e:vs.toArray++ws.toArray=(vs++ws).toArray:=by simp
 by_cases hw:ws=[]
 . exact concat_meets ⟨_,ho,rfl⟩ ⟨_,yQ,rfl⟩ agX ahC afP afF (afB _ _)
    (tuple_addW1 t b vs.toArray ws.toArray n n2 dd BP sl J9 (by simpa using hv) (by simp[hw])) ⟨ho,yQ,h1 hw⟩
 . refine concat_meets ⟨_,ho,rfl⟩ ⟨_,yQ,rfl⟩ agX ahC afP afF (afB _ _)
    (tuple_addW2 t b vs.toArray ws.toArray n n2 dd BP sl J9 (by simpa using hv) (by simpa using hw) (by rw[adz,adz];exact hsz)) ⟨ho,yQ,?_⟩
   rw[e]
   exact h2 hw
def kT(n d:Nat):Option Int->Nat
 | none=>d
 | some v=>if v<0 then (v+(n:Int)).toNat else min v.toNat n
theorem yR(n d:Nat):kT n d none=d:=rfl
theorem BQ(n d k:Nat):kT n d (some (k:Int))=min k n:=by
 show (if (k:Int)<0 then ((k:Int)+(n:Int)).toNat else min (k:Int).toNat n)=min k n
 rw[adw (by omega),ael]
end
end HT
namespace L2
open PySem PySem.Spec PyProof.Rows
abbrev TO:=St->Hp->(Option Int->Hp->Prop)->Prop
def PO(X:Cx)(e:Option Expr)(t:TO):Prop:=
 ∀(pins:List (Addr×Obj)) (s:Shared) (σ:St) (H:Hp) (Q:Option Int->Hp->Prop),Inv X pins σ H s->t σ H Q->
  wpAny (model X.prog X.w) X.A (evalPart e X.env) (λu s'=>∃o H',Inv X pins σ H' s'/\IsPart u o/\Q o H') X.xe s
def Mr:TO:=λ_ H Q=>Q none H
def Sy(t:TE):TO:=λσ H Q=>t σ H λx H1=>∃i,x=.int i/\Q (some i) H1
theorem intsAre_of{ns:List Int} : ∀{us:List Value},Vals (ns.map V.int) us->IntsAre us ns:=by
 induction ns with
 | nil=>intro us r;rw[aeS]at r;cases r;exact .nil
 | cons n ns ih=>
  intro us r
  rw[adQ]at r
  cases r with
  | cons r1 r2=>
   obtain⟨t,e⟩:=r1
   subst e
   exact .cons n t (ih r2)
section
variable {X:Cx}{e:Expr}{te:TE}{lo hi:Option Expr}{tl th:TO}{pos p2:Pos}
theorem gZ:PO X none Mr:=by
 intro pins s σ H Q I h
 rw[evalPart_none]
 exact adv ⟨none,H,I,.none,h⟩
theorem ff(h:PE X e te):PO X (some e) (Sy te):=by
 intro pins s σ H Q I hw
 rw[evalPart_some]
 refine aP (h pins s σ H _ I hw) λu s1 ⟨x,H1,I1,r1,q1⟩=>?_
 obtain⟨i,rfl,q⟩:=q1
 obtain⟨t,rfl⟩:=r1
 exact⟨some i,H1,I1,.int i t,q⟩
def Ka(X:Cx)(r:V->Option Int->Option Int->Hp->VK->Prop):Prop:=
 ∀(pins:List (Addr×Obj)) (s:Shared) (σ:St) (H:Hp) (x:V) (v vl vu:Value) (lo hi:Option Int) (sl:Addr) (Q:VK),Inv X pins σ H s->RelV x v->s.heap.IsSliceOf sl vl vu .none->IsPart vl lo->IsPart vu hi->r x lo hi H Q->
  ∃T id,typeLookup (.type T) "__getitem__" = pure (some (.builtin id))/\s.TypeIs v T/\wpAny (model X.prog X.w) X.A (getItem v (.ref sl)) (EP X pins σ Q) X.xe s
def tSl(r:V->Option Int->Option Int->Hp->VK->Prop)(te:TE)(tl th:TO):TE:=λσ H Q=>te σ H λx H1=>tl σ H1 λl H2=>th σ H2 λu H3=>r x l u H3 Q
theorem eR{r:V->Option Int->Option Int->Hp->VK->Prop}(hr:Ka X r)(he:PE X e te)(hl:PO X lo tl)(hu:PO X hi th):PE X (.Subscript e (.Slice lo hi none p2) pos) (tSl r te tl th):=by
 intro pins s σ H Q I h
 refine Subscript_ (aP (he pins s σ H _ I h) λv s1 ⟨x,H1,I1,r1,q1⟩=>?_)
 refine wpAny_Slice (aP (hl pins s1 σ H1 _ I1 q1) λvl s2 ⟨l,H2,I2,pl,q2⟩=>aP (hu pins s2 σ H2 _ I2 q2) λvu s3 ⟨u,H3,I3,pu,q3⟩=>?_)
 rw[evalPart_none]
 refine adv ?_
 have I4:Inv X pins σ H3 {s3 with heap:=s3.heap.push {cls:=.type "slice",data:=.fields #[vl,vu,.none] } }:=I3.kept (t':=s3.toks) λb ob q=>adl _ q
 obtain⟨T,id,hT,ht,hg⟩:=hr pins {s3 with heap:=s3.heap.push {cls:=.type "slice",data:=.fields #[vl,vu,.none] } } σ H3 x v vl vu l u s3.heap.objs.size Q I4 r1 (Heap.IsSliceOf.new ..) pl pu q3
 show wpAny (model X.prog X.w) X.A (subscriptTail e (.Slice lo hi none p2) v (.ref s3.heap.objs.size)) (EP X pins σ Q) X.xe {s3 with heap:=s3.heap.push {cls:=.type "slice",data:=.fields #[vl,vu,.none] } }
 exact tail_any (ops:=[.ref s3.heap.objs.size,v]) ht hT hg (by with_unfolding_all rfl)
def ie(xs:List V)(lo hi:Option Int):List V:=(xs.drop (HT.kT xs.length 0 lo)).take (HT.kT xs.length xs.length hi-HT.kT xs.length 0 lo)
theorem Bu(xs:List V)(lo hi:Option Int):(ie xs lo hi).length<=xs.length:=by
 unfold ie
 rw[adU,aeM]
 omega
def Sz(K:W.Frag):R2:=λx y H Q=>∃a b xs ys,x=.ref a/\y=.ref b/\aS K H a xs/\aS K H b ys/\xs≠[]/\xs.length+ys.length<=sizeLine/\
 (ys=[]->Q (.ref a) H)/\(ys≠[]->∀p,H p=none->Q (.ref p) (upd H p (.tup (xs++ys))))
theorem Vals.rN{xs:List V}{us:List Value}(r:Vals xs us):us=[] ↔ xs=[]:=by
 cases r with
 | nil=>simp
 | cons _ _=>simp
theorem Ms:gp X (binaryOp .Add) (Sz X.K):=by
 intro pins s σ H x y v u Q I rx ry h
 obtain⟨a,b,xs,ys,rfl,rfl,ha,hb,hx,hz,q1,q2⟩:=h
 cases rx
 cases ry
 obtain⟨its,r1,p1,_⟩:=I.tuple ha
 obtain⟨nU,r2,p2,_⟩:=I.tuple hb
 refine HT.Mq p1 p2 (λz=>hx (r1.rN.mp z)) (λz=>⟨.ref a,H,I,rfl,q1 (r2.rN.mp z)⟩) (λz=>?_) (by rw[← r1.length,← r2.length];exact hz)
 refine⟨.ref s.heap.objs.size,_,I.laid (t':=s.toks) (o:=.tup (xs++ys)) (λb ob q=>adl _ q) (adn _) ?_,rfl,q2 (λw=>z (r2.rN.mpr w)) _ (I.hok.fresh (adn _))⟩
 exact⟨by rw[adm];exact hz,_,r1.append r2,IsTup.new _ _⟩
theorem Bv:fJ X (.type "tuple") (λxs H Q=>∃a ys,xs=[.ref a]/\aS X.K H a ys/\Q (.ref a) H):=by
 intro pins s σ H xs us Q I r h
 obtain⟨a,ys,rfl,ha,q⟩:=h
 obtain⟨u,rfl,ru⟩:=vals1 r
 cases ru
 obtain⟨its,_,p1,_⟩:=I.tuple ha
 exact call_tuple_same (items:=its.toArray) p1 ⟨.ref a,H,I,rfl,q⟩
end
def uB(n:Nat)(i:Int):Option Nat:=if 0<=i then (if i<n then some i.toNat else none) else if -(n:Int)<=i then some (i+n).toNat else none
def jJ{α:Type}(xs:List α)(i:Int):Option α:=(uB xs.length i).bind λj=>xs[j]?
theorem BR{n:Nat}{i:Int}{j:Nat}(h:uB n i=some j):seqIndex? i n=some j/\j<n /\ -(n:Int)<=i/\i<n:=by
 unfold uB at h
 by_cases h0:0<=i
 . rw[adM h0]at h
   by_cases h1:i<n
   . rw[adM h1]at h
     have e:i.toNat=j:=adN h
     exact⟨by rw[seqIndex_of h0 h1,e],by omega,by omega,h1⟩
   . rw[adw h1]at h;cases h
 . rw[adw h0]at h
   by_cases h1 : -(n:Int)<=i
   . rw[adM h1]at h
     have e:(i+n).toNat=j:=adN h
     exact⟨by rw[seqIndex_neg (by omega) h1,e],by omega,h1,by omega⟩
   . rw[adw h1]at h;cases h
theorem vU{α:Type}{xs:List α}{i:Int}{v:α}(h:jJ xs i=some v):∃j,seqIndex? i xs.length=some j/\xs[j]?=some v/\j<xs.length /\ -(xs.length:Int)<=i/\i<xs.length:=by
 unfold jJ at h
 cases e:uB xs.length i with
 | none=>rw[e]at h;cases h
 | some j=>
  rw[e]at h
  obtain⟨h1,h2,h3,h4⟩:=BR e
  exact⟨j,h1,h,h2,h3,h4⟩
theorem aG{α:Type}{xs:List α}{j:Nat}{v:α}(h:xs[j]?=some v):jJ xs (j:Int)=some v:=by
 have hj:j<xs.length:=(adt.mp h).1
 have e:uB xs.length (j:Int)=some j:=by
  unfold uB
  rw[adM (by omega),adM (by omega)];simp
 unfold jJ;rw[e];exact h
theorem Ir{α:Type}(xs:List α)(v:α):jJ (xs++[v]) (-1)=some v:=by
 have hl:(xs++[v]).length=xs.length+1:=by simp
 have e:uB (xs++[v]).length (-1)=some xs.length:=by
  unfold uB
  rw[hl,adw (by decide),adM (by omega)]
  congr 1
  omega
 unfold jJ
 rw[e]
 show (xs++[v])[xs.length]?=some v
 simp
def Mt(b:Expr):Prop:=∀o i,subscripted b false o i=operate [o,i] (getItem o i)
def uC(X:Cx)(r:R2):Prop:=
 ∀(value slice:Expr) (pins:List (Addr×Obj)) (s:Shared) (σ:St) (H:Hp) (x y:V) (v u:Value) (Q:VK),Inv X pins σ H s->RelV x v->RelV y u->r x y H Q->
  subscripted slice false v u=operate [v,u] (getItem v u)->wpAny (model X.prog X.w) X.A (subscriptTail value slice v u) (EP X pins σ Q) X.xe s
def N8(X:Cx)(id:String)(r:V->List V->Hp->VK->Prop):Prop:=
 ∀(pins:List (Addr×Obj)) (s:Shared) (σ:St) (H:Hp) (x:V) (xs:List V) (v:Value) (us:List Value) (Q:VK),Inv X pins σ H s->RelV x v->Vals xs us->r x xs H Q->
  wpAny (model X.prog X.w) X.A (call (.builtin id) (v::us)) (EP X pins σ Q) X.xe s
section
variable {X:Cx}{a b:Expr}{ta tb:TE}{pos:Pos}
theorem uC.or{r r':R2}(h:uC X r)(h':uC X r'):uC X (λx y H Q=>r x y H Q\/r' x y H Q):=by
 intro value slice pins s σ H x y v u Q I rx ry q hs
 rcases q with q|q
 . exact h value slice pins s σ H x y v u Q I rx ry q hs
 . exact h' value slice pins s σ H x y v u Q I rx ry q hs
theorem aK{r:R2}(hr:uC X r)(ha:PE X a ta)(hb:PE X b tb)(hs:Mt b):PE X (.Subscript a b pos) (wJ r ta tb):=by
 intro pins s σ H Q I h
 exact Subscript_ (Ig ha hb I h λv u s2 x y H2 I2 rx ry q=>hr a b pins s2 σ H2 x y v u Q I2 rx ry q (hs _ _))
def eS(K:W.Frag):R2:=λx y H Q=>∃p xs i v,x=.ref p/\y=.int i/\aw K H p xs/\jJ xs i=some v/\Q v H
def cN(K:W.Frag):R2:=λx y H Q=>∃p xs i v,x=.ref p/\y=.int i/\aS K H p xs/\jJ xs i=some v/\Q v H
def N9:R2:=λx y H Q=>∃z i c,x=.str z/\y=.int i/\z.length<=sizeLine/\jJ z.cps.toList i=some c/\Q (.str ⟨#[c]⟩) H
theorem a0:uC X (eS X.K):=by
 intro value slice pins s σ H x y v u Q I rx ry h hs
 obtain⟨p,xs,i,z,rfl,rfl,hq,he,q⟩:=h
 cases rx
 obtain⟨t,rfl⟩:=ry
 obtain⟨its,r,pl,hz⟩:=I.list hq
 obtain⟨j,h1,h2,h3,h4,h5⟩:=vU he
 obtain⟨w,ew,kJ⟩:=r.get h2
 have hl:=r.length
 have hn:=oh
 have fin:EP X pins σ Q w s:=⟨z,H,I,kJ,q⟩
 by_cases h0:0<=i
 . have hj:i.toNat=j:=by
    rw[seqIndex_of h0 h5]at h1
    exact adN h1
   exact item_listR pl.isList h0 (by omega) (by rw[hj];simpa using ew) fin hs
 . have hj:(i+(its.toArray.size:Int)).toNat=j:=by
    rw[seqIndex_neg (by omega) h4]at h1
    rw[adz,← hl]
    exact adN h1
   exact subscriptTail_builtinR (x:=w) pl.isList.typeIs slot_list_getitem.lookup
    (wpAny_getItem_list_neg (Q:=λr s'=>r=w/\EP X pins σ Q r s') pl.isList (by omega) (by rw[adz] <;> omega) (by omega) (by rw[hj];simpa using ew) ⟨rfl,fin⟩) hs
theorem bx:uC X (cN X.K):=by
 intro value slice pins s σ H x y v u Q I rx ry h hs
 obtain⟨p,xs,i,z,rfl,rfl,hq,he,q⟩:=h
 cases rx
 obtain⟨t,rfl⟩:=ry
 obtain⟨its,r,pl,hz⟩:=I.tuple hq
 obtain⟨j,h1,h2,h3,h4,h5⟩:=vU he
 obtain⟨w,ew,kJ⟩:=r.get h2
 have hl:=r.length
 have hn:=oh
 have fin:EP X pins σ Q w s:=⟨z,H,I,kJ,q⟩
 exact subscriptTail_builtinR (x:=w) pl.typeIs slot_tuple_getitem.lookup
  (getItem_tuple (j:=j) (Q:=λr s'=>r=w/\EP X pins σ Q r s') pl (by omega) (by omega) (by rw[adz,← hl];exact h1) (by simpa using ew) ⟨rfl,fin⟩) hs
theorem uD:uC X N9:=by
 intro value slice pins s σ H x y v u Q I rx ry h hs
 obtain⟨z,i,c,rfl,rfl,hz,he,q⟩:=h
 obtain⟨t,rfl⟩:=rx
 obtain⟨t',rfl⟩:=ry
 obtain⟨j,h1,h2,h3,h4,h5⟩:=vU he
 have hl:z.cps.toList.length=z.length:=by simp[Str.length]
 rw[hl]at h1 h4 h5
 have hn:=oh
 exact tail_any (afT s z t) slot_str_getitem.lookup (getItem_str (c:=c) (by
  have e1:decide (i < -(2 ^ 63:Int))=false:=adS (by omega)
  have e2:decide (i≥2 ^ 63)=false:=adS (by omega)
  rw[e1,e2,Bool.or_false]) (by rw[h1];simpa using h2) ⟨.str ⟨#[c]⟩,H,I.tok _,⟨_,rfl⟩,q⟩) hs
def WD(K:W.Frag):R2:=λx y H Q=>eS K x y H Q\/cN K x y H Q\/N9 x y H Q
theorem qE:uC X (WD X.K):=a0.or (bx.or uD)
theorem DA(its:List Value)(n j:Nat)(u:Value):Obj.mapSeq (·.setIfInBounds j u) {cls:=.type "list",data:=.seq its.toArray n} = {cls:=.type "list",data:=.seq (its.set j u).toArray n}:=by
 simp[Obj.mapSeq]
theorem Inv.lst{pins:List (Addr×Obj)}{σ:St}{H:Hp}{s:Shared}{p:Addr}{xs:List V}(I:Inv X pins σ H s) (h:H p=some (.lst xs)) :
 ∃(its:List Value) (n:Nat),Vals xs its/\s.heap.get? p=some {cls:=.type "list",data:=.seq its.toArray n} /\ xs.length<=sizeLine:=by
 obtain⟨z,its,n,r,e⟩:=I.hok p _ h
 exact⟨its,n,r,e,z⟩
theorem Inv.Oa{pins:List (Addr×Obj)}{σ:St}{H:Hp}{s:Shared}{p:Addr}{xs ys:List V}{its its':List Value}{n n':Nat}{f:Obj->Obj}(I:Inv X pins σ H s) (h:H p=some (.lst xs))
 (ho:s.heap.get? p=some {cls:=.type "list",data:=.seq its.toArray n}) (hf:f {cls:=.type "list",data:=.seq its.toArray n} = {cls:=.type "list",data:=.seq its'.toArray n'}) (r:Vals ys its') (hz:ys.length<=sizeLine) (t:Nat) :
 Inv X pins σ (upd H p (.lst ys)) {s with heap:=s.heap.update p f,toks:=t}:=by
 have e:(s.heap.update p f).get? p=some {cls:=.type "list",data:=.seq its'.toArray n'}:=by
  rw[Heap.get?_update_self f ho (by rw[hf] <;> rfl),hf]
 refine I.write (x:=p) (e:=p) (by rw[h];trivial) (.inl rfl) (λb u hb q=>(Heap.get?_update_other _ _ (adG hb)).trans q) ⟨_,e⟩ ?_
 exact⟨hz,its',n',r,e⟩
def SA:V->V->V->Hp->(Hp->Prop)->Prop:=λo i v H Q=>∃p xs k j,o=.ref p/\i=.int k/\H p=some (.lst xs)/\uB xs.length k=some j/\Q (upd H p (.lst (xs.set j v)))
theorem set_list:NM X SA:=by
 intro pins s σ H o i v ov iv u Q I ro ri rv h
 obtain⟨p,xs,k,j,rfl,rfl,hp,hj,q⟩:=h
 cases ro
 obtain⟨t,rfl⟩:=ri
 obtain⟨its,n,r,ho,hz⟩:=I.lst hp
 obtain⟨h1,h2,h3,h4⟩:=BR hj
 have hl:=r.length
 have hn:=oh
 have I':Inv X pins σ (upd H p (.lst (xs.set j v))) {s with heap:=s.heap.update p (Obj.mapSeq (·.setIfInBounds j u))} :=
  I.Oa hp ho (DA its n j u) (r.set rv j) (by rw[List.length_set];exact hz) s.toks
 by_cases h0:0<=k
 . have hk:k.toNat=j:=by
    rw[seqIndex_of h0 h4]at h1
    exact adN h1
   exact W.ki_setAt ho h0 (by omega) (by rw[adz,← hl];exact h4) (by rw[hk];exact⟨_,I',q⟩)
 . have hk:(k+(its.toArray.size:Int)).toNat=j:=by
    rw[seqIndex_neg (by omega) h3]at h1
    rw[adz,← hl]
    exact adN h1
   exact W.ki_setBack ho (by omega) (by rw[adz,← hl];exact h3) (by omega) (by rw[hk];exact⟨_,I',q⟩)
theorem yS(lo hi:Option Int)(n:Nat):(sliceBounds lo hi none n).1=((HT.kT n 0 lo:Nat):Int)/\(sliceBounds lo hi none n).2.1=((HT.kT n n hi:Nat):Int)/\(sliceBounds lo hi none n).2.2=1:=by
 refine⟨?_,?_,rfl⟩
 . cases lo with
   | none=>simp[sliceBounds,HT.kT]
   | some i=>
    simp only[sliceBounds,HT.kT,agY,show (1:Int)>0 by decide,age]
    by_cases h:i<0
    . simp only[h,age] <;> omega
    . simp only[h,af1] <;> omega
 . cases hi with
   | none=>simp[sliceBounds,HT.kT]
   | some i=>
    simp only[sliceBounds,HT.kT,agY,show (1:Int)>0 by decide,age]
    by_cases h:i<0
    . simp only[h,age] <;> omega
    . simp only[h,af1] <;> omega
theorem yd(its:List Value)(lo hi:Option Int):slicePick its.toArray lo hi none=((its.drop (HT.kT its.length 0 lo)).take (HT.kT its.length its.length hi-HT.kT its.length 0 lo)).toArray:=by
 obtain⟨h1,h2,h3⟩:=yS lo hi its.toArray.size
 unfold slicePick
 rw[h1,h2,h3]
 simp only[sliceRange_one,pick_run,adz] <;> rfl
def Zj(K:W.Frag):V->Option Int->Option Int->Hp->VK->Prop:=λx lo hi H Q=>∃a xs,x=.ref a/\aw K H a xs/\∀p,H p=none->Q (.ref p) (upd H p (.lst (ie xs lo hi)))
theorem oy:Ka X (Zj X.K):=by
 intro pins s σ H x v vl vu lo hi sl Q I rx hs pl pu h
 obtain⟨a,xs,rfl,hx,q⟩:=h
 cases rx
 obtain⟨its,r,ht,hz⟩:=I.list hx
 have hlen:=r.length
 refine⟨"list",_,slot_list_getitem.lookup,ht.isList.typeIs,?_⟩
 refine wpAny_getItem_list_slice ht.isList hs pl pu .none (by simp) ?_ (by rw[adz] <;> omega)
 rw[yd,← hlen]
 refine⟨.ref s.heap.objs.size,_,I.laid (t':=s.toks) (o:=.lst (ie xs lo hi)) (λb ob q=>adl _ q) (adn _) ?_,rfl,q _ (I.hok.fresh (adn _))⟩
 exact⟨ady (Bu xs lo hi) hz,_,0,(r.drop (HT.kT xs.length 0 lo)).take (HT.kT xs.length xs.length hi-HT.kT xs.length 0 lo),adP _ rfl⟩
def lO:V->Bool
 | .aY=>true
 | .bl _=>true
 | .int _=>true
 | .str _=>true
 | _=>false
def kU:V->V->Bool
 | .aY,.aY=>true
 | .bl a,.bl b=>a == b
 | .bl a,.int b=>(if a then 1 else 0) == b
 | .int a,.bl b=>a == (if b then 1 else 0)
 | .int a,.int b=>a == b
 | .str a,.str b=>a == b
 | _,_=>false
theorem uE{A:Around}{s:Shared}{y x:V}{u v:Value}(ry:RelV y u)(rx:RelV x v)(fy:lO y=true)(fx:lO x=true):SeqAt.EqAt A s u v (kU y x):=by
 cases y with
 | aY=>
  cases ry
  cases x with
  | aY=>cases rx;exact SeqAt.EqAt.same _
  | bl b=>cases rx;exact SeqAt.EqAt.none_bool b
  | int b=>obtain⟨t,rfl⟩:=rx;exact SeqAt.EqAt.none_int b t
  | str b=>obtain⟨t,rfl⟩:=rx;exact SeqAt.EqAt.none_str b t
  | _=>exact absurd (show false=true from fx) adO
 | bl a=>
  cases ry
  cases x with
  | aY=>cases rx;exact SeqAt.EqAt.bool_none a
  | bl b=>cases rx;exact SeqAt.EqAt.bool_bool a b
  | int b=>obtain⟨t,rfl⟩:=rx;exact SeqAt.EqAt.bool_int a b t
  | str b=>obtain⟨t,rfl⟩:=rx;exact SeqAt.EqAt.bool_str a b t
  | _=>exact absurd (show false=true from fx) adO
 | int a=>
  obtain⟨t',rfl⟩:=ry
  cases x with
  | aY=>cases rx;exact SeqAt.EqAt.int_none a t'
  | bl b=>cases rx;exact SeqAt.EqAt.int_bool a t' b
  | int b=>obtain⟨t,rfl⟩:=rx;exact SeqAt.EqAt.int_int a t' b t
  | str b=>obtain⟨t,rfl⟩:=rx;exact SeqAt.EqAt.int_str a t' b t
  | _=>exact absurd (show false=true from fx) adO
 | str a=>
  obtain⟨t',rfl⟩:=ry
  cases x with
  | aY=>cases rx;exact SeqAt.EqAt.str_none a t'
  | bl b=>cases rx;exact SeqAt.EqAt.str_bool a t' b
  | int b=>obtain⟨t,rfl⟩:=rx;exact SeqAt.EqAt.str_int a t' b t
  | str b=>obtain⟨t,rfl⟩:=rx;exact SeqAt.EqAt.str_str a t' b t
  | _=>exact absurd (show false=true from fx) adO
 | _=>exact absurd (show false=true from fy) adO
def mr(x:V)(u:Value):Bool:=match u with
 | .none=>kU .aY x
 | .bool b=>kU (.bl b) x
 | .int i _=>kU (.int i) x
 | .str z _=>kU (.str z) x
 | _=>false
theorem Fz{x y:V}{u:Value}(r:RelV y u)(f:lO y=true):mr x u=kU y x:=by
 cases y with
 | aY=>cases r;rfl
 | bl b=>cases r;rfl
 | int i=>obtain⟨t,rfl⟩:=r;rfl
 | str z=>obtain⟨t,rfl⟩:=r;rfl
 | _=>exact absurd (show false=true from f) adO
theorem oA{x:V} : ∀{xs:List V}{us:List Value},Vals xs us->xs.all lO=true->us.any (mr x)=xs.any λy=>kU y x
 | _,_,.nil,_=>rfl
 | y::xs,u::us,.cons r t,f=>by
  rw[ahD,aeb]at f
  rw[afs,afs,Fz r f.1,oA t f.2]
theorem my{A:Around}{s:Shared}{x:V}{v:Value}(rx:RelV x v)(fx:lO x=true):∀{xs:List V}{us:List Value},Vals xs us->xs.all lO=true->∀u∈us,SeqAt.EqAt A s u v (mr x u)
 | _,_,.nil,_=>λu hu=>by cases hu
 | y::xs,u::us,.cons r t,f=>λu' hu=>by
  rw[ahD,aeb]at f
  rcases adq.mp hu with rfl|hu
  . rw[Fz r f.1];exact uE r rx f.1 fx
  . exact my rx fx t f.2 u' hu
def uF(x:V)(xs:List V):Bool:=xs.any λy=>kU y x
def Ob(K:W.Frag)(neg:Bool):R2:=λx y H Q=>∃p xs,y=.ref p/\(aw K H p xs\/aS K H p xs)/\lO x=true/\xs.all lO=true/\Q (.bl (if neg then !uF x xs else uF x xs)) H
theorem FA:gp X (compareOp .In) (Ob X.K false):=by
 intro pins s σ H x y v u Q I rx ry h
 obtain⟨p,xs,rfl,hq,fx,fs,q⟩:=h
 cases ry
 rcases hq with hq|hq
 . obtain⟨its,r,pl,hz⟩:=I.list hq
   refine ahb (mr x) pl.isList (λw hw=>my rx fx r fs w (by simpa using hw)) ⟨.bl _,H,I,rfl,?_⟩
   rw[show its.toArray.any (mr x)=its.any (mr x) by simp,oA r fs]
   exact q
 . obtain⟨its,r,pl,hz⟩:=I.tuple hq
   refine SeqAt.in_tupleAt (mr x) pl (λw hw=>my rx fx r fs w (by simpa using hw)) ⟨.bl _,H,I,rfl,?_⟩
   rw[show its.toArray.any (mr x)=its.any (mr x) by simp,oA r fs]
   exact q
theorem yT:gp X (compareOp .NotIn) (Ob X.K true):=by
 intro pins s σ H x y v u Q I rx ry h
 obtain⟨p,xs,rfl,hq,fx,fs,q⟩:=h
 cases ry
 rcases hq with hq|hq
 . obtain⟨its,r,pl,hz⟩:=I.list hq
   refine SeqAt.notIn_listAt (mr x) pl.isList (λw hw=>my rx fx r fs w (by simpa using hw)) ⟨.bl _,H,I,rfl,?_⟩
   rw[show its.toArray.any (mr x)=its.any (mr x) by simp,oA r fs]
   exact q
 . obtain⟨its,r,pl,hz⟩:=I.tuple hq
   refine SeqAt.notIn_tupleAt (mr x) pl (λw hw=>my rx fx r fs w (by simpa using hw)) ⟨.bl _,H,I,rfl,?_⟩
   rw[show its.toArray.any (mr x)=its.any (mr x) by simp,oA r fs]
   exact q
theorem cc:fJ X (.builtin "len") (λxs H Q=>∃p ys,xs=[.ref p]/\(aw X.K H p ys\/aS X.K H p ys)/\Q (.int ys.length) H):=by
 intro pins s σ H xs us Q I r h
 obtain⟨p,ys,rfl,hq,q⟩:=h
 obtain⟨u,rfl,rx⟩:=vals1 r
 cases rx
 have hn:=oh
 rcases hq with hq|hq
 . obtain⟨its,r',pl,hz⟩:=I.list hq
   have hlen:=r'.length
   exact Calls.call_len_list pl.isList (by simp only[adz] <;> omega) ⟨.int ys.length,H,I.tok _,⟨s.toks+1,by rw[adz,hlen]⟩,q⟩
 . obtain⟨its,r',pl,hz⟩:=I.tuple hq
   have hlen:=r'.length
   exact len_tuple pl (by simp only[adz] <;> omega) ⟨.int ys.length,H,I.tok _,⟨s.toks+1,by rw[adz,hlen]⟩,q⟩
theorem ig:fJ X (.type "list") (λxs H Q=>∃p ys,xs=[.ref p]/\(aw X.K H p ys\/aS X.K H p ys)/\∀l,H l=none->Q (.ref l) (upd H l (.lst ys))):=by
 intro pins s σ H xs us Q I r h
 obtain⟨p,ys,rfl,hq,q⟩:=h
 obtain⟨u,rfl,rx⟩:=vals1 r
 cases rx
 have fin:∀(its:List Value),Vals ys its->ys.length<=sizeLine->∀(h':Heap) (c':Nat),(∀b o',s.heap.get? b=some o'->h'.get? b=some o')->
  h'.get? s.heap.objs.size=some {cls:=.type "list",dict:=none,data:=.seq its.toArray c',slots:=#[] } -> EP X pins σ Q (.ref s.heap.objs.size) {s with heap:=h'}:=λits r' hz h' c' kp e=>
  ⟨.ref s.heap.objs.size,_,I.laid (t':=s.toks) kp (adn _) (show bJ X.prog X.w _ h' _ (.lst ys) from⟨hz,its,c',r',e⟩),rfl,q _ (I.hok.fresh (adn _))⟩
 rcases hq with hq|hq
 . obtain⟨its,r',pl,hz⟩:=I.list hq
   have hlen:=r'.length
   obtain⟨o,ho,hc,n,hd⟩:=pl.isList
   exact call_list_seq p (.inl rfl) ho hc hd (λh' c' kp e=>fin its r' hz h' c' kp e) (by simp only[adz] <;> omega)
 . obtain⟨its,r',pl,hz⟩:=I.tuple hq
   have hlen:=r'.length
   obtain⟨o,ho,hc,n,hd⟩:=pl
   exact call_list_seq p (.inr rfl) ho hc hd (λh' c' kp e=>fin its r' hz h' c' kp e) (by simp only[adz] <;> omega)
theorem ye:fJ X (.type "tuple") (λxs H Q=>∃p ys,xs=[.ref p]/\((aw X.K H p ys/\∀l,H l=none->Q (.ref l) (upd H l (.tup ys)))\/(aS X.K H p ys/\Q (.ref p) H))):=by
 intro pins s σ H xs us Q I r h
 obtain⟨p,ys,rfl,h⟩:=h
 obtain⟨u,rfl,rx⟩:=vals1 r
 cases rx
 rcases h with⟨hq,q⟩|⟨hq,q⟩
 . obtain⟨its,r',pl,hz⟩:=I.list hq
   have hlen:=r'.length
   refine call_tuple_list pl.isList (λh' kp=>?_) (by simp only[adz] <;> omega)
   have I1:Inv X pins σ H {s with heap:=h'}:=I.kept (t':=s.toks) kp
   have I2:Inv X pins σ (upd H h'.objs.size (.tup ys)) {s with heap:=h'.push {cls:=.type "tuple",data:=.seq its.toArray} } :=
    I1.laid (t':=s.toks) (λb o e=>adl _ e) (adn _) (show bJ X.prog X.w _ _ _ (.tup ys) from⟨hz,its,r',IsTup.new _ _⟩)
   exact⟨.ref h'.objs.size,_,I2,rfl,q _ (I1.hok.fresh (adn _))⟩
 . obtain⟨its,r',pl,hz⟩:=I.tuple hq
   exact call_tuple_same pl ⟨.ref p,H,I,rfl,q⟩
def Oc(K:W.Frag)(T:String)(x:V)(H:Hp):Prop:=match x with
 | .str _=>T = "str"
 | .int _=>T = "int"
 | .ref p=>(T = "list" /\ ∃xs,aw K H p xs)\/(T = "tuple" /\ ∃o,K.lookup p=some o/\o.cls=.type "tuple" /\ o.dict=none)\/
  (T = "dict" /\ ((∃kvs,H p=some (.dK kvs))\/∃kvs,H p=some (.dT kvs)))\/(T = "set" /\ ∃S n,H p=some (.set S n))
 | _=>False
theorem FC{pins:List (Addr×Obj)}{σ:St}{H:Hp}{s:Shared}{T:String}{x:V}{v:Value}(I:Inv X pins σ H s) (r:RelV x v) (ty:Oc X.K T x H) :
 s.TypeIs v T/\∀a,v=.ref a->∃ob,s.heap.get? a=some ob/\ob.dict=none:=by
 cases x with
 | str z=>
  obtain⟨t,rfl⟩:=r
  cases(show T = "str" from ty)
  exact⟨afT s z t,λ_ e=>nomatch e⟩
 | int i=>
  obtain⟨t,rfl⟩:=r
  cases(show T = "int" from ty)
  exact⟨typeIs_int s i t,λ_ e=>nomatch e⟩
 | ref p=>
  cases r
  rcases ty with⟨rfl,xs,hq⟩|⟨rfl,o,hk,hc,hd⟩|⟨rfl,hk⟩|⟨rfl,S,n,hk⟩
  . obtain⟨its,_,pl,_⟩:=I.list hq
    refine⟨pl.isList.typeIs,λa e=>?_⟩
    cases e
    obtain⟨o,n,e,c,hd,_⟩:=pl
    exact⟨o,e,hd⟩
  . refine⟨⟨o,I.hZ p o hk,hc⟩,λa e=>?_⟩
    cases e
    exact⟨o,I.hZ _ o hk,hd⟩
  . have z:∃o,s.heap.get? p=some o/\o.ExactDict:=by
     rcases hk with⟨kvs,hk⟩|⟨kvs,hk⟩
     . obtain⟨_,_,_,_,o,_,_,e,ex,_⟩:=I.hok p _ hk
       exact⟨o,e,ex⟩
     . obtain⟨_,_,_,_,o,_,_,e,ex,_⟩:=I.hok p _ hk
       exact⟨o,e,ex⟩
    obtain⟨o,e,ex⟩:=z
    refine⟨⟨o,e,ex.1⟩,λa e2=>?_⟩
    cases e2
    exact⟨o,e,ex.2.1⟩
  . obtain⟨o,_,_,_,e,ex,_⟩:=I.hok p _ hk
    refine⟨⟨o,e,ex.1⟩,λa e2=>?_⟩
    cases e2
    exact⟨o,e,ex.2.1⟩
 | _=>exact False.elim ty
def Zk(K:W.Frag)(T:String)(r:V->List V->Hp->VK->Prop)(to:TE):TE:=λσ H Q=>to σ H λx H1=>Oc K T x H1/\r x [] H1 Q
def WE(K:W.Frag)(T:String)(r:V->List V->Hp->VK->Prop)(to:TE)(t:TA):TE:=λσ H Q=>to σ H λx H1=>Oc K T x H1/\t σ H1 λxs H2=>r x xs H2 Q
variable {o e:Expr}{es:List Expr}{to:TE}{t:TA}{name:Str}{apos dU:Pos}{T id:String}{r:V->List V->Hp->VK->Prop}
theorem Od(pa:PlainAttrs T)(slot:Slot T name id) (Oe:typeOf (.builtin id)=pure (.type "method_descriptor")) (hm:N8 X id r) (ho:PE X o to)
 (DB:attributeBase o name X.env (eval o X.env)=eval o X.env:=by rfl) (DC:(apos.endLine == dU.line)=true:=by rfl):PE X (.Call (.Attribute o name apos) [] [] dU) (Zk X.K T r to):=by
 intro pins s σ H Q I h
 refine wpAny_Call_method0_late DB DC (aP (ho pins s σ H _ I h) λv s1 ⟨x,H1,I1,r1,ty,q1⟩=>?_)
 obtain⟨h1,h2⟩:=FC I1 r1 ty
 exact⟨T,id,pa,slot,Oe,h1,h2,aeV rfl (PySem.evalArgs_none (hm pins s1 σ H1 x [] v [] Q I1 r1 .nil q1))⟩
theorem eV(pa:PlainAttrs T)(slot:Slot T name id) (Oe:typeOf (.builtin id)=pure (.type "method_descriptor")) (hm:N8 X id r) (ho:PE X o to) (ha:PA X (e::es) t)
 (DB:attributeBase o name X.env (eval o X.env)=eval o X.env:=by rfl)
 (Zl:((backTo dU (starEach (e::es) X.env)).all (λx=>!x.1) && (backToKw dU (keywordEach [] X.env)).all (λx=>x.1.isSome)
  && decide ((e::es).length+([]:List Keyword).length+(if ([]:List Keyword).isEmpty then 0 else 1)<30))=true:=by rfl)
 (DC:(apos.endLine == dU.line)=true:=by rfl) (hs:starEach (e::es) X.env=(false,eval e X.env)::starEach es X.env:=by rfl) (Of:(backTo dU (starEach es X.env)).any (·.1)=false:=by rfl) :
 PE X (.Call (.Attribute o name apos) (e::es) [] dU) (WE X.K T r to t):=by
 intro pins s σ H Q I h
 refine wpAny_Call_method_late DB Zl DC rfl (aP (ho pins s σ H _ I h) λv s1 ⟨x,H1,I1,r1,ty,q1⟩=>?_)
 obtain⟨h1,h2⟩:=FC I1 r1 ty
 refine⟨T,id,pa,slot,Oe,h1,h2,?_⟩
 have hA:=ha dU pins s1 σ H1 _ I1 q1
 rw[hs]at hA ⊢
 refine aeV (by show (false || (backTo dU (starEach es X.env)).any (·.1))=false;rw[Of] <;> rfl) (afu ?_)
 exact aP hA λus s2 ⟨vs,H2,I2,r2,q2⟩=>hm pins s2 σ H2 x vs v us Q I2 r1 r2 q2
end
def wR(X:Cx)(id:String)(r:V->List V->Hp->VK->Prop):Prop:=
 ∀(pins:List (Addr×Obj)) (s:Shared) (σ:St) (H:Hp) (x:V) (xs:List V) (v:Value) (us:List Value) (Q:VK),Inv X pins σ H s->RelV x v->Vals xs us->r x xs H Q->
  wpAny (model X.prog X.w) X.A (call (.builtin id) (v::us)) (EP X pins σ Q) X.xe s
theorem Vals.one:∀{x:V}{us:List Value},Vals [x] us->∃u,us=[u]/\RelV x u
 | _,_,.cons r .nil=>⟨_,rfl,r⟩
theorem Vals.two:∀{x y:V}{us:List Value},Vals [x,y] us->∃u v,us=[u,v]/\RelV x u/\RelV y v
 | _,_,_,.cons r (.cons q .nil)=>⟨_,_,rfl,r,q⟩
theorem Vals.zero:∀{us:List Value},Vals [] us->us=[]
 | _,.nil=>rfl
theorem Vals.dropLast{xs:List V}{us:List Value}(h:Vals xs us):Vals xs.dropLast us.dropLast:=by
 induction h with
 | nil=>exact .nil
 | cons r t ih=>
  cases t with
  | nil=>exact .nil
  | cons q t'=>exact .cons r ih
theorem DD{α:Type}(l:List α):l.eraseIdx (l.length-1)=l.dropLast:=by
 induction l with
 | nil=>rfl
 | cons a r ih=>
  cases r with
  | nil=>rfl
  | cons b r=>
   have e:(a::b::r).length-1=((b::r).length-1)+1:=by
    have h1:(a::b::r).length=r.length+2:=rfl
    have h2:(b::r).length=r.length+1:=rfl
    omega
   rw[e,List.eraseIdx_cons_succ,ih]
   all_goals rfl
section
variable {X:Cx}{pins:List (Addr×Obj)}{σ:St}{H:Hp}{s:Shared}{l b:Addr}{xs ys zs:List V}
theorem Inv.DE{its its':List Value}{n:Nat}{f:Array Value->Array Value}{t':Nat}(I:Inv X pins σ H s) (hH:H l=some (.lst xs))
 (e:s.heap.get? l=some {cls:=.type "list",data:=.seq its.toArray n}) (hf:f its.toArray=its'.toArray) (hv:Vals ys its') (hz:ys.length<=sizeLine) :
 Inv X pins σ (upd H l (.lst ys)) {s with heap:=s.heap.update l (Obj.mapSeq f),toks:=t'}:=by
 have q:=PySem.IsL.update e f
 rw[hf]at q
 refine I.write (x:=l) (e:=l) (by rw[hH];exact trivial) (.inl rfl) (λb' u hb hu=>(Heap.get?_update_other s.heap (Obj.mapSeq f) (adG hb)).trans hu) ⟨_,q⟩ ?_
 exact⟨hz,its',_,hv,q⟩
theorem Inv.Iu{its:List Value}{t':Nat}(I:Inv X pins σ H s)(hv:Vals ys its)(hz:ys.length<=sizeLine) :
 Inv X pins σ (upd H s.heap.objs.size (.lst ys)) {s with heap:=s.heap.push {cls:=.type "list",data:=.seq its.toArray},toks:=t'} :=
 I.laid (λ_ _ q=>adl _ q) (adn _) ⟨hz,its,0,hv,adP _ rfl⟩
theorem Inv.fresh(I:Inv X pins σ H s):H s.heap.objs.size=none:=I.hok.fresh (adn _)
theorem Inv.tL(I:Inv X pins σ H s) (hH:H l=some (.lst xs)):xs.length<=sizeLine/\∃(its:List Value) (n:Nat),Vals xs its/\xs.length=its.length/\s.heap.get? l=some {cls:=.type "list",data:=.seq its.toArray n}:=by
 obtain⟨z,its,n,r,e⟩:=I.hok l _ hH
 exact⟨z,its,n,r,r.length,e⟩
theorem tM{n:Nat}(h:n<=sizeLine):Builtin.List.listTooLong n=false:=by
 unfold Builtin.List.listTooLong
 exact adS (by omega)
end
section
variable {X:Cx}
def Mu:V->List V->Hp->VK->Prop:=λx vs H Q=>∃l xs y,x=.ref l/\vs=[y]/\H l=some (.lst xs)/\xs.length<sizeLine/\Q .aY (upd H l (.lst (xs++[y])))
theorem d7:wR X "list.append" Mu:=by
 intro pins s σ H x vs v us Q I rx rv h
 obtain⟨l,xs,y,rfl,rfl,hH,hz,q⟩:=h
 cases rx
 obtain⟨u,rfl,ru⟩:=rv.one
 obtain⟨z,its,n,r,hl,e⟩:=I.tL hH
 refine afU ad7 ⟨_,e,rfl⟩ F.entry_list_append (F.args_list_append_2 _ _) (PySem.list_append l its.toArray n u (by rw[adz];omega)) ⟨e,?_⟩
 refine⟨.aY,_,I.DE (its':=its++[u]) hH e (by simp) (r.append (.cons ru .nil)) ?_,rfl,q⟩
 rw[adm,ad2]
 omega
def Mv:V->List V->Hp->VK->Prop:=λx vs H Q=>∃l b xs zs,x=.ref l/\vs=[.ref b]/\H l=some (.lst xs)/\H b=some (.lst zs)/\xs.length+zs.length<=sizeLine/\Q .aY (upd H l (.lst (xs++zs)))
theorem FD:wR X "list.extend" Mv:=by
 intro pins s σ H x vs v us Q I rx rv h
 obtain⟨l,b,xs,zs,rfl,rfl,hH,hB,hz,q⟩:=h
 cases rx
 obtain⟨u,rfl,ru⟩:=rv.one
 cases ru
 obtain⟨z,its,n,r,hl,e⟩:=I.tL hH
 obtain⟨z2,nU,n2,r2,du,e2⟩:=I.tL hB
 have hsz:its.toArray.size+nU.toArray.size<=sizeLine:=by rw[adz,adz];omega
 have SD:¬ (!its.toArray.isEmpty && Builtin.List.listTooLong (its.toArray.size+nU.toArray.size))=true:=by
  rw[tM hsz,Bool.and_false]
  exact adO
 refine afU F.slot_list_extend ⟨_,e,rfl⟩ F.entry_list_extend (F.args_list_extend_2 _ _)
  (AutoSeq1.list_extend_list_list_0 l its.toArray n b nU.toArray n2 SD (by rw[adz];omega) (by omega)) ⟨e,e2,?_⟩
 refine⟨.aY,_,I.DE (its':=its++nU) hH e (by simp) (r.append r2) ?_,rfl,q⟩
 rw[adm]
 omega
def Zm:V->List V->Hp->VK->Prop:=λx vs H Q=>∃l xs y,x=.ref l/\vs=[]/\H l=some (.lst xs)/\xs[xs.length-1]?=some y/\Q y (upd H l (.lst xs.dropLast))
theorem Og:wR X "list.pop" Zm:=by
 intro pins s σ H x vs v us Q I rx rv h
 obtain⟨l,xs,y,rfl,rfl,hH,hy,q⟩:=h
 cases rx
 have ij:=rv.zero
 subst ij
 obtain⟨z,its,n,r,hl,e⟩:=I.tL hH
 obtain⟨u,hu,ru⟩:=r.get hy
 have Oh:its.toArray[its.toArray.size-1]?=some u:=by
  show its.toArray[its.length-1]?=some u
  rw[← af5,← hl]
  exact hu
 refine afU F.slot_list_pop ⟨_,e,rfl⟩ F.entry_list_pop (F.args_list_pop_1 _) (MeetsSeq.list_pop_last l its.toArray n u Oh (by rw[adz];omega)) ⟨e,?_⟩
 refine⟨y,_,I.DE (its':=its.dropLast) hH e ?_ r.dropLast ?_,ru,q⟩
 . show its.toArray.eraseIdxIfInBounds (its.toArray.size-1)=its.dropLast.toArray
   rw[adz,List.eraseIdxIfInBounds_toArray,DD]
 . rw[ahm]
   omega
def Zn:R2:=λx y H Q=>∃l b xs zs,x=.ref l/\y=.ref b/\H l=some (.lst xs)/\H b=some (.lst zs)/\xs.length+zs.length<=sizeLine/\∀p,H p=none->Q (.ref p) (upd H p (.lst (xs++zs)))
theorem kX:gp X (binaryOp .Add) Zn:=by
 intro pins s σ H x y v u Q I rx ry h
 obtain⟨l,b,xs,zs,rfl,rfl,hH,hB,hz,q⟩:=h
 cases rx
 cases ry
 obtain⟨z,its,n,r,hl,e⟩:=I.tL hH
 obtain⟨z2,nU,n2,r2,du,e2⟩:=I.tL hB
 refine PySem.P.add_list e e2 ?_ (by rw[adz,adz];omega)
 have ea:its.toArray++nU.toArray=(its++nU).toArray:=by simp
 rw[ea]
 exact⟨.ref _,_,I.Iu (t':=s.toks) (r.append r2) (by rw[adm];omega),rfl,q _ I.fresh⟩
end
section
variable {prog:Program}{w:World}{A:Around}{E:Value->Shared->Prop}{s:Shared}
theorem DF{a c n:Nat}(WG:a<=c)(hc:c<=n):sliceBounds (some (a:Int)) (some (c:Int)) none n=((a:Int),(c:Int),1):=by
 simp only[sliceBounds,agY]
 have h1:¬ ((a:Int)<0):=by omega
 have h2:¬ ((c:Int)<0):=by omega
 simp only[h1,h2,af1,show (1:Int)>0 by decide,age]
 congr 1
 . omega
 . congr 1;omega
set_option maxRecDepth 100000 in
theorem Nw{l b sl:Addr}{items new:Array Value}{n n2:Nat}{vl vu:Value}{a c:Nat}{Q:Unit->Shared->Prop}
 (e:s.heap.get? l=some {cls:=.type "list",data:=.seq items n}) (e2:s.heap.get? b=some {cls:=.type "list",data:=.seq new n2}) (hne:l≠b)
 (hs:s.heap.IsSliceOf sl vl vu .none) (pl:IsPart vl (some (a:Int))) (pu:IsPart vu (some (c:Int))) (WG:a<=c) (hc:c<=items.size)
 (hsz:items.size+new.size<=sizeLine) (h:Q () {s with heap:=s.heap.update l (Obj.mapSeq λxs=>xs.extract 0 a++new++xs.extract c xs.size)}) :
 wpAny (model prog w) A (setItem (.ref l) (.ref sl) (.ref b)) Q E s:=by
 have hl:s.heap.IsList l items:=PySem.IsL.isList e
 have hb:s.heap.IsList b new:=PySem.IsL.isList e2
 obtain⟨os,Kb,hcs,BS⟩:=id hs
 have WH:s.TypeIs (.ref sl) "slice":=⟨os,Kb,hcs⟩
 have SE:¬ ((rawPart none == rawInt 0)=true):=adO
 have DG:Builtin.List.listSameRef (.ref l) (.ref b)=false:=by
  unfold Builtin.List.listSameRef
  exact aej.mpr hne
 have Zo:(max (a:Int) (c:Int)).toNat=c:=by omega
 have wU:((λxs:Array Value=>xs.extract 0 a++new++xs.extract c xs.size) items).size<=sizeLine+1:=by
  simp only[Array.size_append,Array.size_extract]
  omega
 unfold setItem
 try with_reducible refine aeH ?_
 first|refine adk (adv ?_)|skip
 refine adk (wpAny_sequenceKey hl.typeIs (by decide) ?_)
 refine adk (aeA (name:=Str.ofString "__setitem__") hl.typeIs slot_list_setitem
  (aeN slot_list_setitem hl.typeIs entry_list_setitem ?_ (args_list_setitem _ _ _)))
 show wpAny _ _ (Builtin.List.listSubscript? (.ref sl) >>= _) _ _ s
 refine adk ?_
 unfold Builtin.List.listSubscript?
 refine adk (aha WH slice_no_index ?_)
 simp only[Option.isNone_none,age]
 refine adv ?_
 show wpAny _ _ (typeOf (.ref sl) >>= _) _ _ s
 refine adk (ahc WH ?_)
 first
  | rw[adw (by decide)]
  | refine W.KFB.if_not (by decide) ?_
 rw[listSliceParts_eq]
 refine adk (adk (aep Kb BS (x:=.none) rfl (adk (ahs .none ?_))))
 rw[adw SE]
 refine adk (aep Kb BS (x:=vl) rfl (adk (ahs pl ?_)))
 refine adk (aep Kb BS (x:=vu) rfl (adk (ahs pu (adv ?_))))
 first
  | simp only[DG,ae0,af1]
  | refine W.KFB.if_not DG ?_
  | (dsimp only
     rw[adw (by rw[DG];exact adO)])
 refine adk (m:=Builtin.List.listAllItems (.ref b) "must assign iterable to extended slice") ?_
 unfold Builtin.List.listAllItems
 refine adk (ahc hb.typeIs ?_)
 first
  | refine W.KFB.if_so (by decide) ?_
  | rw[adM (by decide)]
  | simp only[agZ,Bool.true_or,age]
 unfold Builtin.List.listItems
 refine adk (aeh e2 rfl (adv ?_))
 refine adk (adk (aeh e rfl (adv ?_)))
 refine adk (wpAny_of_eq ((sliceIndices_raw (some (a:Int)) (some (c:Int)) none items.size (by simp)).trans (congrArg (pure:Int×Int×Int->Sem (Int×Int×Int)) (DF WG hc))) ?_)
 show wpAny _ _ (if ((1:Int) == 1)=true then _ else _) _ _ s
 rw[adM (by decide)]
 refine adk (afV ?_)
 first
  | simp only[tM hsz,ae0,af1]
  | refine W.KFB.if_not (tM hsz) ?_
 first|refine adk (adv ?_)|skip
 show wpAny _ _ (updateSeq l (λxs=>xs.extract 0 ((a:Int)).toNat++new++xs.extract (max (a:Int) (c:Int)).toNat xs.size) >>= _) _ _ s
 rw[Zo,ael]
 refine adk (wpAny_updateSeq (hz:=ady (adV _ _) hsz) (_hz':=wU) e rfl ?_)
 refine adk (agL ?_)
 first
  | exact adk (adv (adv ⟨.none,rfl,adv h⟩))
  | exact adv ⟨.none,rfl,adv h⟩
end
section
variable {X:Cx}
end
end L2
namespace WI
open PySem PySem.W PySem.Calls PyProof.Rows
theorem uG{P:Params}{h:Heap} : ∀(ns:List Int) (vs:List Value),WellAll P h vs (ns.map WData.int)->IntsAre vs ns:=by
 intro ns
 induction ns with
 | nil=>
  intro vs w
  rw[aeS]at w
  cases w
  exact .nil
 | cons n ns ih=>
  intro vs w
  rw[adQ]at w
  cases w with
  | cons a b=>
   cases a
   exact .cons _ _ (ih _ b)
theorem FE{l:OpenLaw}{n:Nat}(hn:l.most=some n){P:Params}{h:Heap}{args:List WData}{vals:List Value}
 (DH:l.row.toRowW.claim.pre args=true) (sM:WellAll P h vals args) :
 ∃a vs ns,vals=[Value.ref a]/\args=[WData.list (ns.map WData.int)]/\h.get? a=some {cls:=.type "list",data:=.seq vs.toArray} /\ IntsAre vs ns/\ns.length<=n:=by
 have hsh:WShape.hasAll [] args [.list .int]=true:=(pre_splitW DH).1
 have hc:l.pre.holds [] {args:=args} = true:=(pre_splitW DH).2
 obtain⟨d,r,rfl,h1,h2⟩:=hasAllW_cons hsh
 obtain rfl:=hasAllW_nil h2
 obtain⟨xs,rfl,h3⟩:=hasW_list h1
 obtain⟨ns,rfl⟩:=items_int h3
 have hlen:ns.length<=n:=by
  unfold OpenLaw.pre at hc
  have h4:(WTm.not (.lt (.lit (.int (n:Int))) (.len (.arg 0)))).holds [] {args:=[.list (ns.map .int)] } = true:=by
   have h4:=(holds_andW hc).1
   rw[hn]at h4
   exact h4
  have h5:=condW_of h4 (w_not (w_lt w_lit (w_len_list (w_arg rfl))))
  rw[abc]at h5
  refine ag0 λq=>?_
  have q':(n:Int)<((ns.length:Nat):Int):=by omega
  first
   | (rw[ad3 q']at h5;exact absurd h5 (by decide))
   | (simp at h5;omega)
 cases sM with
 | cons w1 w2=>
  cases w2
  cases w1 with
  | list ho ib=>exact⟨_,_,ns,rfl,rfl,ho,uG ns _ ib,hlen⟩
theorem FF(l:OpenLaw)(args:List WData):l.row.toRowW.claim.post args (.bool true) args=true:=
 postW_of (r:=l.row.toRowW) (X:=(true == true))
  (show WShape.has [] (.bool true) .bool=true by first|rfl|decide|simp[WShape.has,WShape.arms,WShape.armsAll])
  (show (WTm.eq .res (.lit (.bool true))).value [] {args:=args,res:=some (.bool true),after:=args} = some (.bool (true == true)) from w_eq_bool (w_res rfl) w_lit) rfl
theorem Bw{l:OpenLaw}{n:Nat}{q:Program}{loose:List Str}{XP:(Str->Option Value)->Heap->Prop}{YP:World->Heap->Prop}{d:DefRec}
 (hn:l.most=some n) (FG:d.params.defaults=[])
 (call:∀(w:World) (ly dw:Shared) (mg mb:Str->Option Value) (fa:Addr) (o:Obj) (pm cd doc:Value) (a:Addr) (vs:List Value) (ns:List Int),
  Ground q loose [] XP w ly mg mb dw.heap->YP w dw.heap->
  dw.heap.get? fa=some o->o.data=.func (docDef d.name d.params d.body d.scope pm cd doc)->dw.heap.CodeRec cd d.name->mg d.name=some (.ref fa)->
  dw.heap.get? a=some {cls:=.type "list",data:=.seq vs.toArray} -> IntsAre vs ns->ns.length<=n->dw.gens = #[]->
  codeAny (model l.prog w) callerA (.call (.ref fa) ⟨[.ref a],[]⟩) (λr s'=>r=.ok (.ret (.bool true))/\OldK dw.heap s'.heap/\s'.os=dw.os/\AllBare s'.gens) dw) :
 WalkO q loose XP YP l.row.toRowW d [] (λf vs=>PySem.call f vs):=by
 intro w ly dw mg mb G Y fa o pm cd doc dV kV ho hd qy hD FH hg args vals as DH ah7 hrd sM WJ
 obtain rfl:dV=.none:=Dflts.none hD FG
 obtain rfl:kV=.none:=Dflts.noKw hD
 obtain⟨a,vs,ns,rfl,rfl,Iv,hints,hlen⟩:=FE hn DH sM
 refine enter_call (ag8 (call w ly dw mg mb fa o pm cd doc a vs ns G Y ho (fd_plain hd) qy FH Iv hints hlen hg) λr s' hq=>?_)
 obtain⟨rfl,h2,h3,h4⟩:=hq
 exact⟨.inl ⟨.bool true,.bool true,[],rfl,λ_=>rfl,.bool true,FF l _,λ_=>⟨List.Pairwise.nil,λ_ hm=>(nomatch hm)⟩⟩,h2,h3,h4⟩
section
variable {prog:Program}{w:World}{A:Around}{E:Value->Shared->Prop}{s:Shared}{K:Frag}
end
end WI
namespace L2
open PySem PySem.Spec PyProof.Rows
theorem wV:∀{vs:List Value}{ns:List Int},IntsAre vs ns->Vals (ns.map V.int) vs
 | _,_,.nil=>.nil
 | _,_,.cons n t h=>.cons ⟨t,rfl⟩ (wV h)
def Iw(H:Hp):Prop:=∀b,H b=none\/∃o xs,H b=some (.gh o (.lst xs))
theorem Iy{P:Program}{w:World}{K:W.Frag}{mg mb:Str->Option Value}{CX:qD}{k:Nat}{fa a:Addr}{fd:FuncData}{x:Str}{sp:Sp}{dw:Shared}{vs:List Value}{ns:List Int}
 (KX:K.In dw.heap) (WK:dw.heap.Ns mainGlobals mg) (hb:dw.heap.Ns builtinsNs mb) (hbb:∀x:Str,x ≠ "__name__" -> mb x=bootBuiltins x) (Zp:dw.heap.NoLimit) (hg:dw.gens = #[])
 (ha:dw.heap.get? a=some {cls:=.type "list",data:=.seq vs.toArray}) (hi:IntsAre vs ns) (hl:ns.length<=sizeLine) (hr:aZ k callerA)
 (F:∀base:Heap,K.In base->base.Ns mainGlobals mg->ay P w K mg base CX k fa fd [x] sp) (SF:∀(s:Shared) (u:Value),BindsTo s fd ⟨[u],[]⟩ [(x,u)])
 (pY:∀H:Hp,Iw H->aw K H a (ns.map V.int)->sp [.ref a] H (λv _=>v=.bl true) λ_ _ _=>False)
 (Oi:∀H e s',CX [] H dw (λ_ _ _=>False) e s'->False) :
 codeAny (model P w) callerA (.call (.ref fa) ⟨[.ref a],[]⟩) (λr s'=>r=.ok (.ret (.bool true))/\OldK dw.heap s'.heap/\s'.os=dw.os/\AllBare s'.gens) dw:=by
 have rv:=wV hi
 have Zq:=hi.length
 have core:∀H:Hp,Iw H->aw K H a (ns.map V.int)->eC P w H dw.heap->(∀b,H b≠none->b=a)->(H a≠none->K.lookup a=none)->
  codeAny (model P w) callerA (.call (.ref fa) ⟨[.ref a],[]⟩) (λr s'=>r=.ok (.ret (.bool true))/\OldK dw.heap s'.heap/\s'.os=dw.os/\AllBare s'.gens) dw:=by
  intro H hO hS hok hA hK
  have BU:∀{b:Addr}{o:Obj},dw.heap.get? b=some o->H b=none->(oY dw.heap H).get? b=some o:=λe n=>HW e n
  have Fv:∀{b:Addr}{o:Obj}{es:Array DictEntry}{ep:Nat},dw.heap.get? b=some o->o.data=.dict es ep->H b=none:=λ{b o es ep} e d=>by
   cases q:H b with
   | none=>rfl
   | some u=>
    have e':b=a:=hA b (by rw[q];simp)
    subst e'
    rw[ha]at e;cases e
    have d':Data.seq vs.toArray _=Data.dict es ep:=d
    cases d'
  have Kc:∀{b:Addr}{m:Str->Option Value},dw.heap.Ns b m->(oY dw.heap H).Ns b m:=λ{b m} ⟨o,es,ep,e,d,r⟩=>⟨o,es,ep,BU e (Fv e d),d,r⟩
  have WL:K.In (oY dw.heap H):=λb o e=>BU (KX b o e) (by
   cases q:H b with
   | none=>rfl
   | some u=>
    have e':b=a:=hA b (by rw[q];simp)
    subst e'
    rw[hK (by rw[q];simp)]at e;cases e)
  have hM:Mod K mg (oY dw.heap H):=⟨WL,Kc WK,⟨mb,Kc hb,hbb⟩,let ⟨mc,h1,h2⟩:=Zp; ⟨mc,Kc h1,h2⟩⟩
  have e0:nS P w K mg (oY dw.heap H) callerA [] dw H:=⟨rfl,hM,λb o e=>Mg e,ag7 (E5 _ _),trivial,λb hb=>absurd (show b∈([]:List Addr) from hb) (by simp),hok,.of_eq hg⟩
  refine ag8 ((F _ WL (Kc WK)).run callerA [] dw H ⟨[.ref a],[]⟩ [.ref a] [.ref a] _ _ hr e0 (SF dw (.ref a)) (.cons rfl .nil) (pY H hO hS)) λr s' h=>?_
  cases r with
  | error e=>exact(Oi H e s' h).elim
  | ok fl=>
   cases fl with
   | next=>exact False.elim h
   | brk=>exact False.elim h
   | cont=>exact False.elim h
   | ret u=>
    obtain⟨v,H',os,bare,un,Zr,r',q⟩:=h
    have q':v=.bl true:=q
    subst q'
    obtain rfl:u=Value.bool true:=r'
    refine⟨rfl,OldK.of_keep λb o e=>?_,os,bare⟩
    cases q:H b with
    | none=>exact un.keep b o e q (by intro z;exact absurd (show b∈([]:List Addr) from z) (by simp)) (by simp)
    | some u=>
     rcases hO b with z|⟨ob,xs,z⟩
     . rw[q]at z;cases z
     . have z2:=un.frzs b ob _ z
       obtain⟨e1,_⟩:=hok b _ z
       obtain⟨e2,_⟩:=Zr b _ z2
       rw[e]at e1;cases e1
       exact e2
 cases hk:K.lookup a with
 | some o=>
  have e:=KX a o hk
  rw[ha]at e
  cases e
  refine core (λ_=>none) (λ_=>.inl rfl) (.inr ⟨_,vs.toArray,_,hk,rfl,rfl,rfl,by rw[adz,Zq];exact hl,by simpa using rv⟩) (λb u z=>by have z':(none:Option HO)=some u:=z;cases z') (λb z=>absurd rfl z) λz=>absurd rfl z
 | none=>
  refine core (λb=>if b=a then some (.gh {cls:=.type "list",data:=.seq vs.toArray} (.lst (ns.map V.int))) else none) (λb=>?_) (.inl (.inr ⟨{cls:=.type "list",data:=.seq vs.toArray},adM rfl⟩)) (λb u z=>?_) (λb z=>?_) λ_=>hk
  . by_cases hb:b=a
    . exact .inr ⟨_,_,adM hb⟩
    . exact .inl (adw hb)
  . by_cases hb:b=a
    . have z':=(adM hb).symm.trans z
      cases z'
      subst hb
      exact⟨ha,by rw[abc];exact hl,vs,_,rv,ha⟩
    . have z':=(adw hb).symm.trans z
      cases z'
  . by_cases hb:b=a
    . exact hb
    . exact absurd (adw hb) z
theorem Mw{l:W.OpenLaw}{n k:Nat}{q:Program}{loose:List Str}{XP:(Str->Option Value)->Heap->Prop}{YP:World->Heap->Prop}{d:DefRec}{K:Params->W.Frag}{CX:World->qD}{sp:World->Sp}{x:Str}
 (hn:l.most=some n) (iE:n<=sizeLine) (FG:d.params.defaults=[]) (hr:aZ k callerA)
 (hY:∀(w:World) (h:Heap),YP w h->(K w.params).In h)
 (F:∀(w:World) (mg:Str->Option Value) (fa:Addr) (h:Heap),(K w.params).In h->h.Ns mainGlobals mg->mg d.name=some (.ref fa)->
  ∃fd:FuncData,(∀(s:Shared) (u:Value),BindsTo s fd ⟨[u],[]⟩ [(x,u)])/\
   ∀base:Heap,(K w.params).In base->base.Ns mainGlobals mg->ay l.prog w (K w.params) mg base (CX w) k fa fd [x] (sp w))
 (pY:∀(w:World) (H:Hp) (a:Addr) (ns:List Int),ns.length<=n->Iw H->aw (K w.params) H a (ns.map V.int)->sp w [.ref a] H (λv _=>v=.bl true) λ_ _ _=>False)
 (Oi:∀(w:World) (H:Hp) (s:Shared) (e:Value) (s':Shared),CX w [] H s (λ_ _ _=>False) e s'->False) :
 W.WalkO q loose XP YP l.row.toRowW d [] (λf vs=>PySem.call f vs):=by
 refine WI.Bw hn FG λw ly dw mg mb fa o pm cd doc a vs ns G Y ho hd qy FH Iv hints hlen hg=>?_
 have KX:=hY w _ Y
 obtain⟨fd,hb,hF⟩:=F w mg fa _ KX G.T.g FH
 exact Iy KX G.T.g G.T.b G.T.builtins G.T.nolimit hg Iv hints (ady hlen iE) hr hF hb (λH hO hS=>pY w H a ns hlen hO hS) λH e s'=>Oi w H dw e s'
def inClass(s:Stmt)(j:Nat):Stmt:=match s with
 | .ClassDef _ _ _ body _ _ _ _ _ _ _=>body.getD j (.Pass ⟨0,0,0,0⟩)
 | _=>.Pass ⟨0,0,0,0⟩
def aO(s:Stmt):Arguments:=match s with
 | .FunctionDef _ a _ _ _ _ _ _ _ _=>a
 | _=>{posonlyargs:=[],args:=[],vararg:=none,kwonlyargs:=[],kw_defaults:=[],kwarg:=none,defaults:=[] }
def aJ(s:Stmt):List Stmt:=match s with
 | .FunctionDef _ _ b _ _ _ _ _ _ _=>b
 | _=>[]
def ar(s:Stmt):Scope:=match s with
 | .FunctionDef _ _ _ _ _ _ sc _ _ _=>sc
 | _=>{kind:=.function,names:=[],isGenerator:=false,isCoroutine:=false}
abbrev aC:qD:=λ_ _ _ _ _ _=>False
abbrev E0:XK:=λ_ _ _=>False
theorem aA{X:Cx} : Passes aC X E0:=λ_ _ _ _ _ _ _ h=>h.elim
structure b0(K:W.Frag) (x qual:Str) (st:Stmt) (f:Addr) (fd:FuncData):Prop where
 ex:∃(oc:Value) (od:Option Addr) (kV doc pm:Value) (an:Option Addr) (cdv ct:Value) (wO:Array (Option Value)),
  fd=W.fnOf x qual (aO st) (aJ st) (ar st) .none kV doc pm an cdv ct/\K.lookup f=some ⟨oc,od,.func fd,wO⟩/\W.codeIn K cdv qual=true
 kp:W.keepIn K (.ref f)=true
section
variable {P:Program}{w:World}{K:W.Frag}{mg:Str->Option Value}{base:Heap}
theorem b0.ok{x qual:Str}{st:Stmt}{f:Addr}{fd:FuncData}{N ps:List Str}{k:Nat}{sp:Sp}(F:b0 K x qual st f fd) (S:aQ N ps (ar st)) (len:∀vs H Q E,sp vs H Q E->vs.length=ps.length)
 (Dx:∀(cdv:Value) (A:Around) (outer:List Env) (s:Shared) (H:Hp) (vs:List V) (Q:VK) (E:XK),aZ k (A.deeper (envOfC qual (ar st) s.heap.objs.size f cdv))->sp vs H Q E->
  ∃t,ja (o9 aC P w K mg base N qual (ar st) f cdv A outer s H E).yD (aJ st) t/\t {nx:=λ_ H'=>Q .aY H',rt:=Q} (start N vs) H):ay P w K mg base aC (k+1) f fd ps sp:=by
 obtain⟨oc,od,kV,doc,pm,an,cdv,ct,wO,rfl,lk,qy⟩:=F.ex
 refine Ss lk qy S len λA outer s H vs Q E hr pY=>?_
 obtain⟨t,h,q⟩:=Dx cdv A outer s H vs Q E hr pY
 exact⟨t,h.yD,q⟩
theorem b0.binds{x qual:Str}{st:Stmt}{f:Addr}{fd:FuncData}{ps:List Str}(F:b0 K x qual st f fd)
 (h:∀(kV doc pm:Value) (an:Option Addr) (cdv ct:Value) (us:List Value),us.length=ps.length->bindArgs (W.fnOf x qual (aO st) (aJ st) (ar st) .none kV doc pm an cdv ct) ⟨us,[]⟩=pure (ps.zip us)):Binds K fd ps []:=by
 obtain⟨oc,od,kV,doc,pm,an,cdv,ct,wO,rfl,lk,qy⟩:=F.ex
 exact .all (h kV doc pm an cdv ct)
theorem a9{x qual:Str}{st:Stmt}{f:Addr}{oc:Value}{od an:Option Addr}{wO:Array (Option Value)}{kV doc pm cdv ct:Value}(l:K.lookup f=some ⟨oc,od,.func (W.fnOf x qual (aO st) (aJ st) (ar st) .none kV doc pm an cdv ct),wO⟩)
 (c:W.codeIn K cdv qual=true) (k:W.keepIn K (.ref f)=true):b0 K x qual st f (W.fnOf x qual (aO st) (aJ st) (ar st) .none kV doc pm an cdv ct):=⟨⟨oc,od,kV,doc,pm,an,cdv,ct,wO,rfl,l,c⟩,k⟩
end
theorem d6{A:Around}{k:Nat}(hr:aZ k A):A.units+1<cLine:=aeL (ahv (by decide:1<=64) _) hr.units
theorem wW{n:Nat}(h:n<=1000):n<sizeLine:=aeL h (by decide)
section
variable {X:Cx}
theorem pv(i:Nat){x:Str}{pos:Pos}(hN:X.N[i]?=some x:=by rfl) (hv:NG X.env.scope x:=by first|exact Or.inl rfl|exact Or.inr (Or.inl rfl)|exact Or.inr (Or.inr rfl)) (hd:(x == ("__debug__" : Str))=false:=by decide)
 (qy:(x == ("__classdict__" : Str))=false:=by decide):PE X (.Name x pos) (iL i):=NI hN hv hd qy
end
theorem jU{A B:Prop}(h:B):if false=true then A else B:=by
 rw[adw adO]
 exact h
theorem pe{A B:Prop}(h:A):if true=true then A else B:=by
 rw[adM rfl]
 exact h
theorem iZ{c A B:Prop}[Decidable c] (h1:c->A) (h2:¬ c->B):if c then A else B:=by
 by_cases h:c
 . rw[adM h]
   exact h1 h
 . rw[adw h]
   exact h2 h
def ak(H H':Hp):Prop:=∀b o,H b=some o->H' b=some o
theorem ak.trans{H H1 H2:Hp}(a:ak H H1)(b:ak H1 H2):ak H H2:=λc o h=>b c o (a c o h)
theorem ak.free{H H':Hp}(e:ak H H'){l:Addr}(h:H' l=Option.none):H l=Option.none:=by
 cases q:H l with
 | none=>rfl
 | some o=>
  rw[e l o q]at h
  cases h
theorem ak.seq{K:W.Frag}{H H':Hp}{a:Addr}{xs:List V}(e:ak H H')(h:aw K H a xs):aw K H' a xs:=by
 rcases h with (h|⟨o,h⟩)|h
 . exact .inl (.inl (e _ _ h))
 . exact .inl (.inr ⟨o,e _ _ h⟩)
 . exact .inr h
section
variable {X:Cx}
end
end L2
set_option maxHeartbeats 4000000
namespace L2
open PySem PySem.Spec PyProof.Rows
theorem pf{env:Env}(f:Str×NameKind->List (Str×Addr)->Sem (ForInStep (List (Str×Addr))))
 (hf:∀n k cs,f (n,k) cs=if (k == NameKind.free)=true then (cellOf env n >>= λa=>pure (ForInStep.yield ((n,a)::cs))) else pure (ForInStep.yield cs)) :
 ∀(names:List (Str×NameKind)) (acc:List (Str×Addr)),(∀x∈names,x.2=NameKind.free->∃c,env.cells.lookup x.1=some c)->(∀x c,acc.lookup x=some c->env.cells.lookup x=some c)->
  ∃cl,forIn names acc f=(pure cl:Sem (List (Str×Addr)))/\(∀x c,cl.lookup x=some c->env.cells.lookup x=some c)/\(∀x c,acc.lookup x=some c->∃c',cl.lookup x=some c')/\∀x∈names,x.2=NameKind.free->∃c,cl.lookup x.1=some c
 | [],acc,_,ha=>⟨acc,by simp,ha,λx c e=>⟨c,e⟩,λx hx=>by simp at hx⟩
 | (n,k)::r,acc,hn,ha=>by
  have yx:∀x∈r,x.2=NameKind.free->∃c,env.cells.lookup x.1=some c:=λx hx=>hn x (adx _ hx)
  cases hk:k == NameKind.free with
  | false=>
   obtain⟨cl,e,h1,h2,h3⟩:=pf f hf r acc yx ha
   refine⟨cl,?_,h1,h2,λx hx hz=>?_⟩
   . rw[afn,hf,hk,adw adO,pure_bind]
     exact e
   . rcases adq.mp hx with z|hx
     . subst z
       have wU:k=NameKind.free:=hz
       rw[wU]at hk
       exact absurd hk (by decide)
     . exact h3 x hx hz
  | true=>
   have lF:k=NameKind.free:=by cases k <;> first|rfl|exact absurd hk (by decide)
   obtain⟨c,hc⟩:=hn (n,k) adB lF
   have iD:env.cells.lookup n=some c:=hc
   obtain⟨cl,e,h1,h2,h3⟩:=pf f hf r ((n,c)::acc) yx (λx d ed=>by
    rw[afd]at ed
    cases hx:x == n with
    | true=>
     rw[hx]at ed
     rw[eq_of_beq hx,iD]
     exact ed
    | false=>
     rw[hx]at ed
     exact ha x d ed)
   have pZ:∃c',cl.lookup n=some c':=h2 n c (by rw[afd,agZ])
   refine⟨cl,?_,h1,λx d ed=>?_,λx hx hz=>?_⟩
   . rw[afn,hf,hk,adM rfl]
     unfold cellOf
     rw[iD]
     rw[pure_bind,pure_bind]
     exact e
   . cases hx:x == n with
     | true=>
      rw[eq_of_beq hx]
      exact pZ
     | false=>
      refine h2 x d ?_
      rw[afd,hx]
      exact ed
   . rcases adq.mp hx with z|hx
     . subst z
       exact pZ
     . exact h3 x hx hz
theorem vV{scope:Scope}{env:Env}(h:∀x∈scope.names,x.2=NameKind.free->∃c,env.cells.lookup x.1=some c) :
 ∃cl,closureFor scope env=pure cl/\(∀x c,cl.lookup x=some c->env.cells.lookup x=some c)/\∀x∈scope.names,x.2=NameKind.free->∃c,cl.lookup x.1=some c:=by
 obtain⟨cl,e,h1,_,h3⟩:=pf (env:=env) (λp cs=>if (p.2 == NameKind.free)=true then (cellOf env p.1 >>= λa=>pure (ForInStep.yield ((p.1,a)::cs))) else pure (ForInStep.yield cs)) (λn k cs=>rfl) scope.names [] h (λx c z=>by simp at z)
 refine⟨cl,?_,h1,h3⟩
 have key:closureFor scope env=(forIn scope.names ([]:List (Str×Addr)) (λ(p:Str×NameKind) cs=>if (p.2 == NameKind.free)=true then (cellOf env p.1 >>= λa=>pure (ForInStep.yield ((p.1,a)::cs))) else pure (ForInStep.yield cs)) >>= λcs=>pure cs):=rfl
 rw[key,e,pure_bind]
theorem lookup_mem{names:List (Str×NameKind)}{x:Str}{k:NameKind}(h:names.lookup x=some k):(x,k)∈names:=by
 induction names with
 | nil=>simp at h
 | cons p r ih=>
  obtain⟨n,j⟩:=p
  rw[afd]at h
  cases hx:x == n with
  | true=>
   rw[hx]at h
   have e:j=k:=adN h
   rw[eq_of_beq hx,e]
   exact adB
  | false=>
   rw[hx]at h
   exact adx _ (ih h)
def nV(env:Env)(p:Str×NameKind):Str×NameKind:=if (p.2 == NameKind.free && env.scope.kind == .function && env.kindOf p.1 == some .cell) then (p.1,.cell) else p
theorem qc(scope:Scope)(env:Env):(relabel scope env).names=scope.names.map (nV env):=rfl
theorem nX{env:Env} : ∀(names:List (Str×NameKind)) (x:Str),(names.map (nV env)).lookup x=(names.lookup x).map λk=>(nV env (x,k)).2
 | [],x=>rfl
 | (n,k)::r,x=>by
  rw[adQ]
  have e1:(nV env (n,k)).1=n:=by unfold nV;split <;> rfl
  have:nV env (n,k)=(n,(nV env (n,k)).2):=ahE e1 rfl
  rw[this,afd,afd]
  cases hx:x == n with
  | true=>
   rw[eq_of_beq hx]
   rfl
  | false=>exact nX r x
theorem Iz{scope:Scope}{env:Env}{x:Str}(h:scope.names.lookup x=some .free):(relabel scope env).names.lookup x=some .cell\/(relabel scope env).names.lookup x=some .free:=by
 rw[qc,nX,h]
 unfold nV
 simp only[aeK]
 split
 . exact .inl rfl
 . exact .inr rfl
theorem FI{scope:Scope}{env:Env}{x:Str}(hc:∀y∈scope.names,y.2≠.cell) (h:(relabel scope env).names.lookup x=some .cell\/(relabel scope env).names.lookup x=some .free):scope.names.lookup x=some .free:=by
 rw[qc,nX]at h
 cases e:scope.names.lookup x with
 | none=>rw[e]at h;rcases h with h|h <;> cases h
 | some k=>
  rw[e]at h
  have hm:=lookup_mem e
  have nk:k≠.cell:=hc _ hm
  simp only[aeK,Option.some.injEq]at h
  by_cases hf:k=.free
  . rw[hf]
  . have hb:(k == NameKind.free)=false:=by cases k <;> first|rfl|exact absurd rfl hf
    have:(nV env (x,k)).2=k:=by
     unfold nV
     simp[hb]
    rw[this]at h
    rcases h with h|h
    . exact absurd h nk
    . exact absurd h hf
def di(X:Cx)(N:List Str)(scope:Scope) (cl:List (Str×Addr)) (C:Addr) (s:Shared) (H:Hp) (fp:List Addr) (pn:List (Addr×Obj)):Cx where
 prog:=X.prog
 w:=X.w
 K:=X.K
 mg:=X.mg
 base:=X.base
 A:=X.A
 N:=N
 ly:=s
 NF:=H
 env:=compEnvC scope cl C X.env
 outer:=X.stack
 stack:=X.stack
 ex:=fp
 fn:=λ_=>false
 calm:=true
 pn:=pn
 xe:=λ_ _=>False
structure oB(X:Cx) (N:List Str) (js:List (Option Nat)) (scope:Scope):Prop where
 kind:scope.kind=.function
 nocell:∀y∈scope.names,y.2≠.cell
 names:∀y∈scope.names,y.2=.local->scope.names.lookup y.1=some .local
 frees:∀y∈scope.names,y.2=.free->X.env.kindOf y.1=some .cell\/X.env.kindOf y.1=some .free
 len:js.length=N.length
 pull:∀(i j:Nat) (x:Str),js[i]?=some (some j)->N[i]?=some x->X.N[j]?=some x/\scope.names.lookup x=some .free
def fj(xn:List Str) (names:List (Str×NameKind)):List Str->List (Option Nat)->Bool
 | [],[]=>true
 | _::N,none::js=>fj xn names N js
 | x::N,some j::js=>(match xn[j]? with|some y=>decide (y=x)|none=>false) && (match names.lookup x with|some .free=>true|_=>false) && fj xn names N js
 | _,_=>false
theorem pj{xn:List Str}{names:List (Str×NameKind)} : ∀{N:List Str}{js:List (Option Nat)},fj xn names N js=true->js.length=N.length
 | [],[],_=>rfl
 | x::N,none::js,h=>by
  have:=pj (N:=N) (js:=js) (by simpa[fj]using h)
  simp[this]
 | x::N,some j::js,h=>by
  have h':fj xn names N js=true:=by
   simp only[fj,aeb]at h
   exact h.2
  simp[pj h']
 | [],_::_,h=>by simp[fj]at h
 | _::_,[],h=>by simp[fj]at h
theorem qF{xn:List Str}{names:List (Str×NameKind)} : ∀{N:List Str}{js:List (Option Nat)},fj xn names N js=true->∀(i j:Nat) (x:Str),js[i]?=some (some j)->N[i]?=some x->xn[j]?=some x/\names.lookup x=some .free
 | [],[],_,i,j,x,e,_=>by simp at e
 | y::N,none::js,h,i,j,x,e1,e2=>by
  cases i with
  | zero=>simp at e1
  | succ i=>
   exact qF (N:=N) (js:=js) (by simpa[fj]using h) i j x (by simpa using e1) (by simpa using e2)
 | y::N,some j'::js,h,i,j,x,e1,e2=>by
  simp only[fj,aeb]at h
  obtain⟨⟨h1,h2⟩,h3⟩:=h
  cases i with
  | zero=>
   have ej:j'=j:=by simpa using e1
   have ey:y=x:=by simpa using e2
   subst ej ey
   constructor
   . cases q:xn[j']? with
     | none=>rw[q]at h1;cases h1
     | some z=>
      rw[q]at h1
      rw[aef h1]
   . cases q:names.lookup y with
     | none=>rw[q]at h2;cases h2
     | some k=>
      rw[q]at h2
      cases k <;> first|rfl|cases h2
  | succ i=>exact qF h3 i j x (by simpa using e1) (by simpa using e2)
 | [],_::_,h,_,_,_,_,_=>by simp[fj]at h
 | _::_,[],h,_,_,_,_,_=>by simp[fj]at h
def isFn:ScopeKind->Bool
 | .function=>true
 | _=>false
def uH(xn:List Str) (xs:List (Str×NameKind)) (N:List Str) (js:List (Option Nat)) (scope:Scope):Bool:=
 isFn scope.kind && (scope.names.all λy=>match y.2 with
  | .cell=>false
  | .local=>(match scope.names.lookup y.1 with|some .local=>true|_=>false)
  | .free=>(match xs.lookup y.1 with|some .cell=>true|some .free=>true|_=>false)
  | _=>true) && fj xn scope.names N js
theorem oB.of{X:Cx}{N:List Str}{js:List (Option Nat)}{scope:Scope}(h:uH X.N X.env.scope.names N js scope=true):oB X N js scope:=by
 unfold uH at h
 simp only[aeb,aeO]at h
 obtain⟨⟨h1,h2⟩,h3⟩:=h
 refine⟨?_,λy hy e=>?_,λy hy e=>?_,λy hy e=>?_,pj h3,qF h3⟩
 . cases q:scope.kind <;> rw[q]at h1 <;> first|rfl|cases h1
 . have:=h2 y hy
   rw[e]at this
   cases this
 . have:=h2 y hy
   rw[e]at this
   cases q:scope.names.lookup y.1 with
   | none=>rw[q]at this;cases this
   | some k=>rw[q]at this;cases k <;> first|rfl|cases this
 . have:=h2 y hy
   rw[e]at this
   show X.env.scope.names.lookup y.1=some .cell\/X.env.scope.names.lookup y.1=some .free
   cases q:X.env.scope.names.lookup y.1 with
   | none=>rw[q]at this;cases this
   | some k=>rw[q]at this;cases k <;> first|exact .inl rfl|exact .inr rfl|cases this
def rO(js:List (Option Nat)) (σ:St):St:=js.map λoj=>match oj with|none=>none|some j=>(σ[j]?).getD none
section
variable {X:Cx}{pins:List (Addr×Obj)}{σ:St}{H:Hp}{s:Shared}
theorem Inv.enter{N:List Str}{js:List (Option Nat)}{scope:Scope}{cl:List (Str×Addr)}{C:Addr}{fp:List Addr}{h':Heap}{m:Str->Option Value}{tk:Nat}(I:Inv X pins σ H s) (S:oB X N js scope) (hc:X.calm=true)
 (gQ:∀x c,cl.lookup x=some c->X.env.cells.lookup x=some c) (Oj:∀x∈scope.names,x.2=NameKind.free->∃c,cl.lookup x.1=some c) (hC:C=s.heap.objs.size)
 (hf:∀b∈fp,jn X pins H b) (hl:∀b∈fp,b<s.heap.objs.size) (hn:h'.Ns C m) (k:∀b o,s.heap.get? b=some o->h'.get? b=some o) :
 Inv (di X N scope cl C s H fp (X.pn++pins)) [] (rO js σ) H {s with heap:=h',toks:=tk}:=by
 have lt:∀b o,s.heap.get? b=some o->b≠C:=λb o e=>by
  rw[hC]
  exact adR (adH e)
 have FJ:∀x,scope.names.lookup x=some .free->∃c,cl.lookup x=some c:=λx e=>Oj _ (lookup_mem e) rfl
 have stk:∀b,b≠X.env.locals->b∉X.fs->b∉pW X.stack:=λb h1 h2 z=>(adq.mp (I.um b z)).elim h1 h2
 have ok:(di X N scope cl C s H fp (X.pn++pins)).Ok:=by
  refine⟨I.ok.mod,S.kind,I.ok.glob,I.ok.blt,ag7 hC.symm,λx y c e1 e2=>I.ok.inj x y c (gQ x c e1) (gQ y c e2),λx hx=>FJ x (FI S.nocell hx),λx c e _=>?_,λ_=>I.ok.hd hc,
   I.ok.frames,.inl rfl,λb hb=>⟨?_,λx c e=>(hf b hb).2.2.2.2.1 x c (gQ x c e)⟩,I.bs,ady I.ok.bsz I.sz,λb o e hb=>?_,λb hb=>stk b (hf b hb).2.1 (hf b hb).2.2.1,I.stack,I.BG⟩
  . cases e
  . show b≠C
    rw[hC]
    exact adR (hl b hb)
  . rcases (hf b hb).2.2.2.1 with z|z
    . exact I.ok.noex b o e z
    . exact absurd (adY (adH e) (ady I.ok.bsz z)) (aey _)
 refine⟨ok,rfl,I.bare,Un.kept k,⟨m,hn,λi x v e1 e2 e3=>?_⟩,λx c e=>?_,?_,λx c e=>I.freeC x c (gQ x c e),λp hp=>?_,I.hok.kept k,?_⟩
 . -- a name that the block closes over
   have uI:(rO js σ)[i]?=some (some v):=e2
   unfold rO at uI
   rw[ado]at uI
   cases q:js[i]? with
   | none=>rw[q]at uI;cases uI
   | some oj=>
    rw[q]at uI
    cases oj with
    | none=>cases uI
    | some j=>
     have ev:(σ[j]?).getD none=some v:=adN uI
     have ev':σ[j]?=some (some v):=by
      cases z:σ[j]? with
      | none=>rw[z]at ev;cases ev
      | some o=>rw[z]at ev;exact congrArg some ev
     obtain⟨n1,n2⟩:=S.pull i j x q e1
     obtain⟨c,iD⟩:=FJ x n2
     have hcX:=gQ x c iD
     obtain⟨m0,_,uJ⟩:=I.loc
     have kx:=S.frees (x,.free) (lookup_mem n2) rfl
     have WM:X.env.kindOf x=some .cell\/X.env.kindOf x=some .free:=kx
     obtain⟨u,ru,lk⟩:=uJ j x v n1 ev' (WM.elim (λz=>.inr (.inl z)) λz=>.inr (.inr z))
     refine⟨u,ru,.inr ⟨Iz n2,c,iD,?_⟩⟩
     rcases lk with⟨kl,_⟩|⟨_,c2,e2,ic⟩
     . rcases WM with z|z <;> (rw[kl]at z;cases z)
     . rw[hcX]at e2
       cases e2
       obtain⟨o,ho,hd⟩:=ic
       exact⟨o,k c o ho,hd⟩
 . obtain⟨v,o,ho,hd⟩:=I.cell x c (gQ x c e)
   exact⟨v,o,k c o ho,hd⟩
 . show H C=none
   rw[hC]
   exact I.hok.fresh (adn _)
 . have FK:p∈X.pn++pins:=by simpa[di]using hp
   obtain⟨e,n,ne,nf,d⟩:=I.pin p FK
   exact⟨k _ _ e,n,lt _ _ e,stk _ ne nf,d⟩
 . show (rO js σ).length=N.length
   unfold rO
   rw[abc]
   exact S.len
theorem Inv.left{N:List Str}{scope:Scope}{cl:List (Str×Addr)}{C:Addr}{fp:List Addr}{σc:St}{H':Hp}{s':Shared}{pn:List (Addr×Obj)}(I:Inv X pins σ H s) (hf:∀b∈fp,jn X pins H b)
 (J:Inv (di X N scope cl C s H fp pn) [] σc H' s'):Inv X pins σ H' s':=
 I.Sg (ch:=fp) J.os J.base J.hok J.bare λb hb=>⟨(hf b hb).2.2.2.1,(hf b hb).2.1,(hf b hb).2.2.2.2.1,(hf b hb).2.2.2.2.2⟩
end
def yU(X:Cx)(ifs:List Expr)(t:TT):Prop:=
 ∀(pins:List (Addr×Obj)) (s:Shared) (σ:St) (H:Hp) (Q:Bool->Hp->Prop),Inv X pins σ H s->t σ H Q->
  wpAny (model X.prog X.w) X.A (forIn ifs true λc r=>if r=true then do let ok ← isTrue c X.env (eval c X.env);pure (ForInStep.yield ok) else pure (ForInStep.yield r)) (TP X pins σ Q) X.xe s
def nY:TT:=λ_ H Q=>Q true H
theorem bQ{X:Cx} : yU X [] nY:=λpins s σ H Q I h=>by
 rw[af2]
 exact adv ⟨H,I,h⟩
theorem IA{X:Cx}{c:Expr}{t:TT}(hc:PT X c t):yU X [c] t:=λpins s σ H Q I h=>by
 rw[afn]
 refine adk ?_
 rw[adM rfl]
 refine adk (aP (hc pins s σ H Q I h) λb s1 h1=>?_)
 refine adv ?_
 show wpAny _ _ (forIn [] b _) _ _ _
 rw[af2]
 exact adv h1
theorem yV{prog:Program}{w:World}{A:Around}{R:Result->Shared->Prop}{s:Shared}{elt target iter:Expr}{ifs:List Expr}{scope:Scope}{pos:Pos}{it acc:Value}{env:Env}(I:Nat->Shared->Prop)
 (turn:∀n s,I n s->wpAny (model prog w) A (pyNext it) (λr dw=>match r with
  | none=>R (.ok .next) dw
  | some v=>wpAny (model prog w) A (letOwnedTupleGo target it v) (λ_ WN=>wpAny (model prog w) A (assign target env v) (λ_ vP=>
   wpAny (model prog w) A (forIn ifs true λc r=>if r=true then do let ok ← isTrue c env (eval c env);pure (ForInStep.yield ok) else pure (ForInStep.yield r)) (λok Mo=>
    if ok=true then wpAny (model prog w) A (eval elt env) (λx adC=>
     wpAny (model prog w) A (call (.builtin "list.append") [acc,x]) (λ_ adD=>∃m,m<n/\I m adD) (λ_ _=>False) adC) (λ_ _=>False) Mo
    else ∃m,m<n/\I m Mo) (λ_ _=>False) vP) (λ_ _=>False) WN) (λ_ _=>False) dw) (λ_ _=>False) s)
 (n:Nat) (h:I n s) :
 codeAny (model prog w) A (.compLoop (.ListComp elt [⟨target,iter,ifs,0⟩] scope pos) 0 it acc env) R s:=by
 refine codeAny_loop rfl I (λn s hI=>?_) n h
 show wpAny _ A ((compTurn (.ListComp elt [⟨target,iter,ifs,0⟩] scope pos) 0 it acc env).onRaise (λx=>do noteFrame x env;theTreesLotGoes x)) _ _ s
 refine wpAny_noted ?_
 rw[compTurn_list]
 refine adk (agH (adk (aeY (turn n s hI) (λr dw nT=>?_) λ_ _ h'=>h'.elim)))
 cases r with
 | none=>exact adv nT
 | some v=>
  refine adk (aeY nT (λ_ WN adE=>?_) λ_ _ h'=>h'.elim)
  refine adk (aeY adE (λ_ vP tJ=>adk (aeY tJ (λok Mo vT=>?_) λ_ _ h'=>h'.elim)) λ_ _ h'=>h'.elim)
  cases ok with
  | false=>exact adv ⟨rfl,vT⟩
  | true=>
   exact adk (adk (aeY vT (λx adC DI=>adk (aeY DI (λ_ adD iM=>adv (adv ⟨rfl,iM⟩)) λ_ _ h'=>h'.elim)) λ_ _ h'=>h'.elim))
def wX(D:Addr)(g:TG)(ti:TT)(te:TE)(J:It)(W:Nat->Nat->St->Hp->Prop)(Q:Hp->Prop):Prop:=∀i m σ H,W i m σ H->
 (J.stop i H/\Q H)\/(J.go i H/\∀x H',J.yld i H x H'->g x σ H' λia H2=>ti ia H2 λb H3=>
  if b=true then te ia H3 λy H4=>∃acc,H4 D=some (.lst acc)/\acc.length<sizeLine/\∃m',m'<m/\W (i+1) m' ia (upd H4 D (.lst (acc++[y])))
  else ∃m',m'<m/\W (i+1) m' ia H3)
def Ol(js:List (Option Nat)) (wi:TI) (g:TG) (ti:TT) (te:TE):TE:=λσ H Q=>wi σ H λJ H1=>∀D,H1 D=none->
 ∃W:Nat->Nat->St->Hp->Prop,(∃m,W 0 m (rO js σ) (upd H1 D (.lst [])))/\wX D g ti te J W (λH'=>Q (.ref D) H')
section
variable {X:Cx}{N:List Str}{js:List (Option Nat)}{scope:Scope}{elt tg iter:Expr}{ifs:List Expr}{pos:Pos}{wi:TI}{g:TG}{ti:TT}{te:TE}
theorem FN{use:Option (Value->Sem Unit)}{R:Value->Shared->Prop}(S:oB X N js scope) (hc:X.calm=true) (hi:PI X tg iter wi)
 (hg:∀cl C s H fp pn,PG (di X N scope cl C s H fp pn) tg g) (ht:∀cl C s H fp pn,yU (di X N scope cl C s H fp pn) ifs ti) (he:∀cl C s H fp pn,PE (di X N scope cl C s H fp pn) elt te)
 (hs:∀x,foldedSetIterable iter X.env x=pure x){pins:List (Addr×Obj)}{s:Shared}{σ:St}{H:Hp}{Q:V->Hp->Prop}(I:Inv X pins σ H s) (h:Ol js wi g ti te σ H Q)
 (hR:∀D C (H':Hp) (s':Shared),Inv X pins σ H' s'->(∃m,s'.heap.Ns C m)->H' C=none->C≠X.env.locals->(C∈X.ex\/X.ly.heap.objs.size<=C)->(∀x c,X.env.cells.lookup x=some c->c≠C)->(∀p∈X.pn++pins,p.1≠C)->Q (.ref D) H'->
  compPost (model X.prog X.w) X.A X.xe use R (.ref D) C (.ok .next) s') :
 wpAny (model X.prog X.w) X.A (comprehension (.ListComp elt [⟨tg,iter,ifs,0⟩] scope pos) scope X.env (firstIterPos [⟨tg,iter,ifs,0⟩] pos) (newList []) false (eval iter X.env) use) R X.xe s:=by
 obtain⟨cl,SG,gQ,Oj⟩:=vV (scope:=scope) (env:=X.env) λx hx hk=>I.ok.has x.1 (S.frees x hx hk)
 refine wpAny_comprehension_free (use:=use) rfl hs SG S.kind S.names (aP (hi pins s σ H _ I h) λxv s1 h1=>aP h1 λNQ s2 h2=>?_)
 obtain⟨it,fp,tn,J,H2,e,I2,T,sL,f2,q2⟩:=h2
 subst e
 refine afW (wpAny_newFunctionEnv S.nocell (by intro y hy;simp at hy) (λnT IB IC=>?_) S.kind)
 dsimp only at IB IC ⊢
 have I3:Inv X pins σ (upd H2 s2.heap.objs.size (.lst [])) {s2 with heap:=s2.heap.push {cls:=.type "list",data:=.seq ([]:List Value).toArray},toks:=s2.toks}:=I2.Iu .nil (by show 0<=sizeLine;decide)
 have lt2:∀b∈fp,b<s2.heap.objs.size:=λb hb=>let ⟨o,e,_⟩:=T.obj _ _ sL b hb;adH e
 have f3:∀b∈fp,jn X pins (upd H2 s2.heap.objs.size (.lst [])) b:=λb hb=>⟨by rw[ah (adR (lt2 b hb))];exact(f2 b hb).1,(f2 b hb).2⟩
 obtain⟨W,⟨m0,w0⟩,turn⟩:=q2 s2.heap.objs.size (I2.hok.fresh (adn _))
 generalize Kd:({s2 with heap:=s2.heap.push {cls:=.type "list",data:=.seq ([]:List Value).toArray},toks:=s2.toks} : Shared)=s3 at I3
 have e3:s3.heap=s2.heap.push {cls:=.type "list",data:=.seq ([]:List Value).toArray}:=by rw[← Kd]
 have z3:s3.heap.objs.size=s2.heap.objs.size+1:=by rw[e3,aff]
 have k1:∀b o,s3.heap.get? b=some o->nT.get? b=some o:=λb o e=>by
  have hb:b<s3.heap.objs.size:=adH e
  refine IC.extBut b o ?_ (adl _ (by rw[← e3];exact e))
  rw[← e3]
  exact adR hb
 have hC:(s2.heap.push {cls:=.type "list",data:=.seq ([]:List Value).toArray}).objs.size=s3.heap.objs.size:=by rw[e3]
 have I4:=I3.enter (N:=N) (js:=js) (scope:=scope) (cl:=cl) (fp:=fp) (C:=(s2.heap.push {cls:=.type "list",data:=.seq ([]:List Value).toArray}).objs.size) (h':=nT) (tk:=s2.toks+([]:List (Str×Value)).length) S hc gQ Oj hC f3
  (λb hb=>by rw[z3];exact afX (lt2 b hb)) IB k1
 have WO:tn 0 nT:=T.keep _ _ _ sL λb hb o e=>k1 b o (by rw[e3];exact adl _ e)
 generalize hCC:(s2.heap.push {cls:=.type "list",data:=.seq ([]:List Value).toArray}).objs.size=C at IB IC hC I4 ⊢
 have hs4:({s3 with heap:=nT,toks:=s2.toks+([]:List (Str×Value)).length} : Shared) = {s2 with heap:=nT,toks:=s2.toks+([]:List (Str×Value)).length}:=by rw[← Kd]
 rw[hs4]at I4
 have fY:∀{H':Hp},(∀b∈fp,H' b=none)->∀b∈fp,jn (di X N scope cl C s3 (upd H2 s2.heap.objs.size (.lst [])) fp (X.pn++pins)) [] H' b:=λhn b hb=>by
  obtain⟨f0,fa,fb,fc,fd,fe⟩:=f3 b hb
  refine⟨hn b hb,?_,λz=>(adq.mp (I3.um b z)).elim fa fb,.inl hb,λx c e=>fd x c (gQ x c e),λp hp=>fe p (by simpa[di]using hp)⟩
  show b≠C
  rw[hC,z3]
  exact adR (afX (lt2 b hb))
 have loop:codeAny (model X.prog X.w) X.A (.compLoop (.ListComp elt [⟨tg,iter,ifs,0⟩] scope pos) 0 (.ref it) (.ref s2.heap.objs.size) (compEnvC scope cl C X.env))
  (compPost (model X.prog X.w) X.A X.xe use R (.ref s2.heap.objs.size) C) {s2 with heap:=nT,toks:=s2.toks+([]:List (Str×Value)).length}:=by
  refine yV (λn s'=>∃i bY H',Inv (di X N scope cl C s3 (upd H2 s2.heap.objs.size (.lst [])) fp (X.pn++pins)) [] bY H' s'/\tn i s'.heap/\(∀b∈fp,H' b=none)/\W i n bY H') ?_ m0
   ⟨0,_,_,I4,WO,λb hb=>(f3 b hb).1,w0⟩
  rintro n s5 ⟨i,SH,H5,I5,BL,J2,w5⟩
  rcases turn i n SH H5 w5 with⟨stop,qn⟩|⟨go,step⟩
  . refine aP (T.done (di X N scope cl C s3 (upd H2 s2.heap.objs.size (.lst [])) fp (X.pn++pins)) rfl rfl rfl rfl i [] s5 SH H5 (λ_ _=>False) I5 (fY J2) BL stop) λr s6 ⟨hr,I6⟩=>?_
    subst hr
    have I7:Inv X pins σ H5 s6:=I3.left f3 I6
    have hCs:X.ly.heap.objs.size<=C:=by rw[hC];exact I3.sz
    refine hR s2.heap.objs.size C H5 s6 I7 (let ⟨m,hn,_⟩:=I6.loc; ⟨m,hn⟩) I6.free ?_ (.inr hCs) (λx c e z=>?_) (λp hp z=>?_) qn
    . rw[hC]
      exact ae7 I3.lt
    . obtain⟨v,o,ho,_⟩:=I3.cell x c e
      have:=adH ho
      rw[z,hC]at this
      exact aey _ this
    . obtain⟨e,_⟩:=I3.pin p hp
      have:=adH e
      rw[z,hC]at this
      exact aey _ this
  . refine aP (T.item (di X N scope cl C s3 (upd H2 s2.heap.objs.size (.lst [])) fp (X.pn++pins)) rfl rfl rfl rfl i [] s5 SH H5 (λ_ _=>False) I5 (fY J2) BL go) λr s6 ⟨u,hr,h6⟩=>?_
    subst hr
    refine aP h6 λ_ s7 ⟨x,H7,I7,r7,y7,Om,fr7⟩=>?_
    have I7':=I7.pinned (fY fr7) (T.obj _ _ Om)
    have again:∀{n':Nat}{FQ:St}{H8:Hp}{s8:Shared},Inv (di X N scope cl C s3 (upd H2 s2.heap.objs.size (.lst [])) fp (X.pn++pins)) ([]++qB fp s7.heap) FQ H8 s8->n'<n->W (i+1) n' FQ H8->
     ∃m,m<n/\∃i bY H',Inv (di X N scope cl C s3 (upd H2 s2.heap.objs.size (.lst [])) fp (X.pn++pins)) [] bY H' s8/\tn i s8.heap/\(∀b∈fp,H' b=none)/\W i m bY H':=λ{n' FQ H8 s8} I8 hm w8=>by
     refine⟨n',hm,i+1,FQ,H8,I8.o8,T.keep _ _ _ Om λb hb o e=>(I8.pin (b,o) (adF _ (adF _ (lL hb e)))).1,λb hb=>?_,w8⟩
     obtain⟨o,e,d⟩:=T.obj _ _ Om b hb
     exact(I8.pin (b,o) (adF _ (adF _ (lL hb e)))).2.1
    refine aP (hg _ _ _ _ _ _ _ s7 SH H7 x u _ I7' r7 (step x H7 y7)) λ_ s8 ⟨FQ,H8,I8,q8⟩=>?_
    refine aP (ht _ _ _ _ _ _ _ s8 FQ H8 _ I8 q8) λok s9 ⟨H9,I9,q9⟩=>?_
    cases ok with
    | false=>
     rw[adw adO]at q9 ⊢
     obtain⟨m',hm,w9⟩:=q9
     exact again I9 hm w9
    | true=>
     rw[adM rfl]at q9 ⊢
     refine aP (he _ _ _ _ _ _ _ s9 FQ H9 _ I9 q9) λyv s10 ⟨y,WQ,I10,r10,acc,hD,hl,m',hm,w10⟩=>?_
     refine aP (d7 _ s10 FQ WQ (.ref s2.heap.objs.size) [y] (.ref s2.heap.objs.size) [yv] (λ_ H'=>H'=upd WQ s2.heap.objs.size (.lst (acc++[y]))) I10 rfl (.cons r10 .nil) ⟨s2.heap.objs.size,acc,y,rfl,rfl,hD,hl,rfl⟩) λ_ s11 ⟨_,H11,I11,_,e11⟩=>?_
     subst e11
     exact again I11 hm w10
 exact codeAny_compStart_list loop (T.self _ 0 _ _ _ WO loop)
theorem eG(S:uH X.N X.env.scope.names N js scope=true)(hc:X.calm=true)(hi:PI X tg iter wi)
 (hg:∀cl C s H fp pn,PG (di X N scope cl C s H fp pn) tg g) (ht:∀cl C s H fp pn,yU (di X N scope cl C s H fp pn) ifs ti) (he:∀cl C s H fp pn,PE (di X N scope cl C s H fp pn) elt te)
 (hs:∀x,foldedSetIterable iter X.env x=pure x:=by intro _;rfl):PE X (.ListComp elt [⟨tg,iter,ifs,0⟩] scope pos) (Ol js wi g ti te):=by
 intro pins s σ H Q I h
 rw[eval_ListComp]
 refine FN (use:=none) (oB.of S) hc hi hg ht he hs I h ?_
 rintro D C H' s' I' ⟨m,hn⟩ c1 c2 c3 c4 c5 q
 refine⟨m,hn,λh' Oo=>?_⟩
 exact⟨.ref D,H',I'.turned (t':=s'.toks) (λb o hb e=>Oo.extBut b o hb e) c1 c2 c3 c4 c5,rfl,q⟩
theorem uK{i:Nat}{x:Str}{pos' Oq:Pos}(hN:X.N.Nodup)(Ke:X.N[i]?=some x)(hx:X.env.scope.names.lookup x=some .local)(S:uH X.N X.env.scope.names N js scope=true)(hc:X.calm=true)(hi:PI X tg iter wi)
 (hg:∀cl C s H fp pn,PG (di X N scope cl C s H fp pn) tg g) (ht:∀cl C s H fp pn,yU (di X N scope cl C s H fp pn) ifs ti) (he:∀cl C s H fp pn,PE (di X N scope cl C s H fp pn) elt te)
 (hsw:swapsWith (.ListComp elt [⟨tg,iter,ifs,0⟩] scope pos) (some (.Name x pos')) Oq.line X.env=pure true:=by rfl)
 (hs:∀x,foldedSetIterable iter X.env x=pure x:=by intro _;rfl):PS X (.Assign [.Name x pos'] (.ListComp elt [⟨tg,iter,ifs,0⟩] scope pos) Oq) (Ia (Ol js wi g ti te) (fg i)):=by
 intro pins s σ H D I h
 rw[exec_Assign_Name_used _ _ _ _ hsw]
 refine adk (agH (adk ?_))
 show wpAny _ X.A (do let _ ← comprehension (.ListComp elt [⟨tg,iter,ifs,0⟩] scope pos) scope X.env _ (newList []) false (eval iter X.env) (some (assign (.Name x pos') X.env))) _ _ s
 refine adk (aP (FN (use:=some (assign (.Name x pos') X.env)) (R:=λ_ s'=>SP X pins D .next s') (oB.of S) hc hi hg ht he hs I h ?_) λ_ s' hq=>adv (adv hq))
 rintro Dd C H' s' I' ⟨m,hn⟩ c1 c2 c3 c4 c5 q
 show wpAny _ X.A (assign (.Name x pos') X.env (.ref Dd)) _ _ _
 refine wpAny_assign_Name (wH I' hN Ke (.inl hx) (v:=.ref Dd) rfl (λFt I'' ⟨a,sb,ha⟩=>?_) (.inr hx))
 have ea:a≠C:=by
  rcases ha with ha|ha
  . rw[ha]
    exact adG c2
  . exact c4 x a ha
 refine⟨m,hn.sameBut sb (adG ea),λh' Oo=>?_⟩
 exact⟨_,_,I''.turned (t':=Ft.toks) (λb o hb e=>Oo.extBut b o hb e) c1 c2 c3 c4 c5,q⟩
end
def FR(D:Addr)(n:Nat)(Pv:Nat->List V->St->Hp->Prop):Nat->Nat->St->Hp->Prop:=λi m σ H=>i<=n/\m=n-i/\∃acc,H D=some (.lst acc)/\Pv i acc σ H
theorem cP{D:Addr}{n i:Nat}{Pv:Nat->List V->St->Hp->Prop}{acc:List V}{σ:St}{H:Hp}(hi:i<n) (hD:H D=some (.lst acc)) (hp:Pv (i+1) acc σ H):∃m',m'<n-i/\FR D n Pv (i+1) m' σ H:=
 ⟨n-(i+1),by omega,hi,rfl,acc,hD,hp⟩
theorem fQ{D:Addr}{g:TG}{ti:TT}{te:TE}{J:It}{Q:Hp->Prop}{σ0:St}{H0:Hp}(n:Nat)(Pv:Nat->List V->St->Hp->Prop)(h0:Pv 0 [] σ0 H0) (hD0:H0 D=some (.lst []))
 (fin:∀acc σ H,H D=some (.lst acc)->Pv n acc σ H->J.stop n H/\Q H)
 (step:∀i acc σ H,i<n->H D=some (.lst acc)->Pv i acc σ H->J.go i H/\∀x H',J.yld i H x H'->g x σ H' λia H2=>ti ia H2 λb H3=>
  if b=true then te ia H3 λy H4=>∃acc,H4 D=some (.lst acc)/\acc.length<sizeLine/\∃m',m'<n-i/\FR D n Pv (i+1) m' ia (upd H4 D (.lst (acc++[y]))) else ∃m',m'<n-i/\FR D n Pv (i+1) m' ia H3) :
 ∃W:Nat->Nat->St->Hp->Prop,(∃m,W 0 m σ0 H0)/\wX D g ti te J W Q:=by
 refine⟨FR D n Pv,⟨n,adW _,rfl,[],hD0,h0⟩,?_⟩
 rintro i m σ H ⟨hi,rfl,acc,hD,hp⟩
 rcases Nat.lt_or_ge i n with h|h
 . exact .inr (step i acc σ H h hD hp)
 . have e:i=n:=Nat.le_antisymm hi h
   subst e
   exact .inl (fin acc σ H hD hp)
section
variable {X:Cx}{pins:List (Addr×Obj)}{σ:St}{H:Hp}{s:Shared}{h':Heap}
theorem Inv.BV{t':Nat}{fp:List Addr}(I:Inv X pins σ H s)(hf:∀b∈fp,jn X pins H b)(k:∀b o,b∉fp->s.heap.get? b=some o->h'.get? b=some o):Inv X pins σ H {s with heap:=h',toks:=t'}:=by
 have FT:∀b u,H b=some u->b∉fp:=λb u e z=>by rw[(hf b z).1]at e;cases e
 refine I.step (g':=s.gens) (d':=s.drawn) (ch:=fp) (λb hb=>⟨(hf b hb).2.2.2.1,(hf b hb).2.1,(hf b hb).2.2.2.2.1,(hf b hb).2.2.2.2.2⟩) (λb o _ _ hc e _=>k b o hc e) (λb o _ _ hc e _=>⟨o.slots,k b o hc e⟩) (λ_ _ _ _ n=>n)
  (λb o hc e=>⟨o,k b o hc e⟩) (λ_ _ e=>e) (λ_ _ _ e=>e) (λb ps e=>⟨#[],by rw[e];simp⟩) (λm hm=>?_) (λb u e=>?_) I.bare
 . obtain⟨o,es,ep,ho,r⟩:=hm
   exact⟨o,es,ep,k _ o (λz=>(hf _ z).2.1 rfl) ho,r⟩
 . refine(I.hok b u e).iJ (λc v hc q=>k c v ?_ q) (λ_ q=>q) λ_ _ q=>q
   rcases hc with z|z
   . rw[z];exact FT b u e
   . exact FT c _ z
theorem Inv.BW{t':Nat}{fp:List Addr}{T:Addr}{xs:List V}{its:List Value}(I:Inv X pins σ H s)(hf:∀b∈fp,jn X pins H b)(k:∀b o,b∉fp->s.heap.get? b=some o->h'.get? b=some o)
 (hT:s.heap.objs.size<=T) (ht:IsTup h' T its.toArray) (rv:Vals xs its) (hz:xs.length<=sizeLine):Inv X pins σ (upd H T (.tup xs)) {s with heap:=h',toks:=t'}:=by
 have FT:∀b u,H b=some u->b∉fp:=λb u e z=>by rw[(hf b z).1]at e;cases e
 have BX:H T=none:=I.hok.fresh hT
 have neT:∀b u,H b=some u->b≠T:=λb u e z=>by rw[z,BX]at e;cases e
 have ltT:∀b o,s.heap.get? b=some o->b≠T:=λb o e=>adR (adY (adH e) hT)
 refine I.step (g':=s.gens) (d':=s.drawn) (ch:=fp) (λb hb=>⟨(hf b hb).2.2.2.1,(hf b hb).2.1,(hf b hb).2.2.2.2.1,(hf b hb).2.2.2.2.2⟩) (λb o _ _ hc e _=>k b o hc e) (λb o _ _ hc e _=>⟨o.slots,k b o hc e⟩)
  (λb o _ e n=>by rw[ah (ltT b o e)];exact n) (λb o hc e=>⟨o,k b o hc e⟩) (λb ys e=>by rw[ah (neT b _ e)];exact e) (λb o u e=>by rw[ah (neT b _ e)];exact e)
  (λb ps e=>⟨#[],by rw[ah (neT b _ e),e];simp⟩) (λm hm=>?_) (λb u e=>?_) I.bare
 . obtain⟨o,es,ep,ho,r⟩:=hm
   exact⟨o,es,ep,k _ o (λz=>(hf _ z).2.1 rfl) ho,r⟩
 . by_cases hb:b=T
   . subst hb
     rw[af]at e
     cases e
     exact⟨hz,its,rv,ht⟩
   . rw[ah hb]at e
     refine(I.hok b u e).iJ (λc v hc q=>k c v ?_ q) (λc q=>by rw[ah (neT c _ q)];exact q) λc ys q=>by rw[ah (neT c _ q)];exact q
     rcases hc with z|z
     . rw[z];exact FT b u e
     . exact FT c _ z
end
def Ot(z:Str):It:=⟨λi _=>i<z.cps.size,λi H x H'=>H'=H/\∃c,z.cps[i]?=some c/\x=.str ⟨#[c]⟩,λi _=>i=z.cps.size⟩
theorem yW{P:Program}{w:World}{K:W.Frag}{tg:Expr}(it:Addr)(z:Str)(t:Tok)(ty:String) (W:∀A:Around,A.handled=none->Walks P w A it [it] [it] z.cps.size (SignAt z) (λi h=>h.IsStrIter it ty z t i))
 (hs:∀(A:Around) (i:Nat) (s:Shared) (Q:Value->Shared->Prop) (E:Value->Shared->Prop),s.heap.IsStrIter it ty z t i->Q (.ref it) s->wpAny (model P w) A (pyIter (.ref it)) Q E s)
 (hn:["enumerate", "zip", "dict_itemiterator", "dict_reverseitemiterator", "odict_iterator", "itertools.zip_longest", "itertools.pairwise"].contains ty=false) :
 Turn P w K tg (Ot z) [it] it (λi h=>h.IsStrIter it ty z t i) where
 mem:=by simp
 obj:=λi h st b hb=>by
  have e:b=it:=by simpa using hb
  subst e
  obtain⟨o,e,c,d⟩:=st
  exact⟨o,e,λv z=>by rw[d]at z;cases z⟩
 keep:=λi h h' st k=>let ⟨o,e,r⟩:=st; ⟨o,k it (by simp) o e,r⟩
 item:=by
  intro X hP hw hK hc i pins s σ H E I hf st hg
  subst hP hw hK
  obtain⟨f0,f1,f2,f3,f4,f5⟩:=hf it (by simp)
  refine(W X.A (I.ok.hd hc)).item i s _ _ hg st λv h' tk hv cj kk=>?_
  obtain⟨c,u,ec,rfl⟩:=hv
  have I1:Inv X pins σ H {s with heap:=h',toks:=tk}:=I.turned (λb o hb e=>kk b o (by simpa using hb) e) f0 f1 f3 f4 f5
  obtain⟨o,e,oc,od⟩:=id cj
  exact⟨_,rfl,uu (s:={s with heap:=h',toks:=tk}) e oc od hn ⟨.str ⟨#[c]⟩,H,I1,⟨u,rfl⟩,⟨rfl,c,ec,rfl⟩,cj,λb hb=>(hf b hb).1⟩⟩
 done:=by
  intro X hP hw hK hc i pins s σ H E I hf st hg
  subst hP hw hK
  obtain⟨f0,f1,f2,f3,f4,f5⟩:=hf it (by simp)
  have qG:i=z.cps.size:=hg
  subst qG
  exact(W X.A (I.ok.hd hc)).done s _ _ st λh' tk kk=>⟨rfl,I.turned (λb o hb e=>kk b o (by simpa using hb) e) f0 f1 f3 f4 f5⟩
 self:=λA i s Q E st h=>hs A i s Q E st h
section
variable {X:Cx}{tg:Expr}
def Zs(ts:TE):TI:=λσ H R=>ts σ H λx H1=>∃z,x=.str z/\R (Ot z) H1
theorem uL{l:Expr}{tl:TE}(hl:PE X l tl):PI X tg l (Zs tl):=by
 intro pins s σ H R I h
 refine aP (hl pins s σ H _ I h) λv s1 ⟨x,H1,I1,r1,q1⟩=>?_
 obtain⟨z,e,q⟩:=q1
 subst e
 obtain⟨t,rfl⟩:=r1
 have fin:∀b∈[s1.heap.objs.size],jn X pins H1 b:=λb hb=>by
  have e:b=s1.heap.objs.size:=by simpa using hb
  subst e
  exact I1.tH (adn _) (I1.hok.fresh (adn _))
 cases ha:z.cps.all (· < 128) with
 | true=>
  refine wpAny_pyIter_ascii ha ?_
  exact⟨s1.heap.objs.size,[s1.heap.objs.size],_,_,H1,rfl,I1.kept (t':=s1.toks) λb o e=>adl _ e,
   yW _ z t "str_ascii_iterator" (λA hA=>Walks.strAscii hA _ z t) (λ_ _ _ _ _ st h=>wpAny_pyIter_striter_ascii st h) (by decide),⟨_,adP _ rfl,rfl,rfl⟩,fin,q⟩
 | false=>
  refine wpAny_pyIter_wide ha ?_
  exact⟨s1.heap.objs.size,[s1.heap.objs.size],_,_,H1,rfl,I1.kept (t':=s1.toks) λb o e=>adl _ e,
   yW _ z t "str_iterator" (λA hA=>Walks.strWide hA _ z t) (λ_ _ _ _ _ st h=>wpAny_pyIter_striter_wide st h) (by decide),⟨_,adP _ rfl,rfl,rfl⟩,fin,q⟩
end
def WR(K:W.Frag)(a:Addr):It:=
 ⟨λi H=>∃xs x,aw K H a xs/\xs[i]?=some x,λi H v H'=>∃T x,v=.ref T/\H T=none/\H'=upd H T (.tup [.int (i:Int),x])/\∀xs,aw K H a xs->xs[i]?=some x,λi H=>∃xs,aw K H a xs/\xs.length<=i⟩
theorem FU{P:Program}{w:World}{K:W.Frag}{es:List Expr}{kk:Nat}{tp:Pos}(a e it:Addr)(WS:e≠it):Turn P w K (.Tuple es kk tp) (WR K a) [e,it] e (λi h=>(∃old,IsEnum h e it (i:Int) old)/\h.IsListIter it a i) where
 mem:=by simp
 obj:=λi h st b hb=>by
  obtain⟨⟨old,he⟩,o,e1,c,d⟩:=st
  rcases adq.mp hb with z|z
  . subst z
    exact⟨_,he,λv z=>by
     have z':Data.fields _=Data.cell v:=z
     cases z'⟩
  . have z':b=it:=by simpa using z
    subst z'
    exact⟨o,e1,λv z=>by rw[d]at z;cases z⟩
 keep:=λi h h' st k=>⟨let ⟨old,he⟩:=st.1; ⟨old,k e (by simp) _ he⟩,st.2.at λo e1=>k it (by simp) o e1⟩
 item:=by
  intro X hP hw hK hc i pins s σ H E I hf st hg
  subst hP hw hK
  obtain⟨xs,x,hq,hx⟩:=hg
  obtain⟨its,rv,p,hz⟩:=I.list hq
  obtain⟨u,hu,ru⟩:=rv.get hx
  obtain⟨⟨old,he⟩,hit⟩:=st
  refine wpAny_pyNext_enum_item he hit p.isList (x:=u) (by simpa using hu) WS λh' ho Zt hT hsz hk=>?_
  refine⟨.ref s.heap.objs.size,rfl,?_⟩
  refine wpAny_letOwnedTupleGo_enum ho λh2 Kf uw=>?_
  have WT:s.heap.objs.size≠e:=ae7 (adH he)
  have BY:h2.get? s.heap.objs.size=some {cls:=.type "tuple",data:=.seq #[.int i s.toks,u] }:=(uw.2 _ WT).trans hT
  have I1:Inv X pins σ (upd H s.heap.objs.size (.tup [.int (i:Int),x])) {s with heap:=h2,toks:=s.toks+1}:=I.BW (its:=[.int i s.toks,u]) hf (λb o hb e1=>by
   have b1:b≠e:=λz=>hb (by simp[z])
   have b2:b≠it:=λz=>hb (by simp[z])
   exact(uw.2 b b1).trans (hk b o b1 b2 e1)) (adn _) ⟨_,BY,rfl,_,rfl⟩ (.cons ⟨_,rfl⟩ (.cons ru .nil)) (by show 2<=sizeLine;decide)
  have fr:H s.heap.objs.size=none:=I.hok.fresh (adn _)
  refine⟨.ref s.heap.objs.size,_,I1,rfl,⟨s.heap.objs.size,x,rfl,fr,rfl,λys hy=>by rw[I.tG hy hq];exact hx⟩,⟨⟨u,?_⟩,Zt.at λo e1=>(uw.2 it WS.symm).trans e1⟩,λb hb=>?_⟩
  . have e3:(((i+1:Nat):Nat):Int)=(i:Int)+1:=by omega
    rw[e3]
    exact Kf
  . have nA:=(hf b hb).1
    have nb:b≠s.heap.objs.size:=by
     rcases adq.mp hb with z|z
     . rw[z];exact adG WT
     . have z':b=it:=by simpa using z
       rw[z']
       obtain⟨o,e1,_⟩:=hit
       exact adR (adH e1)
    rw[ah nb]
    exact nA
 done:=by
  intro X hP hw hK hc i pins s σ H E I hf st hg
  subst hP hw hK
  obtain⟨xs,hq,hx⟩:=hg
  obtain⟨its,rv,p,hz⟩:=I.list hq
  obtain⟨⟨old,he⟩,hit⟩:=st
  have hl:=rv.length
  exact wpAny_pyNext_enum_end (I.ok.hd hc) he hit p.isList (by simp;omega) λh' eb=>⟨rfl,I.BV (t':=s.toks) hf λb o hb e1=>eb b o (λz=>hb (by simp[z])) e1⟩
 self:=λ_ _ _ _ _ st h=>let ⟨old,he⟩:=st.1;wpAny_pyIter_enum he h
section
variable {X:Cx}
def SI(K:W.Frag)(ta:TA):TI:=λσ H R=>ta σ H λvs H1=>∃a,vs=[.ref a]/\(∃xs,aw K H1 a xs)/\R (WR K a) H1
theorem BZ{es:List Expr}{kk:Nat}{tp:Pos}{a:Expr}{ta:TA}{p pos:Pos}(hg:Gl X "enumerate")(hm:X.mg "enumerate" = none)(ha:PA X [a] ta) (hs:starEach [a] X.env=[(false,eval a X.env)]:=by rfl) :
 PI X (.Tuple es kk tp) (.Call (.Name "enumerate" p) [a] [] pos) (SI X.K ta):=by
 intro pins s σ H R I h
 refine Call_ (mn I hg hm boot_enumerate (aez (aP (ha pos pins s σ H _ I h) λus s1 ⟨vs,H1,I1,r1,q1⟩=>?_) hs rfl))
 obtain⟨l,e,⟨xs,hq⟩,q⟩:=q1
 subst e
 cases r1 with
 | cons r rr=>
  cases rr
  cases r
  obtain⟨its,rv,pl,hz⟩:=I1.list hq
  refine call_enumerate_list pl.isList λh' he hit hsz hk=>?_
  refine wpAny_pyIter_enum he ?_
  have I2:Inv X pins σ H1 {s1 with heap:=h'}:=I1.kept (t':=s1.toks) hk
  refine⟨s1.heap.objs.size+1,[s1.heap.objs.size+1,s1.heap.objs.size],_,_,H1,rfl,I2,FU l _ _ (ae7 (af7 _)),⟨⟨_,he⟩,hit⟩,λb hb=>?_,q⟩
  have nA:s1.heap.objs.size<=b:=by
   rcases adq.mp hb with z|z
   . rw[z];exact agI _
   . have z':b=s1.heap.objs.size:=by simpa using z
     rw[z'];exact adn _
  exact I1.tH nA (I1.hok.fresh nA)
end
section
variable {X:Cx}
def Zu:V->Option Int->Option Int->Hp->VK->Prop:=λx lo hi H Q=>∃z j,x=.str z/\lo=none/\hi=some j/\z.length<=sizeLine/\Q (.str (Txt.slice z none (some j))) H
theorem uM:Ka X Zu:=by
 intro pins s σ H x v vl vu lo hi sl Q I rx hs pl pu h
 obtain⟨z,j,rfl,rfl,rfl,hz,q⟩:=h
 obtain⟨t,rfl⟩:=rx
 cases pl
 cases pu with
 | int _ uj=>
  refine⟨"str",_,F.slot_str_getitem.lookup,afT _ _ _,agM (l:=none) (u:=some (j,uj)) (st:=none) hs rfl
   (post_val_or_str ⟨ady (Txt.slice_le z _ _) hz,λt' k=>⟨.str (Txt.slice z none (some j)),H,I.tok k,⟨t',rfl⟩,q⟩⟩)⟩
def rJoin(K:W.Frag):V->List V->Hp->VK->Prop:=λx vs H Q=>∃z a ys,x=.str z/\vs=[.ref a]/\aw K H a (ys.map V.str)/\(ys.map (·.length)).sum+ys.length*z.length<=16777216/\Q (.str (Txt.join z ys)) H
theorem uN:∀{ys:List Str}{us:List Value},Vals (ys.map V.str) us->StrsAre us ys
 | [],us,r=>by
  cases r
  exact .nil
 | y::ys,us,r=>by
  cases r with
  | cons h t=>
   obtain⟨tk,rfl⟩:=h
   exact .cons _ _ (uN t)
theorem Mx:wR X "str.join" (rJoin X.K):=by
 intro pins s σ H x vs v us Q I rx rv h
 obtain⟨z,a,ys,rfl,rfl,hq,hl,q⟩:=h
 obtain⟨t,rfl⟩:=rx
 obtain⟨u,rfl,ru⟩:=rv.one
 cases ru
 obtain⟨its,r,pl,_⟩:=I.list hq
 exact join_list pl.isList (by simpa using uN r) hl λt' k=>⟨.str (Txt.join z ys),H,I.tok k,⟨t',rfl⟩,q⟩
def Ou:V->List V->Hp->VK->Prop:=λx vs H Q=>∃z y,x=.str z/\vs=[.str y]/\z.length<=sizeLine/\(y.length == 0)=false/\
 (Builtin.Str.partsBetween z (Builtin.Str.occurrences z y 0 z.length (z.length+1)) y.length).length<=sizeLine/\∀p,H p=none->Q (.ref p) (upd H p (.lst ((Txt.split z y).map V.str)))
theorem qd:∀(tk:Nat) (xs:List Str),Vals (xs.map V.str) (strValues (numbered tk xs))
 | _,[]=>.nil
 | tk,x::r=>.cons ⟨tk,rfl⟩ (qd (tk+1) r)
theorem split_le(z y:Str) (h:(Builtin.Str.partsBetween z (Builtin.Str.occurrences z y 0 z.length (z.length+1)) y.length).length<=sizeLine):(Txt.split z y).length<=sizeLine:=by
 unfold Txt.split
 split
 . show 1<=sizeLine;decide
 . split
   . show 1<=sizeLine;decide
   . exact h
theorem ID:wR X "str.split" Ou:=by
 intro pins s σ H x vs v us Q I rx rv h
 obtain⟨z,y,rfl,rfl,hz,hy,hl,q⟩:=h
 obtain⟨t,rfl⟩:=rx
 obtain⟨u,rfl,tu,rfl⟩:=rv.one
 have uO:=split_le z y hl
 have fin:∀(l:List (Str×Tok)) (tk:Nat),Vals ((Txt.split z y).map V.str) (strValues l)->
  EP X pins σ Q (.ref s.heap.objs.size) {s with heap:=s.heap.push {cls:=.type "list",data:=.seq (strValues l).toArray},toks:=tk}:=λl tk r=>
  ⟨.ref s.heap.objs.size,_,I.Iu r (by rw[abc];exact uO),rfl,q _ (I.hok.fresh (adn _))⟩
 cases h1:(decide (z.length<y.length) || decide (Builtin.Str.strKind z<Builtin.Str.strKind y)) with
 | true=>
  refine afU ag1 (afT _ _ _) agA (agn _ _) (meets_str_split_cannot_occur z y t tu h1) ?_
  exact fin [(z,t)] s.toks (by
   have e:Txt.split z y=[z]:=adM h1
   rw[e]
   exact .cons ⟨t,rfl⟩ .nil)
 | false=>
  cases hf:(Builtin.Str.occurrences z y 0 z.length (z.length+1)).isEmpty with
  | true=>
   refine afU ag1 (afT _ _ _) agA (agn _ _) (meets_str_split_not_found z y t tu h1 hy hf) ?_
   exact fin [(z,t)] s.toks (by
    have e:Txt.split z y=[z]:=(adw (agf h1)).trans (adM hf)
    rw[e]
    exact .cons ⟨t,rfl⟩ .nil)
  | false=>
   refine afU ag1 (afT _ _ _) agA (agn _ _) (meets_str_split_sep z y t tu h1 hy hf hz hl) ?_
   have e:Txt.split z y=Builtin.Str.partsBetween z (Builtin.Str.occurrences z y 0 z.length (z.length+1)) y.length:=(adw (agf h1)).trans (adw (agf hf))
   have:=fin (numbered s.toks (Builtin.Str.partsBetween z (Builtin.Str.occurrences z y 0 z.length (z.length+1)) y.length)) (s.toks+(Builtin.Str.partsBetween z (Builtin.Str.occurrences z y 0 z.length (z.length+1)) y.length).length) (by
    rw[e]
    exact qd _ _)
   show EP X pins σ Q _ {s with toks:=_,heap:=s.heap.push {cls:=.type "list",data:=.seq (strsFrom s.toks (Builtin.Str.partsBetween z (Builtin.Str.occurrences z y 0 z.length (z.length+1)) y.length)).toArray} }
   rw[strsFrom_eq]
   exact this
end
section
variable {X:Cx}
def My:V->List V->Hp->VK->Prop:=λx vs H Q=>∃l xs i y,x=.ref l/\vs=[.int i,y]/\H l=some (.lst xs)/\0<=i/\i<=xs.length/\xs.length<sizeLine/\Q .aY (upd H l (.lst (xs.take i.toNat++[y]++xs.drop i.toNat)))
theorem FV:wR X "list.insert" My:=by
 intro pins s σ H x vs v us Q I rx rv h
 obtain⟨l,xs,i,y,rfl,rfl,hH,h0,hi,hz,q⟩:=h
 cases rx
 obtain⟨u1,u2,rfl,r1,r2⟩:=rv.two
 obtain⟨t1,rfl⟩:=r1
 obtain⟨z,its,n,r,hl,e⟩:=I.tL hH
 have hn:=oh
 have Zv:¬ (!Builtin.List.listFitsIndex i)=true:=by
  have:Builtin.List.listFitsIndex i=true:=by
   unfold Builtin.List.listFitsIndex
   simp only[aeb,ad4]
   constructor <;> omega
  rw[this]
  decide
 refine afU F.slot_list_insert ⟨_,e,rfl⟩ F.entry_list_insert (F.args_list_insert_3 _ _ _) (AutoListH.list_insert_list_int_val_1 l its.toArray n i t1 u2 Zv (by rw[adz];omega)) ⟨e,?_⟩
 refine⟨.aY,_,I.DE (its':=its.take i.toNat++[u2]++its.drop i.toNat) hH e ?_ (((r.take i.toNat).append (.cons r2 .nil)).append (r.drop i.toNat)) ?_,rfl,q⟩
 . have e1:(if i<0 then (i+((its.toArray.size:Nat):Int)).toNat else min i.toNat its.toArray.size)=i.toNat:=by
    rw[adw (by omega),adz]
    omega
   show (its.toArray.extract 0 _).push u2++its.toArray.extract _=_
   rw[e1]
   apply Array.toList_inj.mp
   simp[aed]
 . simp only[adm,adU,aeM,ad2]
   omega
end
section
variable {prog:Program}{w:World}{A:Around}{E:Value->Shared->Prop}
end
section
variable {X:Cx}{pos:Pos}
end
end L2
namespace Gen
open PySem
theorem yX{α:Type}[DecidableEq α]:∀(l t:List α),l.Nodup->(∀x∈l,x∈t)->l.length<=t.length
 | [],t,_,_=>adW _
 | a::l,t,hn,hs=>by
  have ha:a∈t:=hs a adB
  obtain⟨h1,h2⟩:=ad1.mp hn
  have:=yX l (t.erase a) h2 λx hx=>(ahn (λ(e:x=a)=>h1 (by rw[← e];exact hx))).mpr (hs x (adx _ hx))
  rw[agB ha]at this
  have:0<t.length:=ag5 ha
  simp only[adL]
  omega
theorem DJ(k len:Nat):Builtin.Str.strSliceIndices none (some (k:Int)) 1 len=List.range (min k len):=by
 have h1:¬ ((k:Int)<0):=by omega
 have e:max (0:Int) (min (k:Int) (len:Int))=((min k len:Nat):Int):=by omega
 simp only[Builtin.Str.strSliceIndices,sliceRange,h1,af1,show ((1:Int)>0)=True from by simp,age,e]
 by_cases h:(0:Int)<((min k len:Nat):Int)
 . have e3:(((min k len:Nat):Int)-0+1-1) / 1=((min k len:Nat):Int):=by simp
   rw[adM h,e3,ael]
   conv=>rhs;rw[← List.map_id (List.range (min k len))]
   exact aeT λj _=>by simp
 . have:min k len=0:=by omega
   simp[this]
theorem sN{α:Type}(l:List α)(n:Nat)(h:n<=l.length):(List.range n).filterMap (l[·]?)=l.take n:=by
 have:=StrLaws.picks l n 0 (by omega)
 simpa using this
theorem tN(x:Str)(k:Nat):(Txt.slice x none (some (k:Int))).cps.toList=x.cps.toList.take k:=by
 unfold Txt.slice
 rw[DJ]
 have hl:x.cps.toList.length=x.length:=by simp[Str.length]
 split
 . rename_i h
   simp only[agZ,Bool.true_and,afY,afA]at h
   rw[aed]
   omega
 . have e:(λ(i:Nat)=>x.cps[i]?)=(λ(i:Nat)=>x.cps.toList[i]?):=by funext i;simp
   show (List.filterMap (λ(i:Nat)=>x.cps[i]?) (List.range (min k x.length))).toArray.toList=_
   rw[List.toList_toArray,e,sN _ _ (by omega)]
   rcases Nat.le_total k x.length with h|h
   . rw[afG h]
   . rw[Nat.min_eq_right h,aed (by omega),aed (by omega)]
def aF:List Nat:=(List.range 26).map (· + 97)
theorem ku{c:Nat} : c∈aF ↔ 97<=c/\c<=122:=by
 unfold aF
 simp only[ads,ahr]
 constructor
 . rintro⟨a,h,rfl⟩;omega
 . intro h;exact⟨c-97,by omega,by omega⟩
def isName(n:List Nat):Prop:=1<=n.length/\n.length<=8/\∀c∈n,c∈aF
def tO(n:List Nat):List (List Nat):=
 [n]++aF.map (λc=>n.take 7++[c])++aF.map (λc=>n.take 6++[c,113])++aF.map (λc=>n.take 6++[c,122])++aF.map (λc=>n.take 5++[c,113,122])
theorem FW{n x:List Nat}(hn:isName n)(hx:x∈tO n):isName x:=by
 obtain⟨h1,h2,h3⟩:=hn
 have tk:∀k,∀c∈n.take k,c∈aF:=λk c hc=>h3 c (aet hc)
 have IE:113∈aF:=by decide
 have IF:122∈aF:=by decide
 unfold tO at hx
 simp only[adu,adJ,ads]at hx
 rcases hx with (((rfl|⟨c,hc,rfl⟩)|⟨c,hc,rfl⟩)|⟨c,hc,rfl⟩)|⟨c,hc,rfl⟩
 . exact⟨h1,h2,h3⟩
 all_goals
  refine⟨by simp,by simp only[adm,adU,adL,afm];omega,λd hd=>?_⟩
  simp only[adu,adq,adI,aec]at hd
  rcases hd with hd|hd
  . exact tk _ d hd
  . rcases hd with rfl|hd <;> first|exact hc|(rcases hd with rfl|hd <;> first|exact IE|exact IF|(rcases hd with rfl <;> first|exact IE|exact IF))|(subst hd;first|exact IE|exact IF)
def sub(n:List Nat):List (List Nat):=
 (aF.filter λc=>decide (c≠113/\c≠122)).map (λc=>n.take 7++[c])++aF.map (λc=>n.take 6++[c,113])++aF.map (λc=>n.take 6++[c,122])
  ++ (aF.filter λc=>decide (some c≠n[5]?)).map (λc=>n.take 5++[c,113,122])
theorem IG{n x:List Nat}(h:x∈sub n):x∈tO n:=by
 unfold sub at h
 unfold tO
 simp only[adu,adJ,ads,ae2]at h ⊢
 rcases h with ((⟨c,⟨hc,_⟩,rfl⟩|⟨c,hc,rfl⟩)|⟨c,hc,rfl⟩)|⟨c,⟨hc,_⟩,rfl⟩
 . exact .inl (.inl (.inl (.inr ⟨c,hc,rfl⟩)))
 . exact .inl (.inl (.inr ⟨c,hc,rfl⟩))
 . exact .inl (.inr ⟨c,hc,rfl⟩)
 . exact .inr ⟨c,hc,rfl⟩
theorem iU:aF.Nodup:=by decide
theorem iB{l:List Nat}(hl:l.Nodup)(p q:List Nat):(l.map λc=>p++c::q).Nodup:=by
 induction l with
 | nil=>exact aex
 | cons a l ih=>
  obtain⟨h1,h2⟩:=ad1.mp hl
  rw[adQ,ad1]
  refine⟨λh=>?_,ih h2⟩
  obtain⟨b,hb,e⟩:=ads.mp h
  have:=List.append_cancel_left e
  injection this with e1 _
  exact h1 (e1 ▸ hb)
theorem Mz{p:List Nat}{a:Nat} : (p++[a]).getLast?=some a:=by simp
theorem FX(n:List Nat):(sub n).Nodup:=by
 unfold sub
 have DK:∀x∈aF.map (λc=>n.take 6++[c,113]),x.getLast?=some 113:=λx hx=>by
  obtain⟨c,_,rfl⟩:=ads.mp hx
  simp
 have Kg:∀x∈aF.map (λc=>n.take 6++[c,122]),x.getLast?=some 122:=λx hx=>by
  obtain⟨c,_,rfl⟩:=ads.mp hx
  simp
 have Kh:∀x∈(aF.filter λc=>decide (some c≠n[5]?)).map (λc=>n.take 5++[c,113,122]),x.getLast?=some 122:=λx hx=>by
  obtain⟨c,_,rfl⟩:=ads.mp hx
  simp
 have DL:∀x∈(aF.filter λc=>decide (c≠113/\c≠122)).map (λc=>n.take 7++[c]),x.getLast?≠some 113/\x.getLast?≠some 122:=λx hx=>by
  obtain⟨c,hc,rfl⟩:=ads.mp hx
  obtain⟨_,hc⟩:=ae2.mp hc
  have iD:=aef hc
  rw[Mz]
  exact⟨λe=>iD.1 (adN e),λe=>iD.2 (adN e)⟩
 refine adK.mpr ⟨adK.mpr ⟨adK.mpr ⟨iB (iU.filter _) _ _,iB iU _ _,?_⟩,iB iU _ _,?_⟩,iB (iU.filter _) _ _,?_⟩
 . intro a ha b hb e
   exact(DL a ha).1 (e ▸ DK b hb)
 . intro a ha b hb e
   rcases adu.mp ha with ha|ha
   . exact(DL a ha).2 (e ▸ Kg b hb)
   . have:=DK a ha
     rw[e,Kg b hb]at this
     cases this
 . intro a ha b hb e
   rcases adu.mp ha with ha|ha
   . rcases adu.mp ha with ha|ha
     . exact(DL a ha).2 (e ▸ Kh b hb)
     . have:=DK a ha
       rw[e,Kh b hb]at this
       cases this
   . obtain⟨c,_,rfl⟩:=ads.mp ha
     obtain⟨d,hd,rfl⟩:=ads.mp hb
     obtain⟨_,hd⟩:=ae2.mp hd
     have hd':some d≠n[5]?:=aef hd
     rcases Nat.lt_or_ge 5 n.length with hl|hl
     . -- both have eight letters
       have e5:(n.take 6++[c,122])[5]?=(n.take 5++[d,113,122])[5]?:=by rw[e]
       have t6:(n.take 6).length=6:=by rw[adU];omega
       have t5:(n.take 5).length=5:=by rw[adU];omega
       rw[aeI (by omega),aeD (by omega),t5,List.getElem?_take]at e5
       simp at e5
       exact hd' e5.symm
     . have el:=congrArg List.length e
       simp only[adm,adU,adL,afm]at el
       omega
theorem DM(n:List Nat):100<=(sub n).length:=by
 unfold sub
 simp only[adm,abc]
 have h1:aF.length=26:=by decide
 have h2:(aF.filter λc=>decide (c≠113/\c≠122)).length=24:=by decide
 have h3:25<=(aF.filter λc=>decide (some c≠n[5]?)).length:=by
  cases n[5]? with
  | none=>
   have:(aF.filter λc=>decide (some c≠none))=aF:=ahw.mpr λc _=>by simp
   rw[this,h1]
   decide
  | some d=>
   have e:(aF.filter λc=>decide (some c≠some d))=aF.filter λc=>c != d:=by
    apply List.filter_congr
    intro c _
    by_cases h:c=d
    . subst h;simp
    . simp[h]
   rw[e]
   by_cases hd:d∈aF
   . obtain⟨a,b⟩:=ku.mp hd
     have:∀k,k<26->25<=(aF.filter λc=>c != k+97).length:=by decide
     have:=this (d-97) (by omega)
     rw[show d-97+97=d by omega]at this
     exact this
   . have:(aF.filter λc=>c != d)=aF:=ahw.mpr λc hc=>by
      have:c≠d:=λe=>hd (e ▸ hc)
      simpa using this
     rw[this,h1]
     decide
 rw[h1,h2]
 omega
theorem FY(n:List Nat) (told:List (List Nat)) (h:told.length<100):∃x∈tO n,x∉told:=by
 apply agr
 intro hx
 have all:∀x∈sub n,x∈told:=λx hs=>agr λht=>hx ⟨x,IG hs,ht⟩
 have:=yX (sub n) told (FX n) all
 have:=DM n
 omega
theorem wY:("" : Str).cps.toList=[]:=by decide+kernel
theorem SJ:("q" : Str).cps.toList=[113]:=by decide+kernel
theorem SK:("z" : Str).cps.toList=[122]:=by decide+kernel
theorem Ov:("qz" : Str).cps.toList=[113,122]:=by decide+kernel
theorem B0:("abcdefghijklmnopqrstuvwxyz" : Str).cps.toList=aF:=by decide+kernel
theorem rP(a b:Str):(a++b).cps.toList=a.cps.toList++b.cps.toList:=by rw[Str.cps_append,Array.toList_append]
theorem yY:∀ys:List Str,(Str.join "" ys).cps.toList=(ys.map (·.cps.toList)).flatten
 | []=>rfl
 | [x]=>by simp[Str.join]
 | x::y::r=>by
  have ih:=yY (y::r)
  show (x ++ "" ++ Str.join "" (y::r)).cps.toList=_
  rw[rP,rP,ih,wY]
  simp
theorem FZ(ys:List Str):(Txt.join "" ys).cps.toList=(ys.map (·.cps.toList)).flatten:=by
 unfold Txt.join
 rw[StrLaws.glued_eq_join]
 exact yY ys
def c7(n:Str):List Str:=aF.map λc=>Txt.slice n none (some 7)++⟨#[c]⟩
def Ki(n:Str):List Str:=aF.map λc=>Txt.slice n none (some 6)++⟨#[c]⟩ ++ "q"
def Kj(n:Str):List Str:=aF.map λc=>Txt.slice n none (some 6)++⟨#[c]⟩ ++ "z"
def c5(n:Str):List Str:=aF.map λc=>Txt.slice n none (some 5)++⟨#[c]⟩ ++ "qz"
def dm(n:Str):List Str:=[n]++c7 n++Ki n++Kj n++c5 n
theorem wZ(n:Str):(dm n).map (·.cps.toList)=tO n.cps.toList:=by
 have s7:=tN n 7
 have s6:=tN n 6
 have s5:=tN n 5
 have e7:((7:Nat):Int)=7:=rfl
 have e6:((6:Nat):Int)=6:=rfl
 have e5:((5:Nat):Int)=5:=rfl
 rw[e7]at s7
 rw[e6]at s6
 rw[e5]at s5
 unfold dm tO c7 Ki Kj c5
 simp only[adp,aeC,adQ,aeS,Function.comp_def,rP,s7,s6,s5,SJ,SK,Ov,aeg,afc,afo]
theorem MA{a b:Str}(h:a.cps.toList=b.cps.toList):a=b:=Str.ext' (Array.toList_inj.mp h)
def bg(z:Str):Prop:=isName z.cps.toList
theorem DN{n z:Str}(hn:bg n)(hz:z∈dm n):bg z:=by
 refine FW hn ?_
 rw[← wZ]
 exact ads.mpr ⟨z,hz,rfl⟩
theorem DO(n:Str)(told:List Str)(h:told.length<100):∃x∈dm n,x∉told:=by
 obtain⟨x,hx,ht⟩:=FY n.cps.toList (told.map (·.cps.toList)) (by simpa using h)
 rw[← wZ]at hx
 obtain⟨z,hz,rfl⟩:=ads.mp hx
 exact⟨z,hz,λhm=>ht (ads.mpr ⟨z,hm,rfl⟩)⟩
def eT:List Str:=["switch", "keep", "gate", "next", "never", "some", "wall", "row", "step", "piece", "lasso"]
theorem Bx:Txt.split "switch keep gate next never some wall row step piece lasso" " " = eT:=by decide+kernel
theorem By:∀x∈eT,bg x:=by
 have h:eT.all (λx=>decide (1<=x.cps.toList.length) && decide (x.cps.toList.length<=8) && x.cps.toList.all λc=>decide (c∈aF))=true:=by decide+kernel
 intro x hx
 have:=aeO.mp h x hx
 simp only[aeb,ad4,aeO]at this
 exact⟨this.1.1,this.1.2,this.2⟩
theorem bg.len{z:Str}(h:bg z):z.length<=8:=by
 have:=h.2.1
 simpa[Str.length]using this
theorem Bz{ys:List Str}(h1:1<=ys.length)(h2:ys.length<=8)(h:∀y∈ys,∃c∈aF,y=⟨#[c]⟩):bg (Txt.join "" ys):=by
 have e:∀zs:List Str,(∀y∈zs,∃c∈aF,y=⟨#[c]⟩)->(zs.map (·.cps.toList)).flatten.length=zs.length/\∀c∈(zs.map (·.cps.toList)).flatten,c∈aF:=by
  intro zs
  induction zs with
  | nil=>intro _;exact⟨rfl,λc hc=>by simp at hc⟩
  | cons z zs ih=>
   intro hz
   obtain⟨c,hc,rfl⟩:=hz z adB
   obtain⟨i1,i2⟩:=ih λy hy=>hz y (adx _ hy)
   refine⟨?_,λd hd=>?_⟩
   . rw[adQ,ahJ,adm,i1]
     simp
     omega
   . rw[adQ,ahJ,adu]at hd
     rcases hd with hd|hd
     . have:d=c:=by simpa using hd
       rw[this];exact hc
     . exact i2 d hd
 obtain⟨e1,e2⟩:=e ys h
 unfold bg isName
 rw[FZ,e1]
 exact⟨h1,h2,e2⟩
end Gen
namespace Gen
open PySem L2
def top(i:Nat):Stmt:=PySem.Challenge.pw_everguard_k44_stands_ahead.main.body.getD i (.Pass ⟨0,0,0,0⟩)
abbrev rQ:Stmt:=top 14
abbrev tP:Stmt:=top 15
abbrev rS:Stmt:=top 16
abbrev lP:Stmt:=top 17
abbrev jx:Stmt:=top 18
abbrev i0:Stmt:=top 19
abbrev lW:Stmt:=top 20
abbrev dY:Stmt:=top 21
abbrev gz:Stmt:=top 22
structure Own(mg:Str->Option Value):Prop where
 len:mg "len" = none
 range:mg "range" = none
 enum:mg "enumerate" = none
 list:mg "list" = none
def eB(xs:List V):Prop:=(∃a:Int,xs=[.int a])\/∃a b:Int,xs=[.int a,.int b]
def aX(H H':Hp)(l:Addr):Prop:=∀b o,H b=some o->b≠l->H' b=some o
theorem aX.trans{H H1 H2:Hp}{l:Addr}(a:aX H H1 l)(b:aX H1 H2 l):aX H H2 l:=λc o h n=>b c o (a c o h n) n
theorem ak.keep{H H':Hp}(s:ak H H')(l:Addr):aX H H' l:=λb o h _=>s b o h
theorem aX.ax{H:Hp}{l p:Addr}{o:HO}(hp:H p=none):aX H (upd H p o) l:=λb u h _=>by rw[ah (ae h hp)];exact h
theorem ak.ax{H:Hp}{p:Addr}{o:HO}(hp:H p=none):ak H (upd H p o):=λb u h=>by rw[ah (ae h hp)];exact h
theorem aX.F0{H:Hp}{l:Addr}{o:HO} : aX H (upd H l o) l:=λb u h n=>by rw[ah n];exact h
theorem aX.seq{K:W.Frag}{H H':Hp}{a l:Addr}{xs:List V}{n:List V}(e:aX H H' l) (hl:H l=some (.lst n)) (h:aw K H a xs) (hne:a≠l):aw K H' a xs:=by
 rcases h with (h|⟨o,h⟩)|h
 . exact .inl (.inl (e a _ h hne))
 . exact .inl (.inr ⟨o,e a _ h hne⟩)
 . exact .inr h
inductive B7(K:W.Frag) (vs:List V) (H:Hp) (Q:VK):Prop
 | mk (a:Addr) (ns:List Int) (k:Int) (h1:vs=[.ref a,.int k]) (h2:aw K H a (ns.map V.int)) (h3:0<=k) (h4:∀v:Int,Q (.int v) H):B7 K vs H Q
def qH(K:W.Frag):Sp:=λvs H Q _=>B7 K vs H Q
inductive F1(vs:List V) (H:Hp) (Q:VK):Prop
 | mk (c k:Int) (h1:vs=[.int c,.int k]) (h2:0<=k) (h3:k<=1000000) (h4:∀v:Int,0<=v->v<1999999973->Q (.int v) H):F1 vs H Q
def Kk:Sp:=λvs H Q _=>F1 vs H Q
inductive B8(vs:List V) (H:Hp) (Q:VK):Prop
 | mk (c k:Int) (h1:vs=[.int c,.int k]) (h2:0<=k) (h3:k<=1000) (h4:∀v:Int,Q (.int v) H):B8 vs H Q
def qI:Sp:=λvs H Q _=>B8 vs H Q
inductive B9(vs:List V) (H:Hp) (Q:VK):Prop
 | mk (l:Addr) (xs:List V) (m:Int) (h1:vs=[.ref l,.int m]) (h2:H l=some (.lst xs)) (h3:eB xs) (h4:0<m) (h5:m<1073741824) (h6:∀(d:Int) (ys:List V) (H':Hp),0<=d->d<m->eB ys->H' l=some (.lst ys)->aX H H' l->Q (.int d) H'):B9 vs H Q
def qJ:Sp:=λvs H Q _=>B9 vs H Q
section
variable {P:Program}{w:World}{K:W.Frag}{mg:Str->Option Value}{base:Heap}
theorem Ow:aQ ["_law_script", "_law_k"] ["_law_script", "_law_k"] (ar rQ):=⟨rfl,rfl,rfl,by decide+kernel,rfl,by decide+kernel,by decide+kernel⟩
theorem MB{f:Addr}{fd:FuncData}(F:b0 K "_law_cell_at" "_law_cell_at" rQ f fd)(T:Own mg):ay P w K mg base aC 1 f fd ["_law_script", "_law_k"] (qH K):=by
 refine F.ok Ow (λvs H Q E h=>?_) (λcdv A outer s H vs Q E hr h=>?_)
 . obtain⟨a,ns,k,rfl,_⟩:=h
   rfl
 . obtain⟨a,ns,k,rfl,hS,h0,kk⟩:=h
   refine⟨_,ai (cw (cF yf (pv 1) (bz cc (by rfl) T.len aem (aa (pv 0) ag)) (cU _)) (av (aN (aK a0 (pv 0) (pv 1) (λ_ _=>rfl)))) bf)
    (av (aN ao)),?_⟩
   refine⟨_,rfl,_,rfl,a,_,rfl,.inl hS,_,_,rfl,rfl,_,rfl,?_⟩
   refine iZ (λhc=>?_) (λ_=>kk 0)
   have iD:k<((ns.map V.int).length:Int):=aef hc
   rw[abc]at iD
   have hk:k.toNat<ns.length:=by omega
   have e:((k.toNat:Nat):Int)=k:=by omega
   have w4:jJ (ns.map V.int) ((k.toNat:Nat):Int)=some (.int ns[k.toNat]):=aG (by rw[ado,adj hk];rfl)
   rw[e]at w4
   exact⟨_,rfl,_,rfl,a,_,_,.int ns[k.toNat],rfl,rfl,hS,w4,kk _⟩
theorem Kl:aQ ["_law_cell", "_law_k", "_law_m"] ["_law_cell", "_law_k"] (ar tP):=⟨rfl,rfl,rfl,by decide+kernel,rfl,by decide+kernel,by decide+kernel⟩
theorem Ox{f:Addr}{fd:FuncData}(F:b0 K "_law_mix" "_law_mix" tP f fd):ay P w K mg base aC 1 f fd ["_law_cell", "_law_k"] Kk:=by
 refine F.ok Kl (λvs H Q E h=>?_) (λcdv A outer s H vs Q E hr h=>?_)
 . obtain⟨c,k,rfl,_⟩:=h
   rfl
 . obtain⟨c,k,rfl,h0,h1,kk⟩:=h
   refine⟨_,ai (aD (i:=2) Kl.nd rfl (Or.inl rfl) (aT jq (aT jo (aT fh (aT fh (aT jq (pv 0) ao) (aT jo (aT jo (pv 1) (pv 1)) ao)) ao) ao) ao))
    (av (aN (aT jq (aT jo (pv 2) (pv 2)) ao))),?_⟩
   refine⟨_,rfl,_,_,rfl,rfl,(by show (0:Int)<2147483629;decide),_,rfl,_,rfl,_,_,rfl,rfl,.inl ⟨by omega,by omega⟩,_,_,rfl,rfl,.inr ⟨by decide,by decide⟩,_,_,rfl,rfl,_,_,rfl,rfl,
    _,_,rfl,rfl,.inr ⟨by decide,by decide⟩,_,_,rfl,rfl,(by show (0:Int)<2147483647;decide),?_⟩
   generalize hm:((c % 2147483629+k*k*7919+11)*48271 % 2147483647:Int)=m
   have m0:0<=m:=by rw[← hm];exact afH _ (by decide)
   have m1:m<2147483647:=by rw[← hm];exact afj _ (by decide)
   refine⟨_,rfl,_,rfl,_,_,rfl,rfl,.inl ⟨by omega,by omega⟩,_,_,rfl,rfl,(by show (0:Int)<1999999973;decide),?_⟩
   exact kk _ (afH _ (by decide)) (afj _ (by decide))
theorem uP:aQ ["_law_cell", "_law_k", "_law_number", "_law_j"] ["_law_cell", "_law_k"] (ar rS):=⟨rfl,rfl,rfl,by decide+kernel,rfl,by decide+kernel,by decide+kernel⟩
theorem MC{f fM:Addr}{fd Oy:FuncData}(F:b0 K "_law_rich" "_law_rich" rS f fd)(T:Own mg)(FM:b0 K "_law_mix" "_law_mix" tP fM Oy)(bM:Binds K Oy ["_law_cell", "_law_k"] []) (mM:mg "_law_mix" = some (.ref fM)) :
 ay P w K mg base aC 2 f fd ["_law_cell", "_law_k"] qI:=by
 have GM:ay P w K mg base aC 1 fM Oy ["_law_cell", "_law_k"] Kk:=Ox FM
 refine F.ok uP (λvs H Q E h=>?_) (λcdv A outer s H vs Q E hr h=>?_)
 . obtain⟨c,k,rfl,_⟩:=h
   rfl
 . obtain⟨c,k,rfl,h0,h1,kk⟩:=h
   refine⟨_,ai (aD (i:=2) uP.nd rfl (Or.inl rfl) ao)
    (ai (dJ ad6 rfl (cW rfl T.range (aa ao ag)) (aH (i:=3) uP.nd rfl (Or.inl rfl))
     (av (aD (i:=2) uP.nd rfl (Or.inl rfl) (aT fh (aT jo (pv 2) ao) (aE GM hr rfl mM FM.kp bM .nil aA (aa (pv 0) (aa (aT fh (aT jo ao (pv 1)) (pv 3)) ag)))))))
    (av (aN (pv 2)))),?_⟩
   refine⟨12,rfl,by decide,by decide,gj (n:=12) (λi σ H2=>H2=H/\∃(n:Int) (v:Option V),σ=[some (.int c),some (.int k),some (.int n),v]) ⟨rfl,0,none,rfl⟩ ?_ ?_⟩
   . rintro i σ H2 hi ⟨rfl,n,v,rfl⟩
     refine⟨_,rfl,_,_,rfl,rfl,.inr ⟨by decide,by decide⟩,_,rfl,_,rfl,_,_,rfl,rfl,.inl ⟨by decide,by decide⟩,_,rfl,_,_,rfl,rfl,?_⟩
     refine⟨_,_,rfl,by omega,by omega,λv WU hv1=>⟨_,_,rfl,rfl,rfl,_,_,rfl⟩⟩
   . rintro σ H2 ⟨rfl,n,v,rfl⟩
     exact⟨_,rfl,kk n⟩
theorem F2:aQ ["_law_left", "_law_many", "_law_digit"] ["_law_left", "_law_many"] (ar lP):=⟨rfl,rfl,rfl,by decide+kernel,rfl,by decide+kernel,by decide+kernel⟩
theorem vW{f:Addr}{fd:FuncData}(F:b0 K "_law_pick" "_law_pick" lP f fd)(T:Own mg):ay P w K mg base aC 1 f fd ["_law_left", "_law_many"] qJ:=by
 refine F.ok F2 (λvs H Q E h=>?_) (λcdv A outer s H vs Q E hr h=>?_)
 . obtain⟨l,xs,m,rfl,_⟩:=h
   rfl
 . obtain⟨l,xs,m,rfl,hl,hp,m0,m1,kk⟩:=h
   refine⟨_,ai (aD (i:=2) F2.nd rfl (Or.inl rfl) (aT jq (aK a0 (pv 0) ao (λ_ _=>rfl)) (pv 1)))
    (ai (NO (aT rL (aK a0 (pv 0) ao (λ_ _=>rfl)) (pv 1)) (NN (pv 0) ao set_list))
    (av (aN (pv 2)))),?_⟩
   rcases hp with⟨a,rfl⟩|⟨a,b,rfl⟩
   . refine⟨_,rfl,l,_,_,.int a,rfl,rfl,aw.of hl,rfl,_,rfl,_,_,rfl,rfl,m0,?_⟩
     refine⟨_,rfl,l,_,_,.int a,rfl,rfl,aw.of hl,rfl,_,rfl,_,_,rfl,rfl,⟨m0,m1⟩,_,rfl,l,_,_,0,rfl,rfl,hl,rfl,?_⟩
     exact⟨_,rfl,kk _ _ _ (afH _ (by omega)) (afj _ m0) (.inl ⟨_,rfl⟩) af aX.F0⟩
   . refine⟨_,rfl,l,_,_,.int a,rfl,rfl,aw.of hl,rfl,_,rfl,_,_,rfl,rfl,m0,?_⟩
     refine⟨_,rfl,l,_,_,.int a,rfl,rfl,aw.of hl,rfl,_,rfl,_,_,rfl,rfl,⟨m0,m1⟩,_,rfl,l,_,_,0,rfl,rfl,hl,rfl,?_⟩
     exact⟨_,rfl,kk _ _ _ (afH _ (by omega)) (afj _ m0) (.inr ⟨_,_,rfl⟩) af aX.F0⟩
end
theorem small{n:Nat}(h:n<=1000):n<sizeLine:=wW h
theorem mG{n:Nat}(h:n<=1000):n<=sizeLine:=ae5 (wW h)
inductive yZ(K:W.Frag) (vs:List V) (H:Hp) (Q:VK):Prop
 | mk (l t:Addr) (xs:List V) (told:List Str) (h1:vs=[.ref l,.ref t]) (h2:H l=some (.lst xs)) (h3:eB xs) (h4:t≠l) (h5:aw K H t (told.map V.str)) (h6:told.length<100) (h7:∀(z:Str) (ys:List V) (H':Hp),bg z->z∉told->eB ys->H' l=some (.lst ys)->aX H H' l->Q (.str z) H'):yZ K vs H Q
def rT(K:W.Frag):Sp:=λvs H Q _=>yZ K vs H Q
theorem vX(z:Str)(told:List Str):uF (.str z) (told.map V.str)=decide (z∈told):=by
 unfold uF
 rw[aea,afe,ad4]
 constructor
 . rintro⟨v,hv,e⟩
   obtain⟨y,hy,rfl⟩:=ads.mp hv
   have:y=z:=by simpa[kU]using e
   rw[← this];exact hy
 . intro h
   exact⟨.str z,ads.mpr ⟨z,h,rfl⟩,by simp[kU]⟩
theorem F4(told:List Str):(told.map V.str).all lO=true:=by
 rw[aeO]
 intro v hv
 obtain⟨y,_,rfl⟩:=ads.mp hv
 rfl
theorem F6{i:Nat}{c:Nat}(h:("abcdefghijklmnopqrstuvwxyz" : Str).cps[i]?=some c):aF[i]?=some c:=by
 rw[← B0]
 simpa using h
theorem qK{α β:Type}{l:List α}{i:Nat}{c:α}(f:α->β)(h:l[i]?=some c):(l.take (i+1)).map f=(l.take i).map f++[f c]:=by
 rw[List.take_add_one,h]
 simp
theorem dv{i:Nat}{x:V}{σ:St}{H:Hp}{A B:St->Hp->Prop}(h:A (σ.set i (some x)) H):fg i x σ H (λia H2=>nY ia H2 (λb H3=>if b=true then A ia H3 else B ia H3)):=by
 show (if true=true then A (σ.set i (some x)) H else B (σ.set i (some x)) H)
 rw[adM rfl]
 exact h
theorem SM:(["_law_k", "_law_left", "_law_letters"]:List Str).Nodup:=by decide+kernel
theorem DP:(["_law_one", "_law_name"]:List Str).Nodup:=by decide+kernel
theorem Zw:(["_law_one", "_law_told"]:List Str).Nodup:=by decide+kernel
section
variable {P:Program}{w:World}{K:W.Frag}{mg:Str->Option Value}{base:Heap}
abbrev F7:List Str:=["_law_left", "_law_told", "_law_letters", "_law_words", "_law_size", "_law_name", "_law_some"]
theorem jc:aQ F7 ["_law_left", "_law_told"] (ar jx):=⟨rfl,rfl,rfl,by decide+kernel,rfl,by decide+kernel,by decide+kernel⟩
theorem lQ{D:Addr}{te:TE}{Q:Hp->Prop}{H1:Hp}{nm:Str}(f:Nat->Str)(hD:H1 D=none)
 (he:∀(c:Nat) (H:Hp) (R:VK),c∈aF->R (.str (f c)) H->te [some (.str ⟨#[c]⟩),some (.str nm)] H R)
 (fin:Q (upd H1 D (.lst ((aF.map f).map V.str)))) :
 ∃W:Nat->Nat->St->Hp->Prop,(∃m,W 0 m [none,some (.str nm)] (upd H1 D (.lst [])))/\wX D (fg 0) nY te (Ot "abcdefghijklmnopqrstuvwxyz") W Q:=by
 have hsz:("abcdefghijklmnopqrstuvwxyz" : Str).cps.size=26:=by decide+kernel
 have F8:aF.length=26:=by decide
 refine fQ 26 (λi acc σ H=>acc=((aF.take i).map f).map V.str/\(∃v,σ=[v,some (.str nm)])/\H=upd H1 D (.lst acc)) ⟨rfl,⟨none,rfl⟩,rfl⟩ af ?_ ?_
 . rintro acc σ H _ ⟨rfl,_,rfl⟩
   refine⟨hsz.symm,?_⟩
   rw[aed (by rw[F8];decide)]
   exact fin
 . rintro i acc σ H hi cQ ⟨rfl,⟨v,rfl⟩,rfl⟩
   refine⟨by show i<_;rw[hsz];exact hi,?_⟩
   rintro x H' ⟨rfl,c,hc,rfl⟩
   have iD:=F6 hc
   refine dv ?_
   refine he c _ _ (adX iD) ?_
   refine⟨_,af,?_,cP hi af ⟨?_,⟨_,rfl⟩,?_⟩⟩
   . rw[abc,abc,adU]
     exact small (by omega)
   . rw[qK f iD,adp]
     rfl
   . rw[gd]
theorem y8:∀zs:List Str,(∀y∈zs,∃c∈aF,y=⟨#[c]⟩)->(zs.map (·.length)).sum=zs.length
 | [],_=>rfl
 | z::zs,h=>by
  obtain⟨c,_,rfl⟩:=h z adB
  have ih:=y8 zs λy hy=>h y (adx _ hy)
  rw[adQ,List.sum_cons,ih,adL]
  show 1+zs.length=zs.length+1
  omega
theorem tQ(n:Str)(h:bg n)(k:Int):(Txt.slice n none (some k)).length<=8:=ady (Txt.slice_le n _ _) h.len
theorem mJ(c:Nat):(⟨#[c]⟩:Str).length=1:=rfl
theorem uQ(a b:Str):(a++b).length=a.length+b.length:=Str.length_append a b
theorem iX{n:Nat}(h:n<=100):n<=sizeLine:=ady h (by decide)
abbrev ME(P:Program)(w:World)(K:W.Frag)(mg:Str->Option Value)(base:Heap)(f:Addr)(cdv:Value)(A:Around)(outer:List Env)(s:Shared)(H:Hp)(E:XK):Cx:=
 (o9 aC P w K mg base F7 "_law_spelt" (ar jx) f cdv A outer s H E).yD
abbrev w6:Str:="abcdefghijklmnopqrstuvwxyz"
theorem DQ{f:Addr}{cdv:Value}{A:Around}{outer:List Env}{s:Shared}{H:Hp}{E:XK}{Q:VK}{l t:Addr}{told:List Str}(hS:aw K H t (told.map V.str)) (hne:t≠l) (eN:told.length<100) (uJ:∃xs,H l=some (.lst xs))
 (kk:∀(z:Str) (ys:List V) (H':Hp),bg z->z∉told->eB ys->H' l=some (.lst ys)->aX H H' l->Q (.str z) H') :
 ∃tR:TS,ja (ME P w K mg base f cdv A outer s H E) (List.drop 5 (aJ jx)) tR/\∀(nm:Str) (ys:List V) (H4:Hp) (w1:Addr) (sz:Int),bg nm->eB ys->H4 l=some (.lst ys)->aX H H4 l->
  tR {nx:=λ_ H'=>Q .aY H',rt:=Q} [some (.ref l),some (.ref t),some (.str w6),some (.ref w1),some (.int sz),some (.str nm),none] H4:=by
 refine⟨_,ai (aD (i:=6) jc.nd rfl (Or.inl rfl) (aT kX (aT kX (cK (aa (pv 5) ag))
  (eG (N:=["_law_one", "_law_name"]) (js:=[none,some 5]) (by kernel_rfl) rfl (uL (pv 2)) (λ_ _ _ _ _ _=>aH (i:=0) DP rfl (Or.inl rfl) (.inr rfl)) (λ_ _ _ _ _ _=>bQ)
   (λ_ _ _ _ _ _=>aT fi (eR uM (pv 1) gZ (ff ao)) (pv 0))))
  (eG (N:=["_law_one", "_law_name"]) (js:=[none,some 5]) (by kernel_rfl) rfl (uL (pv 2)) (λ_ _ _ _ _ _=>aH (i:=0) DP rfl (Or.inl rfl) (.inr rfl)) (λ_ _ _ _ _ _=>bQ)
   (λ_ _ _ _ _ _=>aT fi (aT fi (eR uM (pv 1) gZ (ff ao)) (pv 0)) bp))))
  (ai (aD (i:=6) jc.nd rfl (Or.inl rfl) (aT kX (aT kX (pv 6)
   (eG (N:=["_law_one", "_law_name"]) (js:=[none,some 5]) (by kernel_rfl) rfl (uL (pv 2)) (λ_ _ _ _ _ _=>aH (i:=0) DP rfl (Or.inl rfl) (.inr rfl)) (λ_ _ _ _ _ _=>bQ)
    (λ_ _ _ _ _ _=>aT fi (aT fi (eR uM (pv 1) gZ (ff ao)) (pv 0)) bp)))
   (eG (N:=["_law_one", "_law_name"]) (js:=[none,some 5]) (by kernel_rfl) rfl (uL (pv 2)) (λ_ _ _ _ _ _=>aH (i:=0) DP rfl (Or.inl rfl) (.inr rfl)) (λ_ _ _ _ _ _=>bQ)
    (λ_ _ _ _ _ _=>aT fi (aT fi (eR uM (pv 1) gZ (ff ao)) (pv 0)) bp))))
  (av (aN (aK a0
   (eG (N:=["_law_one", "_law_told"]) (js:=[none,some 1]) (by kernel_rfl) rfl (c8 (pv 6)) (λ_ _ _ _ _ _=>aH (i:=0) Zw rfl (Or.inl rfl) (.inr rfl))
    (λ_ _ _ _ _ _=>IA (cF (r:=Ob K true) yT (pv 0) (pv 1) (by with_unfolding_all rfl))) (λ_ _ _ _ _ _=>pv 0)) ao (λ_ _=>rfl))))),?_⟩
 intro nm ys H4 w1 sz hn hp y9 jK
 have sO:∀g:Nat->Str,((aF.map g).map V.str).length=26:=λg=>by rw[abc,abc];decide
 have h8:∀k:Int,nm.length<=sizeLine:=λ_=>iX (ady hn.len (by decide))
 refine⟨_,rfl,(by show 1<=sizeLine;decide),λp1 hp1=>?_⟩
 refine⟨_,rfl,w6,rfl,λD1 F9=>lQ (nm:=nm) (λc=>Txt.slice nm none (some 7)++⟨#[c]⟩) F9 (λc H R hc hR=>?_) ?_⟩
 . refine⟨_,rfl,_,rfl,nm,7,rfl,rfl,rfl,h8 0,_,rfl,_,_,rfl,rfl,?_,hR⟩
   have:=tQ nm hn 7
   rw[mJ]
   exact iX (by omega)
 have n1:p1≠D1:=ae (af (H:=H4)) F9
 refine⟨p1,D1,_,_,rfl,rfl,(by rw[ah n1,af]),af,?_,λp2 fu=>?_⟩
 . rw[sO]
   exact iX (by show 1+26<=100;decide)
 refine⟨_,rfl,w6,rfl,λD2 qL=>lQ (nm:=nm) (λc=>Txt.slice nm none (some 6)++⟨#[c]⟩ ++ "q") qL (λc H R hc hR=>?_) ?_⟩
 . refine⟨_,rfl,_,rfl,nm,6,rfl,rfl,rfl,h8 0,_,rfl,_,_,rfl,rfl,?_,_,_,rfl,rfl,?_,hR⟩
   . have:=tQ nm hn 6
     rw[mJ]
     exact iX (by omega)
   . have:=tQ nm hn 6
     have e1:("q" : Str).length=1:=by decide+kernel
     rw[uQ,mJ,e1]
     exact iX (by omega)
 have n2:p2≠D2:=ae (af (H:=_)) qL
 refine⟨p2,D2,_,_,rfl,rfl,(by rw[ah n2,af]),af,?_,λp3 nB=>?_⟩
 . rw[adm,sO,sO]
   exact iX (by show 1+26+26<=100;decide)
 refine⟨_,rfl,_,rfl,w6,rfl,λD3 xa=>lQ (nm:=nm) (λc=>Txt.slice nm none (some 6)++⟨#[c]⟩ ++ "z") xa (λc H R hc hR=>?_) ?_⟩
 . refine⟨_,rfl,_,rfl,nm,6,rfl,rfl,rfl,h8 0,_,rfl,_,_,rfl,rfl,?_,_,_,rfl,rfl,?_,hR⟩
   . have:=tQ nm hn 6
     rw[mJ]
     exact iX (by omega)
   . have:=tQ nm hn 6
     have e1:("z" : Str).length=1:=by decide+kernel
     rw[uQ,mJ,e1]
     exact iX (by omega)
 have n3:p3≠D3:=ae (af (H:=_)) xa
 refine⟨p3,D3,_,_,rfl,rfl,(by rw[ah n3,af]),af,?_,λp4 jL=>?_⟩
 . rw[adm,adm,sO,sO,sO]
   exact iX (by show 1+26+26+26<=100;decide)
 refine⟨_,rfl,w6,rfl,λD4 Oz=>lQ (nm:=nm) (λc=>Txt.slice nm none (some 5)++⟨#[c]⟩ ++ "qz") Oz (λc H R hc hR=>?_) ?_⟩
 . refine⟨_,rfl,_,rfl,nm,5,rfl,rfl,rfl,h8 0,_,rfl,_,_,rfl,rfl,?_,_,_,rfl,rfl,?_,hR⟩
   . have:=tQ nm hn 5
     rw[mJ]
     exact iX (by omega)
   . have:=tQ nm hn 5
     have e1:("qz" : Str).length=2:=by decide+kernel
     rw[uQ,mJ,e1]
     exact iX (by omega)
 have n4:p4≠D4:=ae (af (H:=_)) Oz
 refine⟨p4,D4,_,_,rfl,rfl,(by rw[ah n4,af]),af,?_,λp5 lG=>?_⟩
 . rw[adm,adm,adm,sO,sO,sO,sO]
   exact mG (by show 1+26+26+26+26<=1000;decide)
 have Zx:[V.str nm]++((aF.map λc=>Txt.slice nm none (some 7)++⟨#[c]⟩).map V.str)++((aF.map λc=>Txt.slice nm none (some 6)++⟨#[c]⟩ ++ "q").map V.str)++((aF.map λc=>Txt.slice nm none (some 6)++⟨#[c]⟩ ++ "z").map V.str)
  ++ ((aF.map λc=>Txt.slice nm none (some 5)++⟨#[c]⟩ ++ "qz").map V.str)=(dm nm).map V.str:=by
  unfold dm c7 Ki Kj c5
  simp only[adp,adQ,aeS]
 rw[Zx]
 have sm:∀o5,ak H4 (upd (upd (upd (upd (upd (upd (upd (upd (upd H4 p1 _) D1 _) p2 _) D2 _) p3 _) D3 _) p4 _) D4 _) p5 o5):=λo5=>
  (((((((((ak.ax hp1).trans (ak.ax F9)).trans (ak.ax fu)).trans (ak.ax qL)).trans (ak.ax nB)).trans (ak.ax xa)).trans (ak.ax jL)).trans (ak.ax Oz)).trans (ak.ax lG))
 have OA:=sm (.lst ((dm nm).map V.str))
 generalize hG:upd _ p5 (HO.lst ((dm nm).map V.str))=G at *
 have Ca:G p5=some (.lst ((dm nm).map V.str)):=by rw[← hG,af]
 refine⟨_,rfl,p5,rfl,⟨_,aw.of Ca⟩,λD hD=>?_⟩
 obtain⟨xs0,uJ⟩:=uJ
 have np:p5≠D:=ae Ca hD
 have h5:∀o,(upd G D o) p5=some (.lst ((dm nm).map V.str)):=λo=>by rw[ah np];exact Ca
 have hSt:∀o,aw K (upd G D o) t (told.map V.str):=λo=>ak.seq (ak.ax hD) (ak.seq OA (jK.seq uJ hS hne))
 refine fQ (dm nm).length (λi acc σ H=>acc=(((dm nm).take i).filter λz=>!decide (z∈told)).map V.str/\(∃v,σ=[v,some (.ref t)])/\H=upd G D (.lst acc)) ⟨rfl,⟨none,rfl⟩,rfl⟩ af ?_ ?_
 . rintro acc σ H5 _ ⟨rfl,_,rfl⟩
   refine⟨⟨_,aw.of (h5 _),by simp⟩,?_⟩
   rw[ad5]
   obtain⟨z,hz,Km⟩:=DO nm told eN
   have WV:z∈(dm nm).filter λz=>!decide (z∈told):=ae2.mpr ⟨hz,by simp[Km]⟩
   cases WW:(dm nm).filter λz=>!decide (z∈told) with
   | nil=>rw[WW]at WV;cases WV
   | cons z0 r=>
    have h0:z0∈(dm nm).filter λz=>!decide (z∈told):=by rw[WW];exact adB
    obtain⟨m1,m2⟩:=ae2.mp h0
    have m3:z0∉told:=by simpa using m2
    have sl:G l=some (.lst ys):=OA l _ y9
    have nl:l≠D:=ae sl hD
    exact⟨D,_,0,.str z0,rfl,rfl,aw.of af,(aG (j:=0) (by rfl):jJ _ ((0:Nat):Int)=_),kk z0 ys _ (DN hn m1) m3 hp (by rw[ah nl];exact sl) ((jK.trans (ak.keep OA l)).trans (aX.ax hD))⟩
 . rintro i acc σ H5 hi cQ ⟨rfl,⟨v,rfl⟩,rfl⟩
   have qM:(dm nm)[i]?=some (dm nm)[i]:=adj hi
   have hx:((dm nm).map V.str)[i]?=some (.str (dm nm)[i]):=by rw[ado,qM];rfl
   refine⟨⟨_,_,aw.of (h5 _),hx⟩,?_⟩
   rintro x H' ⟨rfl,ib⟩
   have ex:=ib _ (aw.of (h5 _))
   rw[hx]at ex
   cases ex
   refine⟨_,rfl,_,rfl,t,_,rfl,.inl (hSt _),rfl,F4 told,_,rfl,?_⟩
   have Zy:∀j,((((dm nm).take j).filter λz=>!decide (z∈told)).map V.str).length<sizeLine:=λj=>by
    rw[abc]
    refine aeL (List.length_filter_le _ _) ?_
    rw[adU]
    have:(dm nm).length=105:=by
     unfold dm c7 Ki Kj c5
     simp only[adm,abc,ad2]
     decide
    exact small (by omega)
   refine iZ (λh=>?_) (λh=>?_)
   . have uR:(dm nm)[i]∉told:=by simpa[vX]using h
     refine⟨_,rfl,_,af,Zy i,cP hi af ⟨?_,⟨_,rfl⟩,by rw[gd]⟩⟩
     rw[take_succ_filter _ _ _ _ qM,adM (by simp[uR]),adp]
     rfl
   . have uR:(dm nm)[i]∈told:=by simpa[vX]using h
     refine cP hi af ⟨?_,⟨_,rfl⟩,rfl⟩
     rw[take_succ_filter _ _ _ _ qM,adw (by simp[uR]),afk]
theorem zd{f fP:Addr}{fd sP:FuncData}(F:b0 K "_law_spelt" "_law_spelt" jx f fd)(T:Own mg)(FP:b0 K "_law_pick" "_law_pick" lP fP sP)(bP:Binds K sP ["_law_left", "_law_many"] []) (mP:mg "_law_pick" = some (.ref fP)) :
 ay P w K mg base aC 2 f fd ["_law_left", "_law_told"] (rT K):=by
 have GP:ay P w K mg base aC 1 fP sP ["_law_left", "_law_many"] qJ:=vW FP T
 refine F.ok jc (λvs H Q E h=>?_) (λcdv A outer s H vs Q E hr h=>?_)
 . obtain⟨l,t,xs,told,rfl,_⟩:=h
   rfl
 . obtain⟨l,t,xs,told,rfl,hl,hp,hne,hS,eN,kk⟩:=h
   obtain⟨tR,hR,rR⟩:=DQ (P:=P) (w:=w) (mg:=mg) (base:=base) (f:=f) (cdv:=cdv) (A:=A) (outer:=outer) (s:=s) (E:=E) hS hne eN ⟨xs,hl⟩ kk
   refine⟨_,ai (aD (i:=2) jc.nd rfl (Or.inr rfl) bp)
    (ai (aD (i:=3) jc.nd rfl (Or.inl rfl) (eV afg ag1 PySem.F.type_str_split ID bp (aa bp ag)))
    (ai (aD (i:=4) jc.nd rfl (Or.inl rfl) (aT fh ao (aE GP hr rfl mP FP.kp bP .nil aA (aa (pv 0) (aa ao ag)))))
    (ai (aD (i:=5) jc.nd rfl (Or.inr rfl) (aK a0 (pv 3) (aE GP hr rfl mP FP.kp bP .nil aA (aa (pv 0) (aa ao ag))) (λ_ _=>rfl)))
    (ai (cw (cF yf (pv 4) ao (cU _))
     (av (aD (i:=5) jc.nd rfl (Or.inr rfl) (eV afg PySem.F.slot_str_join PySem.F.type_str_join Mx bp (aa
      (eG (N:=["_law_k", "_law_left", "_law_letters"]) (js:=[none,some 0,some 2]) (by kernel_rfl) rfl (cW rfl T.range (aa (pv 4) ag)) (λ_ _ _ _ _ _=>aH (i:=0) SM rfl (Or.inl rfl) (.inr rfl)) (λ_ _ _ _ _ _=>bQ)
       (λ_ _ _ _ _ _=>aK uD (pv 2) (aE GP hr rfl mP FP.kp bP .nil aA (aa (pv 1) (aa ao ag))) (λ_ _=>rfl))) ag)))) bf) hR)))),?_⟩
   refine⟨rfl,_,_,rfl,rfl,(by decide+kernel),(by decide+kernel),(by decide+kernel),λw1 WX=>?_⟩
   rw[Bx]
   have nw:l≠w1:=ae hl WX
   refine⟨_,rfl,l,xs,9,rfl,(by rw[ah nw];exact hl),hp,by decide,by decide,λd ys H2 d0 d1 fu du kp2=>⟨_,_,rfl,rfl,?_⟩⟩
   have Kn:H2 w1=some (.lst (eT.map V.str)):=kp2 w1 _ af (adG nw)
   refine⟨_,rfl,_,rfl,l,ys,11,rfl,du,fu,by decide,by decide,λd2 kY H3 e0 e1 nB uS jd=>?_⟩
   have Ko:H3 w1=some (.lst (eT.map V.str)):=jd w1 _ Kn (adG nw)
   have OB:aX H H3 l:=((aX.ax WX).trans kp2).trans jd
   have hlen:eT.length=11:=by decide+kernel
   have hd2:d2.toNat<eT.length:=by rw[hlen];omega
   have ed2:((d2.toNat:Nat):Int)=d2:=by omega
   have w4:jJ (eT.map V.str) ((d2.toNat:Nat):Int)=some (.str eT[d2.toNat]):=aG (by rw[ado,adj hd2];rfl)
   rw[ed2]at w4
   have ze:bg eT[d2.toNat]:=By _ (aee hd2)
   refine⟨w1,_,_,.str eT[d2.toNat],rfl,rfl,aw.of Ko,w4,?_⟩
   refine⟨_,rfl,_,_,rfl,rfl,_,rfl,?_⟩
   refine iZ (λhc=>?_) (λ_=>?_)
   . have iD:(1:Int)+d<9:=aef hc
     refine⟨rfl,_,rfl,_,rfl,by omega,by omega,λD hD=>?_⟩
     have nD:l≠D:=ae uS hD
     refine fQ (1+d).toNat (λi acc σ H'=>∃(zs:List Str) (v:Option V) (zf:List V),acc=zs.map V.str/\zs.length=i/\(∀y∈zs,∃c∈aF,y=⟨#[c]⟩)/\σ=[v,some (.ref l),some (.str w6)]/\eB zf/\H' l=some (.lst zf)/\aX H3 H' l)
      ⟨[],none,kY,rfl,rfl,λy hy=>(by cases hy),rfl,nB,(by rw[ah nD];exact uS),aX.ax hD⟩ af ?_ ?_
     . rintro acc σ H4 cQ ⟨zs,v,zf,rfl,Kq,hz,rfl,jL,y9,jK⟩
       refine⟨adn _,?_⟩
       refine⟨"",D,zs,rfl,rfl,aw.of cQ,?_,?_⟩
       . rw[y8 zs hz]
         have e0:("" : Str).length=0:=by decide+kernel
         rw[e0]
         omega
       . exact rR _ zf H4 w1 _ (Bz (by omega) (by omega) hz) jL y9 (OB.trans jK)
     . rintro i acc σ H4 hi cQ ⟨zs,v,zf,rfl,Kq,hz,rfl,jL,y9,jK⟩
       refine⟨hi,?_⟩
       rintro x H' ⟨rfl,rfl⟩
       refine dv ?_
       refine⟨_,rfl,_,rfl,l,zf,26,rfl,y9,jL,by decide,by decide,λd' qN H5 c0 c1 lG uT fk=>?_⟩
       have F8:aF.length=26:=by decide
       have hd':d'.toNat<aF.length:=by omega
       have ed':((d'.toNat:Nat):Int)=d':=by omega
       have OC:jJ w6.cps.toList ((d'.toNat:Nat):Int)=some aF[d'.toNat]:=aG (by rw[B0];exact adj hd')
       rw[ed']at OC
       have OD:H5 D=some (.lst (zs.map V.str)):=fk D _ cQ (adG nD)
       refine⟨w6,d',aF[d'.toNat],rfl,rfl,(by decide+kernel),OC,_,OD,?_,cP hi af ⟨zs++[⟨#[aF[d'.toNat]]⟩],_,qN,?_,?_,λy hy=>?_,rfl,lG,?_,?_⟩⟩
       . rw[abc]
         exact small (by omega)
       . rw[adp]
         rfl
       . rw[adm,ad2,Kq]
       . rcases adu.mp hy with hy|hy
         . exact hz y hy
         . have:y=⟨#[aF[d'.toNat]]⟩:=by simpa using hy
           exact⟨_,aee hd',this⟩
       . rw[ah nD]
         exact uT
       . intro b o hb sQ
         have nb:b≠D:=λz=>by rw[z,hD]at hb;cases hb
         rw[ah nb]
         exact fk b o (jK b o hb sQ) sQ
   . exact rR _ kY H3 w1 _ ze nB uS OB
end
def Lit(names:List Str)(z:Str):Prop:=z = "0" \/ z = "1" \/ ∃x∈names,z=x\/z = "~" ++ x
inductive uU(K:W.Frag) (vs:List V) (H:Hp) (Q:VK):Prop
 | mk (l n:Addr) (xs:List V) (names:List Str) (h1:vs=[.ref l,.ref n]) (h2:H l=some (.lst xs)) (h3:eB xs) (h4:n≠l) (h5:aw K H n (names.map V.str)) (h6:names.length<=200) (h7:(∀z∈names,bg z)) (h8:∀(z:Str) (ys:List V) (H':Hp),Lit names z->eB ys->H' l=some (.lst ys)->aX H H' l->Q (.str z) H'):uU K vs H Q
def nE(K:W.Frag):Sp:=λvs H Q _=>uU K vs H Q
theorem IH{names:List Str}{i:Int}(h0:0<=i)(h1:i.toNat<names.length):jJ (names.map V.str) i=some (.str names[i.toNat]):=by
 have e:((i.toNat:Nat):Int)=i:=by omega
 have:=aG (xs:=names.map V.str) (j:=i.toNat) (v:=.str names[i.toNat]) (by rw[ado,adj h1];rfl)
 rw[e]at this
 exact this
section
variable {P:Program}{w:World}{K:W.Frag}{mg:Str->Option Value}{base:Heap}
theorem xf:aQ ["_law_left", "_law_names", "_law_spot"] ["_law_left", "_law_names"] (ar i0):=⟨rfl,rfl,rfl,by decide+kernel,rfl,by decide+kernel,by decide+kernel⟩
theorem uV{f fP:Addr}{fd sP:FuncData}(F:b0 K "_law_literal" "_law_literal" i0 f fd)(T:Own mg)(FP:b0 K "_law_pick" "_law_pick" lP fP sP)(bP:Binds K sP ["_law_left", "_law_many"] []) (mP:mg "_law_pick" = some (.ref fP)) :
 ay P w K mg base aC 2 f fd ["_law_left", "_law_names"] (nE K):=by
 have GP:ay P w K mg base aC 1 fP sP ["_law_left", "_law_many"] qJ:=vW FP T
 refine F.ok xf (λvs H Q E h=>?_) (λcdv A outer s H vs Q E hr h=>?_)
 . obtain⟨l,n,xs,names,rfl,_⟩:=h
   rfl
 . obtain⟨l,n,xs,names,rfl,hl,hp,hne,hS,eN,gU,kk⟩:=h
   refine⟨_,ai (aD (i:=2) xf.nd rfl (Or.inl rfl) (aE GP hr rfl mP FP.kp bP .nil aA (aa (pv 0) (aa (aT fh (aT jo ao (bz cc (by rfl) T.len aem (aa (pv 1) ag))) ao) ag))))
    (ai (cw (cF yg (pv 2) (aT Fg (aT jo ao (bz cc (by rfl) T.len aem (aa (pv 1) ag))) ao) (cU _))
     (av (aN (aK uD bp (aT jq (pv 2) ao) (λ_ _=>rfl)))) bf)
    (av (aN (aT fi (aK a0 (cK (aa bp (aa bp ag))) (aT jq (pv 2) ao) (λ_ _=>rfl)) (aK a0 (pv 1) (aT rL (pv 2) ao) (λ_ _=>rfl)))))),?_⟩
   have el:((names.map V.str).length:Int)=(names.length:Int):=by rw[abc]
   refine⟨_,rfl,_,rfl,n,_,rfl,.inl hS,_,_,rfl,rfl,.inl ⟨by decide,by decide⟩,_,_,rfl,rfl,l,xs,_,rfl,hl,hp,(by rw[el];omega),(by rw[el];omega),λd ys H2 d0 d1 fu du kp2=>?_⟩
   rw[el]at d1
   have xg:aw K H2 n (names.map V.str):=kp2.seq hl hS hne
   refine⟨_,rfl,_,rfl,n,_,rfl,.inl xg,_,_,rfl,rfl,.inl ⟨by decide,by decide⟩,_,_,rfl,rfl,_,_,rfl,rfl,_,rfl,?_⟩
   have m0:0<=d % 2:=afH _ (by decide)
   have m2:d % 2<2:=afj _ (by decide)
   refine iZ (λhc=>?_) (λhc=>?_)
   . have c2:("01" : Str).cps.toList=[48,49]:=by decide+kernel
     refine⟨_,rfl,_,_,rfl,rfl,(by show (0:Int)<2;decide), "01",_,if d % 2=0 then 48 else 49,rfl,rfl,(by decide+kernel),?_,kk _ ys H2 ?_ fu du kp2⟩
     . rw[c2]
       rcases (show d % 2=0\/d % 2=1 by omega) with e|e
       . rw[e];rfl
       . rw[e];rfl
     . rcases (show d % 2=0\/d % 2=1 by omega) with e|e
       . rw[e];exact .inl (by decide+kernel)
       . rw[e];exact .inr (.inl (by decide+kernel))
   . have iD:¬ (2*((names.map V.str).length:Int)-1<d):=λh=>hc (ad3 h)
     rw[el]at iD
     refine⟨(by show 2<=sizeLine;decide),λp fz=>?_⟩
     have hd2:(d / 2).toNat<names.length:=by omega
     have hS3:aw K (upd H2 p (.lst [.str "",.str "~"])) n (names.map V.str):=ak.seq (ak.ax fz) xg
     have nl:l≠p:=ae du fz
     refine⟨_,rfl,_,_,rfl,rfl,(by show (0:Int)<2;decide),p,_,_,.str (if d % 2=0 then "" else "~"),rfl,rfl,aw.of af,?_,_,rfl,_,rfl,_,_,rfl,rfl,⟨by decide,by decide⟩,n,_,_,_,rfl,rfl,hS3,IH (by omega) hd2,_,_,rfl,rfl,?_,?_⟩
     . rcases (show d % 2=0\/d % 2=1 by omega) with e|e
       . rw[e];rfl
       . rw[e];rfl
     . have h8:=(gU _ (aee hd2)).len
       have h1:(if d % 2=0 then ("" : Str) else "~").length<=1:=by
        split
        . decide+kernel
        . decide+kernel
       exact iX (by omega)
     . refine kk _ ys _ ?_ fu (by rw[ah nl];exact du) (kp2.trans (aX.ax fz))
       refine .inr (.inr ⟨_,aee hd2,?_⟩)
       rcases (show d % 2=0\/d % 2=1 by omega) with e|e
       . left
         rw[adM e]
         exact MA (by rw[rP,wY,afo])
       . right
         rw[adw (by omega)]
end
def bu(H:Hp)(p:Addr) (rs:List (List V)):Prop:=∃ts:List Addr,H p=some (.lst (ts.map V.ref))/\Paired (λt r=>H t=some (.tup r)) ts rs
def jV(r:Str×Str):List V:=[.str r.1,.str r.2]
structure iq(names told:List Str) (rows:List (Str×Str)):Prop where
 nm:∀r∈rows,bg r.1
 lit:∀r∈rows,Lit names r.2
 ut:∀r∈rows,r.1∉told
 nd:(rows.map (·.1)).Nodup
theorem bu.keep{H H':Hp}{p l:Addr}{rs:List (List V)}{xs:List V}(h:bu H p rs) (k:aX H H' l) (hl:H l=some (.lst xs)) (hp:p≠l):bu H' p rs:=by
 obtain⟨ts,h1,h2⟩:=h
 exact⟨ts,k p _ h1 hp,Paired.cM h2 λt r e=>k t _ e (aL e hl (by intro z;cases z))⟩
theorem bu.same{H H':Hp}{p:Addr}{rs:List (List V)}(h:bu H p rs) (k:ak H H'):bu H' p rs:=by
 obtain⟨ts,h1,h2⟩:=h
 exact⟨ts,k p _ h1,Paired.cM h2 λt r e=>k t _ e⟩
theorem cH{α β:Type}{F:α->β->Prop} : ∀{l₁:List α}{l₂:List β}{i:Nat}{b:β},Paired F l₁ l₂->l₂[i]?=some b->∃a,l₁[i]?=some a/\F a b
 | _,_,i,b,.nil,h=>by simp at h
 | _,_,0,b,.cons h t,e=>⟨_,rfl,by simpa using (show _=_ from adN e) ▸ h⟩
 | _,_,i+1,b,.cons h t,e=>let ⟨a,h1,h2⟩:=cH t (i:=i) (b:=b) (by simpa using e); ⟨a,by simpa using h1,h2⟩
theorem bu.snoc{H:Hp}{p t:Addr}{rs:List (List V)}{r:List V}{ts:List Addr}(h2:Paired (λt r=>H t=some (.tup r)) ts rs) (ht:H t=some (.tup r)) (hp:∀a xs,H a=some (.tup xs)->a≠p) :
 bu (upd H p (.lst (ts.map V.ref++[V.ref t]))) p (rs++[r]):=by
 refine⟨ts++[t],?_,agJ (Paired.cM h2 λa b e=>?_) ?_⟩
 . rw[af,adp]
   rfl
 . rw[ah (hp a b e)]
   exact e
 . rw[ah (hp t r ht)]
   exact ht
inductive xh(K:W.Frag) (vs:List V) (H:Hp) (Q:VK):Prop
 | mk (l n t:Addr) (xs:List V) (names told:List Str) (m:Int) (h1:vs=[.ref l,.ref n,.ref t,.int m]) (h2:H l=some (.lst xs)) (h3:eB xs) (h4:n≠l) (h5:t≠l) (h6:aw K H n (names.map V.str)) (h7:names.length<=200) (h8:(∀z∈names,bg z)) (h9:H t=some (.lst (told.map V.str))) (OE:told.length<=20) (WY:0<=m) (WZ:m<=20) (Kr:∀(p:Addr) (rows:List (Str×Str)) (ys:List V) (H':Hp),H p=none->iq names told rows->rows.length=m.toNat->bu H' p (rows.map jV)->eB ys->H' l=some (.lst ys)->aX H H' l->Q (.ref p) H'):xh K vs H Q
def tS(K:W.Frag):Sp:=λvs H Q _=>xh K vs H Q
section
variable {P:Program}{w:World}{K:W.Frag}{mg:Str->Option Value}{base:Heap}
abbrev MH:List Str:=["_law_left", "_law_names", "_law_told", "_law_many", "_law_found", "_law_k", "_law_wish"]
abbrev lX:List Str:=["_law_left", "_law_names", "_law_told", "_law_many"]
theorem pq:aQ MH lX (ar lW):=⟨rfl,rfl,rfl,by decide+kernel,rfl,by decide+kernel,by decide+kernel⟩
theorem Ks:(["_law_one"]:List Str).Nodup:=by decide+kernel
theorem xi{D p:Addr}{Q:Hp->Prop}{H1:Hp}{rows:List (Str×Str)}{ts:List Addr}(hD:H1 D=none) (hp:H1 p=some (.lst (ts.map V.ref))) (h2:Paired (λt r=>H1 t=some (.tup r)) ts (rows.map jV)) (hlen:rows.length<=100)
 (fin:Q (upd H1 D (.lst ((rows.map (·.1)).map V.str)))) :
 ∃W:Nat->Nat->St->Hp->Prop,(∃m,W 0 m [none] (upd H1 D (.lst [])))/\wX D (fg 0) nY (wJ (cN K) (iL 0) (tC (.int 0))) (uv K p) W Q:=by
 have np:p≠D:=ae hp hD
 have FK:∀o,(upd H1 D o) p=some (.lst (ts.map V.ref)):=λo=>by rw[ah np];exact hp
 have du:=h2.length
 rw[abc]at du
 refine fQ rows.length (λi acc σ H=>acc=((rows.take i).map (·.1)).map V.str/\(∃v,σ=[v])/\H=upd H1 D (.lst acc)) ⟨rfl,⟨none,rfl⟩,rfl⟩ af ?_ ?_
 . rintro acc σ H _ ⟨rfl,_,rfl⟩
   refine⟨⟨_,aw.of (FK _),by rw[abc,du];exact adn _⟩,?_⟩
   rw[ad5]
   exact fin
 . rintro i acc σ H hi cQ ⟨rfl,⟨v,rfl⟩,rfl⟩
   have xj:rows[i]?=some rows[i]:=adj hi
   obtain⟨t,ht,hT⟩:=cH h2 (i:=i) (b:=jV rows[i]) (by rw[ado,xj];rfl)
   have hx:(ts.map V.ref)[i]?=some (.ref t):=by rw[ado,ht];rfl
   refine⟨⟨_,_,aw.of (FK _),hx⟩,?_⟩
   rintro x H' ⟨rfl,ib⟩
   have ex:=ib _ (aw.of (FK _))
   rw[hx]at ex
   cases ex
   refine dv ?_
   have nt:t≠D:=ae hT hD
   refine⟨_,rfl,t,_,_,.str rows[i].1,rfl,rfl,aS.of (by rw[ah nt];exact hT),rfl,_,af,?_,cP hi af ⟨?_,⟨_,rfl⟩,by rw[gd]⟩⟩
   . rw[abc,abc,adU]
     exact small (by omega)
   . rw[qK (·.1) xj,adp]
     rfl
theorem Ga{f fS fL fP:Addr}{fd OF OG sP:FuncData}(F:b0 K "_law_wishes" "_law_wishes" lW f fd)(T:Own mg)(FP:b0 K "_law_pick" "_law_pick" lP fP sP)(bP:Binds K sP ["_law_left", "_law_many"] []) (mP:mg "_law_pick" = some (.ref fP))
 (FS:b0 K "_law_spelt" "_law_spelt" jx fS OF) (bS:Binds K OF ["_law_left", "_law_told"] []) (mS:mg "_law_spelt" = some (.ref fS)) (FL:b0 K "_law_literal" "_law_literal" i0 fL OG) (bL:Binds K OG ["_law_left", "_law_names"] []) (mL:mg "_law_literal" = some (.ref fL)) :
 ay P w K mg base aC 3 f fd lX (tS K):=by
 have GS:ay P w K mg base aC 2 fS OF ["_law_left", "_law_told"] (rT K):=zd FS T FP bP mP
 have GL:ay P w K mg base aC 2 fL OG ["_law_left", "_law_names"] (nE K):=uV FL T FP bP mP
 refine F.ok pq (λvs H Q E h=>?_) (λcdv A outer s H vs Q E hr h=>?_)
 . obtain⟨l,n,t,xs,names,told,m,rfl,_⟩:=h
   rfl
 . obtain⟨l,n,t,xs,names,told,m,rfl,hl,hp,pZ,qe,hS,hnn,gU,hT,htn,m0,m1,kk⟩:=h
   refine⟨_,ai (aD (i:=4) pq.nd rfl (Or.inl rfl) (cK ag))
    (ai (dJ ad6 rfl (cW rfl T.range (aa (pv 3) ag)) (aH (i:=5) pq.nd rfl (Or.inl rfl))
     (ai (aD (i:=6) pq.nd rfl (Or.inl rfl) (aE GS hr rfl mS FS.kp bS .nil aA (aa (pv 0) (aa (aT kX (pv 2)
      (eG (N:=["_law_one"]) (js:=[none]) (by kernel_rfl) rfl (c8 (pv 4)) (λ_ _ _ _ _ _=>aH (i:=0) Ks rfl (Or.inl rfl) (.inr rfl)) (λ_ _ _ _ _ _=>bQ)
       (λ_ _ _ _ _ _=>aK (r:=cN K) bx (pv 0) ao (λ_ _=>rfl)))) ag))))
     (av (eu (eV adZ ad7 ad8 d7 (pv 4) (aa (eE (aa (pv 6) (aa (aE GL hr rfl mL FL.kp bL .nil aA (aa (pv 0) (aa (pv 1) ag))) ag))) ag))))))
    (av (aN (pv 4)))),?_⟩
   refine⟨(by show 0<=sizeLine;decide),λp fz=>?_⟩
   have Kt:l≠p:=ae hl fz
   refine⟨_,rfl,_,rfl,by omega,by omega,gj (n:=m.toNat) (λi σ H2=>∃(rows:List (Str×Str)) (v5 v6:Option V) (ys:List V),σ=[some (.ref l),some (.ref n),some (.ref t),some (.int m),some (.ref p),v5,v6]/\rows.length=i/\iq names told rows/\
    bu H2 p (rows.map jV)/\eB ys/\H2 l=some (.lst ys)/\aX H H2 l) ?_ ?_ ?_⟩
   . exact⟨[],none,none,xs,rfl,rfl,⟨(λ_ h=>nomatch h),(λ_ h=>nomatch h),(λ_ h=>nomatch h),aex⟩,⟨[],af,.nil⟩,hp,(by rw[ah Kt];exact hl),aX.ax fz⟩
   . rintro i σ H2 hi ⟨rows,v5,v6,ys,rfl,Gb,hw,⟨ts,fu,je⟩,eW,du,kp2⟩
     have BY:H2 t=some (.lst (told.map V.str)):=kp2 t _ hT qe
     have xg:aw K H2 n (names.map V.str):=kp2.seq hl hS pZ
     have Zz:=je.length
     rw[abc]at Zz
     refine⟨_,rfl,_,rfl,_,rfl,p,rfl,⟨_,aw.of fu⟩,λD hD=>xi hD fu je (by omega) ?_⟩
     have nTD:t≠D:=ae BY hD
     have uW:l≠D:=ae du hD
     refine⟨t,D,_,_,rfl,rfl,(by rw[ah nTD];exact BY),af,?_,λq hq=>?_⟩
     . rw[abc,abc,abc]
       exact mG (by omega)
     have nLq:l≠q:=ae (by rw[ah uW];exact du) hq
     have sm3:∀o3 o4,(upd H2 D o3) q=none->ak H2 (upd (upd H2 D o3) q o4):=λo3 o4 hz=>(ak.ax hD).trans (ak.ax hz)
     have Cb:=sm3 _ (.lst (told.map V.str++(rows.map (·.1)).map V.str)) hq
     generalize hG:upd _ q (HO.lst (told.map V.str++(rows.map (·.1)).map V.str))=H3 at *
     have hq3:H3 q=some (.lst ((told++rows.map (·.1)).map V.str)):=by rw[← hG,af,adp]
     have uS:H3 l=some (.lst ys):=Cb l _ du
     refine⟨l,q,ys,told++rows.map (·.1),rfl,uS,eW,adG nLq,aw.of hq3,(by rw[adm,abc];omega),λz kY H4 hz Km jL y9 jK=>?_⟩
     have II:aX H2 H4 l:=(ak.keep Cb l).trans jK
     have ZA:H4 p=some (.lst (ts.map V.ref)):=II p _ fu (adG Kt)
     have hS4:aw K H4 n (names.map V.str):=II.seq du xg pZ
     refine⟨_,rfl,.inl ⟨rfl,_,aw.of ZA⟩,_,rfl,_,rfl,_,rfl,l,n,kY,names,rfl,y9,jL,pZ,hS4,hnn,gU,λz2 qN H5 IJ lG uT fk=>?_⟩
     refine⟨(by show 2<=sizeLine;decide),λTp iO=>?_⟩
     have IK:aX H2 H5 l:=II.trans fk
     have i5:H5 p=some (.lst (ts.map V.ref)):=IK p _ fu (adG Kt)
     have qf:p≠Tp:=ae i5 iO
     have nlT:l≠Tp:=ae uT iO
     refine⟨p,_,_,rfl,rfl,(by rw[ah qf];exact i5),(by rw[abc];exact small (by omega)),?_⟩
     have hw':iq names told (rows++[(z,z2)]):=by
      have OH:z∉told/\z∉rows.map (·.1):=by
       constructor
       . exact λh=>Km (adT _ h)
       . exact λh=>Km (adF _ h)
      refine⟨λr hr=>?_,λr hr=>?_,λr hr=>?_,?_⟩
      . rcases adu.mp hr with hr|hr
        . exact hw.nm r hr
        . rw[adJ.mp hr];exact hz
      . rcases adu.mp hr with hr|hr
        . exact hw.lit r hr
        . rw[adJ.mp hr];exact IJ
      . rcases adu.mp hr with hr|hr
        . exact hw.ut r hr
        . rw[adJ.mp hr];exact OH.1
      . rw[adp,adK]
        refine⟨hw.nd,by simp,λa ha b hb e=>?_⟩
        have:b=z:=by simpa using hb
        rw[this]at e
        exact OH.2 (e ▸ ha)
     refine⟨rows++[(z,z2)],_,_,qN,rfl,(by rw[adm,ad2,Gb]),hw',?_,lG,(by rw[ah Kt,ah nlT];exact uT),λb o hb sQ=>?_⟩
     . rw[adp]
       refine bu.snoc (Paired.cM je λa r e=>?_) af λa uX e z'=>?_
       . have ea:=IK a _ e (aL e du (by intro z;cases z))
         rw[ah (ae ea iO)]
         exact ea
       . rw[z',ah qf,i5]at e
         cases e
     . have e5:=IK b o (kp2 b o hb sQ) sQ
       rw[ah (ae hb fz),ah (ae e5 iO)]
       exact e5
   . rintro σ H2 ⟨rows,v5,v6,ys,rfl,Gb,hw,zg,eW,du,kp2⟩
     exact⟨_,rfl,kk p rows ys H2 fz hw Gb zg eW du kp2⟩
end
structure aR where
 switches:List Str
 keepers:List (Str×V)
 gates:List (Str×Str×Str)
 nexts:List (Str×Str)
 nevers:List (Str×Str)
 somes:List (Str×Str)
def lz(r:Str×V):List V:=[.str r.1,r.2]
def mQ(r:Str×Str×Str):List V:=[.str r.1,.str r.2.1,.str r.2.2]
def vY(a1 a2 a3 a4 a5 a6:Addr):List (Key×V):=
 [(.inr "switches",.ref a1),(.inr "keepers",.ref a2),(.inr "gates",.ref a3),(.inr "nexts",.ref a4),(.inr "nevers",.ref a5),(.inr "somes",.ref a6)]
structure ir(H:Hp) (m:Addr) (M:aR) (a1 a2 a3 a4 a5 a6:Addr):Prop where
 top:H m=some (.dK (vY a1 a2 a3 a4 a5 a6))
 sw:H a1=some (.lst (M.switches.map V.str))
 kp:bu H a2 (M.keepers.map lz)
 gt:bu H a3 (M.gates.map mQ)
 nx:bu H a4 (M.nexts.map jV)
 nv:bu H a5 (M.nevers.map jV)
 sm:bu H a6 (M.somes.map jV)
structure dj(M:aR) (names:List Str):Prop where
 all:names=M.switches++M.keepers.map (·.1)++M.gates.map (·.1)
 nm:∀z∈names,bg z
 nd:names.Nodup
 first:∀r∈M.keepers,r.2=.int 0\/r.2=.int 1\/r.2=.aY
 nxk:∀r∈M.nexts,r.1∈M.keepers.map (·.1)
 nxl:∀r∈M.nexts,Lit names r.2
 nxd:(M.nexts.map (·.1)).Nodup
 nvw:iq names [] M.nevers
 smw:iq names (M.nevers.map (·.1)) M.somes
 gl:∀(i:Nat) (r:Str×Str×Str),M.gates[i]?=some r->Lit (M.switches++M.keepers.map (·.1)++(M.gates.take i).map (·.1)) r.2.1/\Lit (M.switches++M.keepers.map (·.1)++(M.gates.take i).map (·.1)) r.2.2
def gG(K:W.Frag)(H:Hp)(z:Addr)(s0 s1 s2 s3:Int):Prop:=(aw K H z [.int s0,.int s1,.int s2,.int s3]\/aS K H z [.int s0,.int s1,.int s2,.int s3])/\(0<=s0/\s0<=12)/\(0<=s1/\s1<=16)/\(0<=s2/\s2<=60)/\1<=s3/\s3<=8
theorem ak.jW{K:W.Frag}{H H':Hp}{a:Addr}{xs:List V}(e:ak H H')(h:aS K H a xs):aS K H' a xs:=by
 rcases h with (h|⟨o,h⟩)|h
 . exact .inl (.inl (e a _ h))
 . exact .inl (.inr ⟨o,e a _ h⟩)
 . exact .inr h
theorem gG.same{K:W.Frag}{H H':Hp}{z:Addr}{s0 s1 s2 s3:Int}(h:gG K H z s0 s1 s2 s3)(k:ak H H'):gG K H' z s0 s1 s2 s3:=⟨h.1.imp (ak.seq k) (ak.jW k),h.2⟩
theorem gG.ix{K:W.Frag}{H:Hp}{z:Addr}{s0 s1 s2 s3:Int}(h:gG K H z s0 s1 s2 s3){i:Int}{v:V}{Q:VK}(hi:jJ [V.int s0,.int s1,.int s2,.int s3] i=some v)(q:Q v H):WD K (.ref z) (.int i) H Q:=by
 rcases h.1 with h|h
 . exact .inl ⟨z,_,i,v,rfl,rfl,h,hi,q⟩
 . exact .inr (.inl ⟨z,_,i,v,rfl,rfl,h,hi,q⟩)
abbrev OI:List Str:=["_law_cells", "_law_sizes", "_law_k", "_law_a", "_law_b", "_law_c", "_law_names", "_law_switches", "_law_keepers", "_law_gates", "_law_name", "_law_nexts", "_law_keeper", "_law_first", "_law_nevers", "_law_somes", "_law_made_here"]
abbrev qO:List Str:=["_law_cells", "_law_sizes"]
theorem fU:aQ OI qO (ar dY):=⟨rfl,rfl,rfl,by decide+kernel,rfl,by decide+kernel,by decide+kernel⟩
abbrev yh(P:Program)(w:World)(K:W.Frag)(mg:Str->Option Value)(base:Heap)(f:Addr)(cdv:Value)(A:Around)(outer:List Env)(s:Shared)(H:Hp)(E:XK):Cx:=
 (o9 aC P w K mg base OI "_law_machine_digits" (ar dY) f cdv A outer s H E).yD
section
variable {P:Program}{w:World}{K:W.Frag}{mg:Str->Option Value}{base:Heap}
structure Defs(P:Program) (w:World) (K:W.Frag) (mg:Str->Option Value) (base:Heap) (fP fS fL fW fR:Addr) (dP dS dL dW dR:FuncData):Prop where
 T:Own mg
 gP:ay P w K mg base aC 1 fP dP ["_law_left", "_law_many"] qJ
 mP:mg "_law_pick" = some (.ref fP)
 kP:W.keepIn K (.ref fP)=true
 bP:Binds K dP ["_law_left", "_law_many"] []
 gS:ay P w K mg base aC 2 fS dS ["_law_left", "_law_told"] (rT K)
 mS:mg "_law_spelt" = some (.ref fS)
 kS:W.keepIn K (.ref fS)=true
 bS:Binds K dS ["_law_left", "_law_told"] []
 gL:ay P w K mg base aC 2 fL dL ["_law_left", "_law_names"] (nE K)
 mL:mg "_law_literal" = some (.ref fL)
 kL:W.keepIn K (.ref fL)=true
 bL:Binds K dL ["_law_left", "_law_names"] []
 gW:ay P w K mg base aC 3 fW dW lX (tS K)
 mW:mg "_law_wishes" = some (.ref fW)
 kW:W.keepIn K (.ref fW)=true
 bW:Binds K dW lX []
 gR:ay P w K mg base aC 2 fR dR ["_law_cell", "_law_k"] qI
 mR:mg "_law_rich" = some (.ref fR)
 kR:W.keepIn K (.ref fR)=true
 bR:Binds K dR ["_law_cell", "_law_k"] []
variable {fP fS fL fW fR:Addr}{dP dS dL dW dR:FuncData}
structure zh(K:W.Frag) (H:Hp) (z c n a1 a2 a3 a4:Addr) (s0 s1 s2 s3:Int) (names sw:List Str) (kp:List (Str×V)) (gt:List (Str×Str×Str)) (nx:List (Str×Str)):Prop where
 pc:∃xs,H c=some (.lst xs)/\eB xs
 hz:gG K H z s0 s1 s2 s3
 zc:z≠c
 hn:H n=some (.lst (names.map V.str))
 nc:n≠c
 nl:names.length<=100
 nm:∀x∈names,bg x
 h1:H a1=some (.lst (sw.map V.str))
 c1:a1≠c
 h2:bu H a2 (kp.map lz)
 c2:a2≠c
 h3:bu H a3 (gt.map mQ)
 c3:a3≠c
 h4:bu H a4 (nx.map jV)
 c4:a4≠c
theorem aX.jW{H H':Hp}{a l:Addr}{xs n:List V}(e:aX H H' l) (hl:H l=some (.lst n)) (h:aS K H a xs) (hne:a≠l):aS K H' a xs:=by
 rcases h with (h|⟨o,h⟩)|h
 . exact .inl (.inl (e a _ h hne))
 . exact .inl (.inr ⟨o,e a _ h hne⟩)
 . exact .inr h
theorem zh.keep{H H':Hp}{z c n a1 a2 a3 a4:Addr}{s0 s1 s2 s3:Int}{names sw:List Str}{kp:List (Str×V)}{gt:List (Str×Str×Str)}{nx:List (Str×Str)}{ys:List V}(h:zh K H z c n a1 a2 a3 a4 s0 s1 s2 s3 names sw kp gt nx) (k:aX H H' c) (hy:H' c=some (.lst ys)) (hp:eB ys) :
 zh K H' z c n a1 a2 a3 a4 s0 s1 s2 s3 names sw kp gt nx:=by
 obtain⟨xs,hc,_⟩:=h.pc
 exact⟨⟨ys,hy,hp⟩,⟨h.hz.1.imp (λq=>k.seq hc q h.zc) (λq=>aX.jW k hc q h.zc),h.hz.2⟩,h.zc,k n _ h.hn h.nc,h.nc,h.nl,h.nm,k a1 _ h.h1 h.c1,h.c1,h.h2.keep k hc h.c2,h.c2,h.h3.keep k hc h.c3,h.c3,h.h4.keep k hc h.c4,h.c4⟩
theorem zh.same{H H':Hp}{z c n a1 a2 a3 a4:Addr}{s0 s1 s2 s3:Int}{names sw:List Str}{kp:List (Str×V)}{gt:List (Str×Str×Str)}{nx:List (Str×Str)}(h:zh K H z c n a1 a2 a3 a4 s0 s1 s2 s3 names sw kp gt nx) (k:ak H H') :
 zh K H' z c n a1 a2 a3 a4 s0 s1 s2 s3 names sw kp gt nx:=by
 obtain⟨xs,hc,hp⟩:=h.pc
 exact⟨⟨xs,k c _ hc,hp⟩,h.hz.same k,h.zc,k n _ h.hn,h.nc,h.nl,h.nm,k a1 _ h.h1,h.c1,h.h2.same k,h.c2,h.h3.same k,h.c3,h.h4.same k,h.c4⟩
theorem SN(G:Defs P w K mg base fP fS fL fW fR dP dS dL dW dR){f:Addr}{cdv:Value}{A:Around}{outer:List Env}{s:Shared}{H:Hp}{E:XK}{Q:VK}(hr:aZ 3 (A.deeper (PyProof.Rows.envOfC "_law_machine_digits" (ar dY) s.heap.objs.size f cdv))) :
 ∃tR:TS,ja (yh P w K mg base f cdv A outer s H E) (List.drop 10 (aJ dY)) tR/\∀(σ:St) (H1:Hp) (v0 v2 v3 v4 v10 xk xl:Option V) (z c n a1 a2 a3 a4:Addr) (s0 s1 s2 s3:Int) (names sw:List Str) (kp:List (Str×V)) (gt:List (Str×Str×Str)) (nx:List (Str×Str)),
  σ=[v0,some (.ref z),v2,v3,v4,some (.ref c),some (.ref n),some (.ref a1),some (.ref a2),some (.ref a3),v10,some (.ref a4),xk,xl,none,none,none]->
  zh K H1 z c n a1 a2 a3 a4 s0 s1 s2 s3 names sw kp gt nx->
  (∀(m:Addr) (nv sm:List (Str×Str)) (a5 a6:Addr) (H':Hp),iq names [] nv->iq names (nv.map (·.1)) sm->1<=nv.length->(nv.length:Int)<=s3->(sm.length:Int)<=s3->ir H' m ⟨sw,kp,gt,nx,nv,sm⟩ a1 a2 a3 a4 a5 a6->aX H1 H' c->Q (.ref m) H')->
  tR {nx:=λ_ H'=>Q .aY H',rt:=Q} σ H1:=by
 have cC:aZ 1 _:=hr.mono (by decide)
 have hu:=d6 hr
 refine⟨_,ai (aD (i:=14) fU.nd rfl (Or.inl rfl) (aE G.gW hr rfl G.mW G.kW G.bW .nil aA (aa (pv 5) (aa (pv 6) (aa (cK ag) (aa (aT fh ao (aE G.gP cC rfl G.mP G.kP G.bP .nil aA (aa (pv 5) (aa (aK qE (pv 1) ao (λ_ _=>rfl)) ag)))) ag))))))
  (ai (aD (i:=15) fU.nd rfl (Or.inl rfl) (aE G.gW hr rfl G.mW G.kW G.bW .nil aA (aa (pv 5) (aa (pv 6) (aa
   (eG (N:=["_law_one"]) (js:=[none]) (by kernel_rfl) rfl (c8 (pv 14)) (λ_ _ _ _ _ _=>aH (i:=0) Ks rfl (Or.inl rfl) (.inr rfl)) (λ_ _ _ _ _ _=>bQ) (λ_ _ _ _ _ _=>aK (r:=cN K) bx (pv 0) ao (λ_ _=>rfl)))
   (aa (aE G.gP cC rfl G.mP G.kP G.bP .nil aA (aa (pv 5) (aa (aT fh (aK qE (pv 1) ao (λ_ _=>rfl)) ao) ag))) ag))))))
  (ai (aD (i:=16) fU.nd rfl (Or.inl rfl) (ox (eQ bp (pv 7) (eQ bp (pv 8) (eQ bp (pv 9) (eQ bp (pv 11) ow)))) rfl rfl (by simp) (by decide)))
  (ai (dQ hu (pv 16) bp (pv 14) rfl)
  (ai (dQ hu (pv 16) bp (pv 15) rfl)
  (av (aN (pv 16))))))),?_⟩
 rintro σ H1 v0 v2 v3 v4 v10 xk xl z c n a1 a2 a3 a4 s0 s1 s2 s3 names sw kp gt nx rfl hA kk
 obtain⟨xs,hc,hp⟩:=hA.pc
 obtain⟨_,_,_,_,z1,z2⟩:=hA.hz
 have pZ:=hA.nl
 refine⟨_,rfl,_,rfl,(by show 0<=sizeLine;decide),λt0 Cc=>?_⟩
 have A1:=hA.same (ak.ax (o:=.lst []) Cc)
 have OJ:c≠t0:=ae hc Cc
 have OK:(upd H1 t0 (.lst [])) c=some (.lst xs):=by rw[ah OJ];exact hc
 refine⟨_,rfl,_,rfl,A1.hz.ix (i:=3) (v:=.int s3) rfl ?_⟩
 refine⟨c,xs,s3,rfl,OK,hp,by omega,by omega,λd ys H2 d0 d1 fu du kp2=>⟨_,_,rfl,rfl,?_⟩⟩
 have A2:=A1.keep kp2 du fu
 have ZC:H2 t0=some (.lst (([]:List Str).map V.str)):=kp2 t0 _ af (adG OJ)
 refine⟨c,n,t0,ys,names,[],1+d,rfl,du,fu,A2.nc,adG OJ,aw.of A2.hn,by omega,A2.nm,ZC,by decide,by omega,by omega,λa5 nv kY H3 xm hw5 ah1 W0 nB uS jd=>?_⟩
 have A3:=A2.keep jd uS nB
 have W2:a5≠c:=adG (ae du xm)
 obtain⟨ts,h5,je⟩:=id W0
 refine⟨_,rfl,_,rfl,_,rfl,a5,rfl,⟨_,aw.of h5⟩,λD hD=>xi hD h5 je (by omega) ?_⟩
 have OL:ak H3 (upd H3 D (.lst ((nv.map (·.1)).map V.str))):=ak.ax hD
 have A4:=A3.same OL
 have OM:c≠D:=ae uS hD
 have Gd:(upd H3 D (.lst ((nv.map (·.1)).map V.str))) c=some (.lst kY):=by rw[ah OM];exact uS
 refine⟨_,rfl,_,rfl,A4.hz.ix (i:=3) (v:=.int s3) rfl ⟨_,_,rfl,rfl,c,kY,_,rfl,Gd,nB,by omega,by omega,λd' qN H5 e0 e1 lG uT fk=>?_⟩⟩
 have A5:=A4.keep fk uT lG
 have OD:H5 D=some (.lst ((nv.map (·.1)).map V.str)):=fk D _ af (adG OM)
 refine⟨c,n,D,qN,names,nv.map (·.1),d',rfl,uT,lG,A5.nc,adG OM,aw.of A5.hn,by omega,A5.nm,OD,(by rw[abc];omega),by omega,by omega,λa6 sm Ku H6 Ge hw6 ah2 ht6 uY hl6 Cd=>?_⟩
 have A6:=A5.keep Cd hl6 uY
 have T5:bu H6 a5 (nv.map jV):=((W0.same OL).keep fk Gd W2).keep Cd uT W2
 have nc6:a6≠c:=adG (ae uT Ge)
 intro m hm
 refine⟨_,rfl,_,rfl,_,rfl,_,rfl,af,[(.inr "switches",.ref a1),(.inr "keepers",.ref a2),(.inr "gates",.ref a3),(.inr "nexts",.ref a4)],rfl,(by show 4<=15;decide),?_⟩
 rw[gd]
 have em:bG [] [((.inr "switches" : Key),V.ref a1),(.inr "keepers",.ref a2),(.inr "gates",.ref a3),(.inr "nexts",.ref a4)]=[((.inr "switches" : Key),V.ref a1),(.inr "keepers",.ref a2),(.inr "gates",.ref a3),(.inr "nexts",.ref a4)]:=by rfl
 rw[em]
 refine⟨_,rfl,_,rfl,m,_,rfl,eP.k (k:=.inr "nevers") af (by show 4<sizeLine;decide),?_⟩
 rw[gd]
 have en:putK [((.inr "switches" : Key),V.ref a1),(.inr "keepers",.ref a2),(.inr "gates",.ref a3),(.inr "nexts",.ref a4)] (.inr "nevers") (.ref a5)=[((.inr "switches" : Key),V.ref a1),(.inr "keepers",.ref a2),(.inr "gates",.ref a3),(.inr "nexts",.ref a4),(.inr "nevers",.ref a5)]:=by rfl
 rw[en]
 refine⟨_,rfl,_,rfl,m,_,rfl,eP.k (k:=.inr "somes") af (by show 5<sizeLine;decide),?_⟩
 rw[gd]
 have es:putK [((.inr "switches" : Key),V.ref a1),(.inr "keepers",.ref a2),(.inr "gates",.ref a3),(.inr "nexts",.ref a4),(.inr "nevers",.ref a5)] (.inr "somes") (.ref a6)=vY a1 a2 a3 a4 a5 a6:=by rfl
 rw[es]
 have Kv:ak H6 (upd H6 m (.dK (vY a1 a2 a3 a4 a5 a6))):=ak.ax hm
 have A7:=A6.same Kv
 refine⟨_,rfl,kk m nv sm a5 a6 _ hw5 hw6 (by omega) (by omega) (by omega) ⟨af,A7.h1,A7.h2,A7.h3,A7.h4,T5.same Kv,ht6.same Kv⟩ ?_⟩
 exact(((((aX.ax Cc).trans kp2).trans jd).trans (ak.keep OL c)).trans (fk.trans Cd)).trans (ak.keep Kv c)
end
theorem sR{α β:Type}{F:α->β->Prop} : ∀{l₁:List α}{l₂:List β}(k:Nat),Paired F l₁ l₂->Paired F (l₁.take k) (l₂.take k)
 | _,_,k,.nil=>by simp only[List.take_nil];exact .nil
 | _,_,0,.cons _ _=>.nil
 | _,_,k+1,.cons h t=>.cons h (sR k t)
theorem sS{α β:Type}{F:α->β->Prop} : ∀{l₁:List α}{l₂:List β}(k:Nat),Paired F l₁ l₂->Paired F (l₁.drop k) (l₂.drop k)
 | _,_,k,.nil=>by simp only[List.drop_nil];exact .nil
 | _,_,0,.cons h t=>.cons h t
 | _,_,k+1,.cons h t=>sS k t
theorem dc{α β:Type}{F:α->β->Prop} : ∀{l₁ m₁:List α}{l₂ m₂:List β},Paired F l₁ l₂->Paired F m₁ m₂->Paired F (l₁++m₁) (l₂++m₂)
 | _,_,_,_,.nil,h=>h
 | _,_,_,_,.cons a t,h=>.cons a (dc t h)
section
variable {P:Program}{w:World}{K:W.Frag}{mg:Str->Option Value}{base:Heap}{fP fS fL fW fR:Addr}{dP dS dL dW dR:FuncData}
structure Kw(K:W.Frag) (H:Hp) (z c n a1 a2 a3:Addr) (s0 s1 s2 s3:Int) (names sw:List Str) (kp:List (Str×V)) (gt:List (Str×Str×Str)):Prop where
 pc:∃xs,H c=some (.lst xs)/\eB xs
 hz:gG K H z s0 s1 s2 s3
 zc:z≠c
 hn:H n=some (.lst (names.map V.str))
 nc:n≠c
 nl:names.length<=100
 nm:∀x∈names,bg x
 h1:H a1=some (.lst (sw.map V.str))
 c1:a1≠c
 h2:bu H a2 (kp.map lz)
 c2:a2≠c
 h3:bu H a3 (gt.map mQ)
 c3:a3≠c
 kd:(kp.map (·.1)).Nodup
 kl:kp.length<=16
theorem Kw.keep{H H':Hp}{z c n a1 a2 a3:Addr}{s0 s1 s2 s3:Int}{names sw:List Str}{kp:List (Str×V)}{gt:List (Str×Str×Str)}{ys:List V}(h:Kw K H z c n a1 a2 a3 s0 s1 s2 s3 names sw kp gt) (k:aX H H' c) (hy:H' c=some (.lst ys)) (hp:eB ys) :
 Kw K H' z c n a1 a2 a3 s0 s1 s2 s3 names sw kp gt:=by
 obtain⟨xs,hc,_⟩:=h.pc
 exact⟨⟨ys,hy,hp⟩,⟨h.hz.1.imp (λq=>k.seq hc q h.zc) (λq=>aX.jW k hc q h.zc),h.hz.2⟩,h.zc,k n _ h.hn h.nc,h.nc,h.nl,h.nm,k a1 _ h.h1 h.c1,h.c1,h.h2.keep k hc h.c2,h.c2,h.h3.keep k hc h.c3,h.c3,h.kd,h.kl⟩
def DR(names:List Str) (kp:List (Str×V)) (nx:List (Str×Str)):Prop:=(∀r∈nx,r.1∈kp.map (·.1)/\Lit names r.2)/\(nx.map (·.1)).Nodup
theorem Gf{α:Type}{l:List α}{a:α}(h:l.Nodup)(ha:a∉l)(d:Nat):(l.take d++[a]++l.drop d).Nodup:=by
 have p:(l.take d++[a]++l.drop d).Perm (a::l):=by
  rw[aeg]
  have:=List.perm_middle (a:=a) (l₁:=l.take d) (l₂:=l.drop d)
  rw[aew]at this
  exact this
 exact p.nodup_iff.mpr (ad1.mpr ⟨ha,h⟩)
theorem Ce{β:Type} : ∀{kp:List (Str×β)}{i:Nat}(hi:i<kp.length),(kp.map (·.1)).Nodup->kp[i].1∉(kp.take i).map (·.1)
 | x::r,0,_,_=>by simp
 | x::r,i+1,hi,h=>by
  rw[adQ,ad1]at h
  have ih:=Ce (kp:=r) (i:=i) (by simpa using hi) h.2
  simp only[List.getElem_cons_succ,List.take_succ_cons,adQ,adq,af6]
  refine⟨λe=>h.1 ?_,ih⟩
  rw[← e]
  exact ads.mpr ⟨_,aee _,rfl⟩
theorem tT{β:Type}{kp:List (Str×β)}{i j:Nat}{x:Str}(zi:i<=j) (h:x∈(kp.take i).map (·.1)):x∈(kp.take j).map (·.1):=by
 obtain⟨r,hr,e⟩:=ads.mp h
 refine ads.mpr ⟨r,?_,e⟩
 have:kp.take i=(kp.take j).take i:=by rw[List.take_take,afG zi]
 rw[this]at hr
 exact aet hr
abbrev SO(Q:VK)(s3:Int)(H1:Hp)(c a1 a2 a3:Addr)(names sw:List Str) (kp:List (Str×V)) (gt:List (Str×Str×Str)):Prop:=
 ∀(m:Addr) (nx nv sm:List (Str×Str)) (a4 a5 a6:Addr) (H':Hp),DR names kp nx->nx.length<=kp.length->iq names [] nv->iq names (nv.map (·.1)) sm->1<=nv.length->(nv.length:Int)<=s3->(sm.length:Int)<=s3->ir H' m ⟨sw,kp,gt,nx,nv,sm⟩ a1 a2 a3 a4 a5 a6->aX H1 H' c->Q (.ref m) H'
theorem SQ(G:Defs P w K mg base fP fS fL fW fR dP dS dL dW dR){f:Addr}{cdv:Value}{A:Around}{outer:List Env}{s:Shared}{H:Hp}{E:XK}{Q:VK}(hr:aZ 3 (A.deeper (PyProof.Rows.envOfC "_law_machine_digits" (ar dY) s.heap.objs.size f cdv))) :
 ∃tR:TS,ja (yh P w K mg base f cdv A outer s H E) (List.drop 8 (aJ dY)) tR/\∀(σ:St) (H1:Hp) (v0 v2 v3 v4 v10:Option V) (z c n a1 a2 a3:Addr) (s0 s1 s2 s3:Int) (names sw:List Str) (kp:List (Str×V)) (gt:List (Str×Str×Str)),
  σ=[v0,some (.ref z),v2,v3,v4,some (.ref c),some (.ref n),some (.ref a1),some (.ref a2),some (.ref a3),v10,none,none,none,none,none,none]->
  Kw K H1 z c n a1 a2 a3 s0 s1 s2 s3 names sw kp gt->SO Q s3 H1 c a1 a2 a3 names sw kp gt->
  tR {nx:=λ_ H'=>Q .aY H',rt:=Q} σ H1:=by
 have cC:aZ 1 _:=hr.mono (by decide)
 have oC:aZ 2 _:=hr.mono (by decide)
 obtain⟨tD,hD,rD⟩:=SN G (outer:=outer) (H:=H) (E:=E) (Q:=Q) hr
 refine⟨_,ai (aD (i:=11) fU.nd rfl (Or.inl rfl) (cK ag))
  (ai (dJ ad6 rfl (c8 (pv 8)) (jm rfl (cg (aH (i:=12) fU.nd rfl (Or.inl rfl)) (cg (aH (i:=13) fU.nd rfl (Or.inl rfl)) iA)))
   (av (cw (cF yg (aE G.gP cC rfl G.mP G.kP G.bP .nil aA (aa (pv 5) (aa ao ag))) ao (cU _))
    (av (eu (eV adZ PySem.F.slot_list_insert PySem.F.type_list_insert FV (pv 11) (aa
     (aE G.gP cC rfl G.mP G.kP G.bP .nil aA (aa (pv 5) (aa (aT fh (bz cc (by rfl) G.T.len aem (aa (pv 11) ag)) ao) ag)))
     (aa (eE (aa (pv 12) (aa (aE G.gL oC rfl G.mL G.kL G.bL .nil aA (aa (pv 5) (aa (pv 6) ag))) ag))) ag))))) bf))) hD),?_⟩
 rintro σ H1 v0 v2 v3 v4 v10 z c n a1 a2 a3 s0 s1 s2 s3 names sw kp gt rfl hA kk
 obtain⟨xs,hc,hp⟩:=hA.pc
 obtain⟨ts,h2,je⟩:=id hA.h2
 have Kx:=hA.kl
 have pZ:=hA.nl
 have qe:=je.length
 rw[abc]at qe
 refine⟨(by show 0<=sizeLine;decide),λp fz=>?_⟩
 have qP:c≠p:=ae hc fz
 have n2p:a2≠p:=ae h2 fz
 refine⟨_,rfl,a2,rfl,⟨_,aw.of (by rw[ah n2p];exact h2)⟩,jQ (K:=K) (a:=a2) (xs:=ts.map V.ref) (λi σ H2=>∃(nx:List (Str×Str)) (xk xl:Option V) (ys:List V),
  σ=[v0,some (.ref z),v2,v3,v4,some (.ref c),some (.ref n),some (.ref a1),some (.ref a2),some (.ref a3),v10,some (.ref p),xk,xl,none,none,none]/\nx.length<=i/\DR names (kp.take i) nx/\bu H2 p (nx.map jV)/\eB ys/\H2 c=some (.lst ys)/\aX H1 H2 c) ?_ ?_ ?_ ?_⟩
 . exact⟨[],none,none,xs,rfl,adn _,⟨(λ_ h=>nomatch h),aex⟩,⟨[],af,.nil⟩,hp,(by rw[ah qP];exact hc),aX.ax fz⟩
 . rintro i σ H2 _ ⟨nx,xk,xl,ys,_,_,_,_,_,_,kp2⟩
   exact aw.of (kp2 a2 _ h2 hA.c2)
 . rintro i x σ H2 hx ⟨nx,xk,xl,ys,rfl,hnx,oE,⟨us,fu,ij⟩,eW,jI,kp2⟩
   have sU:i<(ts.map V.ref).length:=(adt.mp hx).1
   rw[abc,qe]at sU
   have W3:kp[i]?=some kp[i]:=adj sU
   obtain⟨t,ht,hT⟩:=cH je (i:=i) (b:=lz kp[i]) (by rw[ado,W3];rfl)
   have ex:x=.ref t:=by
    rw[ado,ht]at hx
    exact(adN hx).symm
   subst ex
   have BY:H2 t=some (.tup (lz kp[i])):=kp2 t _ hT (aL hT hc (by intro z;cases z))
   refine⟨t,_,rfl,aS.of BY,rfl,_,_,rfl,_,_,rfl,rfl,?_⟩
   refine⟨_,rfl,c,ys,5,rfl,jI,eW,by decide,by decide,λd kY H3 d0 d1 nB W4 jd=>⟨_,_,rfl,rfl,_,rfl,?_⟩⟩
   have IL:aX H1 H3 c:=kp2.trans jd
   have ZD:bu H3 p (nx.map jV):=bu.keep ⟨us,fu,ij⟩ jd jI (adG qP)
   refine iZ (λ_=>?_) (λ_=>?_)
   . have qQ:H3 p=some (.lst (us.map V.ref)):=jd p _ fu (adG qP)
     have xo:=ij.length
     rw[abc]at xo
     refine⟨_,rfl,.inl ⟨rfl,_,aw.of qQ⟩,_,rfl,_,rfl,p,_,rfl,.inl (aw.of qQ),_,_,rfl,rfl,c,kY,_,rfl,W4,nB,(by rw[abc];omega),(by rw[abc];omega),λd2 qN H4 e0 e1 jL Gd jK=>?_⟩
     rw[abc]at e1
     have A4:=hA.keep (IL.trans jK) Gd jL
     refine⟨_,rfl,_,rfl,_,rfl,c,n,qN,names,rfl,Gd,jL,A4.nc,aw.of A4.hn,by omega,A4.nm,λlt Ku H5 IJ lG Ky fk=>?_⟩
     refine⟨(by show 2<=sizeLine;decide),λTp iO=>?_⟩
     have i5:H5 p=some (.lst (us.map V.ref)):=fk p _ (jK p _ qQ (adG qP)) (adG qP)
     have qf:p≠Tp:=ae i5 iO
     have ncT:c≠Tp:=ae Ky iO
     refine⟨p,_,d2,_,rfl,rfl,(by rw[ah qf];exact i5),e0,(by rw[abc];omega),(by rw[abc];exact small (by omega)),?_⟩
     have ZE:∀a uX,(upd H5 Tp (HO.tup [V.str kp[i].1,V.str lt])) a=some (.tup uX)->a≠p:=λa uX e z'=>by
      rw[z',ah qf,i5]at e
      cases e
     have ON:Paired (λt r=>(upd (upd H5 Tp (HO.tup [V.str kp[i].1,V.str lt])) p (.lst ((us.map V.ref).take d2.toNat++[V.ref Tp]++(us.map V.ref).drop d2.toNat))) t=some (.tup r)) us (nx.map jV):=Paired.cM ij λa r e=>by
      have ea:H5 a=some (.tup r):=fk a _ (jK a _ (jd a _ e (aL e jI (by intro z;cases z))) (aL e jI (by intro z;cases z))) (aL e jI (by intro z;cases z))
      have eb:(upd H5 Tp (HO.tup [V.str kp[i].1,V.str lt])) a=some (.tup r):=by rw[ah (ae ea iO)];exact ea
      rw[ah (ZE a r eb)]
      exact eb
     refine⟨nx.take d2.toNat++[(kp[i].1,lt)]++nx.drop d2.toNat,_,_,Ku,rfl,?_,⟨λr hr=>?_,?_⟩,⟨us.take d2.toNat++[Tp]++us.drop d2.toNat,?_,?_⟩,lG,?_,λb o hb OO=>?_⟩
     . simp only[adm,adU,aeM,ad2]
       omega
     . rcases adu.mp hr with hr|hr
       . rcases adu.mp hr with hr|hr
         . exact⟨tT (agI _) (oE.1 r (aet hr)).1,(oE.1 r (aet hr)).2⟩
         . rw[adJ.mp hr]
           refine⟨?_,IJ⟩
           rw[qK (·.1) W3]
           exact adF _ (adJ.mpr rfl)
       . exact⟨tT (agI _) (oE.1 r (aho hr)).1,(oE.1 r (aho hr)).2⟩
     . have hn:kp[i].1∉nx.map (·.1):=λhm=>by
        obtain⟨r,hr,e⟩:=ads.mp hm
        exact Ce sU hA.kd (e ▸ (oE.1 r hr).1)
       have hq:=Gf oE.2 hn d2.toNat
       rw[adp,adp,aft,agN]
       exact hq
     . rw[af]
       simp only[adp,aft,agN,adQ,aeS]
     . rw[adp,adp,aft,agN]
       refine dc (dc (sR _ ON) (.cons ?_ .nil)) (sS _ ON)
       rw[ah (adG qf),af]
       rfl
     . rw[ah qP,ah ncT]
       exact Ky
     . have e5:=fk b o (jK b o (IL b o hb OO) OO) OO
       rw[ah (ae hb fz),ah (ae e5 iO)]
       exact e5
   . exact⟨nx,_,_,kY,rfl,by omega,⟨λr hr=>⟨tT (agI _) (oE.1 r hr).1,(oE.1 r hr).2⟩,oE.2⟩,ZD,nB,W4,IL⟩
 . rintro σ H2 ⟨nx,xk,xl,ys,rfl,hnx,oE,zg,eW,jI,kp2⟩
   rw[abc,qe]at hnx oE
   rw[ad5]at oE
   have A2:=hA.keep kp2 jI eW
   refine rD _ H2 v0 v2 v3 v4 v10 xk xl z c n a1 a2 a3 p s0 s1 s2 s3 names sw kp gt nx rfl ⟨⟨ys,jI,eW⟩,A2.hz,A2.zc,A2.hn,A2.nc,A2.nl,A2.nm,A2.h1,A2.c1,A2.h2,A2.c2,A2.h3,A2.c3,zg,adG qP⟩ ?_
   intro m nv sm a5 a6 H' w1 w2 l1 l2 l3 hM zj
   exact kk m nx nv sm p a5 a6 H' oE hnx w1 w2 l1 l2 l3 hM (kp2.trans zj)
end
def eI(H H':Hp)(l n:Addr):Prop:=∀b o,H b=some o->b≠l->b≠n->H' b=some o
def SR(H H':Hp)(l c n:Addr):Prop:=∀b o,H b=some o->b≠l->b≠c->b≠n->H' b=some o
theorem eI.seq{K:W.Frag}{H H':Hp}{a l n:Addr}{xs:List V}(e:eI H H' l n)(h:aw K H a xs)(h1:a≠l)(h2:a≠n):aw K H' a xs:=by
 rcases h with (h|⟨o,h⟩)|h
 . exact .inl (.inl (e a _ h h1 h2))
 . exact .inl (.inr ⟨o,e a _ h h1 h2⟩)
 . exact .inr h
theorem eI.jW{K:W.Frag}{H H':Hp}{a l n:Addr}{xs:List V}(e:eI H H' l n)(h:aS K H a xs)(h1:a≠l)(h2:a≠n):aS K H' a xs:=by
 rcases h with (h|⟨o,h⟩)|h
 . exact .inl (.inl (e a _ h h1 h2))
 . exact .inl (.inr ⟨o,e a _ h h1 h2⟩)
 . exact .inr h
theorem bu.yi{H H':Hp}{p l n:Addr}{rs:List (List V)}{xs ns:List V}(h:bu H p rs) (k:eI H H' l n) (hl:H l=some (.lst xs)) (hn:H n=some (.lst ns)) (h1:p≠l) (h2:p≠n):bu H' p rs:=by
 obtain⟨ts,e1,e2⟩:=h
 exact⟨ts,k p _ e1 h1 h2,Paired.cM e2 λt r e=>k t _ e (aL e hl (by intro z;cases z)) (aL e hn (by intro z;cases z))⟩
theorem aX.to2{H H':Hp}{l:Addr}(k:aX H H' l)(n:Addr):eI H H' l n:=λb o h h1 _=>k b o h h1
theorem eI.trans{H H1 H2:Hp}{l n:Addr}(a:eI H H1 l n)(b:eI H1 H2 l n):eI H H2 l n:=λc o h h1 h2=>b c o (a c o h h1 h2) h1 h2
theorem eI.SS{H:Hp}{l n:Addr}{o:HO} : eI H (upd H n o) l n:=λb u h _ h2=>by rw[ah h2];exact h
theorem gG.yi{K:W.Frag}{H H':Hp}{z l n:Addr}{s0 s1 s2 s3:Int}(h:gG K H z s0 s1 s2 s3)(k:eI H H' l n)(h1:z≠l)(h2:z≠n):gG K H' z s0 s1 s2 s3:=⟨h.1.imp (λq=>k.seq q h1 h2) (λq=>k.jW q h1 h2),h.2⟩
def oF(names:List Str) (gt:List (Str×Str×Str)):Prop:=∀(i:Nat) (r:Str×Str×Str),gt[i]?=some r->Lit (names++(gt.take i).map (·.1)) r.2.1/\Lit (names++(gt.take i).map (·.1)) r.2.2
theorem oF.snoc{names:List Str}{gt:List (Str×Str×Str)}{r:Str×Str×Str}(h:oF names gt) (h1:Lit (names++gt.map (·.1)) r.2.1) (h2:Lit (names++gt.map (·.1)) r.2.2):oF names (gt++[r]):=by
 intro i q e
 rcases Nat.lt_trichotomy i gt.length with hi|hi|hi
 . rw[aeI hi]at e
   rw[List.take_append_of_le_length (ae5 hi)]
   exact h i q e
 . subst hi
   rw[aeD (adn _),Nat.sub_self]at e
   have e':r=q:=by simpa using e
   subst e'
   rw[List.take_left']
   . exact⟨h1,h2⟩
   . rfl
 . rw[List.getElem?_eq_none (by rw[adm,ad2];omega)]at e
   cases e
theorem pw{α:Type}{l:List α}{a:α}(h:l.Nodup)(ha:a∉l):(l++[a]).Nodup:=by
 rw[adK]
 refine⟨h,by simp,λx hx y hy e=>?_⟩
 have:y=a:=by simpa using hy
 rw[this]at e
 exact ha (e ▸ hx)
section
variable {P:Program}{w:World}{K:W.Frag}{mg:Str->Option Value}{base:Heap}{fP fS fL fW fR:Addr}{dP dS dL dW dR:FuncData}
structure AtB(K:W.Frag) (H:Hp) (z b c n a1 a2:Addr) (s0 s1 s2 s3:Int) (names sw:List Str) (kp:List (Str×V)):Prop where
 pb:∃xs,H b=some (.lst xs)/\eB xs
 pc:∃xs,H c=some (.lst xs)/\eB xs
 hz:gG K H z s0 s1 s2 s3
 zb:z≠b
 zc:z≠c
 zn:z≠n
 bc:b≠c
 hn:H n=some (.lst (names.map V.str))
 nb:n≠b
 nc:n≠c
 nl:names.length<=28
 nm:∀x∈names,bg x
 nd:names.Nodup
 h1:H a1=some (.lst (sw.map V.str))
 b1:a1≠b
 c1:a1≠c
 n1:a1≠n
 h2:bu H a2 (kp.map lz)
 b2:a2≠b
 c2:a2≠c
 n2:a2≠n
 kd:(kp.map (·.1)).Nodup
 kl:kp.length<=16
abbrev SU(Q:VK)(s3:Int)(H1:Hp)(b c n a1 a2:Addr)(names sw:List Str) (kp:List (Str×V)):Prop:=
 ∀(m:Addr) (gt:List (Str×Str×Str)) (nx nv sm:List (Str×Str)) (a3 a4 a5 a6:Addr) (H':Hp),oF names gt->(names++gt.map (·.1)).Nodup->(∀x∈names++gt.map (·.1),bg x)->gt.length<=60->DR (names++gt.map (·.1)) kp nx->nx.length<=kp.length->
  iq (names++gt.map (·.1)) [] nv->iq (names++gt.map (·.1)) (nv.map (·.1)) sm->1<=nv.length->(nv.length:Int)<=s3->(sm.length:Int)<=s3->ir H' m ⟨sw,kp,gt,nx,nv,sm⟩ a1 a2 a3 a4 a5 a6->SR H1 H' b c n->Q (.ref m) H'
theorem SV(G:Defs P w K mg base fP fS fL fW fR dP dS dL dW dR){f:Addr}{cdv:Value}{A:Around}{outer:List Env}{s:Shared}{H:Hp}{E:XK}{Q:VK}(hr:aZ 3 (A.deeper (PyProof.Rows.envOfC "_law_machine_digits" (ar dY) s.heap.objs.size f cdv))) :
 ∃tR:TS,ja (yh P w K mg base f cdv A outer s H E) (List.drop 6 (aJ dY)) tR/\∀(σ:St) (H1:Hp) (v0 v2 v3:Option V) (z b c n a1 a2:Addr) (s0 s1 s2 s3:Int) (names sw:List Str) (kp:List (Str×V)),
  σ=[v0,some (.ref z),v2,v3,some (.ref b),some (.ref c),some (.ref n),some (.ref a1),some (.ref a2),none,none,none,none,none,none,none,none]->
  AtB K H1 z b c n a1 a2 s0 s1 s2 s3 names sw kp->SU Q s3 H1 b c n a1 a2 names sw kp->
  tR {nx:=λ_ H'=>Q .aY H',rt:=Q} σ H1:=by
 have cC:aZ 1 _:=hr.mono (by decide)
 have oC:aZ 2 _:=hr.mono (by decide)
 obtain⟨tC,hC,rC⟩:=SQ G (outer:=outer) (H:=H) (E:=E) (Q:=Q) hr
 refine⟨_,ai (aD (i:=9) fU.nd rfl (Or.inl rfl) (cK ag))
  (ai (dJ ad6 rfl (cW rfl G.T.range (aa (aE G.gP cC rfl G.mP G.kP G.bP .nil aA (aa (pv 4) (aa (aT fh (aK qE (pv 1) ao (λ_ _=>rfl)) ao) ag))) ag)) (aH (i:=2) fU.nd rfl (Or.inl rfl))
   (ai (aD (i:=10) fU.nd rfl (Or.inl rfl) (aE G.gS oC rfl G.mS G.kS G.bS .nil aA (aa (pv 4) (aa (pv 6) ag))))
   (ai (eu (eV adZ ad7 ad8 d7 (pv 9) (aa (eE (aa (pv 10) (aa (aE G.gL oC rfl G.mL G.kL G.bL .nil aA (aa (pv 4) (aa (pv 6) ag))) (aa (aE G.gL oC rfl G.mL G.kL G.bL .nil aA (aa (pv 4) (aa (pv 6) ag))) ag)))) ag)))
   (av (eu (eV adZ ad7 ad8 d7 (pv 6) (aa (pv 10) ag))))))) hC),?_⟩
 rintro σ H1 v0 v2 v3 z b c n a1 a2 s0 s1 s2 s3 names sw kp rfl hA kk
 obtain⟨xs,hb,hp⟩:=hA.pb
 obtain⟨xc,hc,OP⟩:=hA.pc
 obtain⟨_,_,_,⟨z2a,z2b⟩,_,_⟩:=hA.hz
 have pZ:=hA.nl
 refine⟨(by show 0<=sizeLine;decide),λp fz=>?_⟩
 have xp:b≠p:=ae hb fz
 have xq:n≠p:=ae hA.hn fz
 have zm:gG K (upd H1 p (.lst [])) z s0 s1 s2 s3:=hA.hz.same (ak.ax fz)
 refine⟨_,rfl,_,rfl,zm.ix (i:=2) (v:=.int s2) rfl ⟨_,_,rfl,rfl,b,xs,_,rfl,(by rw[ah xp];exact hb),hp,by omega,by omega,λd Gg zo d0 d1 zp uJ qR=>?_⟩⟩
 have k0:eI H1 zo b n:=λx o h h1 _=>qR x o (by rw[ah (ae h fz)];exact h) h1
 have hn0:zo n=some (.lst (names.map V.str)):=qR n _ (by rw[ah xq];exact hA.hn) hA.nb
 have IP:zo p=some (.lst []):=qR p _ af (adG xp)
 refine⟨_,rfl,by omega,by omega,gj (n:=d.toNat) (λi σ H2=>∃(gt:List (Str×Str×Str)) (uZ v10:Option V) (ys:List V),
  σ=[v0,some (.ref z),uZ,v3,some (.ref b),some (.ref c),some (.ref n),some (.ref a1),some (.ref a2),some (.ref p),v10,none,none,none,none,none,none]/\gt.length=i/\oF names gt/\(names++gt.map (·.1)).Nodup/\(∀x∈names++gt.map (·.1),bg x)/\
  bu H2 p (gt.map mQ)/\H2 n=some (.lst ((names++gt.map (·.1)).map V.str))/\eB ys/\H2 b=some (.lst ys)/\eI H1 H2 b n) ?_ ?_ ?_⟩
 . refine⟨[],v2,none,Gg,rfl,rfl,λi r e=>?_,?_,?_,⟨[],IP,.nil⟩,?_,zp,uJ,k0⟩
   . simp at e
   . simpa using hA.nd
   . simpa using hA.nm
   . simpa using hn0
 . rintro i σ H2 hi ⟨gt,uZ,v10,ys,rfl,zq,OQ,oG,gU,⟨us,fu,ij⟩,iE,eW,zu,kp2⟩
   have xo:=ij.length
   rw[abc]at xo
   have ZF:(names++gt.map (·.1)).length=names.length+i:=by rw[adm,abc,zq]
   refine⟨_,rfl,_,rfl,b,n,ys,names++gt.map (·.1),rfl,zu,eW,hA.nb,aw.of iE,by omega,λnw kY H3 ze uR nB OR jd=>?_⟩
   have zv:H3 n=_:=jd n _ iE hA.nb
   have qQ:H3 p=some (.lst (us.map V.ref)):=jd p _ fu (adG xp)
   refine⟨_,rfl,.inl ⟨rfl,_,aw.of qQ⟩,_,rfl,_,rfl,_,rfl,b,n,kY,names++gt.map (·.1),rfl,OR,nB,hA.nb,aw.of zv,by omega,gU,λl1 qN H4 oH jL hb4 jK=>?_⟩
   have Kz:H4 n=_:=jK n _ zv hA.nb
   refine⟨_,rfl,_,rfl,b,n,qN,names++gt.map (·.1),rfl,hb4,jL,hA.nb,aw.of Kz,by omega,gU,λl2 Ku H5 du lG KA fk=>?_⟩
   have qg:H5 n=_:=fk n _ Kz hA.nb
   have i5:H5 p=some (.lst (us.map V.ref)):=fk p _ (jK p _ qQ (adG xp)) (adG xp)
   refine⟨(by show 3<=sizeLine;decide),λTp iO=>?_⟩
   have qf:p≠Tp:=ae i5 iO
   have nbT:b≠Tp:=ae KA iO
   have OS:n≠Tp:=ae qg iO
   refine⟨p,_,_,rfl,rfl,(by rw[ah qf];exact i5),(by rw[abc];exact small (by omega)),?_⟩
   have Gh:(upd (upd H5 Tp (HO.tup [V.str nw,V.str l1,V.str l2])) p (.lst (us.map V.ref++[V.ref Tp]))) n=some (.lst ((names++gt.map (·.1)).map V.str)):=by rw[ah xq,ah OS];exact qg
   refine⟨_,rfl,.inl ⟨rfl,_,aw.of Gh⟩,_,rfl,n,_,_,rfl,rfl,Gh,(by rw[abc];exact small (by omega)),?_⟩
   have ZG:nw∉names++gt.map (·.1):=uR
   have en:names++(gt++[(nw,l1,l2)]).map (·.1)=(names++gt.map (·.1))++[nw]:=by rw[adp,← aeg];rfl
   have tn:∀a uX,H5 a=some (HO.tup uX)->a≠n:=λa uX e=>aL e qg (by intro z;cases z)
   refine⟨gt++[(nw,l1,l2)],_,_,Ku,rfl,(by rw[adm,ad2,zq]),OQ.snoc oH du,(by rw[en];exact pw oG ZG),λx hx=>?_,?_,?_,lG,?_,λx o hx h1 h2=>?_⟩
   . rw[en]at hx
     rcases adu.mp hx with hx|hx
     . exact gU x hx
     . rw[adJ.mp hx];exact ze
   . have tp:=bu.snoc (H:=upd H5 Tp (HO.tup [V.str nw,V.str l1,V.str l2])) (p:=p) (t:=Tp) (rs:=gt.map mQ) (r:=[V.str nw,V.str l1,V.str l2]) (ts:=us) (Paired.cM ij λa r e=>by
      have OT:=aL e zu (by intro z;cases z)
      have ea:H5 a=some (.tup r):=fk a _ (jK a _ (jd a _ e OT) OT) OT
      rw[ah (ae ea iO)]
      exact ea) af (λa uX e z'=>by rw[z',ah qf,i5]at e;cases e)
     obtain⟨W5,e1,e2⟩:=tp
     refine⟨W5,by rw[ah (adG xq)];exact e1,?_⟩
     have er:(gt++[(nw,l1,l2)]).map mQ=gt.map mQ++[[V.str nw,V.str l1,V.str l2]]:=by rw[adp];rfl
     rw[er]
     refine Paired.cM e2 λa r e=>?_
     rw[ah (aL e Gh (by intro z;cases z))]
     exact e
   . rw[af,en]
     simp only[adp,adQ,aeS]
   . rw[ah (adG hA.nb),ah xp,ah nbT]
     exact KA
   . have e5:H5 x=some o:=fk x o (jK x o (jd x o (kp2 x o hx h1 h2) h1) h1) h1
     rw[ah h2,ah (ae hx fz),ah (ae e5 iO)]
     exact e5
 . rintro σ H2 ⟨gt,uZ,v10,ys,rfl,zq,OQ,oG,gU,zg,iE,eW,zu,kp2⟩
   have jI:H2 c=some (.lst xc):=kp2 c _ hc (adG hA.bc) (adG hA.nc)
   have qP:c≠p:=ae hc fz
   refine rC _ H2 v0 uZ v3 (some (.ref b)) v10 z c n a1 a2 p s0 s1 s2 s3 (names++gt.map (·.1)) sw kp gt rfl ⟨⟨xc,jI,OP⟩,hA.hz.yi kp2 hA.zb hA.zn,hA.zc,iE,hA.nc,(by rw[adm,abc];omega),gU,
    kp2 a1 _ hA.h1 hA.b1 hA.n1,hA.c1,hA.h2.yi kp2 hb hA.hn hA.b2 hA.n2,hA.c2,zg,adG qP,hA.kd,hA.kl⟩ ?_
   intro m nx nv sm a4 a5 a6 H' q1 q2 w1 w2 l1 l2 l3 hM zj
   exact kk m gt nx nv sm p a4 a5 a6 H' OQ oG gU (by omega) q1 q2 w1 w2 l1 l2 l3 hM λx o hx h1 h2 h3=>zj x o (kp2 x o hx h1 h3) h2
end
def OU(kp:List (Str×V)):Prop:=∀r∈kp,r.2=.int 0\/r.2=.int 1\/r.2=.aY
theorem IQ{d:Int}(h0:0<=d)(h1:d<3):∃v:V,jJ [V.int 0,.int 1,.aY] d=some v/\(v=.int 0\/v=.int 1\/v=.aY):=by
 rcases (show d=0\/d=1\/d=2 by omega) with rfl|rfl|rfl
 . exact⟨_,rfl,.inl rfl⟩
 . exact⟨_,rfl,.inr (.inl rfl)⟩
 . exact⟨_,rfl,.inr (.inr rfl)⟩
section
variable {P:Program}{w:World}{K:W.Frag}{mg:Str->Option Value}{base:Heap}{fP fS fL fW fR:Addr}{dP dS dL dW dR:FuncData}
structure AtA(K:W.Frag) (H:Hp) (z a b c n:Addr) (s0 s1 s2 s3:Int) (sw:List Str):Prop where
 pa:∃xs,H a=some (.lst xs)/\eB xs
 pb:∃xs,H b=some (.lst xs)/\eB xs
 pc:∃xs,H c=some (.lst xs)/\eB xs
 hz:gG K H z s0 s1 s2 s3
 za:z≠a
 zb:z≠b
 zc:z≠c
 zn:z≠n
 ab:a≠b
 ac:a≠c
 bc:b≠c
 hn:H n=some (.lst (sw.map V.str))
 na:n≠a
 nb:n≠b
 nc:n≠c
 nl:sw.length<=12
 nm:∀x∈sw,bg x
 nd:sw.Nodup
def SW(H H':Hp)(a b c n:Addr):Prop:=∀x o,H x=some o->x≠a->x≠b->x≠c->x≠n->H' x=some o
abbrev SX(Q:VK)(s1 s3:Int)(H1:Hp)(a b c n:Addr)(sw:List Str):Prop:=
 ∀(m:Addr) (M:aR) (names:List Str) (a1 a2 a3 a4 a5 a6:Addr) (H':Hp),M.switches=sw->dj M names->names.length<=88->((M.keepers.length:Int)<=s1/\M.keepers.length<=16)->M.gates.length<=60->M.nexts.length<=16->1<=M.nevers.length->(M.nevers.length:Int)<=s3->(M.somes.length:Int)<=s3->
  ir H' m M a1 a2 a3 a4 a5 a6->SW H1 H' a b c n->Q (.ref m) H'
theorem SY(G:Defs P w K mg base fP fS fL fW fR dP dS dL dW dR){f:Addr}{cdv:Value}{A:Around}{outer:List Env}{s:Shared}{H:Hp}{E:XK}{Q:VK}(hr:aZ 3 (A.deeper (PyProof.Rows.envOfC "_law_machine_digits" (ar dY) s.heap.objs.size f cdv))) :
 ∃tR:TS,ja (yh P w K mg base f cdv A outer s H E) (List.drop 3 (aJ dY)) tR/\∀(σ:St) (H1:Hp) (v0 v2:Option V) (z a b c n:Addr) (s0 s1 s2 s3:Int) (sw:List Str),
  σ=[v0,some (.ref z),v2,some (.ref a),some (.ref b),some (.ref c),some (.ref n),none,none,none,none,none,none,none,none,none,none]->
  AtA K H1 z a b c n s0 s1 s2 s3 sw->SX Q s1 s3 H1 a b c n sw->
  tR {nx:=λ_ H'=>Q .aY H',rt:=Q} σ H1:=by
 have cC:aZ 1 _:=hr.mono (by decide)
 have oC:aZ 2 _:=hr.mono (by decide)
 obtain⟨tB,hB,rB⟩:=SV G (outer:=outer) (H:=H) (E:=E) (Q:=Q) hr
 refine⟨_,ai (aD (i:=7) fU.nd rfl (Or.inl rfl) (bw ig (by rfl) G.T.list aeu (aa (pv 6) ag)))
  (ai (aD (i:=8) fU.nd rfl (Or.inl rfl) (cK ag))
  (ai (dJ ad6 rfl (cW rfl G.T.range (aa (aE G.gP cC rfl G.mP G.kP G.bP .nil aA (aa (pv 3) (aa (aT fh (aK qE (pv 1) ao (λ_ _=>rfl)) ao) ag))) ag)) (aH (i:=2) fU.nd rfl (Or.inl rfl))
   (ai (eu (eV adZ ad7 ad8 d7 (pv 6) (aa (aE G.gS oC rfl G.mS G.kS G.bS .nil aA (aa (pv 3) (aa (pv 6) ag))) ag)))
   (av (eu (eV adZ ad7 ad8 d7 (pv 8) (aa (eE (aa (aK a0 (pv 6) (Sm NV ao) (λ_ _=>rfl))
    (aa (aK a0 (cK (aa ao (aa ao (aa NJ ag)))) (aE G.gP cC rfl G.mP G.kP G.bP .nil aA (aa (pv 3) (aa ao ag))) (λ_ _=>rfl)) ag))) ag)))))) hB)),?_⟩
 rintro σ H0 v0 v2 z a b c n s0 s1 s2 s3 sw rfl hA kk
 obtain⟨xs,ha,hp⟩:=hA.pa
 obtain⟨xb,hb,hpb⟩:=hA.pb
 obtain⟨xc,hc,OP⟩:=hA.pc
 obtain⟨_,_,⟨z1a,z1b⟩,_,_,_⟩:=hA.hz
 have pZ:=hA.nl
 refine⟨_,rfl,n,_,rfl,.inl (aw.of hA.hn),λa1 u0=>?_⟩
 have qh:ak H0 (upd H0 a1 (.lst (sw.map V.str))):=ak.ax u0
 have W6:n≠a1:=ae hA.hn u0
 have aa1:a≠a1:=ae ha u0
 have ba1:b≠a1:=ae hb u0
 have ca1:c≠a1:=ae hc u0
 have h1:(upd H0 a1 (.lst (sw.map V.str))) a1=some (.lst (sw.map V.str)):=af
 generalize hH1:upd H0 a1 (.lst (sw.map V.str))=H1 at *
 have xr:=qh a _ ha
 have nA:=qh b _ hb
 have iD:=qh c _ hc
 have yx:=qh n _ hA.hn
 refine⟨(by show 0<=sizeLine;decide),λp fz=>?_⟩
 have Gi:a≠p:=ae xr fz
 have xp:b≠p:=ae nA fz
 have qP:c≠p:=ae iD fz
 have xq:n≠p:=ae yx fz
 have zm:gG K (upd H1 p (.lst [])) z s0 s1 s2 s3:=(hA.hz.same qh).same (ak.ax fz)
 refine⟨_,rfl,_,rfl,zm.ix (i:=1) (v:=.int s1) rfl ⟨_,_,rfl,rfl,a,xs,_,rfl,(by rw[ah Gi];exact xr),hp,by omega,by omega,λd Gg zo d0 d1 zp uJ qR=>?_⟩⟩
 have k0:eI H1 zo a n:=λx o h h1 _=>qR x o (by rw[ah (ae h fz)];exact h) h1
 have hn0:zo n=some (.lst (sw.map V.str)):=qR n _ (by rw[ah xq];exact yx) hA.na
 have IP:zo p=some (.lst []):=qR p _ af (adG Gi)
 refine⟨_,rfl,by omega,by omega,gj (n:=d.toNat) (λi σ H2=>∃(kp:List (Str×V)) (uZ:Option V) (ys:List V),
  σ=[v0,some (.ref z),uZ,some (.ref a),some (.ref b),some (.ref c),some (.ref n),some (.ref a1),some (.ref p),none,none,none,none,none,none,none,none]/\kp.length=i/\OU kp/\(sw++kp.map (·.1)).Nodup/\(∀x∈sw++kp.map (·.1),bg x)/\
  bu H2 p (kp.map lz)/\H2 n=some (.lst ((sw++kp.map (·.1)).map V.str))/\eB ys/\H2 a=some (.lst ys)/\eI H1 H2 a n) ?_ ?_ ?_⟩
 . refine⟨[],v2,Gg,rfl,rfl,(λ_ h=>nomatch h),?_,?_,⟨[],IP,.nil⟩,?_,zp,uJ,k0⟩
   . simpa using hA.nd
   . simpa using hA.nm
   . simpa using hn0
 . rintro i σ H2 hi ⟨kp,uZ,ys,rfl,Kx,OV,oG,gU,⟨us,fu,ij⟩,iE,eW,OW,kp2⟩
   have xo:=ij.length
   rw[abc]at xo
   have ZF:(sw++kp.map (·.1)).length=sw.length+i:=by rw[adm,abc,Kx]
   refine⟨_,rfl,.inl ⟨rfl,_,aw.of iE⟩,_,rfl,_,rfl,a,n,ys,sw++kp.map (·.1),rfl,OW,eW,hA.na,aw.of iE,by omega,λnw kY H3 ze uR nB ha3 jd=>?_⟩
   have zv:H3 n=some (.lst ((sw++kp.map (·.1)).map V.str)):=jd n _ iE hA.na
   have qQ:H3 p=some (.lst (us.map V.ref)):=jd p _ fu (adG Gi)
   refine⟨n,_,_,rfl,rfl,zv,(by rw[abc];exact small (by omega)),?_⟩
   have jL:(upd H3 n (.lst ((sw++kp.map (·.1)).map V.str++[V.str nw]))) p=some (.lst (us.map V.ref)):=by rw[ah (adG xq)];exact qQ
   have KC:(upd H3 n (.lst ((sw++kp.map (·.1)).map V.str++[V.str nw]))) a=some (.lst kY):=by rw[ah (adG hA.na)];exact ha3
   refine⟨_,rfl,.inl ⟨rfl,_,aw.of jL⟩,_,rfl,_,rfl,n,_,_,.str nw,rfl,rfl,aw.of af,Ir _ _,(by show 3<=sizeLine;decide),λq hq=>?_⟩
   have W7:a≠q:=ae KC hq
   have npq:p≠q:=ae jL hq
   have nnq:n≠q:=ae (af (H:=H3) (a:=n)) hq
   refine⟨_,rfl,a,kY,3,rfl,(by rw[ah W7];exact KC),nB,by decide,by decide,λd2 qN H5 e0 e1 lG xm fk=>?_⟩
   obtain⟨fv,hfv,hfo⟩:=IQ e0 e1
   have hq5:H5 q=some (.lst [V.int 0,.int 1,.aY]):=fk q _ af (adG W7)
   have i5:H5 p=some (.lst (us.map V.ref)):=fk p _ (by rw[ah npq];exact jL) (adG Gi)
   have qg:H5 n=some (.lst ((sw++kp.map (·.1)).map V.str++[V.str nw])):=fk n _ (by rw[ah nnq,af]) hA.na
   refine⟨q,_,d2,fv,rfl,rfl,aw.of hq5,hfv,(by show 2<=sizeLine;decide),λTp iO=>?_⟩
   have qf:p≠Tp:=ae i5 iO
   have naT:a≠Tp:=ae xm iO
   have OS:n≠Tp:=ae qg iO
   refine⟨p,_,_,rfl,rfl,(by rw[ah qf];exact i5),(by rw[abc];exact small (by omega)),?_⟩
   have en:sw++(kp++[(nw,fv)]).map (·.1)=(sw++kp.map (·.1))++[nw]:=by rw[adp,← aeg];rfl
   have W8:∀x o,H3 x=some o->x≠a->x≠n->H5 x=some o:=λx o hx h1 h2=>fk x o (by
    have e4:(upd H3 n (.lst ((sw++kp.map (·.1)).map V.str++[V.str nw]))) x=some o:=by rw[ah h2];exact hx
    rw[ah (ae e4 hq)]
    exact e4) h1
   refine⟨kp++[(nw,fv)],_,qN,rfl,(by rw[adm,ad2,Kx]),λr hr=>?_,(by rw[en];exact pw oG uR),λx hx=>?_,?_,?_,lG,?_,λx o hx h1 h2=>?_⟩
   . rcases adu.mp hr with hr|hr
     . exact OV r hr
     . rw[adJ.mp hr];exact hfo
   . rw[en]at hx
     rcases adu.mp hx with hx|hx
     . exact gU x hx
     . rw[adJ.mp hx];exact ze
   . have er:(kp++[(nw,fv)]).map lz=kp.map lz++[[V.str nw,fv]]:=by rw[adp];rfl
     rw[er]
     refine bu.snoc (Paired.cM ij λx r e=>?_) af (λx uX e z'=>by rw[z',ah qf,i5]at e;cases e)
     have W9:=aL e OW (by intro z;cases z)
     have nx2:=aL e iE (by intro z;cases z)
     have e5:H5 x=some (.tup r):=W8 x _ (jd x _ e W9) W9 nx2
     rw[ah (ae e5 iO)]
     exact e5
   . rw[ah xq,ah OS,qg,en]
     simp only[adp,adQ,aeS]
   . rw[ah Gi,ah naT]
     exact xm
   . have e5:H5 x=some o:=W8 x o (jd x o (kp2 x o hx h1 h2) h1) h1 h2
     rw[ah (ae hx fz),ah (ae e5 iO)]
     exact e5
 . rintro σ H2 ⟨kp,uZ,ys,rfl,Kx,OV,oG,gU,zg,iE,eW,OW,kp2⟩
   have zu:H2 b=some (.lst xb):=kp2 b _ nA (adG hA.ab) (adG hA.nb)
   have jI:H2 c=some (.lst xc):=kp2 c _ iD (adG hA.ac) (adG hA.nc)
   refine rB _ H2 v0 uZ (some (.ref a)) z b c n a1 p s0 s1 s2 s3 (sw++kp.map (·.1)) sw kp rfl ⟨⟨xb,zu,hpb⟩,⟨xc,jI,OP⟩,(hA.hz.same qh).yi kp2 hA.za hA.zn,hA.zb,hA.zc,hA.zn,hA.bc,iE,hA.nb,hA.nc,(by rw[adm,abc];omega),gU,oG,
    kp2 a1 _ h1 (adG aa1) (adG W6),adG ba1,adG ca1,adG W6,zg,adG xp,adG qP,adG xq,(adK.mp oG).2.1,by omega⟩ ?_
   intro m gt nx nv sm a3 a4 a5 a6 H' q1 q2 q3 q4 q5 q6 w1 w2 l1 l2 l3 hM zj
   refine kk m ⟨sw,kp,gt,nx,nv,sm⟩ (sw++kp.map (·.1)++gt.map (·.1)) a1 p a3 a4 a5 a6 H' rfl ⟨rfl,q3,q2,OV,λr hr=>(q5.1 r hr).1,λr hr=>(q5.1 r hr).2,q5.2,w1,w2,q1⟩ ?_ ⟨by show (kp.length:Int)<=s1;omega,by show kp.length<=16;omega⟩ q4 (by show nx.length<=16;omega) l1 l2 l3 hM ?_
   . simp only[adm,abc]
     omega
   . intro x o hx h1 h2 h3 h4
     exact zj x o (kp2 x o (qh x o hx) h1 h4) h2 h3 h4
end
end Gen
namespace L2
open PySem PySem.Spec PyProof.Rows
section
variable {X:Cx}
def S0(i j k:Nat)(ta:TA):TS:=λD σ H=>ta σ H λvs H1=>∃v w z,vs=[v,w,z]/\D.nx (((σ.set i (some v)).set j (some w)).set k (some z)) H1
theorem MJ{i j k:Nat}{x y z:Str}{a b c:Expr}{ta:TA}{px py pz pt pos:Pos}{kt k2 OX} (hc:X.calm=true)(hN:X.N.Nodup)(hi:X.N[i]?=some x)(hj:X.N[j]?=some y)(hk:X.N[k]?=some z)(zi:i≠j)(hik:i≠k)(hjk:j≠k)
 (hx:X.env.scope.names.lookup x=some .local) (hy:X.env.scope.names.lookup y=some .local) (hz:X.env.scope.names.lookup z=some .local) (ha:PA X [a,b,c] ta)
 (hw:swappedStores [.Tuple [.Name x px,.Name y py,.Name z pz] kt pt] (.Tuple [a,b,c] k2 OX) X.env=pure (some [x,y,z]))
 (hs:swapsWithSole [.Tuple [.Name x px,.Name y py,.Name z pz] kt pt] (.Tuple [a,b,c] k2 OX) pos.line X.env=pure false:=by rfl) :
 PS X (.Assign [.Tuple [.Name x px,.Name y py,.Name z pz] kt pt] (.Tuple [a,b,c] k2 OX) pos) (S0 i j k ta):=by
 intro pins s σ H D I h
 rw[exec_Assign_arm]
 refine adk (agH ?_)
 rw[hs]
 refine adk (adv ?_)
 rw[adw (by decide)]
 refine adk (Tuple_ (aP (ha _ pins s σ H _ I h) λus s1 ⟨vs,H1,I1,r1,q1⟩=>?_))
 obtain⟨v,w,t,e1,q1⟩:=q1
 subst e1
 obtain⟨u1,u2,u3,rfl,rv,kJ,rt⟩:∃u1 u2 u3,us=[u1,u2,u3]/\RelV v u1/\RelV w u2/\RelV t u3:=by
  cases r1 with
  | cons p q=>
   cases q with
   | cons p' q'=>
    cases q' with
    | cons p2 q2=>
     cases q2
     exact⟨_,_,_,rfl,p,p',p2⟩
 refine afW ?_ (by show 3<=sizeLine;decide)
 have I2:Inv X pins σ H1 {s1 with heap:=s1.heap.push {cls:=.type "tuple",data:=.seq [u1,u2,u3].toArray} }:=I1.kept (t':=s1.toks) λb o e=>adl _ e
 rw[hw]
 refine adk (adv ?_)
 show wpAny (model X.prog X.w) X.A (do rule "assign.swapped-stores"; let items ← unpackItems (.ref s1.heap.objs.size) 3 none;assignInOrder [λv=>bindName X.env z v,λv=>bindName X.env y v,λv=>bindName X.env x v] items.reverse;pure Flow.next) _ _ _
 refine adk (afV (adk (unpackItems_tuple (items:=#[u1,u2,u3]) (I.ok.hd hc) (IsTup.new s1.heap _) λh' qk=>?_)))
 have I3:=I2.kept (h':=h') (t':=s1.toks) λb o e=>qk b o (adR (adH e)) e
 show wpAny _ _ (assignInOrder [λv=>bindName X.env z v,λv=>bindName X.env y v,λv=>bindName X.env x v] [u3,u2,u1] >>= λ_=>pure Flow.next) _ _ _
 refine adk (afC (aht (mm I3 hN hk (.inl hz) rt (λs2 I4=>?_) (.inr hz))))
 refine afC (aht (mm I4 hN hj (.inl hy) kJ (λs3 I5=>?_) (.inr hy)))
 refine afC (aht (mm I5 hN hi (.inl hx) rv (λs4 I6=>assignInOrder_nil (adv ?_)) (.inr hx)))
 have e:((σ.set k (some t)).set j (some w)).set i (some v)=((σ.set i (some v)).set j (some w)).set k (some t):=by
  rw[ahF _ _ (adG zi),ahF (some t) (some v) (adG hik),ahF (some t) (some w) (adG hjk)]
 rw[e]at I6
 exact⟨_,H1,I6,q1⟩
end
end L2
namespace Gen
open PySem L2
theorem zw{σ:St}{H:Hp}{A B:Hp->Prop}(h:A H):nY σ H (λb H3=>if b=true then A H3 else B H3):=by
 show (if true=true then A H else B H)
 rw[adM rfl]
 exact h
theorem OY:(["_law_k", "_law_cell"]:List Str).Nodup:=by decide+kernel
abbrev jX(Q:VK)(s0 s1 s3:Int)(H:Hp):Prop:=
 ∀(m:Addr) (M:aR) (names:List Str) (a1 a2 a3 a4 a5 a6:Addr) (H':Hp),dj M names->names.length<=88->((M.switches.length:Int)<=s0/\M.switches.length<=12)->((M.keepers.length:Int)<=s1/\M.keepers.length<=16)->M.gates.length<=60->M.nexts.length<=16->1<=M.nevers.length->(M.nevers.length:Int)<=s3->(M.somes.length:Int)<=s3->
  ir H' m M a1 a2 a3 a4 a5 a6->ak H H'->Q (.ref m) H'
inductive xt(K:W.Frag) (vs:List V) (H:Hp) (Q:VK):Prop
 | mk (ce z:Addr) (c0 c1 c2 s0 s1 s2 s3:Int) (h1:vs=[.ref ce,.ref z]) (h2:aw K H ce [.int c0,.int c1,.int c2]) (h3:gG K H z s0 s1 s2 s3) (h4:(∃o,H z=some o)) (h5:jX Q s0 s1 s3 H):xt K vs H Q
def pB(K:W.Frag):Sp:=λvs H Q _=>xt K vs H Q
section
variable {P:Program}{w:World}{K:W.Frag}{mg:Str->Option Value}{base:Heap}{fP fS fL fW fR:Addr}{dP dS dL dW dR:FuncData}
theorem Gj{f:Addr}{fd:FuncData}(F:b0 K "_law_machine_digits" "_law_machine_digits" dY f fd)(G:Defs P w K mg base fP fS fL fW fR dP dS dL dW dR):ay P w K mg base aC 4 f fd qO (pB K):=by
 refine F.ok fU (λvs H Q E h=>?_) (λcdv A outer s H vs Q E hr h=>?_)
 . obtain⟨ce,z,c0,c1,c2,s0,s1,s2,s3,rfl,_⟩:=h
   rfl
 . obtain⟨ce,z,c0,c1,c2,s0,s1,s2,s3,rfl,Cf,hz,⟨oz,sV⟩,kk⟩:=h
   have cC:aZ 1 _:=hr.mono (by decide)
   have oC:aZ 2 _:=hr.mono (by decide)
   obtain⟨tA,hA,rA⟩:=SY G (outer:=outer) (H:=H) (E:=E) (Q:=Q) hr
   refine⟨_,ai (MJ (i:=3) (j:=4) (k:=5) rfl fU.nd rfl rfl rfl (by decide) (by decide) (by decide) rfl rfl rfl (aa (cK (aa (aK (r:=eS K) a0 (pv 0) ao (λ_ _=>rfl)) ag)) (aa (cK (aa (aK (r:=eS K) a0 (pv 0) ao (λ_ _=>rfl)) ag)) (aa (cK (aa (aK (r:=eS K) a0 (pv 0) ao (λ_ _=>rfl)) ag)) ag))) rfl)
    (ai (aD (i:=6) fU.nd rfl (Or.inl rfl) (cK ag))
    (ai (dJ ad6 rfl (cW rfl G.T.range (aa (aE G.gP cC rfl G.mP G.kP G.bP .nil aA (aa (pv 3) (aa (aT fh (aK qE (pv 1) ao (λ_ _=>rfl)) ao) ag))) ag)) (aH (i:=2) fU.nd rfl (Or.inl rfl))
     (av (eu (eV adZ ad7 ad8 d7 (pv 6) (aa (aE G.gS oC rfl G.mS G.kS G.bS .nil aA (aa (pv 3) (aa (pv 6) ag))) ag))))) hA)),?_⟩
   obtain⟨_,⟨z0a,z0b⟩,_,_,_,_⟩:=id hz
   refine⟨_,rfl,ce,_,_,.int c0,rfl,rfl,Cf,rfl,(by show 1<=sizeLine;decide),λa fa=>?_⟩
   have t1:ak H (upd H a (.lst [.int c0])):=ak.ax fa
   have qa:(upd H a (.lst [.int c0])) a=some (.lst [.int c0]):=af
   generalize upd H a (.lst [.int c0])=Ha at t1 qa ⊢
   refine⟨_,rfl,ce,_,_,.int c1,rfl,rfl,ak.seq t1 Cf,rfl,(by show 1<=sizeLine;decide),λb OZ=>?_⟩
   have t2:ak Ha (upd Ha b (.lst [.int c1])):=ak.ax OZ
   have qb:(upd Ha b (.lst [.int c1])) b=some (.lst [.int c1]):=af
   have ab:a≠b:=ae qa OZ
   generalize upd Ha b (.lst [.int c1])=Hb at t2 qb ⊢
   refine⟨_,rfl,ce,_,_,.int c2,rfl,rfl,ak.seq (t1.trans t2) Cf,rfl,(by show 1<=sizeLine;decide),λc KD=>?_⟩
   have t3:ak Hb (upd Hb c (.lst [.int c2])):=ak.ax KD
   have hc:(upd Hb c (.lst [.int c2])) c=some (.lst [.int c2]):=af
   have bc:b≠c:=ae qb KD
   have ac:a≠c:=ae (t2 _ _ qa) KD
   show ∃v w z,_/\eF _ _ _ _ (upd Hb c (.lst [.int c2]))
   generalize upd Hb c (.lst [.int c2])=H2 at t3 hc ⊢
   have jy:ak H H2:=t1.trans (t2.trans t3)
   have ha:=t3 _ _ (t2 _ _ qa)
   have hb:=t3 _ _ qb
   have back:∀{Hx:Hp}{d:Addr},ak H Hx->Hx d=none->H d=none:=λs h=>by
    cases e:H _ with
    | none=>rfl
    | some o=>rw[s _ _ e]at h;cases h
   have fb:H b=none:=back t1 OZ
   have fc:H c=none:=back (t1.trans t2) KD
   refine⟨_,_,_,rfl,?_⟩
   . -- names
     refine⟨(by show 0<=sizeLine;decide),λn hn=>?_⟩
     have an:a≠n:=ae ha hn
     have bn:b≠n:=ae hb hn
     have cn:c≠n:=ae hc hn
     have Cb:ak H2 (upd H2 n (.lst [])):=ak.ax hn
     have O0:gG K (upd H2 n (.lst [])) z s0 s1 s2 s3:=(hz.same jy).same Cb
     refine⟨_,rfl,_,rfl,O0.ix (i:=0) (v:=.int s0) rfl ⟨_,_,rfl,rfl,a,_,_,rfl,(by rw[ah an];exact ha),.inl ⟨_,rfl⟩,by omega,by omega,λd Gg H4 d0 d1 zp KC qR=>?_⟩⟩
     have Kz:H4 n=some (.lst []):=qR n _ af (adG an)
     have Xa:aX H H4 a:=((ak.keep jy a).trans (ak.keep Cb a)).trans qR
     have k24:aX H2 H4 a:=(ak.keep Cb a).trans qR
     refine⟨_,rfl,by omega,by omega,gj (n:=d.toNat) (λi σ H5=>∃(sw:List Str) (v2:Option V) (ys:List V),
      σ=[some (.ref ce),some (.ref z),v2,some (.ref a),some (.ref b),some (.ref c),some (.ref n),none,none,none,none,none,none,none,none,none,none]/\sw.length=i/\sw.Nodup/\(∀x∈sw,bg x)/\H5 n=some (.lst (sw.map V.str))/\eB ys/\H5 a=some (.lst ys)/\eI H2 H5 a n) ?_ ?_ ?_⟩
     . exact⟨[],none,Gg,rfl,rfl,aex,(λ_ h=>nomatch h),Kz,zp,KC,k24.to2 n⟩
     . rintro i σ H5 hi ⟨sw,v2,ys,rfl,nF,IS,gU,qg,eW,xm,fk⟩
       refine⟨_,rfl,.inl ⟨rfl,_,aw.of qg⟩,_,rfl,_,rfl,a,n,ys,sw,rfl,xm,eW,adG an,aw.of qg,by omega,λnw kY H6 ze uR uY Ge Cd=>?_⟩
       have Gh:H6 n=some (.lst (sw.map V.str)):=Cd n _ qg (adG an)
       refine⟨n,_,_,rfl,rfl,Gh,(by rw[abc];exact small (by omega)),?_⟩
       refine⟨sw++[nw],_,kY,rfl,(by rw[adm,ad2,nF]),pw IS uR,λx hx=>?_,?_,uY,(by rw[ah an];exact Ge),(fk.trans (Cd.to2 n)).trans eI.SS⟩
       . rcases adu.mp hx with hx|hx
         . exact gU x hx
         . rw[adJ.mp hx];exact ze
       . rw[af,adp]
         rfl
     . rintro σ H5 ⟨sw,v2,ys,rfl,nF,IS,gU,qg,eW,xm,fk⟩
       have KA:=fk b _ hb (adG ab) bn
       have Ky:=fk c _ hc (adG ac) cn
       have old:∀x o,H x=some o->x≠a/\x≠b/\x≠c/\x≠n:=λx o hx=>⟨ae hx fa,ae hx fb,ae hx fc,ae (jy x o hx) hn⟩
       have xu:ak H H5:=λx o hx=>fk x o (jy x o hx) (old x o hx).1 (old x o hx).2.2.2
       obtain⟨za,zb,zc,zn⟩:=old z oz sV
       refine rA _ H5 (some (.ref ce)) v2 z a b c n s0 s1 s2 s3 sw rfl ⟨⟨ys,xm,eW⟩,⟨_,KA,.inl ⟨_,rfl⟩⟩,⟨_,Ky,.inl ⟨_,rfl⟩⟩,hz.same xu,za,zb,zc,zn,ab,ac,bc,qg,adG an,adG bn,adG cn,by omega,gU,IS⟩ ?_
       intro m M names a1 a2 a3 a4 a5 a6 H' eM ok l1 l2 l3 l4 l5 l6 l7 hM zj
       refine kk m M names a1 a2 a3 a4 a5 a6 H' ok l1 ⟨by rw[eM];omega,by rw[eM];omega⟩ l2 l3 l4 l5 l6 l7 hM λx o hx=>?_
       obtain⟨q1,q2,q3,q4⟩:=old x o hx
       exact zj x o (xu x o hx) q1 q2 q3 q4
end
inductive u7(K:W.Frag) (vs:List V) (H:Hp) (Q:VK):Prop
 | mk (a z:Addr) (ns:List Int) (s0 s1 s2 s3:Int) (h1:vs=[.ref a,.ref z]) (h2:aw K H a (ns.map V.int)) (h3:gG K H z s0 s1 s2 s3) (h4:(∃o,H z=some o)) (h5:jX Q s0 s1 s3 H):u7 K vs H Q
def qS(K:W.Frag):Sp:=λvs H Q _=>u7 K vs H Q
abbrev O1:List Str:=["_law_script", "_law_sizes", "_law_cells"]
abbrev vZ:List Str:=["_law_script", "_law_sizes"]
theorem DS:aQ O1 vZ (ar gz):=⟨rfl,rfl,rfl,by decide+kernel,rfl,by decide+kernel,by decide+kernel⟩
theorem ZI:(["_law_k", "_law_script"]:List Str).Nodup:=by decide+kernel
abbrev S6(P:Program)(w:World)(K:W.Frag)(mg:Str->Option Value)(base:Heap)(f:Addr)(cdv:Value)(A:Around)(outer:List Env)(s:Shared)(H:Hp)(E:XK):Cx:=
 (o9 aC P w K mg base O1 "_law_machine" (ar gz) f cdv A outer s H E).yD
theorem jX.same{Q:VK}{s0 s1 s3:Int}{H H1:Hp}(k:jX Q s0 s1 s3 H)(s:ak H H1):jX Q s0 s1 s3 H1:=λm M names a1 a2 a3 a4 a5 a6 H' ok l1 l0 l2 l3 l4 l5 l6 l7 hM s1=>k m M names a1 a2 a3 a4 a5 a6 H' ok l1 l0 l2 l3 l4 l5 l6 l7 hM (s.trans s1)
section
variable {P:Program}{w:World}{K:W.Frag}{mg:Str->Option Value}{base:Heap}{fD fC fR:Addr}{dD dC dR:FuncData}
theorem Gk(gD:ay P w K mg base aC 4 fD dD qO (pB K)) (mD:mg "_law_machine_digits" = some (.ref fD)) (kD:W.keepIn K (.ref fD)=true) (bD:Binds K dD qO [])
 {f:Addr}{cdv:Value}{A:Around}{outer:List Env}{s:Shared}{H:Hp}{E:XK}{Q:VK}(hr:aZ 4 (A.deeper (PyProof.Rows.envOfC "_law_machine" (ar gz) s.heap.objs.size f cdv))) :
 ∃tR:TS,ja (S6 P w K mg base f cdv A outer s H E) (List.drop 2 (aJ gz)) tR/\∀(H1:Hp) (v0:Option V) (z D:Addr) (c0 c1 c2 s0 s1 s2 s3:Int),H1 D=some (.lst [.int c0,.int c1,.int c2])->gG K H1 z s0 s1 s2 s3->(∃o,H1 z=some o)->jX Q s0 s1 s3 H1->
  tR {nx:=λ_ H'=>Q .aY H',rt:=Q} [v0,some (.ref z),some (.ref D)] H1:=by
 refine⟨_,av (aN (aE gD hr rfl mD kD bD .nil aA (aa (cK (aa (aK a0 (pv 2) ao (λ_ _=>rfl)) (aa (aK a0 (pv 2) ao (λ_ _=>rfl)) (aa (aT rL (aK a0 (pv 2) ao (λ_ _=>rfl)) ao) ag)))) (aa (pv 1) ag)))),?_⟩
 intro H1 v0 z D c0 c1 c2 s0 s1 s2 s3 hD hz sV kk
 refine⟨_,rfl,D,_,_,.int c0,rfl,rfl,aw.of hD,rfl,_,rfl,D,_,_,.int c1,rfl,rfl,aw.of hD,rfl,_,rfl,D,_,_,.int c2,rfl,rfl,aw.of hD,rfl,_,_,rfl,rfl,⟨by decide,by decide⟩,(by show 3<=sizeLine;decide),λp hp=>?_⟩
 have qU:ak H1 (upd H1 p (.lst [.int c0,.int c1,.int (c2 / 2)])):=ak.ax hp
 obtain⟨o,ho⟩:=sV
 exact⟨_,rfl,p,z,c0,c1,c2 / 2,s0,s1,s2,s3,rfl,aw.of af,hz.same qU,⟨o,qU z o ho⟩,kk.same qU⟩
theorem DT{f:Addr}{fd:FuncData}(F:b0 K "_law_machine" "_law_machine" gz f fd)(T:Own mg) (gD:ay P w K mg base aC 4 fD dD qO (pB K)) (mD:mg "_law_machine_digits" = some (.ref fD)) (kD:W.keepIn K (.ref fD)=true) (bD:Binds K dD qO [])
 (gC:ay P w K mg base aC 1 fC dC ["_law_script", "_law_k"] (qH K)) (mC:mg "_law_cell_at" = some (.ref fC)) (kC:W.keepIn K (.ref fC)=true) (bC:Binds K dC ["_law_script", "_law_k"] [])
 (gR:ay P w K mg base aC 2 fR dR ["_law_cell", "_law_k"] qI) (mR:mg "_law_rich" = some (.ref fR)) (kR:W.keepIn K (.ref fR)=true) (bR:Binds K dR ["_law_cell", "_law_k"] []) :
 ay P w K mg base aC 5 f fd vZ (qS K):=by
 refine F.ok DS (λvs H Q E h=>?_) (λcdv A outer s H vs Q E hr h=>?_)
 . obtain⟨a,z,ns,s0,s1,s2,s3,rfl,_⟩:=h
   rfl
 . obtain⟨a,z,ns,s0,s1,s2,s3,rfl,hS,hz,⟨oz,sV⟩,kk⟩:=h
   have cC:aZ 1 _:=hr.mono (by decide)
   have oC:aZ 2 _:=hr.mono (by decide)
   obtain⟨tR,hR,rR⟩:=Gk gD mD kD bD (outer:=outer) (H:=H) (E:=E) (Q:=Q) hr
   refine⟨_,ai (uK (i:=2) (N:=["_law_k", "_law_script"]) (js:=[none,some 0]) DS.nd rfl rfl (by kernel_rfl) rfl (cW rfl T.range (aa ao ag)) (λ_ _ _ _ _ _=>aH (i:=0) ZI rfl (Or.inl rfl) (.inr rfl)) (λ_ _ _ _ _ _=>bQ)
    (λ_ _ _ _ _ _=>aE gC cC rfl mC kC bC .nil aA (aa (pv 1) (aa (pv 0) ag))))
    (ai (cw (cF jr (aT jq (aK a0 (pv 2) ao (λ_ _=>rfl)) ao) ao (cU _))
     (av (uK (i:=2) (N:=["_law_k", "_law_cell"]) (js:=[none,none]) (g:=Dn K 2 (o7 (fg 0) (o7 (fg 1) Dm))) DS.nd rfl rfl (by kernel_rfl) rfl (BZ rfl T.enum (aa (pv 2) ag))
      (λ_ _ _ _ _ _=>jm rfl (cg (aH (i:=0) OY rfl (Or.inl rfl) (.inr rfl)) (cg (aH (i:=1) OY rfl (Or.inl rfl) (.inr rfl)) iA))) (λ_ _ _ _ _ _=>bQ)
      (λ_ _ _ _ _ _=>aE gR oC rfl mR kR bR .nil aA (aa (pv 1) (aa (pv 0) ag))))) bf) hR),?_⟩
   refine⟨3,rfl,by decide,by decide,λD hD=>?_⟩
   have nzD:z≠D:=ae sV hD
   refine fQ 3 (λi acc σ H2=>(∃cs:List Int,acc=cs.map V.int/\cs.length=i)/\(∃v,σ=[v,some (.ref a)])/\H2=upd H D (.lst acc)) ⟨⟨[],rfl,rfl⟩,⟨none,rfl⟩,rfl⟩ af ?_ ?_
   . rintro acc σ H2 cQ ⟨⟨cs,rfl,gQ⟩,_,rfl⟩
     obtain⟨c0,c1,c2,rfl⟩:∃c0 c1 c2,cs=[c0,c1,c2]:=by
      match cs,gQ with
      | [c0,c1,c2],_=>exact⟨c0,c1,c2,rfl⟩
     refine⟨adn _,?_⟩
     have qh:ak H (upd H D (.lst [.int c0,.int c1,.int c2])):=ak.ax hD
     refine⟨_,rfl,D,_,_,.int c2,rfl,rfl,aw.of af,rfl,_,_,rfl,rfl,(by show (0:Int)<2;decide),rfl,_,rfl,?_⟩
     refine iZ (λ_=>?_) (λ_=>?_)
     . refine⟨_,rfl,D,rfl,⟨_,aw.of af⟩,λD2 qL=>?_⟩
       have nDD:D≠D2:=ae af qL
       refine fQ 3 (λi acc σ H3=>(∃cs:List Int,acc=cs.map V.int/\cs.length=i)/\(∃u v,σ=[u,v])/\ak (upd H D (.lst [.int c0,.int c1,.int c2])) H3) ⟨⟨[],rfl,rfl⟩,⟨none,none,rfl⟩,ak.ax qL⟩ af ?_ ?_
       . rintro acc σ H3 DU ⟨⟨cs,rfl,IT⟩,_,zx⟩
         obtain⟨e0,e1,e2,rfl⟩:∃c0 c1 c2,cs=[c0,c1,c2]:=by
          match cs,IT with
          | [c0,c1,c2],_=>exact⟨c0,c1,c2,rfl⟩
         refine⟨⟨_,aw.of (zx D _ af),adn _⟩,?_⟩
         have lH:=qh.trans zx
         exact rR H3 _ z D2 e0 e1 e2 s0 s1 s2 s3 DU (hz.same lH) ⟨oz,lH z oz sV⟩ (kk.same lH)
       . rintro i acc σ H3 hi DU ⟨⟨cs,rfl,IT⟩,⟨u,v,rfl⟩,zx⟩
         obtain⟨ci,hx⟩:∃ci:Int,[V.int c0,V.int c1,V.int c2][i]?=some (.int ci):=by
          rcases (show i=0\/i=1\/i=2 by omega) with rfl|rfl|rfl
          . exact⟨_,rfl⟩
          . exact⟨_,rfl⟩
          . exact⟨_,rfl⟩
         have xa:H3 D=some (.lst [V.int c0,V.int c1,V.int c2]):=zx D _ af
         refine⟨⟨_,_,aw.of xa,hx⟩,?_⟩
         rintro x H' ⟨Tp,xv,rfl,BX,rfl,ib⟩
         have ex:=ib _ (aw.of xa)
         rw[hx]at ex
         cases ex
         refine⟨Tp,_,rfl,aS.of af,rfl,_,_,rfl,_,_,rfl,rfl,zw ?_⟩
         have nDT:D2≠Tp:=ae DU BX
         refine⟨_,rfl,_,rfl,_,_,rfl,by omega,by omega,λv'=>⟨_,(by rw[ah nDT];exact DU),(by rw[abc];exact small (by omega)),cP hi af ⟨⟨cs++[v'],?_,?_⟩,⟨_,_,rfl⟩,λy o hy=>?_⟩⟩⟩
         . rw[adp];rfl
         . rw[adm,ad2,IT]
         . have e3:=zx y o hy
           rw[ah (ae hy qL),ah (ae e3 BX)]
           exact e3
     . exact rR _ _ z D c0 c1 c2 s0 s1 s2 s3 af (hz.same qh) ⟨oz,qh z oz sV⟩ (kk.same qh)
   . rintro i acc σ H2 hi cQ ⟨⟨cs,rfl,gQ⟩,⟨v,rfl⟩,rfl⟩
     refine⟨hi,?_⟩
     rintro x H' ⟨rfl,rfl⟩
     refine dv ?_
     refine⟨_,rfl,_,rfl,a,ns,_,rfl,ak.seq (ak.ax hD) hS,by omega,λv'=>⟨_,af,(by rw[abc];exact small (by omega)),cP hi af ⟨⟨cs++[v'],?_,?_⟩,⟨_,rfl⟩,by rw[gd]⟩⟩⟩
     . rw[adp];rfl
     . rw[adm,ad2,gQ]
end
end Gen
namespace PySem
open Sem (wp)
theorem pC:typeLookup (.type "list") "__getattr__" = pure none:=by rw[typeLookup_type,builtinLookup_eq_fast];kernel_rfl
theorem sH:typeLookup (.type "list") "keys" = pure none:=by rw[typeLookup_type,builtinLookup_eq_fast];kernel_rfl
theorem pD{A:Around}{prog:Program}{w:World}{Q:Fin->Shared->Prop}{E:Value->Shared->Prop}{h:Heap}{g d t os} {a:Addr}{items:Array Value}{n:Nat}(u:Tok) (hx:h.get? a=some {cls:=.type "list",data:=.seq items n}) (hh:A.handled=none)
 (hE:∀h' tk e,Heap.NewAttrErr h h' e (.ref a) "keys" -> E (.ref e) ⟨h',g,d,tk,os⟩) :
 wpAny (model prog w) A (Builtin.«object.__getattribute__» ⟨[.ref a,.str "keys" u],[]⟩) Q E ⟨h,g,d,t,os⟩:=by
 have hT:∀t',(⟨h,g,d,t',os⟩:Shared).TypeIs (.ref a) "list":=λt'=>⟨_,hx,rfl⟩
 have O3:=hT t
 have ah3:=sH
 have hc:[Str.ofString "__module__",Str.ofString "__name__",Str.ofString "__qualname__",Str.ofString "__doc__",Str.ofString "__annotations__"].contains (Str.ofString "keys")=false:=by decide+kernel
 unfold Builtin.«object.__getattribute__»
 repeat (any_goals (first|assumption|wp_step|refine wpAny_ite_false hc ?_))
 all_goals first
  | exact wpAny_raiseAttrError hh hE (attrMsg_fits (by decide+kernel) (by decide))
  | skip
theorem zy{A:Around}{prog:Program}{w:World}{R:Result->Shared->Prop}{h:Heap}{g d t os} {a:Addr}{items:Array Value}{n:Nat}{u:Tok}(hx:h.get? a=some {cls:=.type "list",data:=.seq items n}) (hh:A.handled=none)
 (hE:∀h' tk e,Heap.NewAttrErr h h' e (.ref a) "keys" -> R (.error (.ref e)) ⟨h',g,d,tk,os⟩) :
 codeAny (model prog w) A (.call (.builtin "list.__getattribute__") ⟨[.ref a,.str "keys" u],[]⟩) R ⟨h,g,d,t,os⟩:=
 codeAny_call_builtin ae4.plain F.entry_list_ga (ae4.check _ _ _ _ _ _ _ _ (show (⟨h,g,d,t,os⟩:Shared).TypeIs (.ref a) "list" from⟨_,hx,rfl⟩) (F.args_list_getattribute_2 _ _) (pD u hx hh hE))
theorem zz{A:Around}{prog:Program}{w:World}{E:Value->Shared->Prop}{h:Heap}{g d t os} {a:Addr}{items:Array Value}{n:Nat}{Q:Option Value->Shared->Prop}(hx:h.get? a=some {cls:=.type "list",data:=.seq items n}) (hh:A.handled=none)
 (hQ:∀h' tk,(∀b o,h.get? b=some o->h'.get? b=some o)->Q none ⟨h',g,d,tk,os⟩):wpAny (model prog w) A (getAttr? (.ref a) "keys") Q E ⟨h,g,d,t,os⟩:=by
 have hT:(⟨h,g,d,t,os⟩:Shared).TypeIs (.ref a) "list":=⟨_,hx,rfl⟩
 have f1:=sub_AttributeError
 have f2:=ae4.lookup
 have f3:=ae4.bind (.ref a)
 have f5:=pC
 unfold getAttr? getAttrBy? getAttrBy
 repeat (any_goals (first|assumption|((with_reducible show codeAny _ _ (Code.call (Value.builtin "list.__getattribute__") _) _ _);refine zy hx hh ?_;intro h' Gm e qk;obtain⟨t1,u1,he⟩:=qk.there)|wp_step))
 exact hQ h' Gm qk.keeps
namespace F
theorem jz:entryFor table "dict.update.loop" = some Builtin.«dict.update.loop»:=entryFor_of_tree (by kernel_rfl)
theorem eJ:plainId "dict.update.loop" = true:=by decide+kernel
end F
section
variable {prog:Program}{w:World}{K:Type}[DecidableEq K] {knd:KeyKind prog w K}{A:Around}{R:Result->Shared->Prop}
def zA(knd:KeyKind prog w K)(h:Heap)(u:Value)(kv:K×Value):Prop:=∃t key,u=.ref t/\h.IsTuple t #[key,kv.2]/\knd.is kv.1 key=true
theorem v9{d it l:Addr}{items:Array Value}{kvs:List (K×Value)}(O4:d≠it) (jM:d≠l) (sU:l≠it) (hz:kvs.length<=sizeLine) (hh:A.handled=none) :
 ∀(k i:Nat) (s:Shared) (tk:Tok) (acc:List (K×Value)),items.size-i=k->i<=items.size->kvs.length=items.size->s.heap.IsListIter it l i->s.heap.IsList l items->s.heap.DictOf knd d acc->acc.length<=i->
 (∀(j:Nat) (u:Value) (kv:K×Value),items[j]?=some u->kvs[j]?=some kv->zA knd s.heap u kv/\(∀t,u=.ref t->t≠d/\t≠it))->
 (∀h' tk,h'.DictOf knd d ((kvs.drop i).foldl (λa kv=>stored a kv.1 kv.2) acc)->(∀b o,b≠d->b≠it->s.heap.get? b=some o->h'.get? b=some o)->R (.ok (.ret .none)) {s with heap:=h',toks:=tk})->
 codeAny (model prog w) A (.builtin "dict.update.loop" ⟨[.ref d,.ref it,.int (i:Int) tk,.none],[]⟩) R s:=by
 intro k
 induction k with
 | zero=>
  intro i s tk acc hk hi hlen hit hl hd ZJ hp hR
  have hin:i=items.size:=by omega
  refine codeAny_builtin F.jz ?_
  rw[Around.under_plainId F.eJ _]
  show wpAny _ A.in1 (pyNext (.ref it) >>= _) _ _ s
  refine adk (wpAny_pyNext_list_end (A:=A.in1) hh hit hl (Array.getElem?_eq_none (by omega)) λh' he=>?_)
  refine adk (adv (adv ?_))
  have hd':h'.DictOf knd d acc:=let ⟨o,es,ep,ho,r⟩:=hd; ⟨o,es,ep,he d o O4 ho,r⟩
  refine hR h' s.toks ?_ λb o _ hb e=>he b o hb e
  rw[List.drop_of_length_le (by omega)]
  exact hd'
 | succ k ih=>
  intro i s tk acc hk hi hlen hit hl hd ZJ hp hR
  have eN:i<items.size:=by omega
  have hx:items[i]?=some items[i]:=Array.getElem?_eq_getElem eN
  have bb:kvs[i]?=some kvs[i]:=adj (by omega)
  obtain⟨⟨t,key,ht,ZL,jt⟩,hne⟩:=hp i _ _ hx bb
  obtain⟨ntd,nti⟩:=hne t ht
  refine codeAny_builtin F.jz ?_
  rw[Around.under_plainId F.eJ _]
  show wpAny _ A.in1 (pyNext (.ref it) >>= _) _ _ s
  refine adk (wpAny_pyNext_list_item hit hl hx λh1 ZM Gn=>?_)
  rw[ht]
  have S7:h1.IsTuple t #[key,(kvs[i]).2]:=let ⟨o,e,r⟩:=ZL; ⟨o,(Gn.2 t nti).trans e,r⟩
  refine adk (aeH (adk ?_))
  refine wpAny_tryCatch ?_
  unfold Builtin.Dict.pairItems
  obtain⟨ot,e1,OK,n1,Gp⟩:=id S7
  refine adk (ahc (show ({s with heap:=h1} : Shared).TypeIs (.ref t) "tuple" from⟨ot,e1,OK⟩) ?_)
  rw[adM (by decide)]
  refine adk (aeh e1 Gp (adv ?_))
  show wpAny _ A.in1 (holding [key,(kvs[i]).2] (dictSet d key (kvs[i]).2)) _ _ _
  refine aeH ?_
  unfold dictSet
  try with_reducible refine aeH ?_
  have zB:h1.DictOf knd d acc:=let ⟨o,es,ep,ho,r⟩:=hd; ⟨o,es,ep,(Gn.2 d O4).trans ho,r⟩
  refine adk (knd.pyHash jt ?_)
  refine wpAny_dictSetHashed_pairs jt zB (λh2 hd2 uw=>?_) (by omega)
  refine adv ⟨plainId_quiet F.eJ _,?_⟩
  have er:rawInt ((i:Int)+1)=Value.int (((i+1:Nat):Nat):Int) 0:=by simp[rawInt]
  rw[er]
  have keep:∀b o,b≠d->b≠it->s.heap.get? b=some o->h2.get? b=some o:=λb o b1 b2 e=>(uw.2 b b1).trans ((Gn.2 b b2).trans e)
  refine ih (i+1) _ 0 (stored acc (kvs[i]).1 (kvs[i]).2) (by omega) (by omega) hlen ?_ ?_ hd2 ?_ ?_ ?_
  . obtain⟨o,e,r⟩:=ZM
    exact⟨o,(uw.2 it (adG O4)).trans e,r⟩
  . obtain⟨o,e,r⟩:=hl
    exact⟨o,keep l o (adG jM) sU e,r⟩
  . have:=stored_length_le acc (kvs[i]).1 (kvs[i]).2
    omega
  . intro j u kv hu DV
    obtain⟨⟨t',ZN,e',ht',lF⟩,O5⟩:=hp j u kv hu DV
    obtain⟨a1,a2⟩:=O5 t' e'
    obtain⟨o,e,r⟩:=ht'
    exact⟨⟨t',ZN,e',⟨o,keep t' o a1 a2 e,r⟩,lF⟩,O5⟩
  . intro h' Gm hd' lF
    refine hR h' Gm ?_ λb o b1 b2 e=>lF b o b1 b2 (keep b o b1 b2 e)
    rw[aeJ (by omega),afI]
    exact hd'
end
section
variable {prog:Program}{w:World}{K:Type}[DecidableEq K] {knd:KeyKind prog w K}{A:Around}{E:Value->Shared->Prop}{s:Shared}
theorem zC{l:Addr}{items:Array Value}{n:Nat}{kvs:List (K×Value)}{Q:Value->Shared->Prop}(hh:A.handled=none) (hl:s.heap.get? l=some {cls:=.type "list",data:=.seq items n}) (hlen:kvs.length=items.size) (hz:kvs.length<=sizeLine)
 (hp:∀(j:Nat) (u:Value) (kv:K×Value),items[j]?=some u->kvs[j]?=some kv->zA knd s.heap u kv)
 (h:∀h' tk,h'.DictOf knd s.heap.objs.size (merged [] kvs)->(∀b o,s.heap.get? b=some o->h'.get? b=some o)->Q (.ref s.heap.objs.size) {s with heap:=h',toks:=tk}) :
 wpAny (model prog w) A (call (.type "dict") [.ref l]) Q E s:=by
 refine callType_codes (Q₁:=λobj dw=>obj=.ref s.heap.objs.size/\dw = {s with heap:=s.heap.push {cls:=.type "dict",data:=.dict #[] } }) F.kt_called_dict (F.kt_typeCall_dict_1 _) F.entry_dict_init (kt_code_dict_new _ ⟨rfl,rfl⟩) ?_
 rintro obj dw ⟨rfl,rfl⟩
 have jA:(s.heap.push {cls:=.type "dict",data:=.dict #[] }).DictOf knd s.heap.objs.size []:=Heap.DictOf.new s.heap
 have uO:(s.heap.push {cls:=.type "dict",data:=.dict #[] }).get? l=some {cls:=.type "list",data:=.seq items n}:=adl _ hl
 refine⟨jA.typeIs,F.args_dict_init_2 _ _,?_⟩
 unfold Builtin.«dict.__init__»
 refine adk ?_
 unfold Builtin.Dict.selfAndRest
 refine adk (wpAny_notOrdered_dict jA.typeIs ?_)
 show wpAny _ _ (pure (s.heap.objs.size,[Value.ref l])) _ _ _
 refine adv ?_
 show wpAny _ _ (Builtin.Dict.updateFrom "dict.__init__" s.heap.objs.size (.ref l) [] .none) _ _ _
 unfold Builtin.Dict.updateFrom
 refine adk (ahc (show ({s with heap:=s.heap.push {cls:=.type "dict",data:=.dict #[] } } : Shared).TypeIs (.ref l) "list" from⟨_,uO,rfl⟩) ?_)
 rw[adM (by decide)]
 generalize Gn:({s with heap:=s.heap.push {cls:=.type "dict",data:=.dict #[] } } : Shared)=s1 at *
 obtain⟨g1,g2,g3,g4,g5⟩:=s1
 cases Gn
 refine adk (zz uO (by first|exact hh|rfl) λh2 tk2 k2=>?_)
 rw[adM (show (none:Option Value).isNone=true from rfl)]
 have du:h2.get? l=some {cls:=.type "list",data:=.seq items n}:=k2 _ _ uO
 have lt2:∀b o,(s.heap.push {cls:=.type "dict",data:=.dict #[] }).get? b=some o->b<h2.objs.size:=λb o e=>adH (k2 b o e)
 refine adk (afV (adk (agv (s:={heap:=h2,gens:=s.gens,drawn:=s.drawn,toks:=tk2,os:=s.os}) (items:=items) ⟨_,du,rfl,n,rfl⟩ ?_)))
 refine adv ⟨plainId_quiet F.eJ _,?_⟩
 have hd2:h2.DictOf knd s.heap.objs.size []:=let ⟨o,es,ep,ho,r⟩:=jA; ⟨o,es,ep,k2 _ _ ho,r⟩
 have jM:s.heap.objs.size<h2.objs.size:=let ⟨o,es,ep,ho,r⟩:=jA;lt2 _ _ ho
 have F8:l<s.heap.objs.size:=adH hl
 refine v9 (knd:=knd) (d:=s.heap.objs.size) (it:=h2.objs.size) (l:=l) (items:=items) (kvs:=kvs) (adR jM) (ae7 F8) (adR (ag9 F8 jM)) hz (by first|exact hh|rfl) items.size 0 _ 0 [] rfl (adW _) hlen
  ⟨_,adP _ rfl,rfl,rfl⟩ ⟨_,adl _ du,rfl,n,rfl⟩ ?_ (adn _) ?_ ?_
 . obtain⟨o,es,ep,ho,r⟩:=hd2
   exact⟨o,es,ep,adl _ ho,r⟩
 . intro j u kv hu bb
   obtain⟨t,key,e,⟨o,eo,r⟩,hk⟩:=hp j u kv hu bb
   have ht:t<s.heap.objs.size:=adH eo
   refine⟨⟨t,key,e,⟨o,adl _ (k2 _ _ (adl _ eo)),r⟩,hk⟩,λt' e'=>?_⟩
   rw[e]at e'
   cases e'
   exact⟨adR ht,adR (ag9 ht jM)⟩
 . intro h' Gm hd' lF
   refine⟨rfl,h h' Gm ?_ λb o e=>?_⟩
   . simpa[merged]using hd'
   . have hb:b<s.heap.objs.size:=adH e
     exact lF b o (adR hb) (adR (ag9 hb jM)) (adl _ (k2 _ _ (adl _ e)))
end
end PySem
namespace L2
open PySem PySem.Spec PyProof.Rows
section
variable {X:Cx}
theorem KH{P:Program}{w:World}{k:Key}{u:Value}(h:(bt P w).is k u=true):RelV (kV k) u:=by
 rw[Dk]at h
 cases k with
 | inl i=>cases u <;> first|(simp[jj,Value.isInt]at h;done)|(simp[jj,Value.isInt]at h;subst h;exact⟨_,rfl⟩)
 | inr x=>cases u <;> first|(simp[jj,Value.isStrOf]at h;done)|(simp[jj,Value.isStrOf]at h;subst h;exact⟨_,rfl⟩)
theorem pairs_at{P:Program}{w:World}{H:Hp}{h:Heap}(ok:eC P w H h):∀{ts:List Addr}{kvs:List (Key×V)}{us:List Value},Paired (λt kv=>H t=some (.tup [kV kv.1,kv.2])) ts kvs->Vals (ts.map V.ref) us->
 ∃vs:List (Key×Value),KV kvs vs/\Paired (λu kv=>zA (bt P w) h u kv) us vs
 | [],[],us,.nil,r=>by
  cases r
  exact⟨[],.nil,.nil⟩
 | t::ts,kv::kvs,us,.cons e p,r=>by
  cases r with
  | @cons _ u _ W5 ru r'=>
   obtain⟨vs,k1,k2⟩:=pairs_at ok p r'
   cases(show u=Value.ref t from ru)
   obtain⟨_,its,rv,ip⟩:=(show bJ P w H h t (.tup [kV kv.1,kv.2]) from ok t _ e)
   obtain⟨key,val,rfl,rk,rl⟩:=vals2 rv
   exact⟨(kv.1,val)::vs,.cons ⟨rfl,rl⟩ k1,.cons ⟨t,key,rfl,ip,lN rk⟩ k2⟩
theorem nZ{α β:Type}{F:α->β->Prop} : ∀{l₁:List α}{l₂:List β}{i:Nat}{a:α}{b:β},Paired F l₁ l₂->l₁[i]?=some a->l₂[i]?=some b->F a b
 | _,_,i,a,b,.nil,h,_=>by simp at h
 | _,_,0,a,b,.cons h t,e1,e2=>by
  simp at e1 e2
  subst e1 e2
  exact h
 | _,_,i+1,a,b,.cons h t,e1,e2=>nZ (i:=i) t (by simpa using e1) (by simpa using e2)
theorem dq(hc:X.calm=true):fJ X (.type "dict") (λxs H Q=>∃p ts kvs,xs=[.ref p]/\H p=some (.lst (ts.map V.ref))/\Paired (λt kv=>H t=some (.tup [kV kv.1,kv.2])) ts kvs/\∀d,H d=none->Q (.ref d) (upd H d (.dK (bG [] kvs)))):=by
 intro pins s σ H xs us Q I r h
 obtain⟨p,ts,kvs,rfl,hp,hT,q⟩:=h
 obtain⟨u,rfl,rx⟩:=vals1 r
 cases(show u=Value.ref p from rx)
 obtain⟨hz,its,n,rv,e⟩:=(show bJ X.prog X.w H s.heap p (.lst (ts.map V.ref)) from I.hok p _ hp)
 obtain⟨vs,kv,pv⟩:=pairs_at I.hok hT rv
 have l1:vs.length=its.toArray.size:=by rw[adz];exact pv.length.symm
 have l2:kvs.length=vs.length:=kv.length
 have l3:vs.length<=sizeLine:=by
  have:=hT.length
  rw[abc]at hz
  omega
 refine zC (knd:=bt X.prog X.w) (kvs:=vs) (I.ok.hd hc) e l1 l3 (λj u kv hu bb=>nZ pv (by simpa using hu) bb) λh' tk dd kk=>?_
 refine⟨.ref s.heap.objs.size,_,I.laid (a:=s.heap.objs.size) (o:=.dK (bG [] kvs)) kk (adn _) (oq ?_ (aej.mpr (adG (adR I.big))) (KV.merge kv .nil) dd),rfl,q _ (I.hok.fresh (adn _))⟩
 have:=eZ kvs []
 simp at this
 omega
theorem iC:fJ X (.type "dict") (λxs H Q=>∃p kvs,xs=[.ref p]/\Rd H p (.dK kvs)/\∀d,H d=none->Q (.ref d) (upd H d (.dK kvs))):=by
 intro pins s σ H xs us Q I r h
 obtain⟨p,kvs,rfl,hp,q⟩:=h
 obtain⟨u,rfl,rx⟩:=vals1 r
 cases(show u=Value.ref p from rx)
 exact Iq I hp λd s' hd I'=>⟨.ref d,_,I',rfl,q d hd⟩
theorem hJ:fJ X (.builtin "isinstance") (λxs H Q=>∃x t c b,xs=[x,.ty c]/\jR X.K H x t/\W.kitOne X.K t (.type c)=some b/\Q (.bl b) H):=by
 intro pins s σ H xs us Q I r h
 obtain⟨x,t,c,b,rfl,ty,e,q⟩:=h
 obtain⟨u,v,rfl,rx,ry⟩:=vals2 r
 cases(show v=Value.type c from ry)
 exact Fq I rx ty e λtk=>⟨.bl b,H,I.tok _,rfl,q⟩
theorem oI(hc:X.calm=true):fJ X (.type "list") (λxs H Q=>∃p kvs,xs=[.ref p]/\Rd H p (.dK kvs)/\∀l,H l=none->Q (.ref l) (upd H l (.lst (kvs.map λkv=>kV kv.1)))):=by
 intro pins s σ H xs us Q I r h
 obtain⟨p,kvs,rfl,hp,q⟩:=h
 obtain⟨u,rfl,rx⟩:=vals1 r
 cases(show u=Value.ref p from rx)
 obtain⟨z,hd,vs,rel,dd⟩:=jw I.hok hp
 obtain⟨ep,da⟩:=dd.dictAt
 have hlen:kvs.length=vs.length:=rel.length
 refine W.kdl_call (W.kdl_dict (knd:=bt X.prog X.w) (ep:=ep) hd) (I.ok.hd hc) da (by omega) λh' tk IU c' kk e it=>?_
 have rv:Vals (kvs.map λkv=>kV kv.1) IU.toList:=by
  obtain⟨i1,i2⟩:=it
  have gen:∀(kvs:List (Key×V)) (vs:List (Key×Value)) (us:List Value),KV kvs vs->us.length=vs.length->(∀(j:Nat) v,us[j]?=some v->∃k x,vs[j]?=some (k,x)/\(bt X.prog X.w).is k v=true)->Vals (kvs.map λkv=>kV kv.1) us:=by
   intro kvs vs us kv
   induction kv generalizing us with
   | nil=>
    intro hl _
    have:us=[]:=afb.mp hl
    subst this
    exact .nil
   | @cons a b as bs hab t ih=>
    intro hl hu
    match us,hl with
    | u::us,hl=>
     obtain⟨k,x,e1,e2⟩:=hu 0 u rfl
     simp at e1
     have ek:k=a.1:=by rw[hab.1,e1]
     subst ek
     refine .cons (KH e2) (ih us (by simpa using hl) λj v hj=>?_)
     obtain⟨k',x',e3,e4⟩:=hu (j+1) v (by simpa using hj)
     exact⟨k',x',by simpa using e3,e4⟩
  exact gen kvs vs IU.toList rel (by rw[ae8,i1]) λj v hj=>i2 j v (by rw[← af5];exact hj)
 refine⟨.ref s.heap.objs.size,_,I.laid (t':=tk) kk (adn _) (show bJ X.prog X.w _ h' _ (.lst (kvs.map λkv=>kV kv.1)) from⟨by rw[abc];exact z,IU.toList,c',rv,by simpa using e⟩),rfl,q _ (I.hok.fresh (adn _))⟩
end
section
variable {X:Cx}{pins:List (Addr×Obj)}{σ:St}{H:Hp}{s:Shared}{d:Addr}{kvs:List (Key×V)}
theorem Inv.freeze(I:Inv X pins σ H s) (e:H d=some (.dK kvs)):∃o,s.heap.get? d=some o/\Inv X pins σ (upd H d (.gh o (.dK kvs))) s:=by
 obtain⟨z,hd,vs,rel,dd⟩:=uy I.hok e
 obtain⟨o,es,ep,ho,r⟩:=id dd
 refine⟨o,ho,I.write (x:=d) (e:=d) (t':=s.toks) (h':=s.heap) (by rw[e];trivial) (.inl rfl) (λb u _ q=>q) ⟨o,ho⟩ (show bJ X.prog X.w _ s.heap d (.gh o (.dK kvs)) from⟨ho,oq z hd rel dd⟩)⟩
end
section
variable {X:Cx}
def Gq(d:Addr)(o:Obj) (kvs:List (Key×V)):It:=⟨λi H=>H d=some (.gh o (.dK kvs))/\i<kvs.length,λi H x H'=>H'=H/\∃kv,kvs[i]?=some kv/\x=kV kv.1,λi H=>H d=some (.gh o (.dK kvs))/\i=kvs.length⟩
theorem Gr{P:Program}{w:World}{K:W.Frag}{tg:Expr}{d it:Addr}{o:Obj}{es:Array DictEntry}{ep:Nat}{kvs:List (Key×V)}(hd:o.data=.dict es ep) (hne:d≠it):Turn P w K tg (Gq d o kvs) [it] it (λi h=>h.IsKeyIter it d i kvs.length ep) where
 mem:=by simp
 obj:=λi h st b hb=>by
  have e:b=it:=by simpa using hb
  subst e
  obtain⟨o,e,c,d⟩:=st
  exact⟨o,e,λv z=>by rw[d]at z;cases z⟩
 keep:=λi h h' st k=>let ⟨o,e,r⟩:=st; ⟨o,k it (by simp) o e,r⟩
 item:=by
  intro X hP hw hK hc i pins s σ H E I hf st hg
  subst hP hw hK
  obtain⟨f0,f1,f2,f3,f4,f5⟩:=hf it (by simp)
  obtain⟨g1,g2⟩:=hg
  obtain⟨ho,z,hs,vs,rel,o',E7,E8,lE,r'⟩:=(show bJ X.prog X.w H s.heap d (.gh o (.dK kvs)) from I.hok d _ g1)
  rw[ho]at lE
  cases lE
  have zB:=r'.2.1
  rw[hd]at zB
  cases zB
  have hl:kvs.length=vs.length:=rel.length
  refine(Walks.dictKeys (knd:=bt X.prog X.w) (I.ok.hd hc) it d hne vs ep).item i s _ _ (by omega) ⟨by rw[← hl];exact st,o,es,ho,r'⟩ λv h' tk hv cj kk=>?_
  obtain⟨k,x,ek,ik⟩:=hv
  have I1:Inv X pins σ H {s with heap:=h',toks:=tk}:=I.turned (λb o hb e=>kk b o (by simpa using hb) e) f0 f1 f3 f4 f5
  have sL:h'.IsKeyIter it d (i+1) kvs.length ep:=by rw[hl];exact cj.1
  obtain⟨oi,e,oc,od⟩:=id sL
  have Xb:kvs[i]?=some kvs[i]:=adj g2
  have KI:(kvs[i]).1=k:=(nZ rel Xb ek).1
  exact⟨_,rfl,uu (s:={s with heap:=h',toks:=tk}) e oc od (by decide) ⟨kV k,H,I1,KH ik,⟨rfl,_,Xb,by rw[KI]⟩,sL,λb hb=>(hf b hb).1⟩⟩
 done:=by
  intro X hP hw hK hc i pins s σ H E I hf st hg
  subst hP hw hK
  obtain⟨f0,f1,f2,f3,f4,f5⟩:=hf it (by simp)
  obtain⟨g1,g2⟩:=hg
  subst g2
  obtain⟨ho,z,hs,vs,rel,o',E7,E8,lE,r'⟩:=(show bJ X.prog X.w H s.heap d (.gh o (.dK kvs)) from I.hok d _ g1)
  rw[ho]at lE
  cases lE
  have zB:=r'.2.1
  rw[hd]at zB
  cases zB
  have hl:kvs.length=vs.length:=rel.length
  exact(Walks.dictKeys (knd:=bt X.prog X.w) (I.ok.hd hc) it d hne vs ep).done s _ _ ⟨by rw[← hl];exact st,o,es,ho,r'⟩ λh' tk kk=>⟨rfl,I.turned (λb o hb e=>kk b o (by simpa using hb) e) f0 f1 f3 f4 f5⟩
 self:=λA i s Q E st h=>wpAny_pyIter_keyiter st h
def S8(td:TE):TI:=λσ H R=>td σ H λx H1=>∃d kvs,x=.ref d/\H1 d=some (.dK kvs)/\∀o,R (Gq d o kvs) (upd H1 d (.gh o (.dK kvs)))
theorem MK{tg l:Expr}{tl:TE}(hl:PE X l tl):PI X tg l (S8 tl):=by
 intro pins s σ H R I h
 refine aP (hl pins s σ H _ I h) λv s1 ⟨x,H1,I1,r1,q1⟩=>?_
 obtain⟨d,kvs,e,hd,q⟩:=q1
 subst e
 cases(show v=Value.ref d from r1)
 obtain⟨z,hm,vs,rel,dd⟩:=uy I1.hok hd
 obtain⟨o,es,ep,ho,r⟩:=id dd
 have hlen:kvs.length=vs.length:=rel.length
 obtain⟨o',lE,I2⟩:=I1.freeze hd
 rw[ho]at lE
 cases lE
 refine wpAny_pyIter_dict (knd:=bt X.prog X.w) (ep:=ep) hm ⟨o,es,ho,r⟩ ?_
 have eN:d<s1.heap.objs.size:=adH ho
 refine⟨s1.heap.objs.size,[s1.heap.objs.size],_,_,_,rfl,I2.kept (t':=s1.toks) λb o e=>adl _ e,Gr (es:=es) (ep:=ep) (o:=o) (kvs:=kvs) r.2.1 (adR eN),?_,?_,q o⟩
 . exact⟨_,adP _ rfl,rfl,by rw[hlen];rfl⟩
 . intro b hb
   have e:b=s1.heap.objs.size:=by simpa using hb
   subst e
   exact I2.tH (adn _) (I2.hok.fresh (adn _))
end
end L2
namespace PySem
open Sem (wp)
section
variable {prog:Program}{w:World}{A:Around}{E:Value->Shared->Prop}{s:Shared}
theorem pE{it t:Addr}{i:Nat}{items} {x:Value}{Q:Value->Shared->Prop}(hit:s.heap.IsTupleIter it t i)(ht:s.heap.IsTuple t items)(hx:items[i]?=some x)
 (hQ:∀h',h'.IsTupleIter it t (i+1)->Heap.SameBut it s.heap h'->Q x {s with heap:=h'}):wpAny (model prog w) A (Builtin.SmallTypes.nextOf (.ref it)) Q E s:=by
 obtain⟨o,ho,hc,hd⟩:=id hit
 obtain⟨ol,O6,_,nl,jM⟩:=ht
 unfold Builtin.SmallTypes.nextOf
 refine adk (aeA (name:=Str.ofString "__next__") hit.typeIs aeX (aeN aeX hit.typeIs agg ?_ (af9 _)))
 show wpAny _ _ (field (.ref it) 0 >>= _) _ _ s
 refine adk (aep ho hd (x:=.ref t) rfl ?_)
 show wpAny _ _ (if (Value.ref t == Value.none)=true then _ else _) _ _ s
 rw[adw (show ¬ ((Value.ref t == Value.none)=true) from adO)]
 show wpAny _ _ (field (.ref it) 1 >>= _) _ _ s
 refine adk (aep ho hd (x:=.int i 0) rfl ?_)
 show wpAny _ _ (seqItems? (.ref t) >>= _) _ _ s
 refine adk (aeh O6 jM ?_)
 simp only[ael,hx]
 refine adk (wpAny_setField ho hd (by simp) (adv ⟨x,rfl,adv (hQ _ ?_ (aeG ..))⟩))
 exact⟨_,Heap.get?_update_self _ ho (Obj.isFreed_of_fields (Obj.data_mapFields hd _)),(Obj.cls_mapFields ..).trans hc,by rw[Obj.data_mapFields hd];simp[rawInt]⟩
theorem qx{it t:Addr}{i:Nat}{items} {Q:Value->Shared->Prop}(hh:A.handled=none)(hit:s.heap.IsTupleIter it t i)(ht:s.heap.IsTuple t items)(hx:items[i]?=none)
 (hE:∀h' e,Heap.ExtBut it s.heap h'->(∃o,h'.get? e=some o/\o.cls=.type "StopIteration")->E (.ref e) {s with heap:=h'}):wpAny (model prog w) A (Builtin.SmallTypes.nextOf (.ref it)) Q E s:=by
 obtain⟨o,ho,hc,hd⟩:=id hit
 obtain⟨ol,O6,_,nl,jM⟩:=ht
 unfold Builtin.SmallTypes.nextOf
 refine adk (aeA (name:=Str.ofString "__next__") hit.typeIs aeX (aeN aeX hit.typeIs agg ?_ (af9 _)))
 show wpAny _ _ (field (.ref it) 0 >>= _) _ _ s
 refine adk (aep ho hd (x:=.ref t) rfl ?_)
 show wpAny _ _ (if (Value.ref t == Value.none)=true then _ else _) _ _ s
 rw[adw (show ¬ ((Value.ref t == Value.none)=true) from adO)]
 show wpAny _ _ (field (.ref it) 1 >>= _) _ _ s
 refine adk (aep ho hd (x:=.int i 0) rfl ?_)
 show wpAny _ _ (seqItems? (.ref t) >>= _) _ _ s
 refine adk (aeh O6 jM ?_)
 simp only[ael,hx]
 refine adk (afV (adk (wpAny_setField ho hd (by simp) ?_)))
 show wpAny _ _ (newExc (.type "StopIteration") [] >>= _) _ _ _
 refine adk ?_
 simp only[newExc,newTuple]
 refine adk (afW ?_ (by size_fits))
 refine adk (m:=firstArgMember _ _) (wpAny_of_eq (a:=Value.none) (by first|rfl|(simp only[firstArgMember];rfl)) ?_)
 refine afW ?_ (by size_fits)
 simp only[raiseNew]
 refine adk (wpAny_handled ?_)
 first|rw[show A.in1.handled=none from hh] | rw[hh]
 refine adk (adv (wpAny_throw ?_))
 exact hE _ _ (((aeG ..).extBut.push _).push _) ⟨_,adP _ rfl,rfl⟩
end
def oJ(tp:Bool)(h:Heap)(l:Addr)(xs:Array Value):Prop:=match tp with|true=>h.IsTuple l xs|false=>h.IsList l xs
def iu(tp:Bool)(h:Heap)(i l:Addr)(k:Nat):Prop:=match tp with|true=>h.IsTupleIter i l k|false=>h.IsListIter i l k
theorem oJ.at{tp:Bool}{h h':Heap}{l:Addr}{xs:Array Value}(x:oJ tp h l xs)(k:∀o,h.get? l=some o->h'.get? l=some o):oJ tp h' l xs:=by
 cases tp <;> (obtain⟨o,e,r⟩:=x;exact⟨o,k o e,r⟩)
theorem iu.at{tp:Bool}{h h':Heap}{i l:Addr}{n:Nat}(x:iu tp h i l n)(k:∀o,h.get? i=some o->h'.get? i=some o):iu tp h' i l n:=by
 cases tp <;> (obtain⟨o,e,r⟩:=x;exact⟨o,k o e,r⟩)
theorem iu.there{tp:Bool}{h:Heap}{i l:Addr}{n:Nat}(x:iu tp h i l n):∃o,h.get? i=some o/\∃vs,o.data=.fields vs:=by
 cases tp <;> (obtain⟨o,e,c,d⟩:=x;exact⟨o,e,_,d⟩)
theorem oJ.there{tp:Bool}{h:Heap}{l:Addr}{xs:Array Value}(x:oJ tp h l xs):∃o,h.get? l=some o:=by
 cases tp <;> (obtain⟨o,e,r⟩:=x;exact⟨o,e⟩)
section
variable {prog:Program}{w:World}{A:Around}{E:Value->Shared->Prop}{s:Shared}{tp:Bool}
theorem rV{it l:Addr}{i:Nat}{items} {x:Value}{Q:Value->Shared->Prop}(hit:iu tp s.heap it l i)(hl:oJ tp s.heap l items)(hx:items[i]?=some x)
 (hQ:∀h',iu tp h' it l (i+1)->Heap.SameBut it s.heap h'->Q x {s with heap:=h'}):wpAny (model prog w) A (Builtin.SmallTypes.nextOf (.ref it)) Q E s:=by
 cases tp
 . exact wpAny_nextOf_list_item hit hl hx hQ
 . exact pE hit hl hx hQ
theorem O7{it l:Addr}{i:Nat}{items} {Q:Value->Shared->Prop}(hh:A.handled=none)(hit:iu tp s.heap it l i)(hl:oJ tp s.heap l items)(hx:items[i]?=none)
 (hE:∀h' e,Heap.ExtBut it s.heap h'->(∃o,h'.get? e=some o/\o.cls=.type "StopIteration")->E (.ref e) {s with heap:=h'}):wpAny (model prog w) A (Builtin.SmallTypes.nextOf (.ref it)) Q E s:=by
 cases tp
 . exact wpAny_nextOf_list_end hh hit hl hx hE
 . exact qx hh hit hl hx hE
theorem adh{z TI TO i1 i2 l1 l2:Addr}{k:Nat}{xs ys:Array Value}{x y a b:Value}{Q:Option Value->Shared->Prop}(nd:[z,TI,TO,i1,i2].Nodup)(n1:l1∉[z,TI,TO,i1,i2])(n2:l2∉[z,TI,TO,i1,i2])
 (hz:IsZip s.heap z TI TO .none) (mU:IsPair s.heap TI (.ref i1) (.ref i2)) (qV:IsPair s.heap TO a b) (h1:iu tp s.heap i1 l1 k) (h2:iu tp s.heap i2 l2 k) (oH:oJ tp s.heap l1 xs) (du:oJ tp s.heap l2 ys) (hx:xs[k]?=some x) (hy:ys[k]?=some y)
 (hQ:∀h',IsZip h' z TI TO (rawInt s.heap.objs.size)->IsPair h' TO x y->iu tp h' i1 l1 (k+1)->iu tp h' i2 l2 (k+1)->IsPair h' s.heap.objs.size x y->
  (∀c o,c≠z->c≠TO->c≠i1->c≠i2->s.heap.get? c=some o->h'.get? c=some o)->Q (some (.ref s.heap.objs.size)) {s with heap:=h'}):wpAny (model prog w) A (pyNext (.ref z)) Q E s:=by
 simp only[ad1,adq,adI,aec,af6]at nd n1 n2
 obtain⟨⟨Gs,ql,qm,sW⟩,⟨TITO,TIi1,TIi2⟩,⟨TOi1,TOi2⟩,i12,_⟩:=nd
 obtain⟨l1z,O8,l1TO,l1i1,l1i2⟩:=n1
 obtain⟨l2z,ZO,l2TO,l2i1,l2i2⟩:=n2
 have hT:s.TypeIs (.ref z) "zip":=⟨_,hz,rfl⟩
 unfold pyNext
 refine adk (agO (aeA (name:=Str.ofString "__next__") hT afp (aeN afp hT ag2 ?_ (agC _))))
 show wpAny _ _ (field (.ref z) 2 >>= _) _ _ _
 refine adk (aep hz rfl (x:=.bool false) rfl ?_)
 show wpAny _ _ (field (.ref z) 3 >>= _) _ _ _
 refine adk (aep hz rfl (x:=.ref TI) rfl ?_)
 refine adk (aeh mU rfl ?_)
 show wpAny _ _ (Builtin.SmallTypes.ownedTupleIsFree (.ref z) >>= _) _ _ _
 refine adk ?_
 unfold Builtin.SmallTypes.ownedTupleIsFree
 refine adk (aep hz rfl (x:=.none) rfl (adv ?_))
 simp only[age]
 refine adk (afV ?_)
 refine adk (aep hz rfl (x:=.ref TO) rfl ?_)
 refine adk (aeB hz (by simp) λnT qW u9=>?_)
 replace qW:IsZip nT z TI TO .ellipsis:=qW
 refine adk ?_
 simp only[ag3,ahd,afn,af2]
 have k1:∀c o,c≠z->s.heap.get? c=some o->nT.get? c=some o:=λc o n e=>u9.extBut _ _ n e
 refine adk (adk (aga ?_))
 show wpAny _ _ (Builtin.SmallTypes.nextOf (.ref i1) >>= _) _ _ _
 refine adk (rV (h1.at λo e=>k1 _ o (adG qm) e) (oH.at λo e=>k1 _ o l1z e) hx λtJ O9 xw=>adv ?_)
 have k2:∀c o,c≠i1->nT.get? c=some o->tJ.get? c=some o:=λc o n e=>xw.extBut _ _ n e
 have zD:IsPair tJ TO a b:=k2 _ _ TOi1 (k1 _ _ (adG ql) qV)
 refine adk (aeh zD rfl ?_)
 refine adk (afv zD λvT tU xx=>?_)
 replace tU:IsPair vT TO x b:=tU
 have k3:∀c o,c≠TO->tJ.get? c=some o->vT.get? c=some o:=λc o n e=>xx.extBut _ _ n e
 refine adk (agL (adv ?_))
 refine adk (adk (aga ?_))
 show wpAny _ _ (Builtin.SmallTypes.nextOf (.ref i2) >>= _) _ _ _
 refine adk (rV (h2.at λo e=>k3 _ o (adG TOi2) (k2 _ o (adG i12) (k1 _ o (adG sW) e))) (du.at λo e=>k3 _ o l2TO (k2 _ o l2i1 (k1 _ o l2z e))) hy λDI Pa Gu=>adv ?_)
 have k4:∀c o,c≠i2->vT.get? c=some o->DI.get? c=some o:=λc o n e=>Gu.extBut _ _ n e
 have zE:IsPair DI TO x b:=k4 _ _ TOi2 tU
 refine adk (aeh zE rfl ?_)
 refine adk (afv zE λiM pF Gv=>?_)
 replace pF:IsPair iM TO x y:=pF
 have k5:∀c o,c≠TO->DI.get? c=some o->iM.get? c=some o:=λc o n e=>Gv.extBut _ _ n e
 refine adk (agL (adv (adv ?_)))
 refine adk (aeh pF rfl ?_)
 refine adk (ags ?_)
 have hsz:iM.objs.size=s.heap.objs.size:=by rw[Gv.1,Gu.1,xx.1,xw.1,u9.1]
 have Gw:IsZip iM z TI TO .ellipsis:=k5 _ _ ql (k4 _ _ sW (k3 _ _ ql (k2 _ _ qm qW)))
 have Pb:∀c o,c≠z->c≠TO->c≠i1->c≠i2->s.heap.get? c=some o->iM.get? c=some o:=λc o c1 c2 c3 c4 e=>k5 _ _ c2 (k4 _ _ c4 (k3 _ _ c2 (k2 _ _ c3 (k1 _ _ c1 e))))
 have Pc:iu tp iM i1 l1 (k+1):=O9.at λo e=>k5 _ _ (adG TOi1) (k4 _ _ i12 (k3 _ _ (adG TOi1) e))
 have Pd:iu tp iM i2 l2 (k+1):=Pa.at λo e=>k5 _ _ (adG TOi2) e
 have zF:z<iM.objs.size:=adH Gw
 show wpAny _ _ (Builtin.SmallTypes.ownedTupleHandOut (.ref z) (.ref iM.objs.size) >>= _) _ _ _
 refine adk ?_
 unfold Builtin.SmallTypes.ownedTupleHandOut
 have Pe:IsZip (iM.push {cls:=.type "tuple",data:=.seq #[x,y] }) z TI TO .ellipsis:=adl _ Gw
 refine adk (aeB Pe (by simp) λZP zG Gx=>?_)
 replace zG:IsZip ZP z TI TO (rawInt iM.objs.size):=zG
 refine aeB zG (by simp) λDW va Gy=>?_
 replace va:IsZip DW z TI TO (rawInt iM.objs.size):=va
 have up:∀c o,c≠z->iM.get? c=some o->DW.get? c=some o:=λc o c1 e=>Gy.extBut _ _ c1 (Gx.extBut _ _ c1 (adl _ e))
 have Gz:IsPair DW iM.objs.size x y:=Gy.extBut _ _ (ae7 zF) (Gx.extBut _ _ (ae7 zF) (adP _ rfl))
 rw[hsz]at va Gz
 refine adv ⟨.ref iM.objs.size,rfl,adv ?_⟩
 rw[hsz]
 exact hQ DW va (up _ _ (adG ql) pF) (Pc.at λo e=>up _ o (adG qm) e) (Pd.at λo e=>up _ o (adG sW) e) Gz λc o c1 c2 c3 c4 e=>up c o c1 (Pb c o c1 c2 c3 c4 e)
theorem ML{z TI TO i1 i2 l1:Addr}{k:Nat}{xs:Array Value}{a b:Value}{Q:Option Value->Shared->Prop}(hh:A.handled=none)(nd:[z,TI,TO,i1,i2].Nodup)(n1:l1∉[z,TI,TO,i1,i2])
 (hz:IsZip s.heap z TI TO .none) (mU:IsPair s.heap TI (.ref i1) (.ref i2)) (h1:iu tp s.heap i1 l1 k) (oH:oJ tp s.heap l1 xs) (hx:xs[k]?=none)
 (hQ:∀h',(∀c o,c≠z->c≠TO->c≠i1->c≠i2->s.heap.get? c=some o->h'.get? c=some o)->Q none {s with heap:=h'}):wpAny (model prog w) A (pyNext (.ref z)) Q E s:=by
 simp only[ad1,adq,adI,aec,af6]at nd n1
 obtain⟨⟨Gs,ql,qm,sW⟩,⟨TITO,TIi1,TIi2⟩,⟨TOi1,TOi2⟩,i12,_⟩:=nd
 obtain⟨l1z,O8,l1TO,l1i1,l1i2⟩:=n1
 have hT:s.TypeIs (.ref z) "zip":=⟨_,hz,rfl⟩
 unfold pyNext
 refine adk (agO (aeA (name:=Str.ofString "__next__") hT afp (aeN afp hT ag2 ?_ (agC _))))
 show wpAny _ _ (field (.ref z) 2 >>= _) _ _ _
 refine adk (aep hz rfl (x:=.bool false) rfl ?_)
 show wpAny _ _ (field (.ref z) 3 >>= _) _ _ _
 refine adk (aep hz rfl (x:=.ref TI) rfl ?_)
 refine adk (aeh mU rfl ?_)
 show wpAny _ _ (Builtin.SmallTypes.ownedTupleIsFree (.ref z) >>= _) _ _ _
 refine adk ?_
 unfold Builtin.SmallTypes.ownedTupleIsFree
 refine adk (aep hz rfl (x:=.none) rfl (adv ?_))
 simp only[age]
 refine adk (afV ?_)
 refine adk (aep hz rfl (x:=.ref TO) rfl ?_)
 refine adk (aeB hz (by simp) λnT qW u9=>?_)
 replace qW:IsZip nT z TI TO .ellipsis:=qW
 refine adk ?_
 simp only[ag3,ahd,afn,af2]
 refine adk (adk (aga ?_))
 show wpAny _ _ (Builtin.SmallTypes.nextOf (.ref i1) >>= _) _ _ _
 refine adk (O7 (by first|exact hh|rfl) (h1.at λo e=>u9.extBut _ o (adG qm) e) (oH.at λo e=>u9.extBut _ o l1z e) hx λtJ e xw he=>?_)
 obtain⟨oe,Pf,Cf⟩:=he
 have Xc:IsZip tJ z TI TO .ellipsis:=xw _ _ qm qW
 have hez:e≠z:=λx=>by subst x;rw[Xc]at Pf;cases Pf;simp at Cf
 refine aeB Xc (by simp) λvT _ xx=>?_
 refine adk (wpAny_isInstance (T:="StopIteration") (b:=true) ⟨oe,xx.extBut _ _ hez Pf,Cf⟩ isSubtype_stop ?_)
 exact adv (hQ _ λc o c1 _ c3 _ x=>xx.extBut _ _ c1 (xw _ _ c3 (u9.extBut _ _ c1 x)))
end
end PySem
namespace PySem
section
variable {prog:Program}{w:World}{A:Around}{E:Value->Shared->Prop}{s:Shared}{tp:Bool}
end
end PySem
namespace L2
open PySem PySem.Spec PyProof.Rows
def ZH(tp:Bool)(H:Hp)(a:Addr)(xs:List V):Prop:=match tp with|true=>H a=some (.tup xs)|false=>H a=some (.lst xs)
theorem ZH.inj{tp:Bool}{H:Hp}{a:Addr}{xs ys:List V}(h:ZH tp H a xs)(h':ZH tp H a ys):xs=ys:=by
 cases tp <;> (have e:=(show H a=_ from h).symm.trans (show H a=_ from h');cases e;rfl)
theorem ZH.same{tp:Bool}{H H':Hp}{a:Addr}{xs:List V}(h:ZH tp H a xs)(k:∀o,H a=some o->H' a=some o):ZH tp H' a xs:=by cases tp <;> exact k _ h
section
variable {X:Cx}
end
end L2
namespace PySem
open PySem PySem.Spec PyProof.Rows
section
variable {prog:Program}{w:World}{A:Around}{E:Value->Shared->Prop}{s:Shared}{tp tq:Bool}
theorem MM{z TI TO i1 i2 l1 l2:Addr}{k:Nat}{xs ys:Array Value}{x y a b:Value}{Q:Option Value->Shared->Prop}(nd:[z,TI,TO,i1,i2].Nodup)(n1:l1∉[z,TI,TO,i1,i2])(n2:l2∉[z,TI,TO,i1,i2])
 (hz:IsZip s.heap z TI TO .none) (mU:IsPair s.heap TI (.ref i1) (.ref i2)) (qV:IsPair s.heap TO a b) (h1:iu tp s.heap i1 l1 k) (h2:iu tq s.heap i2 l2 k) (oH:oJ tp s.heap l1 xs) (du:oJ tq s.heap l2 ys) (hx:xs[k]?=some x) (hy:ys[k]?=some y)
 (hQ:∀h',IsZip h' z TI TO (rawInt s.heap.objs.size)->IsPair h' TO x y->iu tp h' i1 l1 (k+1)->iu tq h' i2 l2 (k+1)->IsPair h' s.heap.objs.size x y->
  (∀c o,c≠z->c≠TO->c≠i1->c≠i2->s.heap.get? c=some o->h'.get? c=some o)->Q (some (.ref s.heap.objs.size)) {s with heap:=h'}):wpAny (model prog w) A (pyNext (.ref z)) Q E s:=by
 simp only[ad1,adq,adI,aec,af6]at nd n1 n2
 obtain⟨⟨Gs,ql,qm,sW⟩,⟨TITO,TIi1,TIi2⟩,⟨TOi1,TOi2⟩,i12,_⟩:=nd
 obtain⟨l1z,O8,l1TO,l1i1,l1i2⟩:=n1
 obtain⟨l2z,ZO,l2TO,l2i1,l2i2⟩:=n2
 have hT:s.TypeIs (.ref z) "zip":=⟨_,hz,rfl⟩
 unfold pyNext
 refine adk (agO (aeA (name:=Str.ofString "__next__") hT afp (aeN afp hT ag2 ?_ (agC _))))
 show wpAny _ _ (field (.ref z) 2 >>= _) _ _ _
 refine adk (aep hz rfl (x:=.bool false) rfl ?_)
 show wpAny _ _ (field (.ref z) 3 >>= _) _ _ _
 refine adk (aep hz rfl (x:=.ref TI) rfl ?_)
 refine adk (aeh mU rfl ?_)
 show wpAny _ _ (Builtin.SmallTypes.ownedTupleIsFree (.ref z) >>= _) _ _ _
 refine adk ?_
 unfold Builtin.SmallTypes.ownedTupleIsFree
 refine adk (aep hz rfl (x:=.none) rfl (adv ?_))
 simp only[age]
 refine adk (afV ?_)
 refine adk (aep hz rfl (x:=.ref TO) rfl ?_)
 refine adk (aeB hz (by simp) λnT qW u9=>?_)
 replace qW:IsZip nT z TI TO .ellipsis:=qW
 refine adk ?_
 simp only[ag3,ahd,afn,af2]
 have k1:∀c o,c≠z->s.heap.get? c=some o->nT.get? c=some o:=λc o n e=>u9.extBut _ _ n e
 refine adk (adk (aga ?_))
 show wpAny _ _ (Builtin.SmallTypes.nextOf (.ref i1) >>= _) _ _ _
 refine adk (rV (h1.at λo e=>k1 _ o (adG qm) e) (oH.at λo e=>k1 _ o l1z e) hx λtJ O9 xw=>adv ?_)
 have k2:∀c o,c≠i1->nT.get? c=some o->tJ.get? c=some o:=λc o n e=>xw.extBut _ _ n e
 have zD:IsPair tJ TO a b:=k2 _ _ TOi1 (k1 _ _ (adG ql) qV)
 refine adk (aeh zD rfl ?_)
 refine adk (afv zD λvT tU xx=>?_)
 replace tU:IsPair vT TO x b:=tU
 have k3:∀c o,c≠TO->tJ.get? c=some o->vT.get? c=some o:=λc o n e=>xx.extBut _ _ n e
 refine adk (agL (adv ?_))
 refine adk (adk (aga ?_))
 show wpAny _ _ (Builtin.SmallTypes.nextOf (.ref i2) >>= _) _ _ _
 refine adk (rV (h2.at λo e=>k3 _ o (adG TOi2) (k2 _ o (adG i12) (k1 _ o (adG sW) e))) (du.at λo e=>k3 _ o l2TO (k2 _ o l2i1 (k1 _ o l2z e))) hy λDI Pa Gu=>adv ?_)
 have k4:∀c o,c≠i2->vT.get? c=some o->DI.get? c=some o:=λc o n e=>Gu.extBut _ _ n e
 have zE:IsPair DI TO x b:=k4 _ _ TOi2 tU
 refine adk (aeh zE rfl ?_)
 refine adk (afv zE λiM pF Gv=>?_)
 replace pF:IsPair iM TO x y:=pF
 have k5:∀c o,c≠TO->DI.get? c=some o->iM.get? c=some o:=λc o n e=>Gv.extBut _ _ n e
 refine adk (agL (adv (adv ?_)))
 refine adk (aeh pF rfl ?_)
 refine adk (ags ?_)
 have hsz:iM.objs.size=s.heap.objs.size:=by rw[Gv.1,Gu.1,xx.1,xw.1,u9.1]
 have Gw:IsZip iM z TI TO .ellipsis:=k5 _ _ ql (k4 _ _ sW (k3 _ _ ql (k2 _ _ qm qW)))
 have Pb:∀c o,c≠z->c≠TO->c≠i1->c≠i2->s.heap.get? c=some o->iM.get? c=some o:=λc o c1 c2 c3 c4 e=>k5 _ _ c2 (k4 _ _ c4 (k3 _ _ c2 (k2 _ _ c3 (k1 _ _ c1 e))))
 have Pc:iu tp iM i1 l1 (k+1):=O9.at λo e=>k5 _ _ (adG TOi1) (k4 _ _ i12 (k3 _ _ (adG TOi1) e))
 have Pd:iu tq iM i2 l2 (k+1):=Pa.at λo e=>k5 _ _ (adG TOi2) e
 have zF:z<iM.objs.size:=adH Gw
 show wpAny _ _ (Builtin.SmallTypes.ownedTupleHandOut (.ref z) (.ref iM.objs.size) >>= _) _ _ _
 refine adk ?_
 unfold Builtin.SmallTypes.ownedTupleHandOut
 have Pe:IsZip (iM.push {cls:=.type "tuple",data:=.seq #[x,y] }) z TI TO .ellipsis:=adl _ Gw
 refine adk (aeB Pe (by simp) λZP zG Gx=>?_)
 replace zG:IsZip ZP z TI TO (rawInt iM.objs.size):=zG
 refine aeB zG (by simp) λDW va Gy=>?_
 replace va:IsZip DW z TI TO (rawInt iM.objs.size):=va
 have up:∀c o,c≠z->iM.get? c=some o->DW.get? c=some o:=λc o c1 e=>Gy.extBut _ _ c1 (Gx.extBut _ _ c1 (adl _ e))
 have Gz:IsPair DW iM.objs.size x y:=Gy.extBut _ _ (ae7 zF) (Gx.extBut _ _ (ae7 zF) (adP _ rfl))
 rw[hsz]at va Gz
 refine adv ⟨.ref iM.objs.size,rfl,adv ?_⟩
 rw[hsz]
 exact hQ DW va (up _ _ (adG ql) pF) (Pc.at λo e=>up _ o (adG qm) e) (Pd.at λo e=>up _ o (adG sW) e) Gz λc o c1 c2 c3 c4 e=>up c o c1 (Pb c o c1 c2 c3 c4 e)
end
end PySem
namespace L2
open PySem PySem.Spec PyProof.Rows
def ZK(K:W.Frag)(tp:Bool)(H:Hp)(a:Addr)(xs:List V):Prop:=match tp with|true=>aS K H a xs|false=>aw K H a xs
section
variable {X:Cx}{pins:List (Addr×Obj)}{σ:St}{H:Hp}{s:Shared}{tp:Bool}{a:Addr}{xs ys:List V}
theorem Inv.zk(I:Inv X pins σ H s)(h:ZK X.K tp H a xs):∃its:List Value,Vals xs its/\oJ tp s.heap a its.toArray/\xs.length<=sizeLine:=by
 cases tp
 . obtain⟨its,r,pl,z⟩:=I.list h
   exact⟨its,r,pl.isList,z⟩
 . obtain⟨its,r,⟨o,e,c,n,d⟩,z⟩:=I.tuple h
   exact⟨its,r,⟨o,e,c,n,d⟩,z⟩
theorem Inv.GC(I:Inv X pins σ H s)(h:ZK X.K tp H a xs)(h':ZK X.K tp H a ys):xs=ys:=by
 cases tp
 . exact I.tG h h'
 . exact I.qz h h'
theorem Inv.zH{fp:List Addr}(I:Inv X pins σ H s)(h:ZK X.K tp H a xs)(hf:∀b∈fp,jn X pins H b):a∉fp:=λm=>by
 have own:∀o,X.K.lookup a=some o->False:=λo e=>by
  have eb:=I.ok.mod.kin a o e
  obtain⟨_,_,_,h4,_⟩:=hf a m
  rcases h4 with h4|h4
  . exact I.ok.noex a o eb h4
  . exact absurd (adY (adH eb) (ady I.ok.bsz h4)) (aey _)
 have aY:=(hf a m).1
 cases tp
 . rcases h with (h|⟨o,h⟩)|⟨o,_,_,e,_⟩
   . rw[aY]at h;cases h
   . rw[aY]at h;cases h
   . exact own o e
 . rcases h with (h|⟨o,h⟩)|⟨o,_,_,e,_⟩
   . rw[aY]at h;cases h
   . rw[aY]at h;cases h
   . exact own o e
end
def Itm(K:W.Frag)(tp tq:Bool)(a b:Addr):It:=
 ⟨λi H=>∃xs ys x y,ZK K tp H a xs/\ZK K tq H b ys/\xs[i]?=some x/\ys[i]?=some y,λi H v H'=>∃T x y,v=.ref T/\H T=none/\H'=upd H T (.tup [x,y])/\(∀xs,ZK K tp H a xs->xs[i]?=some x)/\∀ys,ZK K tq H b ys->ys[i]?=some y,
  λi H=>∃xs,ZK K tp H a xs/\xs.length<=i⟩
theorem MN{P:Program}{w:World}{K:W.Frag}{es:List Expr}{kk:Nat}{pp:Pos}{tp tq:Bool}{a b z TI TO i1 i2:Addr}(nd:[z,TI,TO,i1,i2].Nodup) :
 Turn P w K (.Tuple es kk pp) (Itm K tp tq a b) [z,TI,TO,i1,i2] z (λi h=>IsZip h z TI TO .none/\IsPair h TI (.ref i1) (.ref i2)/\(∃a b,IsPair h TO a b)/\iu tp h i1 a i/\iu tq h i2 b i) where
 mem:=by simp
 obj:=λi h st c hc=>by
  obtain⟨hz,mU,⟨u,v,qV⟩,h1,h2⟩:=st
  simp only[adq,adI,aec]at hc
  rcases hc with rfl|rfl|rfl|rfl|rfl
  . exact⟨_,hz,λv z=>by cases(show Data.fields _=Data.cell v from z)⟩
  . exact⟨_,mU,λv z=>by cases(show Data.seq _=Data.cell v from z)⟩
  . exact⟨_,qV,λv z=>by cases(show Data.seq _=Data.cell v from z)⟩
  . obtain⟨o,e,vs,d⟩:=h1.there
    exact⟨o,e,λv z=>by rw[d]at z;cases z⟩
  . obtain⟨o,e,vs,d⟩:=h2.there
    exact⟨o,e,λv z=>by rw[d]at z;cases z⟩
 keep:=λi h h' st k=>by
  obtain⟨hz,mU,⟨u,v,qV⟩,h1,h2⟩:=st
  exact⟨k z (by simp) _ hz,k TI (by simp) _ mU,⟨u,v,k TO (by simp) _ qV⟩,h1.at λo e=>k i1 (by simp) o e,h2.at λo e=>k i2 (by simp) o e⟩
 item:=by
  intro X hP hw hK hc i pins s σ H E I hf st hg
  subst hP hw hK
  obtain⟨xs,ys,x,y,xy,Pg,hx,hy⟩:=hg
  obtain⟨its,rv,p,zm⟩:=I.zk xy
  obtain⟨its',Ci,p',ah9⟩:=I.zk Pg
  obtain⟨u,hu,ru⟩:=rv.get hx
  obtain⟨v,hv,rv2⟩:=Ci.get hy
  obtain⟨hz,mU,⟨c,d,qV⟩,h1,h2⟩:=st
  have na:a∉[z,TI,TO,i1,i2]:=I.zH xy hf
  have nb:b∉[z,TI,TO,i1,i2]:=I.zH Pg hf
  refine MM nd na nb hz mU qV h1 h2 p p' (x:=u) (y:=v) (by simpa using hu) (by simpa using hv) λh' a1 a2 a3 a4 a5 kk=>?_
  refine⟨.ref s.heap.objs.size,rfl,?_⟩
  refine wpAny_letOwnedTupleGo_zip a1 λh3 O0 Kd=>?_
  have Xd:=nd
  simp only[ad1,adq,adI,aec,af6]at Xd
  obtain⟨⟨Gs,ql,qm,sW⟩,⟨TITO,TIi1,TIi2⟩,⟨TOi1,TOi2⟩,i12,_⟩:=Xd
  have lt:∀c∈[z,TI,TO,i1,i2],c≠s.heap.objs.size:=λc hc=>by
   simp only[adq,adI,aec]at hc
   rcases hc with rfl|rfl|rfl|rfl|rfl
   . exact adR (adH hz)
   . exact adR (adH mU)
   . exact adR (adH qV)
   . obtain⟨o,e,_⟩:=h1.there
     exact adR (adH e)
   . obtain⟨o,e,_⟩:=h2.there
     exact adR (adH e)
  have k3:∀c o,c≠z->h'.get? c=some o->h3.get? c=some o:=λc o n e=>Kd.extBut _ _ n e
  have I1:Inv X pins σ (upd H s.heap.objs.size (.tup [x,y])) {s with heap:=h3,toks:=s.toks}:=I.BW (its:=[u,v]) hf (λb o hb e1=>by
   simp only[adq,adI,aec,af6]at hb
   exact k3 b o hb.1 (kk b o hb.1 hb.2.2.1 hb.2.2.2.1 hb.2.2.2.2 e1)) (adn _) ⟨_,k3 _ _ (adG (lt z (by simp))) a5,rfl,_,rfl⟩ (.cons ru (.cons rv2 .nil)) (by show 2<=sizeLine;decide)
  have fr:H s.heap.objs.size=none:=I.hok.fresh (adn _)
  refine⟨.ref s.heap.objs.size,_,I1,rfl,⟨s.heap.objs.size,x,y,rfl,fr,rfl,λuX h=>by rw[I.GC h xy];exact hx,λzf h=>by rw[I.GC h Pg];exact hy⟩,⟨O0,k3 _ _ (adG Gs) (kk _ _ (adG Gs) TITO TIi1 TIi2 mU),⟨_,_,k3 _ _ (adG ql) a2⟩,a3.at λo e=>k3 _ o (adG qm) e,a4.at λo e=>k3 _ o (adG sW) e⟩,λb hb=>?_⟩
  rw[ah (lt b hb)]
  exact(hf b hb).1
 done:=by
  intro X hP hw hK hc i pins s σ H E I hf st hg
  subst hP hw hK
  obtain⟨xs,xy,hx⟩:=hg
  obtain⟨its,rv,p,zm⟩:=I.zk xy
  obtain⟨hz,mU,⟨c,d,qV⟩,h1,h2⟩:=st
  have hl:=rv.length
  have na:a∉[z,TI,TO,i1,i2]:=I.zH xy hf
  exact ML (I.ok.hd hc) nd na hz mU h1 p (a:=.none) (b:=.none) (by simp;omega) λh' kk=>⟨rfl,I.BV (t':=s.toks) hf λb o hb e1=>by
   simp only[adq,adI,aec,af6]at hb
   exact kk b o hb.1 hb.2.2.1 hb.2.2.2.1 hb.2.2.2.2 e1⟩
 self:=λ_ _ _ _ _ st h=>wpAny_pyIter_zip st.1 h
section
variable {X:Cx}
end
end L2
namespace PySem
open PySem.Spec PyProof.Rows
section
variable {prog:Program}{w:World}{A:Around}{E:Value->Shared->Prop}{s:Shared}{z TI TO i1 i2:Addr}{m1 m2:List Addr}{n1 n2:Nat}{P1 P2:Nat->Value->Prop}{Xe sL:Nat->Heap->Prop}
end
section
variable {prog:Program}{w:World}{K:Type}[DecidableEq K] {knd:KeyKind prog w K}{A:Around}{E:Value->Shared->Prop}{s:Shared}
end
namespace F
end F
section
variable {prog:Program}{w:World}{K:Type}[DecidableEq K] {knd:KeyKind prog w K}{A:Around}{R:Result->Shared->Prop}{z TI TO i1 i2:Addr}{m1 m2:List Addr}{n1 n2:Nat}{P1 P2:Nat->Value->Prop}{Xe sL:Nat->Heap->Prop}
end
section
variable {prog:Program}{w:World}{K:Type}[DecidableEq K] {knd:KeyKind prog w K}{A:Around}{E:Value->Shared->Prop}{s:Shared}{z TI TO i1 i2:Addr}{m1 m2:List Addr}{n1 n2:Nat}{P1 P2:Nat->Value->Prop}{Xe sL:Nat->Heap->Prop}
end
abbrev wa(h:Heap)(o:Obj):Heap:=h.push o
abbrev DX(h:Heap)(o:Obj)(l2:Addr):Heap:=(wa h o).push {cls:=.type "tuple_iterator",data:=.fields #[.ref l2,.int 0 0] }
abbrev DY(h:Heap)(o:Obj)(l2:Addr):Heap:=(DX h o l2).push {cls:=.type "tuple",data:=.seq #[.ref h.objs.size,.ref (wa h o).objs.size] }
abbrev zI(h:Heap)(o:Obj)(l2:Addr):Heap:=(DY h o l2).push {cls:=.type "tuple",data:=.seq #[.none,.none] }
abbrev jY(h:Heap)(o:Obj)(l2:Addr):Heap:=(zI h o l2).push {cls:=.type "zip",data:=.fields #[.none,.bool false,.bool false,.ref (DX h o l2).objs.size,.ref (DY h o l2).objs.size] }
abbrev rW(l:Addr):Obj:={cls:=.type "list_iterator",data:=.fields #[.ref l,.int 0 0] }
theorem DZ(l1 l2:Addr)(xs ys:Array Value) :
 Meets (Builtin.«zip.__new__» ⟨[.type "zip",.ref l1,.ref l2],[]⟩) (λ_ R s=>s.heap.IsList l1 xs/\s.heap.IsTuple l2 ys/\R (.ok (.ret (.ref (zI s.heap (rW l1) l2).objs.size))) {s with heap:=jY s.heap (rW l1) l2}):=
 .of_wp λprog w A R s h=>by
  obtain⟨hp,g,d,tk,os⟩:=s;obtain⟨oH,du,h⟩:=h
  have aia:=sub_zip
  have hL1:Heap.IsList (Shared.heap ⟨hp,g,d,tk,os⟩) l1 xs:=oH
  have hL2:Heap.IsTuple (Shared.heap ⟨hp.push {cls:=.type "list_iterator",data:=.fields #[.ref l1,.int 0 0] },g,d,tk,os⟩) l2 ys:=Heap.IsTuple.push du _
  wp_walk using agv hL1,wpAny_pyIter_tuple hL2
  exact⟨_,rfl,h⟩
section
variable {prog:Program}{w:World}{A:Around}{E:Value->Shared->Prop}{s:Shared}
theorem MO(h:Heap)(o:Obj)(l2:Addr) (hg:(wa h o).get? h.objs.size=some o):IsZip (jY h o l2) (h.objs.size+4) (h.objs.size+2) (h.objs.size+3) .none/\IsPair (jY h o l2) (h.objs.size+2) (.ref h.objs.size) (.ref (h.objs.size+1))/\IsPair (jY h o l2) (h.objs.size+3) .none .none/\
 (jY h o l2).get? h.objs.size=some o/\(jY h o l2).IsTupleIter (h.objs.size+1) l2 0/\(∀c q,h.get? c=some q->(jY h o l2).get? c=some q)/\(zI h o l2).objs.size=h.objs.size+4:=by
 have z1:(wa h o).objs.size=h.objs.size+1:=aff ..
 have z2:(DX h o l2).objs.size=h.objs.size+2:=by rw[aff,z1]
 have z3:(DY h o l2).objs.size=h.objs.size+3:=by rw[aff,z2]
 have z4:(zI h o l2).objs.size=h.objs.size+4:=by rw[aff,z3]
 have g5:(jY h o l2).get? (zI h o l2).objs.size=some _:=adP _ rfl
 have g4:(jY h o l2).get? (DY h o l2).objs.size=some _:=adl _ (adP _ rfl)
 have g3:(jY h o l2).get? (DX h o l2).objs.size=some _:=adl _ (adl _ (adP _ rfl))
 have g2:(jY h o l2).get? (wa h o).objs.size=some _:=adl _ (adl _ (adl _ (adP _ rfl)))
 have g1:(jY h o l2).get? h.objs.size=some _:=adl _ (adl _ (adl _ (adl _ hg)))
 rw[z2,z3,z4]at g5
 rw[z1,z2]at g3
 rw[z3]at g4
 rw[z1]at g2
 exact⟨g5,g3,g4,g1,⟨_,g2,rfl,rfl⟩,λc q x=>adl _ (adl _ (adl _ (adl _ (adl _ x)))),z4⟩
end
end PySem
namespace L2
open PySem PySem.Spec PyProof.Rows
section
variable {X:Cx}{pins:List (Addr×Obj)}{σ:St}{H:Hp}{s:Shared}{h':Heap}
end
section
variable {X:Cx}
end
end L2
namespace PySem
open Builtin Builtin.Str
def ah4(c:Nat)(L:List Nat)(a k:Nat):List Nat:=(List.range' a k).filter λi=>decide (L[i]?=some c)
end PySem
namespace L2
open PySem PySem.Spec PyProof.Rows
section
variable {X:Cx}
def MP:V->List V->Hp->VK->Prop:=λx vs H Q=>∃z y,x=.str z/\vs=[.str y]/\Q (.bl (decide (0+y.length<=z.length) && Builtin.Str.subAt z y 0)) H
theorem xA:wR X "str.startswith" MP:=by
 intro pins s σ H x vs v us Q I rx rv h
 obtain⟨z,y,rfl,rfl,q⟩:=h
 obtain⟨t,rfl⟩:=rx
 obtain⟨u,rfl,tu,rfl⟩:=rv.one
 exact call_gives agi (afT _ _ _) F.entry_str_startswith (F.args_str_startswith_2 _ _) (gives_str_startswith z y t tu) ⟨.bl _,H,I,rfl,q⟩
def ZQ:V->Option Int->Option Int->Hp->VK->Prop:=λx lo hi H Q=>∃z j,x=.str z/\lo=some j/\hi=none/\z.length<=sizeLine/\Q (.str (Txt.slice z (some j) none)) H
theorem Cj:Ka X ZQ:=by
 intro pins s σ H x v vl vu lo hi sl Q I rx hs pl pu h
 obtain⟨z,j,rfl,rfl,rfl,hz,q⟩:=h
 obtain⟨t,rfl⟩:=rx
 cases pu
 cases pl with
 | int _ uj=>
  refine⟨"str",_,F.slot_str_getitem.lookup,afT _ _ _,agM (l:=some (j,uj)) (u:=none) (st:=none) hs rfl
   (post_val_or_str ⟨ady (Txt.slice_le z _ _) hz,λt' k=>⟨.str (Txt.slice z (some j) none),H,I.tok k,⟨t',rfl⟩,q⟩⟩)⟩
end
end L2
namespace PySem
open Builtin Builtin.Str
theorem vb(z:Str)(c:Nat):(decide (0+(⟨#[c]⟩:Str).length<=z.length) && subAt z ⟨#[c]⟩ 0)=decide (z.cps.toList[0]?=some c):=by
 rw[aea,aeb,ad4,ad4]
 exact StrLaws.subAt_one z c 0
theorem IV(n:Nat):strSliceIndices (some 1) none 1 n=(List.range (n-1)).map (· + 1):=by
 cases n with
 | zero=>rfl
 | succ n=>
  have h1:¬ ((1:Int)<0):=by decide
  have e1:max (0:Int) (min 1 ((n+1:Nat):Int))=1:=by omega
  simp only[strSliceIndices,sliceRange,h1,af1,show ((1:Int)>0)=True from by simp,age,e1]
  have e2:(if (1:Int)<((n+1:Nat):Int) then (((n+1:Nat):Int)-1+1-1) / 1 else 0).toNat=n:=by
   split
   . rw[Int.ediv_one];omega
   . omega
  rw[e2]
  show _=(List.range n).map (· + 1)
  refine aeT λk _=>?_
  omega
theorem GD:∀(l:List Nat) (L:List Nat),((List.range (L.length-1)).map (· + 1)).filterMap (λi=>L[i]?)=L.tail:=by
 intro _ L
 cases L with
 | nil=>rfl
 | cons x r=>
  show ((List.range r.length).map (· + 1)).filterMap (λi=>(x::r)[i]?)=r
  rw[List.filterMap_map]
  show (List.range r.length).filterMap (λi=>(x::r)[i+1]?)=r
  simp only[List.getElem?_cons_succ]
  have k:=Gen.sN r r.length (adn _)
  rw[ad5]at k
  exact k
theorem vc(z:Str):(Txt.slice z (some 1) none).cps.toList=z.cps.toList.tail:=by
 unfold Txt.slice
 rw[IV]
 split
 . rename_i h
   have h2:((List.range (z.length-1)).map (· + 1)).length=z.length:=by simpa using h
   rw[abc,afY]at h2
   have h3:z.length=0:=by omega
   have h4:z.cps.toList=[]:=afb.mp (by simpa[Str.length]using h3)
   rw[h4]
   rfl
 . have e:z.length=z.cps.toList.length:=by simp[Str.length]
   rw[e]
   have k:=GD [] z.cps.toList
   simpa using k
end PySem
namespace L2
open PySem PySem.Spec PyProof.Rows
section
variable {X:Cx}{pins:List (Addr×Obj)}{σ:St}{H:Hp}{s:Shared}{a:Addr}{kvs:List (Key×V)}{k:Key}{v:V}{u:Value}{E:Value->Shared->Prop}
end
section
variable {X:Cx}{o i:Expr}{pos:Pos}{td ty:TE}
end
section
variable {X:Cx}
def S9(K:W.Frag)(ta:TA):TI:=λσ H R=>ta σ H λvs H1=>∃a b,vs=[.ref a,.ref b]/\(∃xs,aw K H1 a xs)/\(∃ys,aS K H1 b ys)/\R (Itm K false true a b) H1
theorem Ck{es:List Expr}{kk:Nat}{pp:Pos}{a b:Expr}{ta:TA}{p pos:Pos}(hg:Gl X "zip")(hm:X.mg "zip" = none)(ha:PA X [a,b] ta) (hs:starEach [a,b] X.env=(false,eval a X.env)::starEach [b] X.env:=by rfl) (hp:(backTo pos (starEach [b] X.env)).any (·.1)=false:=by rfl) :
 PI X (.Tuple es kk pp) (.Call (.Name "zip" p) [a,b] [] pos) (S9 X.K ta):=by
 intro pins s σ H R I h
 refine Call_ (mn I hg hm boot_zip (aez (aP (ha pos pins s σ H _ I h) λus s1 ⟨vs,H1,I1,r1,q1⟩=>?_) hs hp))
 obtain⟨l,m,e,⟨xs,hx⟩,⟨ys,hy⟩,q⟩:=q1
 subst e
 obtain⟨u,v,rfl,ru,rv⟩:=vals2 r1
 cases(show u=Value.ref l from ru)
 cases(show v=Value.ref m from rv)
 obtain⟨its,_,p1,_⟩:=I1.zk (tp:=false) hx
 obtain⟨its',_,p2,_⟩:=I1.zk (tp:=true) hy
 refine callType_new F.called_zip (by decide) (F.typeCall_zip_2 _ _) (F.newCall_zip_2 _ _) (λobj=>F.args_object_init_3 obj _ _) F.entry_zip_new (DZ l m its.toArray its'.toArray) ⟨p1,p2,?_⟩
 have qG:(wa s1.heap (rW l)).get? s1.heap.objs.size=some (rW l):=adP _ rfl
 obtain⟨a1,a2,a3,a4,a5,kk',g6⟩:=MO s1.heap (rW l) m qG
 show _/\_
 rw[g6]
 refine⟨⟨_,a1,rfl⟩,?_⟩
 refine wpAny_pyIter_zip a1 ?_
 have I2:Inv X pins σ H1 {s1 with heap:=jY s1.heap (rW l) m}:=I1.kept (t':=s1.toks) kk'
 refine⟨_,_,_,_,H1,rfl,I2,MN (tp:=false) (tq:=true) (a:=l) (b:=m) (z:=s1.heap.objs.size+4) (TI:=s1.heap.objs.size+2) (TO:=s1.heap.objs.size+3) (i1:=s1.heap.objs.size) (i2:=s1.heap.objs.size+1) ?_,⟨a1,a2,⟨_,_,a3⟩,⟨_,a4,rfl,rfl⟩,a5⟩,λb hb=>?_,q⟩
 . simp
 . have nA:s1.heap.objs.size<=b:=by
    simp only[adq,adI,aec]at hb
    rcases hb with rfl|rfl|rfl|rfl|rfl
    . exact adV _ _
    . exact adV _ _
    . exact adV _ _
    . exact adn _
    . exact adV _ _
   exact I1.tH nA (I1.hok.fresh nA)
theorem Cm{K:W.Frag}{tp tq:Bool}{a b:Addr}{xs ys:List V}{g:TG}{tb:TS}{D:Ends}{σ:St}{H:Hp}(hxy:xs.length<=ys.length)(Pv:Nat->St->Hp->Prop)(h0:Pv 0 σ H)(hl:∀i σ H,i<=xs.length->Pv i σ H->ZK K tp H a xs/\ZK K tq H b ys)
 (hs:∀i x y T σ H,xs[i]?=some x->ys[i]?=some y->H T=none->Pv i σ H->g (.ref T) σ (upd H T (.tup [x,y])) λia H2=>tb {D with nx:=Pv (i+1),ct:=Pv (i+1),bk:=D.nx} ia H2) (hd:∀σ H,Pv xs.length σ H->D.nx σ H) :
 ∃W:Nat->Nat->St->Hp->Prop,(∃m,W 0 m σ H)/\∀i m σ H,W i m σ H->
  ((Itm K tp tq a b).stop i H/\D.nx σ H)\/((Itm K tp tq a b).go i H/\∃N:St->Hp->Prop,(∀bY H',N bY H'->∃m',m'<m/\W (i+1) m' bY H')/\∀x H',(Itm K tp tq a b).yld i H x H'->g x σ H' λia H2=>tb {D with nx:=N,ct:=N,bk:=D.nx} ia H2):=by
 refine⟨λi m σ H=>m=xs.length-i/\i<=xs.length/\Pv i σ H,⟨xs.length,by simp,adW _,h0⟩,?_⟩
 rintro i m σ H ⟨rfl,hi,p⟩
 obtain⟨q1,q2⟩:=hl i σ H hi p
 by_cases eN:i<xs.length
 . refine .inr ⟨⟨xs,ys,xs[i],ys[i]'(by omega),q1,q2,adj eN,adj (by omega)⟩,Pv (i+1),λbY H' p'=>⟨xs.length-(i+1),by omega,rfl,eN,p'⟩,λx H' y=>?_⟩
   obtain⟨T,v,u,rfl,hT,rfl,hv,hu⟩:=y
   exact hs i v u T σ H (hv xs q1) (hu ys q2) hT p
 . refine .inl ⟨⟨xs,q1,by omega⟩,?_⟩
   obtain rfl:i=xs.length:=by omega
   exact hd σ H p
def MQ:V->List V->Hp->VK->Prop:=λx vs H Q=>∃d e kvs more,x=.ref d/\vs=[.ref e]/\H d=some (.dK kvs)/\Rd H e (.dK more)/\d≠e/\kvs.length+more.length<=sizeLine/\Q .aY (upd H d (.dK (bG kvs more)))
theorem GF:wR X "dict.update" MQ:=by
 intro pins s σ H x vs v us Q I rx rv h
 obtain⟨d,e,kvs,more,rfl,rfl,hd,he,hne,hsz,q⟩:=h
 cases(show v=Value.ref d from rx)
 obtain⟨u,rfl,ru⟩:=rv.one
 cases(show u=Value.ref e from ru)
 obtain⟨z1,n1,vs1,Ph,Xf⟩:=uy I.hok hd
 obtain⟨z2,n2,vs2,Pj,BP⟩:=jw I.hok he
 have e1:=Ph.length
 have e2:=Pj.length
 refine af3 agD Xf.typeIs PySem.F.entry_dict_update (PySem.F.args_dict_update_2 _ _) (meets_dict_update (bt X.prog X.w) d e hne n2) ⟨vs1,vs2,Xf,BP,by omega,λh' nz _ hs=>?_⟩
 have he':∃q,h'.get? d=some q:=let ⟨q,_,_,hq,_⟩:=nz; ⟨q,hq⟩
 refine⟨.aY,_,oo I (by rw[hd];trivial) hs he' (oq ?_ n1 (KV.merge Pj Ph) nz),rfl,q⟩
 have:=eZ more kvs
 omega
theorem IW{d:Addr}{o:Obj}{kvs:List (Key×V)}{g:TG}{tb:TS}{D:Ends}{σ:St}{H:Hp}(Pv:Nat->St->Hp->Prop) (h0:Pv 0 σ H) (hl:∀i σ H,i<=kvs.length->Pv i σ H->H d=some (.gh o (.dK kvs)))
 (hs:∀i kv σ H,kvs[i]?=some kv->Pv i σ H->g (kV kv.1) σ H λia H2=>tb {D with nx:=Pv (i+1),ct:=Pv (i+1),bk:=D.nx} ia H2) (hd:∀σ H,Pv kvs.length σ H->D.nx σ H) :
 ∃W:Nat->Nat->St->Hp->Prop,(∃m,W 0 m σ H)/\∀i m σ H,W i m σ H->
  ((Gq d o kvs).stop i H/\D.nx σ H)\/((Gq d o kvs).go i H/\∃N:St->Hp->Prop,(∀bY H',N bY H'->∃m',m'<m/\W (i+1) m' bY H')/\∀x H',(Gq d o kvs).yld i H x H'->g x σ H' λia H2=>tb {D with nx:=N,ct:=N,bk:=D.nx} ia H2):=by
 refine⟨λi m σ H=>m=kvs.length-i/\i<=kvs.length/\Pv i σ H,⟨kvs.length,by simp,adW _,h0⟩,?_⟩
 rintro i m σ H ⟨rfl,hi,p⟩
 have q:=hl i σ H hi p
 by_cases eN:i<kvs.length
 . refine .inr ⟨⟨q,eN⟩,Pv (i+1),λbY H' p'=>⟨kvs.length-(i+1),by omega,rfl,eN,p'⟩,λx H' y=>?_⟩
   obtain⟨rfl,kv,bb,rfl⟩:=y
   exact hs i kv σ _ bb p
 . obtain rfl:i=kvs.length:=by omega
   exact .inl ⟨⟨q,rfl⟩,hd σ H p⟩
theorem zJ:fJ X (.type "int") (λxs H Q=>∃z n,xs=[.str z]/\PySem.intText? z=some n/\z.length<=640/\Q (.int n) H):=by
 intro pins s σ H xs us Q I r h
 obtain⟨z,n,rfl,hn,hl,q⟩:=h
 obtain⟨u,rfl,t,rfl⟩:=vals1 r
 exact W.KIN.call_text hn hl ⟨.int n,H,I.tok _,⟨_,rfl⟩,q⟩
end
section
variable {X:Cx}
end
section
variable {X:Cx}
end
theorem qX{α β:Type}{F:α->β->Prop} : ∀{l₁:List α}{l₂:List β}{i:Nat}{b:β},Paired F l₁ l₂->l₂[i]?=some b->∃a,l₁[i]?=some a/\F a b
 | _,_,_,_,.nil,h=>by simp at h
 | _,_,0,_,.cons h t,e=>⟨_,rfl,by simp at e;subst e;exact h⟩
 | _,_,i+1,_,.cons h t,e=>by
  obtain⟨a,h1,h2⟩:=qX (i:=i) t (by simpa using e)
  exact⟨a,by simpa using h1,h2⟩
section
variable {X:Cx}
def ZR(K:W.Frag):R2:=λx y H Q=>∃(t l:Addr) (a b:Str) (ts:List Addr) (ps:List (Str×Str)),x=.ref t/\y=.ref l/\H t=some (.tup [.str a,.str b])/\aw K H l (ts.map V.ref)/\Paired (λu p=>H u=some (.tup [.str p.1,.str p.2])) ts ps/\t∉ts/\Q (.bl (decide ((a,b)∈ps))) H
open Classical in
theorem Sf(hu:X.A.units+1<cLine):gp X (compareOp .In) (ZR X.K):=by
 intro pins s σ H x y v u Q I rx ry h
 obtain⟨t,l,a,b,ts,ps,rfl,rfl,ht,hl,hp,hn,q⟩:=h
 cases(show v=Value.ref t from rx)
 cases(show u=Value.ref l from ry)
 obtain⟨its,rv,pl,hz⟩:=I.list hl
 obtain⟨jts,rt,pt,_⟩:=I.tuple (aS.of ht)
 obtain⟨x1,x2,ej,r1,r2⟩:=vals2 rt
 subst ej
 have at_:∀w,w∈its->∃(d:Addr) (p:Str×Str),w=Value.ref d/\d∈ts/\p∈ps/\H d=some (.tup [.str p.1,.str p.2]):=by
  intro w hw
  obtain⟨i,hi,e⟩:=ahx hw
  have hlen:=rv.length
  rw[abc]at hlen
  have xB:i<ts.length:=by omega
  have du:=hp.length
  have KJ:i<ps.length:=by omega
  obtain⟨w',e1,e2⟩:=rv.get (x:=.ref ts[i]) (by rw[ado,adj xB];rfl)
  rw[adj hi,e]at e1
  cases e1
  obtain⟨d,hd,hD⟩:=qX hp (i:=i) (adj KJ)
  rw[adj xB]at hd
  cases hd
  exact⟨ts[i],ps[i],e2,aee xB,aee KJ,hD⟩
 refine ahb (λw=>decide (∃d:Addr,w=Value.ref d/\H d=some (.tup [.str a,.str b]))) pl.isList (λw hw=>?_) ⟨.bl _,H,I,rfl,?_⟩
 . obtain⟨d,p,rfl,hd,_,hD⟩:=at_ w (by simpa using hw)
   obtain⟨dts,rd,pd,_⟩:=I.tuple (aS.of hD)
   obtain⟨y1,y2,ed,s1,s2⟩:=vals2 rd
   subst ed
   have hne:d≠t:=λe=>hn (e ▸ hd)
   have key:=SeqAt.EqAt.of_refs hne (SeqAt.RcAt.tuples (A:=X.A.in1) (s:=s) (e:=λj=>if j=0 then kU (.str p.1) (.str a) else kU (.str p.2) (.str b)) pd pt (by show X.A.units+1<cLine;exact hu) (λj g1 g2=>?_))
   . have ee:((List.range (min [y1,y2].toArray.size [x1,x2].toArray.size)).all (λj=>if j=0 then kU (.str p.1) (.str a) else kU (.str p.2) (.str b)) && [y1,y2].toArray.size == [x1,x2].toArray.size)=decide (∃d':Addr,Value.ref d=Value.ref d'/\H d'=some (.tup [.str a,.str b])):=by
      show ((List.range 2).all _ && true)=_
      rw[ahG,aea,ad4]
      simp only[List.range_succ,List.range_zero,afo,List.all_append,ahD,List.all_nil,ahG,aeb,adM,kU,afA]
      constructor
      . rintro⟨e1,e2⟩
        refine⟨d,rfl,?_⟩
        rw[hD,e1,show p.2=b by simpa using e2]
      . rintro⟨d',e,h'⟩
        cases e
        rw[hD]at h'
        simp at h'
        exact⟨h'.1,by simpa using h'.2⟩
     rw[ee]at key
     exact key
   . match j,g1 with
     | 0,_=>exact uE s1 r1 rfl rfl
     | 1,_=>exact uE s2 r2 rfl rfl
 . have e:its.toArray.any (λw=>decide (∃d:Addr,w=Value.ref d/\H d=some (.tup [.str a,.str b])))=decide ((a,b)∈ps):=by
    rw[aea,ad4]
    rw[show its.toArray.any (λw=>decide (∃d:Addr,w=Value.ref d/\H d=some (.tup [.str a,.str b])))=its.any (λw=>decide (∃d:Addr,w=Value.ref d/\H d=some (.tup [.str a,.str b]))) by simp,afe]
    constructor
    . rintro⟨w,hw,hd⟩
      obtain⟨d,p,rfl,_,hpm,hD⟩:=at_ w hw
      obtain⟨d',e,h'⟩:=aef hd
      cases e
      rw[hD]at h'
      simp at h'
      have:p=(a,b):=ahE h'.1 h'.2
      exact this ▸ hpm
    . intro hm
      obtain⟨i,hi,e⟩:=ahx hm
      obtain⟨d,hd,hD⟩:=qX hp (i:=i) (adj hi)
      obtain⟨w',e1,e2⟩:=rv.get (x:=.ref d) (by rw[ado,hd];rfl)
      refine⟨w',adX e1,ad3 ⟨d,e2,?_⟩⟩
      rw[hD,e]
   rw[e]
   exact q
end
section
variable {X:Cx}{N:List Str}{js:List (Option Nat)}{scope:Scope}{elt tg iter:Expr}{ifs:List Expr}{pos:Pos}{wi:TI}{g:TG}{ti:TT}{te:TE}
end
section
variable {X:Cx}
end
end L2
namespace Gen
open PySem L2
abbrev rX:Stmt:=inClass (top 2) 0
structure gf(mg:Str->Option Value):Prop where
 len:mg "len" = none
 list:mg "list" = none
 dict:mg "dict" = none
 tuple:mg "tuple" = none
 str:mg "str" = none
 int:mg "int" = none
 bool:mg "bool" = none
 zip:mg "zip" = none
 all:mg "all" = none
 isi:mg "isinstance" = none
 min:mg "min" = none
 rev:mg "reversed" = none
 max:mg "max" = none
structure D0 where
 sw:List Str
 kp:List (Key×V)
 gt:List Addr
 nx:List (Key×V)
 nv:List (Key×V)
 sm:List (Key×V)
structure xC(H:Hp) (F:D0) (f1 f2 f3 f4 f5 f6:Addr):Prop where
 h1:H f1=some (.lst (F.sw.map V.str))
 h2:H f2=some (.dK F.kp)
 h3:H f3=some (.lst (F.gt.map V.ref))
 h4:H f4=some (.dK F.nx)
 h5:H f5=some (.dK F.nv)
 h6:H f6=some (.dK F.sm)
theorem xC.keep{H H':Hp}{F:D0}{f1 f2 f3 f4 f5 f6:Addr}(h:xC H F f1 f2 f3 f4 f5 f6)(k:∀b∈[f1,f2,f3,f4,f5,f6],∀o,H b=some o->H' b=some o):xC H' F f1 f2 f3 f4 f5 f6:=
 ⟨k f1 (by simp) _ h.h1,k f2 (by simp) _ h.h2,k f3 (by simp) _ h.h3,k f4 (by simp) _ h.h4,k f5 (by simp) _ h.h5,k f6 (by simp) _ h.h6⟩
theorem xC.same{H H':Hp}{F:D0}{f1 f2 f3 f4 f5 f6:Addr}(h:xC H F f1 f2 f3 f4 f5 f6)(k:ak H H'):xC H' F f1 f2 f3 f4 f5 f6:=h.keep λb _ o e=>k b o e
structure tV(K:W.Frag) (mg:Str->Option Value) (C:Addr):Prop where
 cl:om K C
 n1:cA K C "switches"
 n2:cA K C "keepers"
 n3:cA K C "gates"
 n4:cA K C "nexts"
 n5:cA K C "nevers"
 n6:cA K C "somes"
 mgC:mg "Machine" = some (.ref C)
def lA(f1 f2 f3 f4 f5 f6:Addr):List (Str×V):=aq "somes" (.ref f6) (aq "nevers" (.ref f5) (aq "nexts" (.ref f4) (aq "gates" (.ref f3) (aq "keepers" (.ref f2) (aq "switches" (.ref f1) [])))))
section
variable (f1 f2 f3 f4 f5 f6:Addr)
theorem zK:(lA f1 f2 f3 f4 f5 f6).lookup ("switches" : Str)=some (.ref f1):=by
 unfold lA
 rw[aj,adw (by decide+kernel),aj,adw (by decide+kernel),aj,adw (by decide+kernel),aj,adw (by decide+kernel),aj,adw (by decide+kernel),aj,adM rfl]
theorem GG:(lA f1 f2 f3 f4 f5 f6).lookup ("keepers" : Str)=some (.ref f2):=by
 unfold lA
 rw[aj,adw (by decide+kernel),aj,adw (by decide+kernel),aj,adw (by decide+kernel),aj,adw (by decide+kernel),aj,adM rfl]
theorem GH:(lA f1 f2 f3 f4 f5 f6).lookup ("gates" : Str)=some (.ref f3):=by
 unfold lA
 rw[aj,adw (by decide+kernel),aj,adw (by decide+kernel),aj,adw (by decide+kernel),aj,adM rfl]
theorem Pk:(lA f1 f2 f3 f4 f5 f6).lookup ("nexts" : Str)=some (.ref f4):=by
 unfold lA
 rw[aj,adw (by decide+kernel),aj,adw (by decide+kernel),aj,adM rfl]
end
theorem aB{f:Str}{v:V}{fs:List (Str×V)}{n:Nat}(h:fs.length<=n):(aq f v fs).length<=n+1:=ady (nQ f v fs) (aeP h)
theorem iG{n m:Nat}(h:n<=m)(hm:m<1000):n<1000:=aeL h hm
theorem cq{H:Hp}{p g C dx:Addr}{o:HO}{fs fs':List (Str×V)}(hp:H p=some (.ins C dx fs)) (hg:H g=none) :
 (upd (upd H g o) p (.ins C dx fs')) p=some (.ins C dx fs')/\(upd (upd H g o) p (.ins C dx fs')) g=some o/\(upd H g o) p=some (.ins C dx fs)/\∀b u,H b=some u->b≠p->(upd (upd H g o) p (.ins C dx fs')) b=some u:=by
 have n:=ae hp hg
 refine⟨af,by rw[ah (adG n),af],by rw[ah n];exact hp,λb u hb nb=>by rw[ah nb,ah (ae hb hg)];exact hb⟩
abbrev rY:List Str:=["self", "switches", "keepers", "gates", "nexts", "nevers", "somes"]
inductive Cn(C:Addr) (vs:List V) (H:Hp) (Q:VK):Prop
 | mk (p dx s1 s2 s3 s4 s5 s6:Addr) (F:D0) (h1:vs=[.ref p,.ref s1,.ref s2,.ref s3,.ref s4,.ref s5,.ref s6]) (h2:H p=some (.ins C dx [])) (h3:xC H F s1 s2 s3 s4 s5 s6) (h4:∀(g1 g2 g3 g4 g5 g6:Addr) (H':Hp),(∀g∈[g1,g2,g3,g4,g5,g6],H g=none)->[g1,g2,g3,g4,g5,g6].Nodup->H' p=some (.ins C dx (lA g1 g2 g3 g4 g5 g6))->xC H' F g1 g2 g3 g4 g5 g6->aX H H' p->Q .aY H'):Cn C vs H Q
def GI(C:Addr):Sp:=λvs H Q _=>Cn C vs H Q
theorem cI{H H':Hp}{p g:Addr}(k:∀b u,H b=some u->b≠p->H' b=some u)(hg:H' g=none)(np:g≠p):H g=none:=by
 cases e:H g with
 | none=>rfl
 | some o=>rw[k g o e np]at hg;cases hg
section
variable {P:Program}{w:World}{K:W.Frag}{mg:Str->Option Value}{base:Heap}
theorem Pl:aQ rY rY (ar rX):=⟨rfl,rfl,rfl,by decide+kernel,rfl,by decide+kernel,by decide+kernel⟩
theorem MR{f C:Addr}{fd:FuncData}(F:b0 K "__init__" "Machine.__init__" rX f fd)(T:tV K mg C)(O:gf mg):ay P w K mg base aC 1 f fd rY (GI C):=by
 refine F.ok Pl (λvs H Q E h=>?_) (λcdv A outer s H vs Q E hr h=>?_)
 . obtain⟨p,dx,s1,s2,s3,s4,s5,s6,F,rfl,_⟩:=h
   rfl
 . obtain⟨p,dx,s1,s2,s3,s4,s5,s6,F,rfl,hp,hF,kk⟩:=h
   refine⟨_,ai (dh (pv 0) (bw ig (by rfl) O.list aeu (aa (pv 1) ag)) rfl)
    (ai (dh (pv 0) (bw iC (by rfl) O.dict ad9 (aa (pv 2) ag)) rfl)
    (ai (dh (pv 0) (bw ig (by rfl) O.list aeu (aa (pv 3) ag)) rfl)
    (ai (dh (pv 0) (bw iC (by rfl) O.dict ad9 (aa (pv 4) ag)) rfl)
    (ai (dh (pv 0) (bw iC (by rfl) O.dict ad9 (aa (pv 5) ag)) rfl)
    (av (dh (pv 0) (bw iC (by rfl) O.dict ad9 (aa (pv 6) ag)) rfl)))))),?_⟩
   have np:∀{b:Addr}{u:HO},H b=some u->(∀C dx fs,u≠.ins C dx fs)->b≠p:=λhb hu z=>by
    rw[z,hp]at hb
    exact hu _ _ _ (adN hb).symm
   have m1:s1≠p:=np hF.h1 (λ_ _ _ z=>by cases z)
   have m2:s2≠p:=np hF.h2 (λ_ _ _ z=>by cases z)
   have m3:s3≠p:=np hF.h3 (λ_ _ _ z=>by cases z)
   have m4:s4≠p:=np hF.h4 (λ_ _ _ z=>by cases z)
   have m5:s5≠p:=np hF.h5 (λ_ _ _ z=>by cases z)
   have m6:s6≠p:=np hF.h6 (λ_ _ _ z=>by cases z)
   refine⟨_,rfl,s1,_,rfl,.inl (aw.of hF.h1),λg1 e1=>?_⟩
   obtain⟨p1,q1,r1,k1⟩:=cq (o:=.lst (F.sw.map V.str)) (fs':=aq "switches" (.ref g1) []) hp e1
   have b1:g1≠p:=(ae hp e1).symm
   refine⟨_,rfl,p,C,dx,[],rfl,r1,T.cl,T.n1,(by show 0<1000;decide),?_⟩
   generalize upd (upd H g1 (.lst (F.sw.map V.str))) p (.ins C dx (aq "switches" (.ref g1) []))=H1 at p1 q1 k1 ⊢
   refine⟨_,rfl,s2,_,rfl,.inl (k1 _ _ hF.h2 m2),λg2 e2=>?_⟩
   obtain⟨p2,q2,r2,k2⟩:=cq (o:=.dK F.kp) (fs':=aq "keepers" (.ref g2) (aq "switches" (.ref g1) [])) p1 e2
   have b2:g2≠p:=(ae p1 e2).symm
   refine⟨_,rfl,p,C,dx,_,rfl,r2,T.cl,T.n2,iG (aB (adn _)) (by show 1<1000;decide),?_⟩
   generalize upd (upd H1 g2 (.dK F.kp)) p (.ins C dx (aq "keepers" (.ref g2) (aq "switches" (.ref g1) [])))=H2 at p2 q2 k2 ⊢
   refine⟨_,rfl,s3,_,rfl,.inl (aw.of (k2 _ _ (k1 _ _ hF.h3 m3) m3)),λg3 e3=>?_⟩
   obtain⟨p3,q3,r3,k3⟩:=cq (o:=.lst (F.gt.map V.ref)) (fs':=aq "gates" (.ref g3) (aq "keepers" (.ref g2) (aq "switches" (.ref g1) []))) p2 e3
   have b3:g3≠p:=(ae p2 e3).symm
   refine⟨_,rfl,p,C,dx,_,rfl,r3,T.cl,T.n3,iG (aB (aB (adn _))) (by show 2<1000;decide),?_⟩
   generalize upd (upd H2 g3 (.lst (F.gt.map V.ref))) p (.ins C dx (aq "gates" (.ref g3) (aq "keepers" (.ref g2) (aq "switches" (.ref g1) []))))=H3 at p3 q3 k3 ⊢
   refine⟨_,rfl,s4,_,rfl,.inl (k3 _ _ (k2 _ _ (k1 _ _ hF.h4 m4) m4) m4),λg4 e4=>?_⟩
   obtain⟨p4,q4,r4,k4⟩:=cq (o:=.dK F.nx) (fs':=aq "nexts" (.ref g4) (aq "gates" (.ref g3) (aq "keepers" (.ref g2) (aq "switches" (.ref g1) [])))) p3 e4
   have b4:g4≠p:=(ae p3 e4).symm
   refine⟨_,rfl,p,C,dx,_,rfl,r4,T.cl,T.n4,iG (aB (aB (aB (adn _)))) (by show 3<1000;decide),?_⟩
   generalize upd (upd H3 g4 (.dK F.nx)) p (.ins C dx (aq "nexts" (.ref g4) (aq "gates" (.ref g3) (aq "keepers" (.ref g2) (aq "switches" (.ref g1) [])))))=H4 at p4 q4 k4 ⊢
   refine⟨_,rfl,s5,_,rfl,.inl (k4 _ _ (k3 _ _ (k2 _ _ (k1 _ _ hF.h5 m5) m5) m5) m5),λg5 e5=>?_⟩
   obtain⟨p5,q5,r5,k5⟩:=cq (o:=.dK F.nv) (fs':=aq "nevers" (.ref g5) (aq "nexts" (.ref g4) (aq "gates" (.ref g3) (aq "keepers" (.ref g2) (aq "switches" (.ref g1) []))))) p4 e5
   have b5:g5≠p:=(ae p4 e5).symm
   refine⟨_,rfl,p,C,dx,_,rfl,r5,T.cl,T.n5,iG (aB (aB (aB (aB (adn _))))) (by show 4<1000;decide),?_⟩
   generalize upd (upd H4 g5 (.dK F.nv)) p (.ins C dx (aq "nevers" (.ref g5) (aq "nexts" (.ref g4) (aq "gates" (.ref g3) (aq "keepers" (.ref g2) (aq "switches" (.ref g1) []))))))=H5 at p5 q5 k5 ⊢
   refine⟨_,rfl,s6,_,rfl,.inl (k5 _ _ (k4 _ _ (k3 _ _ (k2 _ _ (k1 _ _ hF.h6 m6) m6) m6) m6) m6),λg6 e6=>?_⟩
   obtain⟨p6,q6,r6,k6⟩:=cq (o:=.dK F.sm) (fs':=lA g1 g2 g3 g4 g5 g6) p5 e6
   have b6:g6≠p:=(ae p5 e6).symm
   refine⟨_,rfl,p,C,dx,_,rfl,r6,T.cl,T.n6,iG (aB (aB (aB (aB (aB (adn _)))))) (by show 5<1000;decide),?_⟩
   refine kk g1 g2 g3 g4 g5 g6 _ ?_ ?nd p6 ⟨k6 _ _ (k5 _ _ (k4 _ _ (k3 _ _ (k2 _ _ q1 b1) b1) b1) b1) b1,k6 _ _ (k5 _ _ (k4 _ _ (k3 _ _ q2 b2) b2) b2) b2,k6 _ _ (k5 _ _ (k4 _ _ q3 b3) b3) b3,k6 _ _ (k5 _ _ q4 b4) b4,k6 _ _ q5 b5,q6⟩
    (λb o hb nb=>k6 _ _ (k5 _ _ (k4 _ _ (k3 _ _ (k2 _ _ (k1 _ _ hb nb) nb) nb) nb) nb) nb)
   have z1:∀{g},g≠p->H1 g=none->H g=none:=λn e=>cI k1 e n
   have z2:∀{g},g≠p->H2 g=none->H g=none:=λn e=>z1 n (cI k2 e n)
   have z3:∀{g},g≠p->H3 g=none->H g=none:=λn e=>z2 n (cI k3 e n)
   have z4:∀{g},g≠p->H4 g=none->H g=none:=λn e=>z3 n (cI k4 e n)
   have z5:∀{g},g≠p->H5 g=none->H g=none:=λn e=>z4 n (cI k5 e n)
   case nd=>
    have d12:=ae q1 e2
    have d13:=ae (k2 _ _ q1 b1) e3
    have d14:=ae (k3 _ _ (k2 _ _ q1 b1) b1) e4
    have d15:=ae (k4 _ _ (k3 _ _ (k2 _ _ q1 b1) b1) b1) e5
    have d16:=ae (k5 _ _ (k4 _ _ (k3 _ _ (k2 _ _ q1 b1) b1) b1) b1) e6
    have d23:=ae q2 e3
    have d24:=ae (k3 _ _ q2 b2) e4
    have d25:=ae (k4 _ _ (k3 _ _ q2 b2) b2) e5
    have d26:=ae (k5 _ _ (k4 _ _ (k3 _ _ q2 b2) b2) b2) e6
    have d34:=ae q3 e4
    have d35:=ae (k4 _ _ q3 b3) e5
    have d36:=ae (k5 _ _ (k4 _ _ q3 b3) b3) e6
    have d45:=ae q4 e5
    have d46:=ae (k5 _ _ q4 b4) e6
    have d56:=ae q5 e6
    simp only[ad1,adq,adI,aec,af6,aex,ahP,ahK]
    exact⟨⟨d12,d13,d14,d15,d16⟩,⟨d23,d24,d25,d26⟩,⟨d34,d35,d36⟩,⟨d45,d46⟩,d56⟩
   intro g hg
   simp only[adq,adI,aec]at hg
   rcases hg with rfl|rfl|rfl|rfl|rfl|rfl
   . exact e1
   . exact z1 b2 e2
   . exact z2 b3 e3
   . exact z3 b4 e4
   . exact z4 b5 e5
   . exact z5 b6 e6
end
theorem oK(z:Str):z=⟨z.cps.toList.toArray⟩:=by cases z;simp
theorem iw(x:Str):(("~" : Str)++x).cps.toList=126::x.cps.toList:=by
 have e:("~" : Str)=⟨#[126]⟩:=by decide+kernel
 rw[e]
 show (#[126]++x.cps).toList=_
 simp
def gq(l:List (Str×V)):List (Key×V):=l.map λr=>((.inr r.1:Key),r.2)
def cR(l:List (Str×Str)):List (Key×V):=l.map λr=>((.inr r.1:Key),V.str r.2)
theorem pG(n:Str):∀l:List (Str×V),(aI (gq l) (.inr n)).isSome=decide (n∈l.map (·.1))
 | []=>by simp[gq,aI]
 | r::l=>by
  have ih:=pG n l
  by_cases e:r.1=n
  . have h1:aI (gq (r::l)) (.inr n)=some r.2:=cD (p:=((.inr r.1:Key),r.2)) (by rw[e])
    rw[h1]
    simp[e]
  . have h1:aI (gq (r::l)) (.inr n)=aI (gq l) (.inr n):=cy (p:=((.inr r.1:Key),r.2)) (λq=>e (aer q))
    rw[h1,ih]
    have:¬ n=r.1:=λq=>e q.symm
    simp[this]
theorem KL(l:List (Str×Str)):cR l=gq (l.map λr=>(r.1,V.str r.2)):=by unfold cR gq;rw[aeC];rfl
theorem IX{n:Str}{l:List (Str×Str)}(h:n∉l.map (·.1)):aI (cR l) (.inr n)=none:=by
 have:=pG n (l.map λr=>(r.1,V.str r.2))
 rw[← KL,aeC,adS (by simpa using h)]at this
 cases e:aI (cR l) (.inr n) with
 | none=>rfl
 | some v=>rw[e]at this;cases this
theorem pH{z:Str}(h:bg z):¬ z.cps.toList[0]?=some 126:=λe=>by
 have:=ku.mp (h.2.2 126 (adX e))
 omega
def D5(z:Str):Prop:=z = "0" \/ z = "1" \/ bg z\/∃x,bg x/\z = "~" ++ x
theorem D5.len{z:Str}(h:D5 z):1<=z.length/\z.length<=9:=by
 rcases h with rfl|rfl|h|⟨x,hx,rfl⟩
 . decide+kernel
 . decide+kernel
 . refine⟨?_,ady h.len (by decide)⟩
   have:=h.1
   simpa[Str.length]using this
 . have e:=uQ "~" x
   have t1:("~" : Str).length=1:=by decide+kernel
   have:=hx.len
   omega
theorem neS{a b:Str}{A B:Prop}(h:a≠b)(q:B):if decide (V.str a=V.str b)=true then A else B:=by
 rw[adS (λe=>h (V.str.inj e))]
 exact jU q
theorem eqS{a:Str}{A B:Prop}(q:A):if decide (V.str a=V.str a)=true then A else B:=by
 rw[ad3 rfl]
 exact pe q
theorem tW{α:Type}{l pre post:List α}{i:Nat}(h:(pre++l++post).Nodup) (hi:i<l.length):l[i]∉pre++l.take i:=by
 have e:l=l.take i++l[i]::l.drop (i+1):=by rw[← aeJ hi,aew]
 have h1:(pre++l).Nodup:=(adK.mp h).1
 have h2:((pre++l.take i)++l[i]::l.drop (i+1)).Nodup:=by rw[aeg,← e];exact h1
 intro hm
 exact(adK.mp h2).2.2 _ hm _ adB rfl
theorem ir.same{H H':Hp}{m:Addr}{M:aR}{a1 a2 a3 a4 a5 a6:Addr}(h:ir H m M a1 a2 a3 a4 a5 a6)(s:ak H H'):ir H' m M a1 a2 a3 a4 a5 a6:=
 ⟨s _ _ h.top,s _ _ h.sw,h.kp.same s,h.gt.same s,h.nx.same s,h.nv.same s,h.sm.same s⟩
theorem Xg{x:V}{r:List V} : jJ (x::r) 0=some x:=aG (j:=0) rfl
def gY(vv:List (Str×Int)):List (Key×V):=vv.map λr=>((.inr r.1:Key),V.int r.2)
def cT(vv:List (Str×Int)) (n:Str):Int:=((vv.find? λr=>decide (r.1=n)).map (·.2)).getD 0
theorem Ta(vv:List (Str×Int)):gY vv=gq (vv.map λr=>(r.1,V.int r.2)):=by unfold gY gq;rw[aeC];rfl
theorem IY{n:Str}{l:List (Str×Int)}(h:n∉l.map (·.1)):aI (gY l) (.inr n)=none:=by
 have:=pG n (l.map λr=>(r.1,V.int r.2))
 rw[← Ta,aeC,adS (by simpa using h)]at this
 cases e:aI (gY l) (.inr n) with
 | none=>rfl
 | some v=>rw[e]at this;cases this
theorem zL{n:Str} : ∀{l:List (Str×Int)},n∈l.map (·.1)->aI (gY l) (.inr n)=some (.int (cT l n))
 | [],h=>by cases h
 | r::l,h=>by
  by_cases e:r.1=n
  . have h1:aI (gY (r::l)) (.inr n)=some (.int r.2):=cD (p:=((.inr r.1:Key),V.int r.2)) (by rw[e])
    rw[h1]
    unfold cT
    rw[aeE (by simpa using e)]
    rfl
  . have h1:aI (gY (r::l)) (.inr n)=aI (gY l) (.inr n):=cy (p:=((.inr r.1:Key),V.int r.2)) (λq=>e (aer q))
    rw[h1,zL (l:=l) (by
     rw[adQ,adq]at h
     rcases h with h|h
     . exact absurd h.symm e
     . exact h)]
    unfold cT
    rw[aeW (by simpa using e)]
def dZ(vv:List (Str×Int)) (l:Str):Int:=if l = "0" then 0 else if l = "1" then 1 else if l.cps.toList[0]?=some 126 then 1-cT vv ⟨l.cps.toList.tail.toArray⟩ else cT vv l
def pI(vv:List (Str×Int)) (l:Str):Prop:=l = "0" \/ l = "1" \/ (bg l/\l∈vv.map (·.1))\/∃x,bg x/\x∈vv.map (·.1)/\l = "~" ++ x
theorem vd(vv:List (Str×Int)):dZ vv "0" = 0:=by rw[dZ,adM rfl]
theorem ve(vv:List (Str×Int)):dZ vv "1" = 1:=by rw[dZ,adw (by decide+kernel),adM rfl]
theorem rZ{z:Str}(h:bg z):z ≠ "0" /\ z ≠ "1" /\ ¬ z.cps.toList[0]?=some 126:=by
 have hl:∀c,z.cps.toList[0]?=some c->97<=c:=λc e=>(ku.mp (h.2.2 c (adX e))).1
 refine⟨λe=>?_,λe=>?_,pH h⟩
 . have:=hl 48 (by rw[e];decide+kernel)
   omega
 . have:=hl 49 (by rw[e];decide+kernel)
   omega
theorem zM(x:Str):("~" : Str)++x ≠ "0" /\ ("~" : Str)++x ≠ "1":=by
 have hl:=iw x
 refine⟨λe=>?_,λe=>?_⟩
 . rw[e]at hl
   have:(("0" : Str).cps.toList)[0]?=some 48:=by decide+kernel
   rw[hl]at this
   exact absurd this (by simp)
 . rw[e]at hl
   have:(("1" : Str).cps.toList)[0]?=some 49:=by decide+kernel
   rw[hl]at this
   exact absurd this (by simp)
theorem jf{vv:List (Str×Int)}{z:Str}(h:bg z):dZ vv z=cT vv z:=by
 obtain⟨a,b,c⟩:=rZ h
 rw[dZ,adw a,adw b,adw c]
theorem lR{vv:List (Str×Int)}{x:Str} : dZ vv ("~" ++ x)=1-cT vv x:=by
 obtain⟨a,b⟩:=zM x
 rw[dZ,adw a,adw b,iw,adM (show (126::x.cps.toList)[0]?=some 126 from rfl)]
 rw[show (⟨(126::x.cps.toList).tail.toArray⟩:Str)=x from(oK x).symm]
def qY(vv:List (Str×Int)):Prop:=∀r∈vv,r.2=0\/r.2=1
theorem qZ{vv:List (Str×Int)}(h:qY vv) (n:Str):cT vv n=0\/cT vv n=1:=by
 unfold cT
 cases e:vv.find? λr=>decide (r.1=n) with
 | none=>exact .inl rfl
 | some r=>exact h r (ae1 e)
theorem i6{vv:List (Str×Int)}(h:qY vv) (l:Str):dZ vv l=0\/dZ vv l=1:=by
 unfold dZ
 split
 . exact .inl rfl
 . split
   . exact .inr rfl
   . split
     . rcases qZ h ⟨l.cps.toList.tail.toArray⟩ with e|e <;> rw[e]
       . exact .inr rfl
       . exact .inl rfl
     . exact qZ h l
def eU(acc:List (Str×Int)) (g:Str×Str×Str):List (Str×Int):=acc++[(g.1,dZ acc g.2.1*dZ acc g.2.2)]
def vf(M:aR)(bs cs:List Int):List (Str×Int):=M.switches.zip bs++(M.keepers.map (·.1)).zip cs
def cX(M:aR)(bs cs:List Int)(i:Nat):List (Str×Int):=(M.gates.take i).foldl eU (vf M bs cs)
theorem xD:∀(gs:List (Str×Str×Str)) (acc:List (Str×Int)),(gs.foldl eU acc).map (·.1)=acc.map (·.1)++gs.map (·.1)
 | [],acc=>by simp
 | g::gs,acc=>by
  rw[afI,xD gs,eU,adp,adQ,aeg]
  rfl
theorem fq{α β:Type} : ∀{l:List α}{r:List β},l.length=r.length->(l.zip r).map (·.1)=l
 | [],[],_=>rfl
 | x::l,y::r,h=>by
  rw[List.zip_cons_cons,adQ,fq (by simpa using h)]
theorem jg{M:aR}{bs cs:List Int}(h1:M.switches.length=bs.length)(h2:M.keepers.length=cs.length)(i:Nat):(cX M bs cs i).map (·.1)=M.switches++M.keepers.map (·.1)++(M.gates.take i).map (·.1):=by
 unfold cX vf
 rw[xD,adp,fq h1,fq (by rw[abc];exact h2)]
theorem xE{M:aR}{bs cs:List Int}{i:Nat}(hi:i<M.gates.length):cX M bs cs (i+1)=eU (cX M bs cs i) M.gates[i]:=by
 unfold cX
 rw[aen,adj hi,agE]
 rfl
theorem zN{l:List Str}{bs:List Int}(h:∀b∈bs,b=0\/b=1):qY (l.zip bs):=λr hr=>h r.2 (agd hr).2
theorem rf{M:aR}{bs cs:List Int}(h1:∀b∈bs,b=0\/b=1)(h2:∀b∈cs,b=0\/b=1)(i:Nat):qY (cX M bs cs i):=by
 have base:qY (vf M bs cs):=λr hr=>by
  rcases adu.mp hr with hr|hr
  . exact zN h1 r hr
  . exact zN h2 r hr
 have all:∀(gs:List (Str×Str×Str)) (acc:List (Str×Int)),qY acc->qY (gs.foldl eU acc):=by
  intro gs
  induction gs with
  | nil=>intro acc h;exact h
  | cons g gs ih=>
   intro acc h
   refine ih _ λr hr=>?_
   rcases adu.mp hr with hr|hr
   . exact h r hr
   . rw[adJ.mp hr]
     show dZ acc g.2.1*dZ acc g.2.2=0\/dZ acc g.2.1*dZ acc g.2.2=1
     rcases i6 h g.2.1 with e|e <;> rcases i6 h g.2.2 with e'|e' <;> rw[e,e'] <;> simp
 exact all _ _ base
theorem wb{acc:List (Str×Int)}{n:Str}{v:Int}(h:n∉acc.map (·.1)):putK (gY acc) (.inr n) (.int v)=gY (acc++[(n,v)]):=by
 rw[gw _ (IY h)]
 unfold gY
 rw[adp]
 rfl
theorem Lit.Pm{names:List Str}{z:Str}{vv:List (Str×Int)}(h:Lit names z) (hn:∀x∈names,bg x) (hs:∀x∈names,x∈vv.map (·.1)):pI vv z:=by
 rcases h with h|h|⟨x,hx,h|h⟩
 . exact .inl h
 . exact .inr (.inl h)
 . exact .inr (.inr (.inl ⟨h ▸ hn x hx,h ▸ hs x hx⟩))
 . exact .inr (.inr (.inr ⟨x,hn x hx,hs x hx,h⟩))
theorem pI.len{vv:List (Str×Int)}{z:Str}(h:pI vv z):1<=z.length/\z.length<=9:=by
 have hf:D5 z:=by
  rcases h with h|h|⟨h,_⟩|⟨x,h,_,e⟩
  . exact .inl h
  . exact .inr (.inl h)
  . exact .inr (.inr (.inl h))
  . exact .inr (.inr (.inr ⟨x,h,e⟩))
 exact hf.len
abbrev we:Stmt:=top 24
inductive Co(vs:List V) (H:Hp) (Q:VK):Prop
 | mk (d:Addr) (vv:List (Str×Int)) (l:Str) (h1:vs=[.ref d,.str l]) (h2:Rd H d (.dK (gY vv))) (h3:pI vv l) (h4:∀H',ak H H'->Q (.int (dZ vv l)) H'):Co vs H Q
def vg:Sp:=λvs H Q _=>Co vs H Q
theorem zO{H:Hp}{d:Addr}{vv:List (Str×Int)}{n:Str}(h:Rd H d (.dK (gY vv))) (hn:n∈vv.map (·.1)):br H d (.str n) (some (.int (cT vv n))):=.inl ⟨gY vv,.inr n,h,rfl,(zL hn).symm⟩
section
variable {P:Program}{w:World}{K:W.Frag}{mg:Str->Option Value}{base:Heap}
theorem Tb:aQ ["_law_values_here", "_law_literal_here"] ["_law_values_here", "_law_literal_here"] (ar we):=⟨rfl,rfl,rfl,by decide+kernel,rfl,by decide+kernel,by decide+kernel⟩
theorem Pn{f:Addr}{fd:FuncData}(F:b0 K "_law_bit" "_law_bit" we f fd)(O:gf mg):ay P w K mg base aC 1 f fd ["_law_values_here", "_law_literal_here"] vg:=by
 refine F.ok Tb (λvs H Q E h=>?_) (λcdv A outer s H vs Q E hr h=>?_)
 . obtain⟨d,vv,l,rfl,_⟩:=h
   rfl
 . obtain⟨d,vv,l,rfl,hd,hl,kk⟩:=h
   have hu:=d6 hr
   have zP:l.length<=sizeLine:=ady hl.len.2 (by decide)
   refine⟨_,ai (cw (cF FA (pv 1) (eE (aa bp (aa bp ag))) (by with_unfolding_all rfl)) (av (aN (bw zJ (by rfl) O.int ahe (aa (pv 1) ag)))) bf)
    (ai (cw (cF jr (aK uD (pv 1) ao (λ_ _=>rfl)) bp (cU _)) (av (aN (aT Fg ao (cG hu (pv 0) (eR Cj (pv 1) (ff ao) gZ) (λ_ _=>rfl))))) bf)
    (av (aN (cG hu (pv 0) (pv 1) (λ_ _=>rfl))))),?_⟩
   refine⟨_,rfl,(by show 2<=sizeLine;decide),λt ht=>?_⟩
   have st:ak H (upd H t (.tup [.str "0",.str "1"])):=ak.ax ht
   have hd':Rd (upd H t (.tup [.str "0",.str "1"])) d (.dK (gY vv)):=by
    rcases hd with hd|⟨o,hd⟩
    . exact .inl (st _ _ hd)
    . exact .inr ⟨o,st _ _ hd⟩
   have k0:=kk _ st
   refine⟨t,_,rfl,.inr (aS.of af),rfl,rfl,_,rfl,?_⟩
   show if uF (.str l) [.str "0",.str "1"]=true then _ else _
   have IZ:l ≠ "0" -> l ≠ "1" -> uF (.str l) [.str "0",.str "1"]=false:=λa b=>by
    have:=vX l ["0", "1"]
    rw[show uF (V.str l) [.str "0",.str "1"]=decide (l∈(["0", "1"]:List Str)) from this]
    exact adS (by simp[a,b])
   have tl:("~" : Str)=⟨#[126]⟩:=by decide+kernel
   rcases hl with rfl|rfl|⟨hn,hm⟩|⟨x,hn,hm,rfl⟩
   . rw[vd]at k0
     rw[show uF (V.str "0") [.str "0",.str "1"]=true from by decide+kernel]
     exact pe ⟨_,rfl, "0",0,rfl,by decide+kernel,by decide+kernel,k0⟩
   . rw[ve]at k0
     rw[show uF (V.str "1") [.str "0",.str "1"]=true from by decide+kernel]
     exact pe ⟨_,rfl, "1",1,rfl,by decide+kernel,by decide+kernel,k0⟩
   . obtain⟨n0,n1,n2⟩:=rZ hn
     rw[jf hn]at k0
     rw[IZ n0 n1]
     refine jU ?_
     obtain⟨c,hc⟩:∃c,l.cps.toList[0]?=some c:=⟨_,adj (by have:=hn.1;omega)⟩
     have Tc:c≠126:=λe=>n2 (by rw[hc,e])
     refine⟨_,rfl,l,0,c,rfl,rfl,zP,aG (j:=0) hc,rfl,_,rfl,neS (λq=>Tc (by
      rw[tl]at q
      have e2:=congrArg (λs:Str=>s.cps.toList) q
      simpa using e2)) ?_⟩
     exact⟨_,rfl,_,rfl,d,_,rfl,zO hd' hm,k0⟩
   . obtain⟨n0,n1⟩:=zM x
     rw[lR]at k0
     rw[IZ n0 n1]
     refine jU ?_
     have e0:(("~" : Str)++x).cps.toList[0]?=some 126:=by rw[iw];rfl
     refine⟨_,rfl,_,0,126,rfl,rfl,zP,aG (j:=0) e0,rfl,_,rfl,?_⟩
     rw[show (⟨#[126]⟩:Str) = "~" from tl.symm]
     refine eqS ?_
     refine⟨_,rfl,_,rfl,_,rfl,_,1,rfl,rfl,rfl,zP,?_⟩
     have ts:Txt.slice (("~" : Str)++x) (some 1) none=x:=by
      rw[oK (Txt.slice (("~" : Str)++x) (some 1) none),vc,iw]
      exact(oK x).symm
     rw[ts]
     exact⟨d,_,rfl,zO hd' hm,_,_,rfl,rfl,k0⟩
end
structure kZ(M:aR) (names:List Str) (bs cs:List Int):Prop where
 ok:dj M names
 l1:M.switches.length=bs.length
 l2:M.keepers.length=cs.length
 b1:∀b∈bs,b=0\/b=1
 b2:∀b∈cs,b=0\/b=1
 n1:M.switches.length<=12
 n2:M.keepers.length<=16
 n3:M.gates.length<=60
section
variable {M:aR}{names:List Str}{bs cs:List Int}
theorem kZ.nd(h:kZ M names bs cs):(M.switches++M.keepers.map (·.1)++M.gates.map (·.1)).Nodup:=by have:=h.ok.nd;rw[h.ok.all]at this;exact this
theorem kZ.nm(h:kZ M names bs cs):∀z∈M.switches++M.keepers.map (·.1)++M.gates.map (·.1),bg z:=λz hz=>h.ok.nm z (by rw[h.ok.all];exact hz)
theorem kZ.len(h:kZ M names bs cs)(i:Nat):(cX M bs cs i).length<=88:=by
 have:=congrArg List.length (jg h.l1 h.l2 i)
 simp only[abc,adm,adU]at this
 have:=h.n1
 have:=h.n2
 have:=h.n3
 omega
theorem kZ.gate(h:kZ M names bs cs){i:Nat}(hi:i<M.gates.length):M.gates[i].1∉(cX M bs cs i).map (·.1)/\pI (cX M bs cs i) M.gates[i].2.1/\pI (cX M bs cs i) M.gates[i].2.2:=by
 rw[jg h.l1 h.l2]
 have Xh:∀x∈M.switches++M.keepers.map (·.1)++(M.gates.take i).map (·.1),bg x:=λx hx=>h.nm x (by
  rcases adu.mp hx with hx|hx
  . exact adT _ hx
  . obtain⟨r,hr,e⟩:=ads.mp hx
    exact adF _ (ads.mpr ⟨r,aet hr,e⟩))
 obtain⟨g1,g2⟩:=h.ok.gl i _ (adj hi)
 refine⟨?_,g1.Pm Xh λx hx=>by rw[jg h.l1 h.l2];exact hx,g2.Pm Xh λx hx=>by rw[jg h.l1 h.l2];exact hx⟩
 have:=tW (l:=M.gates.map (·.1)) (pre:=M.switches++M.keepers.map (·.1)) (post:=[]) (by simpa using h.nd) (i:=i) (by rw[abc];exact hi)
 rw[afx,← aft]at this
 exact this
end
def tX(K:W.Frag)(H:Hp)(t:Addr)(bs:List Int):Prop:=aS K H t (bs.map V.int)
theorem tX.same{K:W.Frag}{H H':Hp}{t:Addr}{bs:List Int}(h:tX K H t bs)(s:ak H H'):tX K H' t bs:=ak.jW s h
theorem aS.keep{K:W.Frag}{H H':Hp}{u:Addr}{xs:List V}(h:aS K H u xs) (k:∀o,(∀kvs,o≠.dK kvs)->(∀l,o≠.lst l)->H u=some o->H' u=some o):aS K H' u xs:=by
 rcases h with (h|⟨o,h⟩)|h
 . exact .inl (.inl (k _ (by intro _ z;cases z) (by intro _ z;cases z) h))
 . exact .inl (.inr ⟨o,k _ (by intro _ z;cases z) (by intro _ z;cases z) h⟩)
 . exact .inr h
abbrev lY:Stmt:=top 23
inductive xF(K:W.Frag) (vs:List V) (H:Hp) (Q:VK):Prop
 | mk (m a1 a2 a3 a4 a5 a6 st tl:Addr) (M:aR) (names:List Str) (bs cs:List Int) (h1:vs=[.ref m,.ref st,.ref tl]) (h2:ir H m M a1 a2 a3 a4 a5 a6) (h3:kZ M names bs cs) (h4:tX K H st cs) (h5:tX K H tl bs) (h6:∀d H',H d=none->ak H H'->H' d=some (.dK (gY (cX M bs cs M.gates.length)))->Q (.ref d) H'):xF K vs H Q
def tY(K:W.Frag):Sp:=λvs H Q _=>xF K vs H Q
abbrev nVs:List Str:=["_law_m", "_law_stand", "_law_told", "_law_values_here", "_law_name", "_law_bit_here", "_law_keeper", "_law_one", "_law_other"]
abbrev qo:List Str:=["_law_m", "_law_stand", "_law_told"]
theorem zQ{α β:Type}{l:List α}{r:List β}{i:Nat}(h1:i<l.length)(h2:i<r.length):(l.zip r).take (i+1)=(l.zip r).take i++[(l[i],r[i])]:=by
 rw[aen,adj (by rw[afJ];omega),List.getElem_zip]
 rfl
section
variable {P:Program}{w:World}{K:W.Frag}{mg:Str->Option Value}{base:Heap}
theorem pJ:aQ nVs qo (ar lY):=⟨rfl,rfl,rfl,by decide+kernel,rfl,by decide+kernel,by decide+kernel⟩
theorem GJ{f fB:Addr}{fd dB:FuncData}(F:b0 K "_law_values" "_law_values" lY f fd)(O:gf mg)(GB:ay P w K mg base aC 1 fB dB ["_law_values_here", "_law_literal_here"] vg) (mB:mg "_law_bit" = some (.ref fB)) (kB:W.keepIn K (.ref fB)=true) (bB:Binds K dB ["_law_values_here", "_law_literal_here"] []):ay P w K mg base aC 2 f fd qo (tY K):=by
 refine F.ok pJ (λvs H Q E h=>?_) (λcdv A outer s H vs Q E hr h=>?_)
 . obtain⟨m,a1,a2,a3,a4,a5,a6,st,tl,M,names,bs,cs,rfl,_⟩:=h
   rfl
 . obtain⟨m,a1,a2,a3,a4,a5,a6,st,tl,M,names,bs,cs,rfl,hM,hf,nu,qe,kk⟩:=h
   have hu:=d6 hr
   have cC:aZ 1 _:=hr
   have l1:=hf.l1
   have l2:=hf.l2
   have n1:=hf.n1
   have n2:=hf.n2
   have n3:=hf.n3
   refine⟨_,ai (aD (i:=3) pJ.nd rfl (Or.inl rfl) jT)
    (ai (dJ ad6 rfl (Ck (by rfl) O.zip (aa (cG hu (pv 0) bp (λ_ _=>rfl)) (aa (pv 2) ag))) (jm rfl (cg (aH (i:=4) pJ.nd rfl (Or.inl rfl)) (cg (aH (i:=5) pJ.nd rfl (Or.inl rfl)) iA)))
     (av (dQ hu (pv 3) (pv 4) (pv 5) rfl)))
    (ai (dJ ad6 rfl (Ck (by rfl) O.zip (aa (cG hu (pv 0) bp (λ_ _=>rfl)) (aa (pv 1) ag))) (jm rfl (cg (aH (i:=6) pJ.nd rfl (Or.inl rfl)) (cg (aH (i:=5) pJ.nd rfl (Or.inl rfl)) iA)))
     (av (dQ hu (pv 3) (aK bx (pv 6) ao (λ_ _=>rfl)) (pv 5) rfl)))
    (ai (dJ ad6 rfl (c8 (cG hu (pv 0) bp (λ_ _=>rfl))) (jm rfl (cg (aH (i:=4) pJ.nd rfl (Or.inl rfl)) (cg (aH (i:=7) pJ.nd rfl (Or.inl rfl)) (cg (aH (i:=8) pJ.nd rfl (Or.inl rfl)) iA))))
     (av (dQ hu (pv 3) (pv 4) (aT jo (aE GB cC rfl mB kB bB .nil aA (aa (pv 3) (aa (pv 7) ag))) (aE GB cC rfl mB kB bB .nil aA (aa (pv 3) (aa (pv 8) ag)))) rfl)))
    (av (aN (pv 3)))))),?_⟩
   intro d hd
   have kp:∀b o,H b=some o->b≠d:=λb o hb=>ae hb hd
   have s1:ak H (upd H d (.dK [])):=ak.ax hd
   have q1:(upd H d (.dK [])) d=some (.dK (gY ((M.switches.zip bs).take 0))):=af
   generalize upd H d (.dK [])=H1 at s1 q1 ⊢
   have lI:=hM.same s1
   have ndS:M.switches.Nodup:=(adK.mp (adK.mp hf.nd).1).1
   refine⟨_,rfl,m,.ref a1,rfl,br.k (k:=.inr "switches") lI.top,_,rfl,a1,tl,rfl,⟨_,aw.of lI.sw⟩,⟨_,ak.jW s1 qe⟩,Cm (K:=K) (tp:=false) (tq:=true) (a:=a1) (b:=tl) (xs:=M.switches.map V.str) (ys:=bs.map V.int) (by simp only[abc];omega)
    (λi σ H2=>∃v4 v5,σ=[some (.ref m),some (.ref st),some (.ref tl),some (.ref d),v4,v5,none,none,none]/\H2 d=some (.dK (gY ((M.switches.zip bs).take i)))/\ak H H2) ?_ ?_ ?_ ?_⟩
   . exact⟨none,none,rfl,q1,s1⟩
   . rintro i σ H2 _ ⟨_,_,_,_,s2⟩
     exact⟨aw.of (s2 _ _ hM.sw),ak.jW s2 qe⟩
   . rintro i xv yv Tp σ H2 hx hy hT ⟨v4,v5,rfl,hd2,s2⟩
     have hi:i<M.switches.length:=by
      have:=(adt.mp hx).1
      rwa[abc]at this
     have GK:i<bs.length:=by omega
     have ex:xv=.str M.switches[i]:=by
      rw[ado,adj hi]at hx
      exact(adN hx).symm
     have ey:yv=.int bs[i]:=by
      rw[ado,adj GK]at hy
      exact(adN hy).symm
     subst ex ey
     have Po:d≠Tp:=ae hd2 hT
     have ZS:(upd H2 Tp (.tup [.str M.switches[i],.int bs[i]])) d=some (.dK (gY ((M.switches.zip bs).take i))):=by rw[ah Po];exact hd2
     refine⟨Tp,_,rfl,aS.of af,rfl,_,_,rfl,_,_,rfl,rfl,?_⟩
     refine⟨_,rfl,_,rfl,_,rfl,d,_,rfl,eP.k (k:=.inr M.switches[i]) ZS ?_,?_⟩
     . unfold gY
       rw[abc,adU,afJ]
       exact small (by omega)
     . refine⟨_,_,rfl,?_,λb o hb=>?_⟩
       . rw[af,wb,zQ hi GK]
         rw[aft,fq l1]
         have:=tW (pre:=[]) (post:=[]) (by simpa using ndS) hi
         simpa using this
       . rw[ah (kp b o hb),ah (ae (s2 _ _ hb) hT)]
         exact s2 _ _ hb
   rintro σ H2 ⟨v4,v5,rfl,hd2,s2⟩
   rw[abc,aed (by rw[afJ];omega)]at hd2
   have nG:=hM.same s2
   obtain⟨us,Pp,ij⟩:=id nG.kp
   have xo:=ij.length
   rw[abc]at xo
   have jB:=(adK.mp hf.nd).1
   refine⟨_,rfl,m,.ref a2,rfl,br.k (k:=.inr "keepers") nG.top,_,rfl,a2,st,rfl,⟨_,aw.of Pp⟩,⟨_,ak.jW s2 nu⟩,Cm (K:=K) (tp:=false) (tq:=true) (a:=a2) (b:=st) (xs:=us.map V.ref) (ys:=cs.map V.int) (by simp only[abc];omega)
    (λi σ H3=>∃v5 v6,σ=[some (.ref m),some (.ref st),some (.ref tl),some (.ref d),v4,v5,v6,none,none]/\H3 d=some (.dK (gY (M.switches.zip bs++((M.keepers.map (·.1)).zip cs).take i)))/\(∀b o,H2 b=some o->b≠d->H3 b=some o)) ?_ ?_ ?_ ?_⟩
   . exact⟨v5,none,rfl,by rw[List.take_zero,afk];exact hd2,λ_ _ h _=>h⟩
   . rintro i σ H3 _ ⟨_,_,_,_,s3⟩
     refine⟨aw.of (s3 _ _ Pp ?_),aS.keep (ak.jW s2 nu) λo vh _ ho=>s3 _ _ ho (aL ho hd2 (vh _))⟩
     exact aL Pp hd2 (by intro z;cases z)
   . rintro i xv yv Tp σ H3 hx hy hT ⟨Xi,v6,rfl,zR,s3⟩
     have hi:i<M.keepers.length:=by
      have:=(adt.mp hx).1
      rw[abc]at this
      omega
     have GK:i<cs.length:=by omega
     obtain⟨t,ht,O3⟩:=cH ij (i:=i) (b:=lz M.keepers[i]) (by rw[ado,adj hi];rfl)
     have ex:xv=.ref t:=by
      rw[ado,ht]at hx
      exact(adN hx).symm
     have ey:yv=.int cs[i]:=by
      rw[ado,adj GK]at hy
      exact(adN hy).symm
     subst ex ey
     have Po:d≠Tp:=ae zR hT
     have ZT:(upd H3 Tp (.tup [.ref t,.int cs[i]])) d=some (.dK (gY (M.switches.zip bs++((M.keepers.map (·.1)).zip cs).take i))):=by rw[ah Po];exact zR
     have htd:t≠d:=aL O3 hd2 (by intro z;cases z)
     have Xj:=s3 _ _ O3 htd
     have ntT:t≠Tp:=ae Xj hT
     refine⟨Tp,_,rfl,aS.of af,rfl,_,_,rfl,_,_,rfl,rfl,?_⟩
     refine⟨_,rfl,_,rfl,_,rfl,t,_,0,.str M.keepers[i].1,rfl,rfl,aS.of (by rw[ah ntT];exact Xj),Xg,d,_,rfl,eP.k (k:=.inr M.keepers[i].1) ZT ?_,?_⟩
     . unfold gY
       simp only[abc,adm,adU,afJ]
       exact small (by omega)
     . refine⟨_,_,rfl,?_,λb o hb Cp=>?_⟩
       . rw[af,wb]
         . rw[zQ (by rw[abc];exact hi) GK,afx,aeg]
         . rw[adp,fq l1,aft,fq (by rw[abc];exact l2)]
           have:=tW (l:=M.keepers.map (·.1)) (pre:=M.switches) (post:=[]) (by simpa using jB) (i:=i) (by rw[abc];exact hi)
           rw[afx]at this
           exact this
       . rw[ah Cp,ah (ae (s3 _ _ hb Cp) hT)]
         exact s3 _ _ hb Cp
   rintro σ H3 ⟨Xi,v6,rfl,zR,s3⟩
   rw[abc,xo,aed (by rw[afJ,abc];omega)]at zR
   have lH:ak H H3:=λb o hb=>s3 _ _ (s2 _ _ hb) (kp b o hb)
   have Xk:=hM.same lH
   obtain⟨ts,Pq,Xl⟩:=id Xk.gt
   have zq:=Xl.length
   rw[abc]at zq
   refine⟨_,rfl,m,.ref a3,rfl,br.k (k:=.inr "gates") Xk.top,a3,rfl,⟨_,aw.of Pq⟩,jQ (K:=K) (a:=a3) (xs:=ts.map V.ref) (λi σ H4=>∃v4 v7 v8,σ=[some (.ref m),some (.ref st),some (.ref tl),some (.ref d),v4,Xi,v6,v7,v8]/\H4 d=some (.dK (gY (cX M bs cs i)))/\(∀b o,H3 b=some o->b≠d->H4 b=some o)) ?_ ?_ ?_ ?_⟩
   . exact⟨v4,none,none,rfl,zR,λ_ _ h _=>h⟩
   . rintro i σ H4 _ ⟨_,_,_,_,_,s4⟩
     exact aw.of (s4 _ _ Pq (aL Pq zR (by intro z;cases z)))
   . rintro i xv σ H4 hx ⟨v4',v7,v8,rfl,Cq,s4⟩
     have sU:i<(ts.map V.ref).length:=(adt.mp hx).1
     rw[abc,zq]at sU
     obtain⟨t,ht,hT⟩:=cH Xl (i:=i) (b:=mQ M.gates[i]) (by rw[ado,adj sU];rfl)
     have ex:xv=.ref t:=by
      rw[ado,ht]at hx
      exact(adN hx).symm
     subst ex
     obtain⟨jA,oH,du⟩:=hf.gate sU
     have hbt:=rf (M:=M) hf.b1 hf.b2 i
     refine⟨t,_,rfl,aS.of (s4 _ _ hT (aL hT zR (by intro z;cases z))),rfl,_,_,rfl,_,_,rfl,_,_,rfl,rfl,?_⟩
     refine⟨_,rfl,_,rfl,d,_,_,rfl,.inl Cq,oH,λH5 s5=>?_⟩
     refine⟨_,rfl,_,rfl,d,_,_,rfl,.inl (s5 _ _ Cq),du,λH6 s6=>?_⟩
     have hd6:=s6 _ _ (s5 _ _ Cq)
     have hlen:=hf.len i
     refine⟨_,_,rfl,rfl,.inl ?_,?_⟩
     . rcases i6 hbt M.gates[i].2.1 with e|e <;> rw[e] <;> decide
     refine⟨_,rfl,_,rfl,d,_,rfl,eP.k (k:=.inr M.gates[i].1) hd6 (by unfold gY;rw[abc];exact small (by omega)),?_⟩
     refine⟨_,_,_,rfl,?_,λb o hb Cp=>?_⟩
     . rw[af,wb jA,xE sU]
       rfl
     . rw[ah Cp]
       exact s6 _ _ (s5 _ _ (s4 _ _ hb Cp))
   . rintro σ H4 ⟨v4',v7,v8,rfl,Cq,s4⟩
     rw[abc,zq]at Cq
     exact⟨_,rfl,kk d H4 hd (λb o hb=>s4 _ _ (lH _ _ hb) (kp b o hb)) Cq⟩
end
end Gen
namespace L2
open PySem PySem.Spec PyProof.Rows
def rev:Nat->Nat->Nat
 | 0,_=>0
 | k+1,i=>(i % 2)*2 ^ k+rev k (i / 2)
def cB(k i j:Nat):Bool:=Nat.blt (rev k i) (rev k j)
def place(c:Nat->Nat->Bool)(p:Array Nat)(lo k:Nat):Nat->Nat->Nat->Nat
 | 0,l,_=>l
 | f+1,l,r=>if l≥r then l else if c (p.getD (lo+k) 0) (p.getD (lo+(l+r) / 2) 0)=true then place c p lo k f l ((l+r) / 2) else place c p lo k f ((l+r) / 2+1) r
def i7(c:Nat->Nat->Bool)(lo:Nat):Nat->Nat->Array Nat->Array Nat
 | 0,_,p=>p
 | f+1,k,p=>i7 c lo f (k+1) (bubble p (lo+k) (lo+k-(lo+place c p lo k k 0 k)))
theorem xG{α β:Type}(f:α->β)(u v:Nat->Nat):∀(l:List Nat) (xs:Array α),l.foldl (λa k=>a.swapIfInBounds (u k) (v k)) (xs.map f)=(l.foldl (λa k=>a.swapIfInBounds (u k) (v k)) xs).map f
 | [],_=>rfl
 | k::l,xs=>by
  rw[afI,afI,W.kas_swap_map]
  exact xG f u v l _
section
variable {prog:Program}{w:World}{A:Around}{E:Value->Shared->Prop}{s:Shared}{κ:SortKind}{it:Nat->Keyed}{N:Nat}{c:Nat->Nat->Bool}{p:Array Nat}{pd:Array (Nat×Nat×Nat)}
def mY(prog:Program)(w:World)(A:Around)(s:Shared)(κ:SortKind)(it:Nat->Keyed)(N:Nat)(c:Nat->Nat->Bool):Prop:=
 ∀i j,i<N->j<N->∀(E:Value->Shared->Prop) (Q:Bool->Shared->Prop),Q (c i j) s->wpAny (model prog w) A (keyLt' κ (it i).1 (it j).1) Q E s
def d9(κ:SortKind)(it:Nat->Keyed)(p:Array Nat) (pd:Array (Nat×Nat×Nat)):SortSt:=SortSt.mk' κ (p.map it) pd 7 none
def vi(N:Nat)(p:Array Nat):Prop:=∀i,i<p.size->p.getD i 0<N
theorem ZU(C:mY prog w A s κ it N c){st:SortSt}{i j:Nat}{Q:Option Bool->SortSt->Prop}(hk:kindOf st=κ)(hi:i<N)(hj:j<N) (h:Q (some (c i j)) st):wpS (model prog w) A E s (lt' (it i) (it j)) Q st:=by
 rw[lt'_eq]
 refine aek (ahy ?_)
 rw[hk]
 refine aek (wpS_lift (agO (C i j hi hj _ _ ⟨rfl,?_⟩)))
 exact aeR h
theorem GN{st:SortSt}{i:Nat}{Q:Keyed->SortSt->Prop}(hi:i<p.size) (h:Q (it (p.getD i 0)) st):wpS (model prog w) A E s (elem' (p.map it) i) Q st:=by
 rw[elem'_eq]
 have e:(p.map it)[i]?=some (it (p.getD i 0)):=by simp[Array.getD,hi]
 rw[e]
 exact aeR h
theorem zS(C:mY prog w A s κ it N c){i j:Nat}{Q:Option Bool->SortSt->Prop}(B:vi N p)(hi:i<p.size)(hj:j<p.size) (h:Q (some (c (p.getD i 0) (p.getD j 0))) (d9 κ it p pd)):wpS (model prog w) A E s (ltAt' i j) Q (d9 κ it p pd):=by
 rw[ltAt'_eq]
 refine aek (ahy (aek (GN hi (aek (GN hj ?_)))))
 exact ZU C rfl (B i hi) (B j hj) h
theorem Pr{k l:Nat}{Q:Unit->SortSt->Prop}(h:Q () (d9 κ it (bubble p k (k-l)) pd)):wpS (model prog w) A E s (moveDown' k l) Q (d9 κ it p pd):=by
 rw[moveDown'_eq]
 refine wpS_modify ?_
 have e:bubble (p.map it) k (k-l)=(bubble p k (k-l)).map it:=xG it (λi=>k-i) (λi=>k-i-1) _ p
 show Q () (SortSt.mk' κ (bubble (p.map it) k (k-l)) pd 7 none)
 rw[e]
 exact h
theorem vi.perm{q:Array Nat}(B:vi N p)(h:q.Perm p):vi N q:=λi hi=>by
 have hs:q.size=p.size:=h.size_eq
 have hm:q.getD i 0∈p:=h.mem_iff.mp (by
  have:q.getD i 0=q[i]:=by simp[Array.getD,hi]
  rw[this]
  exact Array.getElem_mem hi)
 obtain⟨j,hj,e⟩:=Array.mem_iff_getElem.mp hm
 rw[← e]
 have:p.getD j 0=p[j]:=by simp[Array.getD,hj]
 rw[← this]
 exact B j hj
theorem Td(C:mY prog w A s κ it N c){lo n ok:Nat}{Q:Bool->SortSt->Prop}(B:vi N p)(hz:lo+n<=p.size)(hok:1<=ok)(hn:ok<=n) (h:Q true (d9 κ it (i7 c lo (n-ok) ok p) pd)):wpS (model prog w) A E s (binarySort' lo n ok) Q (d9 κ it p pd):=by
 rw[binarySort'_eq]
 have hm:max ok 1=ok:=by omega
 rw[hm]
 refine aek (agP (afq (I:=λk d cj=>d=(none,())/\∃q:Array Nat,cj=d9 κ it q pd/\q.Perm p/\i7 c lo (n-k) k q=i7 c lo (n-ok) ok p)
  (Q:=λd cj=>d=(none,())/\cj=d9 κ it (i7 c lo (n-ok) ok p) pd) ?step ?fin ⟨rfl,p,rfl,Array.Perm.refl _,rfl⟩) ?post)
 case post=>
  rintro d cj ⟨rfl,rfl⟩
  exact aeR h
 case fin=>
  rintro d cj ⟨rfl,q,rfl,_,e⟩
  refine⟨rfl,?_⟩
  rw[show n-max ok n=0 by omega]at e
  rw[← e]
  rfl
 case step=>
  rintro k d cj hk hkn ⟨rfl,q,rfl,hq,e⟩
  have hs:q.size=p.size:=hq.size_eq
  have Bq:=B.perm hq
  refine aek (agP (afq (I:=λx d hV=>hV=d9 κ it q pd/\∃l r,d=(none,l,r)/\l<=r/\r<=k/\place c q lo k (k-x) l r=place c q lo k k 0 k)
   (Q:=λd hV=>hV=d9 κ it q pd/\∃l r,d=(none,l,r)/\l=place c q lo k k 0 k) ?istep ?ifin ⟨rfl,0,k,rfl,by omega,by omega,rfl⟩) ?ipost)
  case ifin=>
   rintro d hV ⟨rfl,l,r,rfl,h1,h2,e2⟩
   refine⟨rfl,l,r,rfl,?_⟩
   rw[show k-max 0 k=0 by omega]at e2
   exact e2
  case istep=>
   rintro x d hV _ hx ⟨rfl,l,r,rfl,h1,h2,e2⟩
   obtain⟨f,hf⟩:∃f,k-x=f+1:=⟨k-x-1,by omega⟩
   have Xm:k-(x+1)=f:=by omega
   rw[hf,place]at e2
   dsimp only
   by_cases Xn:l≥r
   . rw[adM Xn]at e2 ⊢
     exact aeR ⟨rfl,l,r,rfl,e2⟩
   . rw[adw Xn]at e2 ⊢
     refine aek (zS C Bq (by omega) (by omega) ?_)
     dsimp only
     cases hc:c (q.getD (lo+k) 0) (q.getD (lo+(l+r) / 2) 0) with
     | true=>
      rw[hc,adM rfl]at e2
      rw[adM rfl]
      exact aeR ⟨rfl,l,(l+r) / 2,rfl,by omega,by omega,by rw[Xm];exact e2⟩
     | false=>
      rw[hc,adw (by decide)]at e2
      rw[adw (by decide)]
      exact aeR ⟨rfl,(l+r) / 2+1,r,rfl,by omega,by omega,by rw[Xm];exact e2⟩
  case ipost=>
   rintro d hV ⟨rfl,l,r,rfl,e2⟩
   refine aek (Pr (aeR ⟨rfl,_,rfl,(bubble_perm _ _ _).trans hq,?_⟩))
   obtain⟨f,hf⟩:∃f,n-k=f+1:=⟨n-k-1,by omega⟩
   rw[hf,i7,← e2]at e
   rw[show n-(k+1)=f by omega]
   exact e
theorem I0(C:mY prog w A s κ it N c){lo n:Nat}{Q:Option Nat->SortSt->Prop}(B:vi N p)(hz:lo+n<=p.size)(hn:3<=n) (h1:c (p.getD (lo+1) 0) (p.getD lo 0)=false) (h2:c (p.getD (lo+2) 0) (p.getD (lo+1) 0)=true) (h3:c (p.getD lo 0) (p.getD (lo+1) 0)=true)
 (h:Q (some 2) (d9 κ it p pd)):wpS (model prog w) A E s (countRun' lo n) Q (d9 κ it p pd):=by
 rw[countRun'_eq]
 refine aek (agP (afq (I:=λx d cj=>cj=d9 κ it p pd/\((x=1/\d=(none,1))\/(x=2/\d=(none,2))))
  (Q:=λd cj=>cj=d9 κ it p pd/\d=(none,2)) ?step ?fin ⟨rfl,.inl ⟨rfl,rfl⟩⟩) ?post)
 case fin=>
  rintro d cj ⟨rfl,⟨e,rfl⟩|⟨e,rfl⟩⟩
  . omega
  . exact⟨rfl,rfl⟩
 case step=>
  rintro x d cj hx Pt ⟨rfl,⟨rfl,rfl⟩|⟨rfl,rfl⟩⟩
  . refine aek (zS C B (by omega) (by omega) ?_)
    rw[show lo+1-1=lo by omega,h1]
    exact aeR ⟨rfl,.inr ⟨rfl,rfl⟩⟩
  . refine aek (zS C B (by omega) (by omega) ?_)
    rw[show lo+2-1=lo+1 by omega,h2]
    exact aeR ⟨rfl,rfl⟩
 case post=>
  rintro d cj ⟨rfl,rfl⟩
  dsimp only
  rw[adw (by simp;omega),adM (by omega)]
  refine aek (zS C B (by omega) (by omega) ?_)
  rw[show lo+2-1=lo+1 by omega,h3]
  exact aeR h
end
section
variable {prog:Program}{w:World}{A:Around}{E:Value->Shared->Prop}{s:Shared}{κ:SortKind}{it:Nat->Keyed}{N:Nat}{c:Nat->Nat->Bool}{p:Array Nat}{pd:Array (Nat×Nat×Nat)}
end
section
variable {prog:Program}{w:World}{A:Around}{E:Value->Shared->Prop}{s:Shared}{κ:SortKind}{it:Nat->Keyed}{N:Nat}{c:Nat->Nat->Bool}{X Y:Array Nat}{n:Nat}
end
section
variable {prog:Program}{w:World}{A:Around}{E:Value->Shared->Prop}{s:Shared}{κ:SortKind}{it:Nat->Keyed}{N:Nat}{c:Nat->Nat->Bool}{p:Array Nat}{n:Nat}
end
section
variable {prog:Program}{w:World}{A:Around}{E:Value->Shared->Prop}{s:Shared}{κ:SortKind}{it:Nat->Keyed}{N:Nat}{c:Nat->Nat->Bool}{p:Array Nat}{n:Nat}
theorem rg(h0:1<=n)(h:n<64):minRun' n n 0=n:=by
 obtain⟨f,hf⟩:∃f,n=f+1:=⟨n-1,by omega⟩
 have:minRun' (f+1) n 0=n:=by rw[minRun'_succ,adM h];rfl
 rwa[← hf]at this
theorem GQ(C:mY prog w A s κ it N c){Q:Unit->SortSt->Prop}(B:vi N p)(hp:p.size=n)(hn:3<=n)(Cr:n<64) (h1:c (p.getD 1 0) (p.getD 0 0)=false) (h2:c (p.getD 2 0) (p.getD 1 0)=true) (h3:c (p.getD 0 0) (p.getD 1 0)=true)
 (h:Q () (d9 κ it (i7 c 0 (n-2) 2 p) #[(0,n,0)])):wpS (model prog w) A E s sortRuns' Q (d9 κ it p #[]):=by
 rw[sortRuns'_eq]
 refine aek (ahy ?_)
 have hs:(arrOf (d9 κ it p #[])).size=n:=by show (p.map it).size=n;rw[ahu,hp]
 simp only[hs,rg (by omega) Cr]
 refine aek (agP (afq (I:=λx d cj=>(x=0/\d=(none,0)/\cj=d9 κ it p #[])\/(1<=x/\d=(none,n)/\cj=d9 κ it (i7 c 0 (n-2) 2 p) #[(0,n,0)]))
  (Q:=λd cj=>d=(none,n)/\cj=d9 κ it (i7 c 0 (n-2) 2 p) #[(0,n,0)]) ?step ?fin (.inl ⟨rfl,rfl,rfl⟩)) ?post)
 case fin=>
  rintro d cj (⟨hx,_,_⟩|⟨_,hc,hD⟩)
  . omega
  . exact⟨hc,hD⟩
 case step=>
  rintro x d cj _ hx (⟨rfl,rfl,rfl⟩|⟨xy,rfl,rfl⟩)
  . dsimp only
    rw[adw (by omega)]
    simp only[Nat.sub_zero,Nat.min_self,ahf]
    refine aek (I0 C B (by omega) hn h1 h2 h3 ?_)
    dsimp only
    rw[adM (by omega)]
    refine aek (wpS_lift (afV ⟨rfl,?_⟩))
    refine aek (Td C B (by omega) (by omega) (by omega) ?_)
    simp only[Bool.not_true,ae0,af1]
    refine aek (ahy ?_)
    exact aek (wpS_modify (aeR (.inr ⟨by omega,rfl,rfl⟩)))
  . dsimp only
    rw[adM (adn _)]
    exact aeR ⟨rfl,rfl⟩
 case post=>
  rintro d cj ⟨rfl,rfl⟩
  dsimp only
  refine aek (agP (afq (I:=λ_ d hV=>hV=d9 κ it (i7 c 0 (n-2) 2 p) #[(0,n,0)]/\d=(none,())) (Q:=λd hV=>hV=d9 κ it (i7 c 0 (n-2) 2 p) #[(0,n,0)]/\d=(none,())) ?_ (λ_ _ hh=>hh) ⟨rfl,rfl⟩) ?_)
  . rintro x d hV _ _ ⟨rfl,rfl⟩
    refine aek (ahy ?_)
    rw[adM (show (pendingOf (d9 κ it (i7 c 0 (n-2) 2 p) #[(0,n,0)])).size<=1 from adn 1)]
    exact aeR ⟨rfl,rfl⟩
  . rintro d hV ⟨rfl,rfl⟩
    exact aeR h
theorem MS(C:mY prog w A s κ it N c){Q:Unit->SortSt->Prop}(B:vi N p)(hp:p.size=2) (h1:c (p.getD 1 0) (p.getD 0 0)=false)
 (h:Q () (d9 κ it p #[(0,2,0)])):wpS (model prog w) A E s sortRuns' Q (d9 κ it p #[]):=by
 rw[sortRuns'_eq]
 refine aek (ahy ?_)
 have hs:(arrOf (d9 κ it p #[])).size=2:=by show (p.map it).size=2;rw[ahu,hp]
 simp only[hs,rg (show 1<=2 by decide) (by decide)]
 refine aek (agP (afq (I:=λx d cj=>(x=0/\d=(none,0)/\cj=d9 κ it p #[])\/(1<=x/\d=(none,2)/\cj=d9 κ it p #[(0,2,0)]))
  (Q:=λd cj=>d=(none,2)/\cj=d9 κ it p #[(0,2,0)]) ?step ?fin (.inl ⟨rfl,rfl,rfl⟩)) ?post)
 case fin=>
  rintro d cj (⟨hx,_,_⟩|⟨_,hc,hD⟩)
  . omega
  . exact⟨hc,hD⟩
 case step=>
  rintro x d cj _ hx (⟨rfl,rfl,rfl⟩|⟨xy,rfl,rfl⟩)
  . dsimp only
    rw[adw (by omega)]
    rw[countRun'_eq]
    refine aek (aek (agP (afq (I:=λx d cj=>cj=d9 κ it p #[]/\((x=1/\d=(none,1))\/(x=2/\d=(none,2)))) (Q:=λd cj=>cj=d9 κ it p #[]/\d=(none,2)) ?cs ?cf ⟨rfl,.inl ⟨rfl,rfl⟩⟩) ?cp))
    case cf=>
     rintro d cj ⟨rfl,⟨e,rfl⟩|⟨e,rfl⟩⟩
     . omega
     . exact⟨rfl,rfl⟩
    case cs=>
     rintro x d cj hx Pt ⟨rfl,⟨rfl,rfl⟩|⟨rfl,rfl⟩⟩
     . refine aek (zS C B (by omega) (by omega) ?_)
       rw[show 0+1-1=0 by omega,show 0+1=1 by omega,h1]
       exact aeR ⟨rfl,.inr ⟨rfl,rfl⟩⟩
     . omega
    case cp=>
     rintro d cj ⟨rfl,rfl⟩
     refine aeR ?_
     dsimp only
     rw[adw (by decide)]
     refine aek (ahy ?_)
     exact aek (wpS_modify (aeR (.inr ⟨by omega,rfl,rfl⟩)))
  . dsimp only
    rw[adM (adn _)]
    exact aeR ⟨rfl,rfl⟩
 case post=>
  rintro d cj ⟨rfl,rfl⟩
  dsimp only
  refine aek (agP (afq (I:=λ_ d hV=>hV=d9 κ it p #[(0,2,0)]/\d=(none,())) (Q:=λd hV=>hV=d9 κ it p #[(0,2,0)]/\d=(none,())) ?_ (λ_ _ hh=>hh) ⟨rfl,rfl⟩) ?_)
  . rintro x d hV _ _ ⟨rfl,rfl⟩
    refine aek (ahy ?_)
    rw[adM (show (pendingOf (d9 κ it p #[(0,2,0)])).size<=1 from adn 1)]
    exact aeR ⟨rfl,rfl⟩
  . rintro d hV ⟨rfl,rfl⟩
    exact aeR h
end
end L2
namespace L2
open PySem PySem.Spec PyProof.Rows PySem.W
def lB(h:Heap)(v:Value)(ns:List Int):Prop:=∃a o xs n,v=.ref a/\h.get? a=some o/\o.cls=.type "tuple" /\ o.data=.seq xs n/\IntsAre xs.toList ns
theorem lB.keep{h h':Heap}{v:Value}{ns:List Int}(x:lB h v ns)(k:∀a o xs n,h.get? a=some o->o.cls=.type "tuple" -> o.data=.seq xs n->h'.get? a=some o):lB h' v ns:=by
 obtain⟨a,o,xs,n,e,h1,h2,h3,h4⟩:=x
 exact⟨a,o,xs,n,e,k a o xs n h1 h2 h3,h2,h3,h4⟩
section
variable {prog:Program}{w:World}{A:Around}{E:Value->Shared->Prop}{s:Shared}{Q:Bool->Shared->Prop}
theorem MT{a b:Int}{t u:Tok}(f:Bool) (h:Q (decide (a<b)) s):wpAny (model prog w) A (oneLt' f (.int a t) (.int b u)) Q E s:=by
 cases f with
 | true=>exact oneLt_int h
 | false=>exact kat_one _ _ (PyProof.Rows.lt_int h)
theorem sX:∀{xs ys:List Value}{as bs:List Int}(i:Nat),IntsAre xs as->IntsAre ys bs->as.length=bs.length->Q (HT.lexLt as bs) s->KatLex prog w A true false Q (xs.zip ys) i s
 | _,_,_,_,_,.nil,.nil,_,h=>h
 | _,_,_,_,_,.nil,.cons _ _ _,h,_=>nomatch h
 | _,_,_,_,_,.cons _ _ _,.nil,h,_=>nomatch h
 | _,_,_,_,i,.cons a t r,.cons b u r',hl,h=>by
  rw[HT.Dz]at h
  refine kat_cons (wpAny_eqBool_int ?_)
  by_cases e:a=b
  . rw[adM e]at h
    have:(a == b)=true:=by simpa using e
    rw[this]
    exact kat_yes (sX (i+1) r r' (Nat.succ.inj hl) h)
  . rw[adw e]at h
    have:(a == b)=false:=by simpa using e
    rw[this]
    exact kat_no (MT _ h)
theorem MU{v u:Value}{as bs:List Int}(hv:lB s.heap v as)(hu:lB s.heap u bs)(hl:as.length=bs.length) (h:Q (HT.lexLt as bs) s):wpAny (model prog w) A (keyLt' (tuples' true) v u) Q E s:=by
 obtain⟨a,o,xs,n,rfl,h1,_,h3,h4⟩:=hv
 obtain⟨b,o2,ys,m,rfl,k1,_,k3,k4⟩:=hu
 refine kat_lt h1 h3 k1 k3 ?_
 have e1:=h4.length
 have e2:=k4.length
 rw[ae8]at e1 e2
 have:decide (xs.size<ys.size)=false:=adS (by omega)
 rw[this]
 exact sX 0 h4 k4 hl h
end
theorem xH{h:Heap} : ∀{vs:List Value}{bs:List (List Int)},Paired (lB h) vs bs->(∀b∈bs,b≠[])->∃fs,KatTups h vs fs/\fs.length=vs.length/\∀v∈fs,∃i t,v=Value.int i t
 | _,_,.nil,_=>⟨[],.nil,rfl,λ_ h=>nomatch h⟩
 | v::vs,b::bs,.cons hv t,hb=>by
  obtain⟨fs,h1,h2,h3⟩:=xH t λx hx=>hb x (adx _ hx)
  obtain⟨a,o,xs,n,rfl,k1,k2,k3,k4⟩:=hv
  have hn:=hb b adB
  generalize hx:xs.toList=l at k4
  cases k4 with
  | nil=>exact absurd rfl hn
  | cons i t r=>
   refine⟨.int i t::fs,KatTups.cons k1 k2 k3 ?_ h1,by rw[adL,adL,h2],λz hz=>?_⟩
   . rw[← af5,hx]
     rfl
   . rcases adq.mp hz with rfl|hz
     . exact⟨i,t,rfl⟩
     . exact h3 z hz
def Pu(vs:List Value)(i:Nat):Keyed:=(vs.getD i .none,vs.getD i .none)
theorem MV(vs:List Value):vs.toArray.zip vs.toArray=((List.range vs.length).toArray).map (Pu vs):=by
 apply Array.ext
 . simp
 . intro i h1 h2
   simp at h1
   simp[Pu,h1]
theorem lS{α β:Type}{F:α->β->Prop}{d:α}{e:β} : ∀{l₁:List α}{l₂:List β},Paired F l₁ l₂->∀i,i<l₁.length->F (l₁.getD i d) (l₂.getD i e)
 | _,_,.nil,i,h=>absurd h (aev _)
 | _,_,.cons h t,0,_=>by simpa using h
 | _,_,.cons h t,i+1,hi=>by simpa using lS t i (by simpa using hi)
section
variable {prog:Program}{w:World}{A:Around}{E:Value->Shared->Prop}{s:Shared}
def yj(prog:Program)(w:World) (bs:List (List Int)) (q:Array Nat):Prop:=q.size=bs.length/\∀(A:Around) (E:Value->Shared->Prop) (s:Shared) (it:Nat->Keyed),mY prog w A s (tuples' true) it bs.length (λi j=>HT.lexLt (bs.getD i []) (bs.getD j []))->
 wpS (model prog w) A E s sortRuns' (λ_ cj=>arrOf cj=q.map it/\failedOf cj=none) (d9 (tuples' true) it (List.range bs.length).toArray #[])
theorem GR{a:Addr}{vs:List Value}{bs:List (List Int)}{n k:Nat}{q:Array Nat}{P:Fin->Shared->Prop}(ho:s.heap.get? a=some (seqObj "list" vs.toArray n)) (hT:Paired (lB s.heap) vs bs) (hk:∀b∈bs,b.length=k) (KN:1<=k) (h2:2<=vs.length) (Cr:vs.length<=1000)
 (hq:yj prog w bs q) (h:P (.done (.ret .none)) {s with heap:=sortedHeap s.heap a vs (q.map λi=>vs.getD i .none)}) :
 wpAny (model prog w) A (Builtin.«list.sort» ⟨[.ref a],[]⟩) P E s:=by
 rw[list_sort_plain]
 have ha:a<s.heap.objs.size:=adH ho
 have lb:=hT.length
 refine adk (listItems_at ho rfl ?_)
 refine adk (agQ ho rfl ?_ (by rw[adz,aeF];omega) (adW _))
 obtain⟨e1,lJ⟩:∃e1,(s.heap.update a (Obj.mapSeq λ_=>#[])).get? a=some (seqObj "list" #[] e1):=⟨_,agh ho (λ_=>#[])⟩
 refine adk (seqEpoch_at lJ rfl ?_)
 refine adk (ags ?_ (by show vs.length<=_;rw[aeF];omega))
 refine adk (agR ?_ (adW _))
 refine aeH ?_
 have Cs:(((s.heap.update a (Obj.mapSeq λ_=>#[])).push (seqObj "tuple" vs.toArray 0)).push (seqObj "list" #[] 0)).get? a=some (seqObj "list" #[] e1):=by
  rw[Heap.get?_push_ne _ _ _ (by rw[size_push',afy];exact adR (afX ha)),Heap.get?_push_ne _ _ _ (by rw[afy];exact adR ha)]
  exact lJ
 show wpAny (model prog w) A _ P E {s with heap:=((s.heap.update a (Obj.mapSeq λ_=>#[])).push (seqObj "tuple" vs.toArray 0)).push (seqObj "list" #[] 0)}
 dsimp only
 have iE:¬ vs.toArray.size<2:=by rw[adz];omega
 rw[adw iE,adw iE]
 have KO:Paired (lB (((s.heap.update a (Obj.mapSeq λ_=>#[])).push (seqObj "tuple" vs.toArray 0)).push (seqObj "list" #[] 0))) vs bs:=Paired.cM hT λv b x=>x.keep λb o xs n h1 h2 h3=>by
  have nb:b≠a:=λe=>by
   rw[e,ho]at h1
   cases(adN h1)
   exact absurd (Value.type.inj (show Value.type "list" = Value.type "tuple" from h2)) (by decide)
  refine adl _ (adl _ ?_)
  rw[(aeG s.heap a (Obj.mapSeq λ_=>(#[]:Array Value))).2 b nb]
  exact h1
 generalize hh6:((s.heap.update a (Obj.mapSeq λ_=>#[])).push (seqObj "tuple" vs.toArray 0)).push (seqObj "list" #[] 0)=h6 at Cs KO
 obtain⟨fs,f1,f2,f3⟩:=xH KO (λb hb e=>by have:=hk b hb;rw[e]at this;simp at this;omega)
 refine adk (kat_kind (M:=model prog w) (T:=.type "int") f1 (by omega) (λv hv=>?_) rfl ?_)
 . obtain⟨i,t,rfl⟩:=f3 v hv
   exact Looks.of_pure rfl
 have hb:∀i,i<bs.length->(bs.getD i []).length=k:=λi hi=>hk _ (by simp[hi])
 have C:mY prog w A {s with heap:=h6} (tuples' true) (Pu vs) bs.length (λi j=>HT.lexLt (bs.getD i []) (bs.getD j [])):=λi j hi hj E Q hQ=>
  MU (lS KO i (by omega)) (lS KO j (by omega)) (by rw[hb i hi,hb j hj]) hQ
 have run:=hq.2 A E _ _ C
 rw[MV,lb]
 refine adk (aeY run ?_ λ_ _ e=>e)
 rintro⟨⟨⟩,cj⟩ s' ⟨rfl,har,hf⟩
 dsimp only
 have hsz:((arrOf cj).map (·.2))=q.map λi=>vs.getD i .none:=by
  rw[har,Array.map_map]
  rfl
 refine adk (seqEpoch_at Cs rfl ?_)
 refine adk (agQ Cs rfl ?_ (hsz2:=by rw[hsz,ahu,hq.1,aeF];omega))
 have hf':(sortPriv% PySem.Builtin.SortState.failed) cj=none:=hf
 rw[hf]
 simp only[ahL,ae0,af1]
 refine adv ?_
 rw[hsz,← hh6]
 exact h
theorem BA{l:Addr}{vs:List Value}{bs:List (List Int)}{k:Nat}{q:Array Nat}{Q:Value->Shared->Prop}(hl:s.heap.IsList l vs.toArray) (hT:Paired (lB s.heap) vs bs) (hk:∀b∈bs,b.length=k) (KN:1<=k) (h2:2<=vs.length) (Cr:vs.length<=1000)
 (hq:yj prog w bs q) (h:Q (.ref (s.heap.objs.size+1)) {s with heap:=sortedAll s.heap vs (q.map λi=>vs.getD i .none)}) :
 wpAny (model prog w) A (call (.builtin "sorted") [.ref l]) Q E s:=by
 refine agt kind_sorted plain_sorted entry_sorted (args_sorted1 _) ?_
 unfold Builtin.«sorted»
 refine adk (m:=checkCount "sorted" 1 1 _) (adv ?_)
 refine adk (collect_list hl ?_ (by rw[aeF];omega))
 refine adk (agR ?_ (by rw[aeF];omega))
 have hsz:((s.heap.push (seqObj "list" #[] 0)).update s.heap.objs.size (Obj.mapSeq (· ++ vs.toArray))).objs.size=s.heap.objs.size+1:=by
  rw[afy,size_push']
 have yy:(((s.heap.push (seqObj "list" #[] 0)).update s.heap.objs.size (Obj.mapSeq (· ++ vs.toArray))).push (seqObj "list" vs.toArray 0)).get? (s.heap.objs.size+1)=some (seqObj "list" vs.toArray 0):=by
  rw[← hsz];exact adP _ rfl
 have keep:∀b o,s.heap.get? b=some o->(((s.heap.push (seqObj "list" #[] 0)).update s.heap.objs.size (Obj.mapSeq (· ++ vs.toArray))).push (seqObj "list" vs.toArray 0)).get? b=some o:=λb o hb=>by
  refine adl _ ?_
  rw[(aeG _ _ _).2 b (adR (adH hb))]
  exact adl _ hb
 show wpAny _ _ _ _ _ {s with heap:=((s.heap.push (seqObj "list" #[] 0)).update s.heap.objs.size (Obj.mapSeq (· ++ vs.toArray))).push (seqObj "list" vs.toArray 0)}
 rw[hsz]
 refine adk (aeH (aeN slot_list_sort ⟨_,yy,rfl⟩ entry_list_sort (GR yy (Paired.cM hT λv b x=>x.keep λb o _ _ h1 _ _=>keep b o h1) hk KN h2 Cr hq ⟨_,rfl,?_⟩) (args_list_sort _)))
 exact adv ⟨_,rfl,h⟩
end
def dG:Nat->List (List Int)
 | 0=>[[]]
 | k+1=>(dG k).map (· ++ [0])++(dG k).map (· ++ [1])
def bU:Nat->List (List Int)
 | 0=>[[]]
 | k+1=>(bU k).flatMap λr=>[r++[0],r++[1]]
def lg(k:Nat):Bool:=(dG k).zipIdx.all λx=>(dG k).zipIdx.all λy=>HT.lexLt x.1 y.1 == cB k x.2 y.2
def p0(k:Nat):Array Nat:=(List.range (2 ^ k)).toArray
theorem mZ(k:Nat):(dG k).length=2 ^ k:=by
 induction k with
 | zero=>rfl
 | succ k ih=>
  rw[dG,adm,abc,abc,ih,afr]
  omega
theorem xI(k:Nat):∀b∈dG k,b.length=k:=by
 induction k with
 | zero=>simp[dG]
 | succ k ih=>
  intro b hb
  rw[dG]at hb
  rcases adu.mp hb with h|h <;> (obtain⟨r,hr,rfl⟩:=ads.mp h;rw[adm,ih r hr];rfl)
theorem zT{k i j:Nat}(h:lg k=true)(hi:i<2 ^ k)(hj:j<2 ^ k):HT.lexLt ((dG k).getD i []) ((dG k).getD j [])=cB k i j:=by
 unfold lg at h
 have mem:∀i,i<2 ^ k->((dG k).getD i [],i)∈(dG k).zipIdx:=λi hi=>by
  have hl:i<(dG k).length:=by rw[mZ];exact hi
  rw[List.mem_zipIdx_iff_getElem?]
  simp[hl]
 have h1:=aeO.mp h _ (mem i hi)
 have h2:=aeO.mp h1 _ (mem j hj)
 simpa using h2
theorem Pw(k:Nat):vi (2 ^ k) (p0 k):=λi hi=>by
 unfold p0 at hi ⊢
 simp at hi
 simp[Array.getD,hi]
theorem mY.congr{prog:Program}{w:World}{A:Around}{s:Shared}{κ:SortKind}{it:Nat->Keyed}{N:Nat}{c c':Nat->Nat->Bool}(C:mY prog w A s κ it N c)(h:∀i j,i<N->j<N->c i j=c' i j):mY prog w A s κ it N c':=λi j hi hj E Q hQ=>C i j hi hj E Q (by rw[h i j hi hj];exact hQ)
def lZ(k:Nat):Bool:=!cB k 1 0 && (cB k 2 1 && cB k 0 1)
theorem GU:lZ 2=true/\lZ 3=true/\lZ 4=true/\lZ 5=true:=by decide+kernel
section
variable {prog:Program}{w:World}
theorem ky{k:Nat}(ha:lg k=true)(ho:lZ k=true)(h3:3<=2 ^ k)(Cr:2 ^ k<64) (hs:(i7 (cB k) 0 (2 ^ k-2) 2 (p0 k)).size=2 ^ k):yj prog w (dG k) (i7 (cB k) 0 (2 ^ k-2) 2 (p0 k)):=by
 refine⟨by rw[mZ];exact hs,λA E s it C=>?_⟩
 rw[mZ]at C ⊢
 have C':=C.congr λi j hi hj=>zT ha hi hj
 unfold lZ at ho
 rw[aeb,aeb,Bool.not_eq_true']at ho
 have g:∀i,i<2 ^ k->(p0 k).getD i 0=i:=λi hi=>by
  unfold p0
  simp[Array.getD,hi]
 refine GQ C' (p:=p0 k) (n:=2 ^ k) (Pw k) (by unfold p0;simp) h3 Cr ?_ ?_ ?_ ⟨rfl,rfl⟩
 . rw[g 1 (by omega),g 0 (by omega)];exact ho.1
 . rw[g 2 (by omega),g 1 (by omega)];exact ho.2.1
 . rw[g 0 (by omega),g 1 (by omega)];exact ho.2.2
end
section
variable {X:Cx}
theorem qp(h:Heap)(vs:List Value)(out:Array Value):∃n,(sortedAll h vs out).get? (h.objs.size+1)=some (seqObj "list" out n):=by
 unfold sortedAll sortedHeap
 have hsz:((h.push (seqObj "list" #[] 0)).update h.objs.size (Obj.mapSeq (· ++ vs.toArray))).objs.size=h.objs.size+1:=by rw[afy,size_push']
 have h1:(((h.push (seqObj "list" #[] 0)).update h.objs.size (Obj.mapSeq (· ++ vs.toArray))).push (seqObj "list" vs.toArray 0)).get? (h.objs.size+1)=some (seqObj "list" vs.toArray 0):=by
  rw[← hsz];exact adP _ rfl
 exact⟨_,agh (adl _ (adl _ (agh h1 λ_=>#[]))) λ_=>out⟩
theorem oM{h:Heap}{vs:List Value}{out:Array Value}{b:Addr}{o:Obj}(hb:h.get? b=some o):(sortedAll h vs out).get? b=some o:=by
 have lt:=adH hb
 have ne0:b≠h.objs.size:=adR lt
 have ne1:b≠h.objs.size+1:=adR (afX lt)
 unfold sortedAll sortedHeap
 rw[(aeG _ _ _).2 b ne1]
 refine adl _ (adl _ ?_)
 rw[(aeG _ _ _).2 b ne1]
 refine adl _ ?_
 rw[(aeG _ _ _).2 b ne0]
 exact adl _ hb
theorem Ct{pins:List (Addr×Obj)}{σ:St}{H:Hp}{s:Shared}(I:Inv X pins σ H s):∀{ts:List Addr}{vs:List Value}{bs:List (List Int)},Vals (ts.map V.ref) vs->Paired (λt b=>aS X.K H t (b.map V.int)) ts bs->Paired (lB s.heap) vs bs
 | [],vs,_,r,.nil=>by
  rw[aeS]at r
  cases r
  exact .nil
 | t::ts,vs,b::bs,r,.cons h p=>by
  rw[adQ]at r
  cases r with
  | cons r1 r2=>
   cases r1
   obtain⟨its,rv,⟨o,h1,h2,n,h3⟩,_⟩:=I.tuple h
   exact .cons ⟨t,o,_,n,rfl,h1,h2,h3,intsAre_of rv⟩ (Ct I r2 p)
theorem Ja{ts:List Addr}{i:Nat}{d:Addr}(h:i<ts.length):(ts.map V.ref).getD i .aY=.ref (ts.getD i d):=by simp[h]
theorem MX{xs:List V}{vs:List Value}(r:Vals xs vs){i:Nat}(h:i<xs.length):RelV (xs.getD i .aY) (vs.getD i .none):=by
 obtain⟨w',e,kJ⟩:=r.get (i:=i) (adj h)
 have e1:vs.getD i .none=w':=by simp[e]
 have e2:xs.getD i .aY=xs[i]:=by simp[h]
 rw[e1,e2]
 exact kJ
theorem zU{xs:List V}{vs:List Value}(r:Vals xs vs):∀{l:List Nat},(∀i∈l,i<xs.length)->Vals (l.map λi=>xs.getD i .aY) (l.map λi=>vs.getD i .none)
 | [],_=>.nil
 | i::l,h=>.cons (MX r (h i adB)) (zU r λj hj=>h j (adx _ hj))
theorem vj{α β:Type}{F:α->β->Prop}{d:α}{e:β}{l₁:List α}{l₂:List β}(p:Paired F l₁ l₂):∀{l:List Nat},(∀i∈l,i<l₁.length)->Paired F (l.map λi=>l₁.getD i d) (l.map λi=>l₂.getD i e)
 | [],_=>.nil
 | i::l,h=>.cons (lS p i (h i adB)) (vj p λj hj=>h j (adx _ hj))
def yk(K:W.Frag):R2:=λx y H Q=>∃a b xs ys,x=.ref a/\y=.ref b/\aS K H a xs/\aS K H b ys/\ys≠[]/\xs.length+ys.length<=sizeLine/\(xs=[]->Q (.ref b) H)/\(xs≠[]->∀p,H p=none->Q (.ref p) (upd H p (.tup (xs++ys))))
theorem Cu:gp X (binaryOp .Add) (yk X.K):=by
 intro pins s σ H x y v u Q I rx ry h
 obtain⟨a,b,xs,ys,rfl,rfl,ha,hb,hy,hz,q1,q2⟩:=h
 by_cases hx:xs=[]
 . cases rx
   cases ry
   obtain⟨its,r1,p1,_⟩:=I.tuple ha
   obtain⟨nU,r2,p2,_⟩:=I.tuple hb
   obtain⟨⟨cls,dd,data,sl⟩,ho,hc,n,hd⟩:=id p1
   obtain⟨⟨Zi,BP,data2,J9⟩,yQ,jI,n2,hd2⟩:=id p2
   simp only at hc hd jI hd2
   subst hc hd jI hd2
   have he:its=[]:=r1.rN.mpr hx
   exact concat_meets ⟨_,ho,rfl⟩ ⟨_,yQ,rfl⟩ agX ahC afP afF (afB _ _)
    (tuple_addW0 a b its.toArray nU.toArray n n2 dd BP sl J9 (by simp[he])) ⟨ho,yQ,⟨.ref b,H,I,rfl,q1 hx⟩⟩
 . exact Ms pins s σ H _ _ v u Q I rx ry ⟨a,b,xs,ys,rfl,rfl,ha,hb,hx,hz,λe=>absurd e hy,λ_=>q2 hx⟩
end
section
variable {prog:Program}{w:World}{A:Around}{E:Value->Shared->Prop}{s:Shared}
theorem Jb{a:Addr}{vs:List Value}{n:Nat}{P:Fin->Shared->Prop}(ho:s.heap.get? a=some (seqObj "list" vs.toArray n)) (h2:vs.length<2) (h:P (.done (.ret .none)) {s with heap:=sortedHeap s.heap a vs vs.toArray}) :
 wpAny (model prog w) A (Builtin.«list.sort» ⟨[.ref a],[]⟩) P E s:=by
 rw[list_sort_plain]
 have ha:a<s.heap.objs.size:=adH ho
 refine adk (listItems_at ho rfl ?_)
 refine adk (agQ ho rfl ?_ (by rw[adz,aeF];omega) (adW _))
 obtain⟨e1,lJ⟩:∃e1,(s.heap.update a (Obj.mapSeq λ_=>#[])).get? a=some (seqObj "list" #[] e1):=⟨_,agh ho (λ_=>#[])⟩
 refine adk (seqEpoch_at lJ rfl ?_)
 refine adk (ags ?_ (by show vs.length<=_;rw[aeF];omega))
 refine adk (agR ?_ (adW _))
 refine aeH ?_
 have Cs:(((s.heap.update a (Obj.mapSeq λ_=>#[])).push (seqObj "tuple" vs.toArray 0)).push (seqObj "list" #[] 0)).get? a=some (seqObj "list" #[] e1):=
  adl _ (adl _ lJ)
 show wpAny (model prog w) A _ P E {s with heap:=((s.heap.update a (Obj.mapSeq λ_=>#[])).push (seqObj "tuple" vs.toArray 0)).push (seqObj "list" #[] 0)}
 dsimp only
 have iE:vs.toArray.size<2:=by rw[adz];omega
 rw[adM iE,adM iE]
 refine adk (adv ?_)
 rw[StateT.run_pure]
 refine adk (adv ?_)
 dsimp only
 have hsz:((vs.toArray.zip vs.toArray).map (·.2))=vs.toArray:=by
  apply Array.ext
  . simp
  . intro i h1 h2
    simp
 refine adk (seqEpoch_at Cs rfl ?_)
 show wpAny _ _ (Builtin.List.listUpdate (.ref a) (λ_=>((vs.toArray.zip vs.toArray).map (·.2))) >>= _) _ _ _
 rw[hsz]
 refine adk (agQ Cs rfl ?_ (hsz2:=by rw[adz,aeF];omega))
 simp only[ahL,ae0,af1]
 exact adv h
theorem D6{l:Addr}{vs:List Value}{Q:Value->Shared->Prop}(hl:s.heap.IsList l vs.toArray)(h2:vs.length<2) (h:Q (.ref (s.heap.objs.size+1)) {s with heap:=sortedAll s.heap vs vs.toArray}) :
 wpAny (model prog w) A (call (.builtin "sorted") [.ref l]) Q E s:=by
 refine agt kind_sorted plain_sorted entry_sorted (args_sorted1 _) ?_
 unfold Builtin.«sorted»
 refine adk (m:=checkCount "sorted" 1 1 _) (adv ?_)
 refine adk (collect_list hl ?_ (by rw[aeF];omega))
 refine adk (agR ?_ (by rw[aeF];omega))
 have hsz:((s.heap.push (seqObj "list" #[] 0)).update s.heap.objs.size (Obj.mapSeq (· ++ vs.toArray))).objs.size=s.heap.objs.size+1:=by
  rw[afy,size_push']
 have yy:(((s.heap.push (seqObj "list" #[] 0)).update s.heap.objs.size (Obj.mapSeq (· ++ vs.toArray))).push (seqObj "list" vs.toArray 0)).get? (s.heap.objs.size+1)=some (seqObj "list" vs.toArray 0):=by
  rw[← hsz];exact adP _ rfl
 show wpAny _ _ _ _ _ {s with heap:=((s.heap.push (seqObj "list" #[] 0)).update s.heap.objs.size (Obj.mapSeq (· ++ vs.toArray))).push (seqObj "list" vs.toArray 0)}
 rw[hsz]
 refine adk (aeH (aeN slot_list_sort ⟨_,yy,rfl⟩ entry_list_sort (Jb yy h2 ⟨_,rfl,?_⟩) (args_list_sort _)))
 exact adv ⟨_,rfl,h⟩
end
theorem tZ:∀{b c:List Int},b.map V.int=c.map V.int->b=c
 | [],[],_=>rfl
 | [],_::_,h=>nomatch h
 | _::_,[],h=>nomatch h
 | x::b,y::c,h=>by
  rw[adQ,adQ]at h
  have h1:=afK h
  rw[V.int.inj h1.1,tZ h1.2]
section
variable {X:Cx}
open Classical in
def ZV(K:W.Frag):R2:=λx y H Q=>∃(t p:Addr) (b:List Int) (ts:List Addr) (bs:List (List Int)),x=.ref t/\y=.ref p/\aS K H t (b.map V.int)/\aw K H p (ts.map V.ref)/\Paired (λt b=>aS K H t (b.map V.int)) ts bs/\Q (.bl (decide (b∈bs))) H
theorem MY{A:Around}{pins:List (Addr×Obj)}{σ:St}{H:Hp}{s:Shared}(I:Inv X pins σ H s) (hu:A.units+1<cLine){t u:Addr}{b c:List Int}(ht:aS X.K H t (b.map V.int)) (GW:aS X.K H u (c.map V.int)):SeqAt.EqAt A s (.ref t) (.ref u) (decide (b=c)):=by
 by_cases e:t=u
 . subst e
   have e2:b=c:=tZ (I.qz ht GW)
   rw[ad3 e2]
   exact SeqAt.EqAt.same _
 . refine SeqAt.EqAt.of_refs e ?_
   obtain⟨its,rv,pl,_⟩:=I.tuple ht
   obtain⟨its',Ci,KP,_⟩:=I.tuple GW
   have l1:=rv.length
   have l2:=Ci.length
   rw[abc]at l1 l2
   have key:=SeqAt.RcAt.tuples (A:=A) (s:=s) (e:=λj=>decide (b.getD j 0=c.getD j 0)) pl KP (by omega) (λj g1 g2=>?_)
   . have e3:((List.range (min its.toArray.size its'.toArray.size)).all (λj=>decide (b.getD j 0=c.getD j 0)) && its.toArray.size == its'.toArray.size)=decide (b=c):=by
      rw[aea,aeb,ad4,aeO]
      simp only[adz,afA,ahr,ad4]
      constructor
      . rintro⟨h1,h2⟩
        apply List.ext_getElem (by omega)
        intro i g1 g2
        have:=h1 i (by omega)
        simpa[g1,g2]using this
      . rintro rfl
        exact⟨λ_ _=>rfl,by omega⟩
     rw[← e3]
     exact key
   . simp only[adz]at g1 g2
     have hj:j<b.length:=by omega
     have Xo:j<c.length:=by omega
     obtain⟨w1,e1,r1⟩:=rv.get (x:=.int b[j]) (by rw[ado,adj hj];rfl)
     obtain⟨w2,e2,r2⟩:=Ci.get (x:=.int c[j]) (by rw[ado,adj Xo];rfl)
     have z:=uE (A:=A.in1) (s:=s) r1 r2 rfl rfl
     have a1:its.toArray[j]=w1:=by
      have:=(adt.mp e1).2
      simpa using this
     have a2:its'.toArray[j]=w2:=by
      have:=(adt.mp e2).2
      simpa using this
     rw[a1,a2]
     have e4:kU (.int b[j]) (.int c[j])=decide (b.getD j 0=c.getD j 0):=by
      simp[kU,hj,Xo]
      rfl
     rw[← e4]
     exact z
theorem zV{A:Around}{pins:List (Addr×Obj)}{σ:St}{H:Hp}{s:Shared}(I:Inv X pins σ H s) (hu:A.units+1<cLine){t:Addr}{b:List Int}(ht:aS X.K H t (b.map V.int)) (f:Value->Bool) (hf:∀u c,aS X.K H u (c.map V.int)->f (.ref u)=decide (c=b)):∀{ts:List Addr}{vs:List Value}{bs:List (List Int)},Vals (ts.map V.ref) vs->Paired (λt b=>aS X.K H t (b.map V.int)) ts bs->(∀v∈vs,SeqAt.EqAt A s v (.ref t) (f v))/\vs.any f=bs.any λc=>decide (c=b)
 | [],vs,_,r,.nil=>by
  rw[aeS]at r
  cases r
  exact⟨(λ_ h=>nomatch h),rfl⟩
 | u::ts,vs,c::bs,r,.cons h p=>by
  rw[adQ]at r
  cases r with
  | cons r1 r2=>
   cases r1
   obtain⟨h1,h2⟩:=zV I hu ht f hf r2 p
   refine⟨λv hv=>?_,?_⟩
   . rcases adq.mp hv with rfl|hv
     . rw[hf u c h]
       exact MY I hu h ht
     . exact h1 v hv
   . rw[afs,afs,h2,hf u c h]
open Classical in
theorem ae6(hu:X.A.units+2<cLine):gp X (compareOp .In) (ZV X.K):=by
 intro pins s σ H x y v u Q I rx ry h
 obtain⟨t,p,b,ts,bs,rfl,rfl,ht,hp,hb,q⟩:=h
 cases(show v=Value.ref t from rx)
 cases(show u=Value.ref p from ry)
 obtain⟨its,rv,pl,hz⟩:=I.list hp
 have hf:∀u c,aS X.K H u (c.map V.int)->(λv:Value=>decide (∃u,v=.ref u/\aS X.K H u (b.map V.int))) (.ref u)=decide (c=b):=λu c hc=>by
  show decide _=decide _
  congr 1
  refine propext ⟨?_,?_⟩
  . rintro⟨u',e,h'⟩
    cases e
    exact tZ (I.qz hc h')
  . rintro rfl
    exact⟨u,rfl,hc⟩
 obtain⟨m1,m2⟩:=zV (A:=X.A.in1) I (by show X.A.in1.units+1<cLine;exact hu) ht (λv:Value=>decide (∃u,v=.ref u/\aS X.K H u (b.map V.int))) hf rv hb
 refine ahb _ pl.isList (λw hw=>m1 w (by simpa using hw)) ⟨.bl _,H,I,rfl,?_⟩
 have e:its.toArray.any (λv:Value=>decide (∃u,v=.ref u/\aS X.K H u (b.map V.int)))=decide (b∈bs):=by
  rw[show its.toArray.any (λv:Value=>decide (∃u,v=.ref u/\aS X.K H u (b.map V.int)))=its.any (λv:Value=>decide (∃u,v=.ref u/\aS X.K H u (b.map V.int))) by simp,m2,aea,afe,ad4]
  constructor
  . rintro⟨c,hc,e⟩
    exact aef e ▸ hc
  . intro h
    exact⟨b,h,by simp⟩
 rw[e]
 exact q
end
end L2
namespace L2
open PySem PySem.Spec PyProof.Rows
mutual
inductive Dp(K:W.Frag) (H:Hp):V->PyData->Prop
 | aY:Dp K H .aY .none
 | bl (b):Dp K H (.bl b) (.bool b)
 | int (i):Dp K H (.int i) (.int i)
 | str (x):Dp K H (.str x) (.str x)
 | lst {a xs ds} : aw K H a xs->jN K H xs ds->Dp K H (.ref a) (.list ds)
 | tup {a xs ds} : aS K H a xs->jN K H xs ds->Dp K H (.ref a) (.tuple ds)
inductive jN(K:W.Frag) (H:Hp):List V->List PyData->Prop
 | nil:jN K H [] []
 | cons {x d xs ds} : Dp K H x d->jN K H xs ds->jN K H (x::xs) (d::ds)
end
section
variable {X:Cx}{pins:List (Addr×Obj)}{σ:St}{H:Hp}{s:Shared}
mutual
theorem Dp.reads(I:Inv X pins σ H s):∀{x:V}{d:PyData},Dp X.K H x d->∀{v:Value},RelV x v->∃as,Reads s.heap v d as
 | _,_,.aY,v,r=>by cases(show v=Value.none from r);exact⟨_,.none⟩
 | _,_,.bl b,v,r=>by cases(show v=Value.bool b from r);exact⟨_,.bool b⟩
 | _,_,.int i,v,r=>by obtain⟨t,rfl⟩:=r;exact⟨_,.int i t⟩
 | _,_,.str x,v,r=>by obtain⟨t,rfl⟩:=r;exact⟨_,.str x t⟩
 | _,_,.lst (a:=a) h1 h2,v,r=>by
  cases(show v=Value.ref a from r)
  obtain⟨its,rv,⟨o,n,e,c,dn,dt⟩,_⟩:=I.list h1
  obtain⟨as,ra⟩:=jN.reads I h2 rv
  exact⟨_,.list e c dt ra⟩
 | _,_,.tup (a:=a) h1 h2,v,r=>by
  cases(show v=Value.ref a from r)
  obtain⟨its,rv,⟨o,e,c,n,dt⟩,_⟩:=I.tuple h1
  obtain⟨as,ra⟩:=jN.reads I h2 rv
  exact⟨_,.tuple e c dt ra⟩
theorem jN.reads(I:Inv X pins σ H s):∀{xs:List V}{ds:List PyData},jN X.K H xs ds->∀{vs:List Value},Vals xs vs->∃as,ReadsAll s.heap vs ds as
 | _,_,.nil,_,.nil=>⟨_,.nil⟩
 | _,_,.cons h1 h2,_,.cons r1 r2=>by
  obtain⟨as,ra⟩:=Dp.reads I h1 r1
  obtain⟨bs,rb⟩:=jN.reads I h2 r2
  exact⟨_,.cons ra rb⟩
end
theorem jN.len{K:W.Frag}{H:Hp} : ∀{xs:List V}{ds:List PyData},jN K H xs ds->xs.length=ds.length
 | _,_,.nil=>rfl
 | _,_,.cons _ t=>by rw[adL,adL,t.len]
theorem jN.get{K:W.Frag}{H:Hp} : ∀{xs:List V}{ds:List PyData}{i:Nat}{d:PyData},jN K H xs ds->ds[i]?=some d->∃x,xs[i]?=some x/\Dp K H x d
 | _,_,_,_,.nil,e=>by simp at e
 | _,_,0,_,.cons h _,e=>by simp at e;subst e;exact⟨_,rfl,h⟩
 | _,_,i+1,_,.cons _ t,e=>by
  obtain⟨x,h1,h2⟩:=jN.get (i:=i) t (by simpa using e)
  exact⟨x,by simpa using h1,h2⟩
theorem t8{K:W.Frag}{H:Hp} : ∀(ns:List Int),jN K H (ns.map V.int) (ns.map PyData.int)
 | []=>.nil
 | n::ns=>.cons (.int n) (t8 ns)
abbrev dT(b:List Int):PyData:=.tuple (b.map PyData.int)
theorem lay_ints:∀(b:List Int),PyData.canLayAll0 (b.map PyData.int)=true
 | []=>rfl
 | _::b=>by rw[adQ,PyData.canLayAll0,lay_ints b];rfl
theorem KQ(b:List Int):(dT b).canLay0=true:=by rw[PyData.canLay0];exact lay_ints b
theorem zW:∀(b:List Int),PyData.depthAll (b.map PyData.int)=0
 | []=>rfl
 | _::b=>by rw[adQ,PyData.depthAll,zW b];rfl
theorem Te(b:List Int):(dT b).depth=1:=by rw[PyData.depth,zW]
theorem zX:∀(b c:List Int),PyData.eqvAll (b.map PyData.int) (c.map PyData.int)=decide (b=c)
 | [],[]=>rfl
 | [],_::_=>rfl
 | _::_,[]=>rfl
 | x::b,y::c=>by
  rw[adQ,adQ,PyData.eqvAll,zX b c,PyData.eqv,aea,aeb,ad4,ad4,afA,ahg]
theorem KR(b c:List Int):PyData.eqv (dT b) (dT c)=decide (b=c):=by rw[PyData.eqv];exact zX b c
theorem M0{l:List PyData}(h:∀d∈l,d.canLay0=true):PyData.canLayAll0 l=true:=by
 induction l with
 | nil=>rfl
 | cons d l ih=>rw[PyData.canLayAll0,h d adB,ih λe he=>h e (adx _ he)];rfl
theorem M3{l:List PyData}{n:Nat}(h:∀d∈l,d.depth<=n):PyData.depthAll l<=n:=by
 induction l with
 | nil=>exact adW _
 | cons d l ih=>rw[PyData.depthAll];exact Nat.max_le.mpr ⟨h d adB,ih λe he=>h e (adx _ he)⟩
noncomputable def GY (h:Heap) (d:PyData) (v:Value):Bool:=@decide (∃e as,Reads h v e as/\e.canLay0=true/\PyData.eqv e d=true) (Classical.propDecidable _)
mutual
theorem xJ{h:Heap} : ∀{d:PyData}{v:Value}{as:List Addr},Reads h v d as->d.canLay0=true->∀{e:PyData}{bs:List Addr},Reads h v e bs->e.canLay0=true->e=d
 | _,_,_,.none,_,_,_,.none,_=>rfl
 | _,_,_,.bool _,_,_,_,.bool _,_=>rfl
 | _,_,_,.int _ _,_,_,_,.int _ _,_=>rfl
 | _,_,_,.str _ _,_,_,_,.str _ _,_=>rfl
 | _,_,_,.list h1 c1 d1 r1,l1,_,_,r,l2=>by
  cases r with
  | list h2 c2 d2 r2=>
   rw[h1]at h2;cases h2
   rw[d1]at d2;cases d2
   rw[lC r1 (by rw[PyData.canLay0]at l1;exact l1) r2 (by rw[PyData.canLay0]at l2;exact l2)]
  | tuple h2 c2 d2 r2=>rw[h1]at h2;cases h2;rw[c1]at c2;exact absurd c2 (by decide)
  | dict h2 c2 d2 r2 r3=>rw[PyData.canLay0]at l2;cases l2
 | _,_,_,.tuple h1 c1 d1 r1,l1,_,_,r,l2=>by
  cases r with
  | tuple h2 c2 d2 r2=>
   rw[h1]at h2;cases h2
   rw[d1]at d2;cases d2
   rw[lC r1 (by rw[PyData.canLay0]at l1;exact l1) r2 (by rw[PyData.canLay0]at l2;exact l2)]
  | list h2 c2 d2 r2=>rw[h1]at h2;cases h2;rw[c1]at c2;exact absurd c2 (by decide)
  | dict h2 c2 d2 r2 r3=>rw[PyData.canLay0]at l2;cases l2
 | _,_,_,.dict _ _ _ _ _,l1,_,_,_,_=>by rw[PyData.canLay0]at l1;cases l1
theorem lC{h:Heap} : ∀{ds:List PyData}{vs:List Value}{as:List Addr},ReadsAll h vs ds as->PyData.canLayAll0 ds=true->∀{es:List PyData}{bs:List Addr},ReadsAll h vs es bs->PyData.canLayAll0 es=true->es=ds
 | _,_,_,.nil,_,_,_,.nil,_=>rfl
 | _,_,_,.cons r1 t1,l1,_,_,.cons r2 t2,l2=>by
  rw[PyData.canLayAll0,aeb]at l1 l2
  rw[xJ r1 l1.1 r2 l2.1,lC t1 l1.2 t2 l2.2]
end
theorem zY{h:Heap}{v:Value}{d e:PyData}{as:List Addr}(r:Reads h v e as)(l:e.canLay0=true):GY h d v=PyData.eqv e d:=by
 unfold GY
 rw[aea,@ad4 _ (Classical.propDecidable _)]
 constructor
 . rintro⟨e',bs,r',l',q⟩
   rwa[xJ r l r' l']at q
 . exact λq=>⟨e,as,r,l,q⟩
theorem readsAll_mem{h:Heap} : ∀{vs:List Value}{ds:List PyData}{as:List Addr},ReadsAll h vs ds as->∀v∈vs,∃d∈ds,∃bs,Reads h v d bs
 | _,_,_,.nil,v,hv=>nomatch hv
 | _,_,_,.cons r t,v,hv=>by
  rcases adq.mp hv with rfl|hv
  . exact⟨_,adB,_,r⟩
  . obtain⟨d,hd,bs,q⟩:=readsAll_mem t v hv
    exact⟨d,adx _ hd,bs,q⟩
theorem readsAll_get{h:Heap} : ∀{vs:List Value}{ds:List PyData}{as:List Addr},ReadsAll h vs ds as->∀(i:Nat) (h1:i<vs.length) (h2:i<ds.length),∃bs,Reads h vs[i] ds[i] bs
 | _,_,_,.nil,i,h1,_=>absurd h1 (aev _)
 | _,_,_,.cons r t,0,_,_=>⟨_,r⟩
 | _,_,_,.cons r t,i+1,h1,h2=>readsAll_get t i (ag6 h1) (ag6 h2)
def wg(K:W.Frag)(n:Nat):V->List V->Hp->VK->Prop:=λx ys H Q=>∃(p:Addr) (y:V) (xs:List V) (d:PyData) (ds:List PyData),x=.ref p/\ys=[y]/\aw K H p xs/\jN K H xs ds/\Dp K H y d/\d.canLay0=true/\(∀e∈ds,e.canLay0=true)/\d.depth<=n/\∃j,∃hj:j<ds.length,PyData.eqv ds[j] d=true/\(∀i (hi:i<ds.length),i<j->PyData.eqv ds[i] d=false)/\Q (.int (j:Int)) H
theorem GZ{n:Nat}(hu:X.A.units+n+1<cLine):N8 X "list.index" (wg X.K n):=by
 intro pins s σ H x ys v us Q I rx rv h
 obtain⟨p,y,xs,d,ds,rfl,rfl,hq,BS,hd,ld,KS,hn,j,hj,hit,vh,q⟩:=h
 cases(show v=Value.ref p from rx)
 obtain⟨u,rfl,ru⟩:=rv.one
 obtain⟨bs,rb⟩:=hd.reads I ru
 obtain⟨its,r,⟨⟨cls,dd,data,sl⟩,m,ho,hc,Xp,Xq⟩,hz⟩:=I.list hq
 simp only at hc Xp Xq
 subst hc Xp Xq
 obtain⟨as,ra⟩:=BS.reads I r
 have l1:=r.length
 have l2:=BS.len
 have hjl:j<its.length:=by omega
 have nF:sizeLine<=2 ^ 60:=by decide
 have hsm:(j:Int)<2 ^ 63-1:=by
  have:j<2 ^ 60:=by omega
  omega
 refine afU F.slot_list_index ⟨_,ho,rfl⟩ F.entry_list_index (F.args_list_index_2 _ _) (SeqAt.list_indexAt p its.toArray m none sl u (GY s.heap d) j (by simpa using hjl) hsm ?_ ?_) ⟨ho,λw hw=>?_,⟨.int j,H,I.tok _,⟨_,rfl⟩,q⟩⟩
 . obtain⟨cs,rc⟩:=readsAll_get ra j hjl hj
   show GY s.heap d its[j]=true
   rw[zY rc (KS _ (aee hj)),hit]
 . intro i hi eN
   have Ke:i<its.length:=by simpa using hi
   obtain⟨cs,rc⟩:=readsAll_get ra i Ke (by omega)
   show GY s.heap d its[i]=false
   rw[zY rc (KS _ (aee _)),vh i (by omega) eN]
 . obtain⟨e,he,cs,rc⟩:=readsAll_mem ra w (by simpa using hw)
   rw[zY rc (KS e he)]
   exact SeqAt.eqAt_reads e d X.A.in1 s w u cs bs rc rb (KS e he) ld (by show X.A.units+1+min e.depth d.depth<cLine;omega)
end
section
variable {X:Cx}
def ZW(K:W.Frag)(neg:Bool):R2:=λx y H Q=>∃(p p':Addr) (xs:List V),x=.ref p/\y=.ref p'/\aw K H p xs/\aw K H p' []/\Q (.bl (if neg=true then !xs.isEmpty else xs.isEmpty)) H
theorem Px(hu:X.A.units<cLine):gp X (compareOp .Eq) (ZW X.K false):=by
 intro pins s σ H x y v u Q I rx ry h
 obtain⟨p,p',xs,rfl,rfl,h1,h2,q⟩:=h
 cases(show v=Value.ref p from rx)
 cases(show u=Value.ref p' from ry)
 obtain⟨its,rv,pl,hz⟩:=I.list h1
 obtain⟨its',Ci,KP,wU⟩:=I.list h2
 have l1:=rv.length
 have l2:=Ci.length
 cases xs with
 | nil=>
  have key:=SeqAt.RcAt.lists (A:=X.A) (s:=s) (e:=λ_=>true) pl.isList KP.isList (by simp only[adz];omega) hu (λj g1 g2=>by simp only[adz,afm]at g1 l1;omega) X.prog X.w X.xe
  refine key _ ?_
  rw[show ((List.range its.toArray.size).all λ_=>true)=true by simp]
  exact⟨.bl true,H,I,rfl,q⟩
 | cons a xs=>
  have key:=SeqAt.RcAt.lists_lengths (A:=X.A) (s:=s) pl.isList KP.isList (by simp only[adz,adL,afm]at l1 l2 ⊢;rw[← l1,← l2];rfl) hu X.prog X.w X.xe
  exact key _ ⟨.bl false,H,I,rfl,q⟩
end
inductive Tr where
 | leaf (b:Bool)|node (n:Str) (l r:Tr)
 deriving DecidableEq
def Tr.dep:Tr->Nat
 | .leaf _=>0
 | .node _ l r=>max l.dep r.dep+1
def eK(h:Heap):Tr->Value->Prop
 | .leaf b,v=>v=.bool b
 | .node n l r,v=>∃a o k t vl vr,v=.ref a/\h.get? a=some o/\o.cls=.type "tuple" /\ o.data=.seq #[.str n t,vl,vr] k/\eK h l vl/\eK h r vr
def nI(w:World):Tr->Int
 | .leaf b=>reduceHash (if b=true then 1 else 0)
 | .node n l r=>reduceHash (Builtin.Tuple.tupleHashOf [hashStr w n,nI w l,nI w r])
def lp:Tr->Nat
 | .leaf _=>1
 | .node _ l r=>1+lp l+lp r+1
theorem eK.inj{h:Heap} : ∀{x y:Tr}{v:Value},eK h x v->eK h y v->x=y
 | .leaf _,.leaf _,_,e1,e2=>by
  rw[show _=Value.bool _ from e1]at e2
  injection (show Value.bool _=Value.bool _ from e2) with e
  rw[e]
 | .leaf _,.node ..,_,e1,⟨_,_,_,_,_,_,e2,_⟩=>by
  rw[show _=Value.bool _ from e1]at e2
  cases e2
 | .node ..,.leaf _,_,⟨_,_,_,_,_,_,e2,_⟩,e1=>by
  rw[show _=Value.bool _ from e1]at e2
  cases e2
 | .node ..,.node ..,_,⟨a,o,k,t,vl,vr,e,g,_,d,hl,hr⟩,⟨a',o',k',t',vl',vr',e',g',_,d',uO,G4⟩=>by
  rw[e]at e'
  injection e' with ea
  subst ea
  rw[g]at g'
  injection g' with eo
  subst eo
  rw[d]at d'
  injection d' with e1 e2
  have Xr:=congrArg Array.toList e1
  simp only[ahg,ahP]at Xr
  obtain⟨q1,q2,q3⟩:=Xr
  injection q1 with n1 _
  subst n1 q2 q3
  rw[eK.inj hl uO,eK.inj hr G4]
theorem eK.keep{h h':Heap}(k:∀a o its n,h.get? a=some o->o.cls=.type "tuple" -> o.data=.seq its n->h'.get? a=some o):∀{t:Tr}{v:Value},eK h t v->eK h' t v
 | .leaf _,_,e=>e
 | .node ..,_,⟨a,o,n,t,vl,vr,e,g,c,d,hl,hr⟩=>⟨a,o,n,t,vl,vr,e,k _ _ _ _ g c d,c,d,hl.keep k,hr.keep k⟩
section
variable {prog:Program}{w:World}{E:Value->Shared->Prop}
theorem eK.hash:∀(t:Tr) (v:Value) (A:Around) (s:Shared) (Q:Int->Shared->Prop),eK s.heap t v->A.units+t.dep<cLine->Q (nI w t) {s with toks:=s.toks+lp t} -> wpAny (model prog w) A (pyHash v) Q E s
 | .leaf b,v,A,s,Q,e,hu,q=>by
  cases(show v=.bool b from e)
  refine W.pyHash_slot (T:="bool") rfl PySem.F.slot_bool_hash entry_int_hash (args_int_hash _) (beq_builtin_none _) (.inr (by omega)) ?_
  cases b
  . exact(show wpAny _ _ (do ret (← mkInt 0)) _ _ s from adk (wpAny_mkInt (adv ⟨_,_,rfl,q⟩)))
  . exact(show wpAny _ _ (do ret (← mkInt 1)) _ _ s from adk (wpAny_mkInt (adv ⟨_,_,rfl,q⟩)))
 | .node n l r,v,A,s,Q,⟨a,o,k,t,vl,vr,e,g,c,d,hl,hr⟩,hu,q=>by
  subst e
  have GW:A.units+(max l.dep r.dep+1)<cLine:=hu
  refine W.pyHash_slot (T:="tuple") ⟨o,g,c⟩ PySem.F.slot_tuple_hash PySem.F.entry_tuple_hash (PySem.F.args_tuple_hash_1 _) (beq_builtin_none _) (.inr (by omega)) ?_
  show wpAny _ _ (Builtin.Tuple.tupleItemsOf (.ref a) >>= _) _ _ s
  refine adk (wpAny_tupleItemsOf g d (adk ?_))
  rw[← ahH]
  refine wpAny_forIn_list _ (λrest (b:Array Int) z=>(rest=[.str n t,vl,vr]/\b = #[]/\z=s)\/(rest=[vl,vr]/\b = #[hashStr w n]/\z = {s with toks:=s.toks+1})\/(rest=[vr]/\b = #[hashStr w n,nI w l]/\z = {s with toks:=s.toks+(1+lp l)})\/(rest=[]/\b = #[hashStr w n,nI w l,nI w r]/\z = {s with toks:=s.toks+(1+lp l+lp r)})) _ ?_ ?_ _ _ (.inl ⟨rfl,rfl,rfl⟩)
  . rintro x rest b z (⟨e1,rfl,rfl⟩|⟨e1,rfl,rfl⟩|⟨e1,rfl,rfl⟩|⟨e1,_⟩)
    . injection e1 with e1 e2
      subst e1 e2
      exact adk (wpAny_pyHash_str (adv (.inr (.inl ⟨rfl,rfl,rfl⟩))))
    . injection e1 with e1 e2
      subst e1 e2
      exact adk (eK.hash l _ _ _ _ hl (by simp only[af8];omega) (adv (.inr (.inr (.inl ⟨rfl,rfl,by simp only[agS]⟩)))))
    . injection e1 with e1 e2
      subst e1 e2
      exact adk (eK.hash r _ _ _ _ hr (by simp only[af8];omega) (adv (.inr (.inr (.inr ⟨rfl,rfl,by simp only[agS]⟩)))))
    . cases e1
  . rintro b z (⟨e1,_⟩|⟨e1,_⟩|⟨e1,_⟩|⟨_,rfl,rfl⟩)
    . cases e1
    . cases e1
    . cases e1
    . exact(show wpAny _ _ (retInt _) _ _ _ from adk (wpAny_mkInt (adv ⟨_,_,rfl,by simpa only[agS,lp,nI]using q⟩)))
theorem eK.calm:∀(t:Tr) (v:Value) (k:Nat) (A:Around) (s:Shared) (Q:Bool->Shared->Prop),eK s.heap t v->t.dep<=k->Q true s->wpAny (model prog w) A (eqIsQuiet k v) Q E s
 | .leaf b,v,k,A,s,Q,e,_,q=>by
  cases(show v=.bool b from e)
  rw[eqIsQuiet_byValue _ rfl]
  exact adv q
 | .node n l r,v,0,A,s,Q,_,hk,_=>absurd hk (Nat.not_succ_le_zero _)
 | .node n l r,v,k+1,A,s,Q,⟨a,o,m,t,vl,vr,e,g,c,d,hl,hr⟩,hk,q=>by
  subst e
  have lF:max l.dep r.dep+1<=k+1:=hk
  have hT:s.TypeIs (.ref a) "tuple":=⟨o,g,c⟩
  unfold eqIsQuiet
  refine adk (aha hT PySem.F.slot_tuple_eq.lookup ?_)
  show wpAny _ _ (isInstance (.ref a) (.type "tuple") >>= _) _ _ s
  refine adk (wpAny_isInstance hT isSubtype_tuple_tuple ?_)
  simp only[Bool.not_true,ae0,af1]
  refine adk (aeh g d (adk ?_))
  show wpAny _ _ (forIn #[Value.str n t,vl,vr] _ _) _ _ s
  rw[← ahH]
  refine wpAny_forIn_list _ (λrest x z=>x.1=none/\z=s/\(rest=[.str n t,vl,vr]\/rest=[vl,vr]\/rest=[vr]\/rest=[])) _ ?_ ?_ _ _ ⟨rfl,rfl,.inl rfl⟩
  . rintro x rest b z ⟨hb,rfl,e1|e1|e1|e1⟩
    . injection e1 with e1 e2
      subst e1 e2
      rw[eqIsQuiet_byValue _ rfl]
      refine adk (adv ?_)
      rw[adw (show ¬ (!true)=true by decide)]
      exact adv ⟨rfl,rfl,.inr (.inl rfl)⟩
    . injection e1 with e1 e2
      subst e1 e2
      refine adk (eK.calm l _ k _ _ _ hl (by omega) ?_)
      rw[adw (show ¬ (!true)=true by decide)]
      exact adv ⟨rfl,rfl,.inr (.inr (.inl rfl))⟩
    . injection e1 with e1 e2
      subst e1 e2
      refine adk (eK.calm r _ k _ _ _ hr (by omega) ?_)
      rw[adw (show ¬ (!true)=true by decide)]
      exact adv ⟨rfl,rfl,.inr (.inr (.inr rfl))⟩
    . cases e1
  . rintro⟨r1,r2⟩ z ⟨hb,rfl,_⟩
    simp only at hb
    subst hb
    exact adv q
end
def Tr.pd:Tr->PyData
 | .leaf b=>.bool b
 | .node n l r=>.tuple [.str n,l.pd,r.pd]
def Tr.Cv:Tr->Prop
 | .leaf _=>True
 | .node n l r=>PyData.strOk n=true/\l.Cv/\r.Cv
theorem Tr.vk:∀t:Tr,t.Cv->t.pd.canLay0=true
 | .leaf _,_=>rfl
 | .node n l r,⟨h1,h2,h3⟩=>by
  rw[Tr.pd,PyData.canLay0]
  refine M0 λd hd=>?_
  have:d=.str n\/d=l.pd\/d=r.pd:=by simpa using hd
  rcases this with rfl|rfl|rfl
  . rw[PyData.canLay0]
    exact h1
  . exact l.vk h2
  . exact r.vk h3
theorem Tr.zZ:∀t:Tr,t.pd.depth<=t.dep
 | .leaf _=>adn _
 | .node n l r=>by
  rw[Tr.pd,PyData.depth,Tr.dep]
  have hl:=l.zZ
  have hr:=r.zZ
  have:PyData.depthAll [.str n,l.pd,r.pd]<=max l.dep r.dep:=M3 λd hd=>by
   have:d=.str n\/d=l.pd\/d=r.pd:=by simpa using hd
   rcases this with rfl|rfl|rfl
   . exact adW _
   . omega
   . omega
  omega
theorem Tr.Aa:∀x y:Tr,PyData.eqv x.pd y.pd=decide (x=y)
 | .leaf a,.leaf b=>by
  rw[Tr.pd,Tr.pd,PyData.eqv,aea,ad4]
  simp
 | .leaf _,.node ..=>by rw[adS (by intro z;cases z)];rfl
 | .node ..,.leaf _=>by rw[adS (by intro z;cases z)];rfl
 | .node n l r,.node n' l' r'=>by
  rw[Tr.pd,Tr.pd,PyData.eqv]
  have h1:=Tr.Aa l l'
  have h2:=Tr.Aa r r'
  have h3:PyData.eqv (.str n) (.str n')=decide (n=n'):=by rw[PyData.eqv,aea,ad4];simp
  simp only[PyData.eqvAll,h1,h2,h3,ahG]
  rw[aea]
  simp
theorem eK.reads{h:Heap} : ∀{t:Tr}{v:Value},eK h t v->∃as,Reads h v t.pd as
 | .leaf b,v,e=>by cases(show v=.bool b from e);exact⟨_,.bool b⟩
 | .node ..,_,⟨a,o,k,t,vl,vr,e,g,c,d,hl,hr⟩=>by
  subst e
  obtain⟨as,ra⟩:=hl.reads
  obtain⟨bs,rb⟩:=hr.reads
  exact⟨_,.tuple g c d (.cons (.str _ _) (.cons ra (.cons rb .nil)))⟩
def rh(prog:Program)(w:World):HeapKind prog w Tr where
 is:=λh t a=>eK h t (.ref a)/\t.dep<=8/\t.Cv
 hash:=nI w
 draws:=lp
 room:=λA=>A.units+16<cLine
 inj:=λhx hy=>hx.1.inj hy.1
 keeps:=λhk g d sb=>by
  refine⟨hk.1.keep λa o its n ga _ da=>sb.extBut a o (λe=>?_) ga,hk.2⟩
  subst e
  rw[ga]at g
  injection g with eo
  subst eo
  rw[da]at d
  cases d
 pyHash:=λ{A E s k a Q} hu hk q=>eK.hash k (.ref a) A s Q hk.1 (by have:=hk.2.1;omega) q
 eqBool:=λ{A E s x y a b Q} hu hx hy q=>by
  obtain⟨as,ra⟩:=hx.1.reads
  obtain⟨bs,rb⟩:=hy.1.reads
  have d1:=x.zZ
  have h8:=hx.2.1
  have z:=SeqAt.eqAt_reads x.pd y.pd A s _ _ as bs ra rb (x.vk hx.2.2) (y.vk hy.2.2) (by omega)
  rw[Tr.Aa]at z
  exact z prog w E Q q
 quiet:=λ{A E s k a Q} hk q=>eK.calm k (.ref a) 8 A s Q hk.1 hk.2.1 q
def iY(L:List (Tr×Addr×V)) (t:Tr):Option V:=(L.find? λp=>decide (p.1=t)).map (·.2.2)
abbrev t9(L:List (Tr×Addr×V)) (vs:List (Tr×Addr×Value)):Prop:=Paired (λp q=>p.1=q.1/\p.2.1=q.2.1/\RelV p.2.2 q.2.2) L vs
def KU(P:Program)(w:World)(a:Addr) (L:List (Tr×Addr×V)) (h:Heap):Prop:=
 L.length<=sizeLine/\(a == sysModules)=false/\∃vs,t9 L vs/\∃o es ep,h.get? a=some o/\o.ExactDict/\o.data=.dict es ep/\es.toList=vs.map (entryOfKey (rh P w))/\(vs.map (·.1)).Nodup
def lK(P:Program)(w:World)(a:Addr) (L:List (Tr×Addr×V)):HO:=.ext (KU P w a L)
theorem G5{P:Program}{w:World}{H:Hp}{h:Heap}{a:Addr}{L:List (Tr×Addr×V)}(x:KU P w a L h):bJ P w H h a (lK P w a L):=by
 refine⟨x,?_,λh1 h2 y k=>?_⟩
 . obtain⟨_,_,vs,_,o,_,_,g,_⟩:=x
   exact⟨o,g⟩
 . obtain⟨y0,y1,vs,y2,o,es,ep,g,r⟩:=y
   exact⟨y0,y1,vs,y2,o,es,ep,k o g,r⟩
def eL(H:Hp):Tr->V->Prop
 | .leaf b,v=>v=.bl b
 | .node n l r,v=>∃a vl vr,v=.ref a/\H a=some (.tup [.str n,vl,vr])/\eL H l vl/\eL H r vr
theorem eL.keep{H H':Hp}(k:∀a xs,H a=some (.tup xs)->H' a=some (.tup xs)):∀{t:Tr}{v:V},eL H t v->eL H' t v
 | .leaf _,_,e=>e
 | .node ..,_,⟨a,vl,vr,e,g,hl,hr⟩=>⟨a,vl,vr,e,k _ _ g,hl.keep k,hr.keep k⟩
theorem eL.at{P:Program}{w:World}{H:Hp}{h:Heap}(ok:eC P w H h):∀{t:Tr}{v:V}{u:Value},eL H t v->RelV v u->eK h t u
 | .leaf b,v,u,e,r=>by
  cases(show v=.bl b from e)
  exact r
 | .node n l r,v,u,⟨a,vl,vr,e,g,hl,hr⟩,ru=>by
  subst e
  cases(show u=.ref a from ru)
  obtain⟨_,its,rv,o,h1,h2,k,h3⟩:=(show bJ P w H h a (.tup [.str n,vl,vr]) from ok a _ g)
  cases rv with
  | cons r1 rv=>
   cases rv with
   | cons r2 rv=>
    cases rv with
    | cons r3 rv=>
     cases rv
     obtain⟨t,rfl⟩:=r1
     exact⟨a,o,k,t,_,_,rfl,h1,h2,h3,hl.at ok r2,hr.at ok r3⟩
structure jZ(H:Hp) (t:Tr) (b:Addr):Prop where
 at_:eL H t (.ref b)
 d8:t.dep<=8
 sk:t.Cv
theorem jZ.keep{H H':Hp}{t:Tr}{b:Addr}(h:jZ H t b) (k:∀a xs,H a=some (.tup xs)->H' a=some (.tup xs)):jZ H' t b:=⟨h.at_.keep k,h.d8,h.sk⟩
theorem t9.len{L:List (Tr×Addr×V)}{vs:List (Tr×Addr×Value)}(r:t9 L vs):L.length=vs.length:=agG r
theorem t9.look{L:List (Tr×Addr×V)}{vs:List (Tr×Addr×Value)}(r:t9 L vs) (t:Tr):gv (iY L t) ((atKey vs t).map (·.2)):=by
 unfold iY atKey
 induction r with
 | nil=>exact True.intro
 | @cons p q ps qs h _ ih=>
  by_cases e:p.1=t
  . rw[aeE (by simpa using e),aeE (by simpa using h.1.symm.trans e)]
    exact h.2.2
  . rw[aeW (by simpa using e),aeW (by simpa using λz=>e (h.1.trans z))]
    exact ih
theorem KW{P:Program}{w:World}{H:Hp}{h:Heap}{a:Addr}{L:List (Tr×Addr×V)}(ok:eC P w H h) (e:H a=some (lK P w a L)) (hk:∀p∈L,jZ H p.1 p.2.1) :
 L.length<=sizeLine/\(a == sysModules)=false/\∃vs,t9 L vs/\h.DictOfH (rh P w) a vs:=by
 obtain⟨⟨y0,y1,vs,y2,o,es,ep,g,x1,x2,x3,x4⟩,_⟩:=(show bJ P w H h a (.ext (KU P w a L)) from ok a _ e)
 refine⟨y0,y1,vs,y2,o,es,ep,g,x1,x2,x3,λx hx=>?_,x4⟩
 have all:∀{l:List (Tr×Addr×V)}{m:List (Tr×Addr×Value)},t9 l m->(∀p∈l,jZ H p.1 p.2.1)->∀x∈m,(rh P w).is h x.1 x.2.1:=by
  intro l m q
  induction q with
  | nil=>intro _ x hx;exact nomatch hx
  | @cons p q ps qs hq _ ih=>
   intro hk x hx
   rcases adq.mp hx with e|hx
   . subst e
     have:=hk p adB
     rw[hq.1,hq.2.1]at this
     exact⟨this.at_.at ok rfl,this.d8,this.sk⟩
   . exact ih (λp h=>hk p (adx _ h)) x hx
 exact all y2 hk x hx
section
variable {X:Cx}{o i value e:Expr}{pos pos' apos dU:Pos}{td ty tv:TE}
def Tf(P:Program)(w:World):TE:=λ_ H Q=>∀p,H p=none->Q (.ref p) (upd H p (lK P w p []))
theorem Jc:PE X (.Dict [] [] pos) (Tf X.prog X.w):=λpins s σ H Q I h=>
 agW ⟨.ref s.heap.objs.size,_,I.laid (a:=s.heap.objs.size) (o:=lK X.prog X.w s.heap.objs.size []) (t':=s.toks) (λ_ _ q=>adl _ q) (adn _)
  (G5 ⟨adW _,aej.mpr (adG (adR I.big)),[],.nil,_,#[],0,adP _ rfl,⟨rfl,rfl,rfl⟩,rfl,rfl,aex⟩),rfl,h _ (I.hok.fresh (adn _))⟩
def Tg(P:Program)(w:World)(td ty:TE):TE:=λσ H Q=>td σ H λx H1=>∃a L,x=.ref a/\H1 a=some (lK P w a L)/\ty σ H1 λy H2=>∃t b,y=.ref b/\H2 a=some (lK P w a L)/\jZ H2 t b/\(∀p∈L,jZ H2 p.1 p.2.1)/\Q ((iY L t).getD .aY) H2
theorem M4(hu:X.A.units+17<cLine)(ho:PE X o td)(he:PE X e ty)(m:M1 X o "get" apos e dU):PE X (.Call (.Attribute o "get" apos) [e] [] dU) (Tg X.prog X.w td ty):=by
 intro pins s σ H Q I h
 refine agz m.base m.iG m.line afa aes af4 (aP (ho pins s σ H _ I h) λu s1 ⟨x,H1,I1,rx,a,L,ex,ea,q1⟩=>?_)
 subst ex
 obtain rfl:u=Value.ref a:=rx
 obtain⟨⟨_,y1,vs,_,ob,es,ep,g,x1,_⟩,_⟩:=(show bJ X.prog X.w H1 s1.heap a (.ext (KU X.prog X.w a L)) from I1.hok a _ ea)
 refine⟨⟨ob,g,x1.1⟩,λb q=>by cases q;exact⟨ob,g,x1.2.1⟩,?_⟩
 rw[m.trees]
 refine aeV rfl (afu (afi (aP (he pins s1 σ H1 _ I1 q1) λiv s2 ⟨y,H2,I2,ry,t,b,ey,ea2,kt,kl,q2⟩=>afS ?_)))
 subst ey
 cases(show iv=Value.ref b from ry)
 obtain⟨_,hd,ws,rel,dd⟩:=KW I2.hok ea2 kl
 refine af3 aes dd.typeIs aeU (afE _ _) (meetsH_dict_get (rh X.prog X.w) a b hd) ⟨(show X.A.in1.units+16<cLine by simp only[af8];omega),t,ws,⟨kt.at_.at I2.hok rfl,kt.d8,kt.sk⟩,dd,⟨_,H2,I2.tok _,?_,q2⟩⟩
 exact(rel.look t).getD rfl
def Th(P:Program)(w:World)(td ty tv:TE):TS:=λD σ H=>tv σ H λv H1=>td σ H1 λx H2=>ty σ H2 λy H3=>∃a L t b,x=.ref a/\y=.ref b/\H3 a=some (lK P w a L)/\jZ H3 t b/\(∀p∈L,jZ H3 p.1 p.2.1)/\iY L t=none/\L.length<sizeLine/\D.nx σ (upd H3 a (lK P w a (L++[(t,b,v)])))
theorem M5(hu:X.A.units+17<cLine)(ho:PE X o td)(hi:PE X i ty)(hv:PE X value tv) (hs:swapsWith value (some (.Subscript o i pos')) pos.line X.env=pure false) :
 PS X (.Assign [.Subscript o i pos'] value pos) (Th X.prog X.w td ty tv):=by
 intro pins s σ H D I h
 refine wpAny_Assign_Subscript (aP (hv pins s σ H _ I h) λr s1 ⟨v,H1,I1,rv,q1⟩=>aP (ho pins s1 σ H1 _ I1 q1) λu s2 ⟨x,H2,I2,rx,q2⟩=>aP (hi pins s2 σ H2 _ I2 q2) λiv s3 ⟨y,H3,I3,ry,a,L,t,b,ex,ey,ea,kt,kl,hn,hl,q3⟩=>?_) hs
 subst ex ey
 obtain rfl:u=Value.ref a:=rx
 cases(show iv=Value.ref b from ry)
 obtain⟨hz,hd,ws,rel,dd⟩:=KW I3.hok ea kl
 have vh:atKey ws t=none:=by
  have:=rel.look t
  rw[hn]at this
  cases e:atKey ws t with
  | none=>rfl
  | some p=>rw[e]at this;exact this.elim
 refine wpAny_setItem_heap (hsz:=by rw[← rel.len];exact hz) (show X.A.in1.units+16<cLine by simp only[af8];omega) (show (rh X.prog X.w).is _ t b from⟨kt.at_.at I3.hok rfl,kt.d8,kt.sk⟩) dd λh' nz sb=>?_
 obtain⟨q,es,ep,g,x1,x2,x3,_,x5⟩:=nz
 rw[storedH_new vh]at x3 x5
 refine⟨σ,_,oo I3 (by rw[ea];exact True.intro) sb ⟨q,g⟩ (G5 ⟨by rw[adm];exact hl,hd,ws++[(t,b,r)],agJ rel ⟨rfl,rfl,rv⟩,q,es,ep,g,x1,x2,x3,x5⟩),q3⟩
end
end L2
namespace Gen
open PySem L2
def ev(e:Str->Bool):Tr->Bool
 | .leaf b=>b
 | .node n l r=>if e n then ev e r else ev e l
inductive cV:List Str->Tr->Prop
 | leaf (ns:List Str) (b:Bool):cV ns (.leaf b)
 | node {n:Str}{r:List Str}{l h:Tr} : l≠h->cV r l->cV r h->cV (n::r) (.node n l h)
 | skip {n:Str}{r:List Str}{t:Tr} : cV r t->cV (n::r) t
def put(e:Str->Bool)(n:Str)(b:Bool):Str->Bool:=λz=>if z=n then b else e z
theorem iP{ns:List Str}{t:Tr}(h:cV ns t){n:Str}(hn:n∉ns)(e:Str->Bool)(b:Bool):ev (put e n b) t=ev e t:=by
 induction h with
 | leaf=>rfl
 | @node k r l h _ _ _ G6 G7=>
  rw[adq,af6]at hn
  unfold ev
  rw[G6 hn.2,G7 hn.2]
  have:put e n b k=e k:=adw λq=>hn.1 q.symm
  rw[this]
 | @skip k r t _ ih=>
  rw[adq,af6]at hn
  exact ih hn.2
theorem jh:∀{ns:List Str}{t t':Tr},ns.Nodup->cV ns t->cV ns t'->(∀e,ev e t=ev e t')->t=t'
 | [],_,_,_,.leaf _ a,.leaf _ b,h=>by rw[show a=b from h λ_=>true]
 | n::r,t,t',hn,h1,h2,h=>by
  rw[ad1]at hn
  have split:∀{l u x:Tr},cV r l->cV r u->cV r x->(∀e,ev e (.node n l u)=ev e x)->l=u:=λ{l u x} cl cu cx hh=>by
   have e1:l=x:=jh hn.2 cl cx λe=>by
    have:=hh (put e n false)
    rw[iP cx hn.1]at this
    rw[← this,ev,show put e n false n=false from adM rfl,adw (by decide),iP cl hn.1]
   have e2:u=x:=jh hn.2 cu cx λe=>by
    have:=hh (put e n true)
    rw[iP cx hn.1]at this
    rw[← this,ev,show put e n true n=true from adM rfl,adM rfl,iP cu hn.1]
   rw[e1,e2]
  have both:∀{l u l' u':Tr},cV r l->cV r u->cV r l'->cV r u'->(∀e,ev e (.node n l u)=ev e (.node n l' u'))->l=l'/\u=u':=λ{l u l' u'} cl cu Cw KY hh=>by
   refine⟨jh hn.2 cl Cw λe=>?_,jh hn.2 cu KY λe=>?_⟩
   . have:=hh (put e n false)
     rw[ev,ev,show put e n false n=false from adM rfl,adw (by decide),adw (by decide),iP cl hn.1,iP Cw hn.1]at this
     exact this
   . have:=hh (put e n true)
     rw[ev,ev,show put e n true n=true from adM rfl,adM rfl,adM rfl,iP cu hn.1,iP KY hn.1]at this
     exact this
  cases h1 with
  | leaf _ a=>
   cases h2 with
   | leaf _ b=>rw[show a=b from h λ_=>true]
   | node ne cl cu=>exact absurd (split cl cu (.leaf r a) λe=>(h e).symm) ne
   | skip c=>exact jh hn.2 (.leaf r a) c h
  | node ne cl cu=>
   cases h2 with
   | leaf _ b=>exact absurd (split cl cu (.leaf r b) h) ne
   | node ne' Cw KY=>
    obtain⟨q1,q2⟩:=both cl cu Cw KY h
    rw[q1,q2]
   | skip c=>exact absurd (split cl cu c h) ne
  | skip c=>
   cases h2 with
   | leaf _ b=>exact jh hn.2 c (.leaf r b) h
   | node ne cl cu=>exact absurd (split cl cu c λe=>(h e).symm) ne
   | skip c'=>exact jh hn.2 c c' h
theorem ji{ns:List Str}{t:Tr}(h:cV ns t):t.dep<=ns.length:=by
 induction h with
 | leaf=>exact adW _
 | node _ _ _ i1 i2=>unfold Tr.dep;rw[adL];omega
 | skip _ i=>rw[adL];omega
theorem M6{ns:List Str}{t:Tr}(h:cV ns t)(hs:∀n∈ns,PyData.strOk n=true):t.Cv:=by
 induction h with
 | leaf=>exact True.intro
 | node _ _ _ i1 i2=>exact⟨hs _ adB,i1 λn h=>hs n (adx _ h),i2 λn h=>hs n (adx _ h)⟩
 | skip _ i=>exact i λn h=>hs n (adx _ h)
theorem Py{a b:List Str}{t:Tr}(h:cV b t):cV (a++b) t:=by
 induction a with
 | nil=>exact h
 | cons n a ih=>exact .skip ih
theorem ft{ns:List Str}{i j:Nat}{t:Tr}(h:cV (ns.drop j) t) (zi:i<=j):cV (ns.drop i) t:=by
 have e:ns.drop j=(ns.drop i).drop (j-i):=by rw[List.drop_drop];congr 1;omega
 rw[e]at h
 rw[← aew (j-i) (ns.drop i)]
 exact Py h
def neg:Tr->Tr
 | .leaf b=>.leaf (!b)
 | .node n l r=>.node n (neg l) (neg r)
abbrev Nd:=Nat×Nat×Nat
def az(N:List Nd)(i:Nat):Nat:=(N.getD i (0,0,0)).1
def low(N:List Nd)(i:Nat):Nat:=(N.getD i (0,0,0)).2.1
def cS(N:List Nd)(i:Nat):Nat:=(N.getD i (0,0,0)).2.2
def au(TS:List Tr)(i:Nat):Tr:=TS.getD i (.leaf false)
structure FS(names:List Str) (N:List Nd) (TS:List Tr):Prop where
 len:N.length=TS.length
 two:2<=N.length
 z0:N.getD 0 (0,0,0)=(names.length,0,0)
 z1:N.getD 1 (0,0,0)=(names.length,1,1)
 t0:au TS 0=.leaf false
 t1:au TS 1=.leaf true
 nd:∀i,2<=i->i<N.length->az N i<names.length/\low N i<i/\cS N i<i/\low N i≠cS N i/\az N i<az N (low N i)/\az N i<az N (cS N i)/\au TS i=.node (names.getD (az N i) "") (au TS (low N i)) (au TS (cS N i))
 uq:∀i j,2<=i->2<=j->i<N.length->j<N.length->N.getD i (0,0,0)=N.getD j (0,0,0)->i=j
section
variable {names:List Str}{N:List Nd}{TS:List Tr}
theorem FS.inj(h:FS names N TS)(hn:names.Nodup):∀i j,i<N.length->j<N.length->au TS i=au TS j->i=j:=by
 intro i
 induction i using Nat.strongRecOn with
 | ind i ih=>
  intro j hi hj e
  have yl:∀k,k<2->au TS k=.leaf (decide (k=1)):=λk hk=>by
   rcases (show k=0\/k=1 by omega) with rfl|rfl
   . exact h.t0
   . exact h.t1
  by_cases i2:i<2
  . by_cases j2:j<2
    . rw[yl i i2,yl j j2]at e
      injection e with e
      rcases (show i=0\/i=1 by omega) with rfl|rfl <;> rcases (show j=0\/j=1 by omega) with rfl|rfl <;> first|rfl|(revert e;decide)
    . rw[yl i i2,(h.nd j (by omega) hj).2.2.2.2.2.2]at e
      cases e
  . by_cases j2:j<2
    . rw[yl j j2,(h.nd i (by omega) hi).2.2.2.2.2.2]at e
      cases e
    . obtain⟨a1,a2,a3,_,_,_,a7⟩:=h.nd i (by omega) hi
      obtain⟨b1,b2,b3,_,_,_,b7⟩:=h.nd j (by omega) hj
      rw[a7,b7]at e
      injection e with e1 e2 e3
      have q2:=ih _ a2 _ (by omega) (by omega) e2
      have q3:=ih _ a3 _ (by omega) (by omega) e3
      have q1:az N i=az N j:=by
       rw[adA,adA,adj a1,adj b1]at e1
       exact(agV hn).mp e1
      refine h.uq i j (by omega) (by omega) hi hj ?_
      exact ahE q1 (ahE q2 q3)
theorem FS.adi(h:FS names N TS){i:Nat}(hi:i<N.length):az N i<=names.length:=by
 by_cases i2:i<2
 . unfold az
   rcases (show i=0\/i=1 by omega) with rfl|rfl
   . rw[h.z0]
     exact adn _
   . rw[h.z1]
     exact adn _
 . exact ae5 (h.nd i (by omega) hi).1
theorem FS.Cy(h:FS names N TS)(hn:names.Nodup):∀i,i<N.length->cV (names.drop (az N i)) (au TS i):=by
 intro i
 induction i using Nat.strongRecOn with
 | ind i ih=>
  intro hi
  by_cases i2:i<2
  . rcases (show i=0\/i=1 by omega) with rfl|rfl
    . rw[h.t0]
      exact .leaf _ _
    . rw[h.t1]
      exact .leaf _ _
  . obtain⟨a1,a2,a3,a4,a5,a6,a7⟩:=h.nd i (by omega) hi
    rw[a7,aeJ a1,adA,adj a1]
    refine .node (λq=>a4 (h.inj hn _ _ (by omega) (by omega) q)) (ft (ih _ a2 (by omega)) a5) (ft (ih _ a3 (by omega)) a6)
theorem pK{α:Type}{l m:List α}{d:α}{i:Nat}(h:i<l.length):(l++m).getD i d=l.getD i d:=by
 rw[adA,adA,aeI h]
theorem pM{α:Type}{l:List α}{x d:α} : (l++[x]).getD l.length d=x:=by
 rw[adA,aeD (adn _),Nat.sub_self]
 rfl
theorem FS.push(h:FS names N TS){s l u:Nat}(hs:s<names.length)(hl:l<N.length)(hu:u<N.length)(ne:l≠u)(s1:s<az N l)(s2:s<az N u) (jA:∀i,2<=i->i<N.length->N.getD i (0,0,0)≠(s,l,u)) :
 FS names (N++[(s,l,u)]) (TS++[.node (names.getD s "") (au TS l) (au TS u)]):=by
 have h2:=h.two
 have hlen:=h.len
 have j0:∀i,i<N.length->(N++[(s,l,u)]).getD i (0,0,0)=N.getD i (0,0,0):=λi hi=>pK hi
 have ua:∀i,i<N.length->au (TS++[.node (names.getD s "") (au TS l) (au TS u)]) i=au TS i:=λi hi=>pK (by omega)
 have Ab:(N++[(s,l,u)]).getD N.length (0,0,0)=(s,l,u):=pM
 refine⟨by rw[adm,adm,hlen];rfl,by rw[adm];omega,by rw[j0 0 (by omega)];exact h.z0,by rw[j0 1 (by omega)];exact h.z1,by rw[ua 0 (by omega)];exact h.t0,by rw[ua 1 (by omega)];exact h.t1,λi i2 hi=>?_,λi j i2 j2 hi hj e=>?_⟩
 . rw[adm,ad2]at hi
   by_cases q:i<N.length
   . obtain⟨a1,a2,a3,a4,a5,a6,a7⟩:=h.nd i i2 q
     have e1:az (N++[(s,l,u)]) i=az N i:=by unfold az;rw[j0 i q]
     have e2:low (N++[(s,l,u)]) i=low N i:=by unfold low;rw[j0 i q]
     have e3:cS (N++[(s,l,u)]) i=cS N i:=by unfold cS;rw[j0 i q]
     have e4:az (N++[(s,l,u)]) (low N i)=az N (low N i):=by unfold az;rw[j0 _ (by omega)]
     have e5:az (N++[(s,l,u)]) (cS N i)=az N (cS N i):=by unfold az;rw[j0 _ (by omega)]
     rw[e1,e2,e3,e4,e5,ua i q,ua _ (by omega),ua _ (by omega)]
     exact⟨a1,a2,a3,a4,a5,a6,a7⟩
   . have ei:i=N.length:=by omega
     subst ei
     have e1:az (N++[(s,l,u)]) N.length=s:=by unfold az;rw[Ab]
     have e2:low (N++[(s,l,u)]) N.length=l:=by unfold low;rw[Ab]
     have e3:cS (N++[(s,l,u)]) N.length=u:=by unfold cS;rw[Ab]
     have e4:az (N++[(s,l,u)]) l=az N l:=by unfold az;rw[j0 _ hl]
     have e5:az (N++[(s,l,u)]) u=az N u:=by unfold az;rw[j0 _ hu]
     rw[e1,e2,e3,e4,e5,ua _ hl,ua _ hu]
     refine⟨hs,hl,hu,ne,s1,s2,?_⟩
     rw[hlen]
     exact pM
 . rw[adm,ad2]at hi hj
   by_cases qi:i<N.length
   . by_cases qj:j<N.length
     . rw[j0 i qi,j0 j qj]at e
       exact h.uq i j i2 j2 qi qj e
     . rw[j0 i qi,show j=N.length by omega,Ab]at e
       exact absurd e (jA i i2 qi)
   . by_cases qj:j<N.length
     . rw[j0 j qj,show i=N.length by omega,Ab]at e
       exact absurd e.symm (jA j j2 qj)
     . omega
end
abbrev sf:Stmt:=inClass (top 7) 1
abbrev sg:Stmt:=inClass (top 7) 6
structure eY(K:W.Frag) (mg:Str->Option Value) (C:Addr):Prop where
 cl:om K C
 n1:cA K C "names"
 n2:cA K C "spots"
 n3:cA K C "nodes"
 n4:cA K C "known"
 n5:cA K C "choices"
 n6:cA K C "imported"
 n7:cA K C "exported"
 mgC:mg "Forest" = some (.ref C)
def cY(nm sp nd kn ch im ex:Addr):List (Str×V):=aq "exported" (.ref ex) (aq "imported" (.ref im) (aq "choices" (.ref ch) (aq "known" (.ref kn) (aq "nodes" (.ref nd) (aq "spots" (.ref sp) (aq "names" (.ref nm) []))))))
section
variable (nm sp nd kn ch im ex:Addr)
theorem D7:(cY nm sp nd kn ch im ex).lookup ("names" : Str)=some (.ref nm):=by
 unfold cY
 rw[aj,adw (by decide+kernel),aj,adw (by decide+kernel),aj,adw (by decide+kernel),aj,adw (by decide+kernel),aj,adw (by decide+kernel),aj,adw (by decide+kernel),aj,adM rfl]
theorem Pz:(cY nm sp nd kn ch im ex).lookup ("spots" : Str)=some (.ref sp):=by
 unfold cY
 rw[aj,adw (by decide+kernel),aj,adw (by decide+kernel),aj,adw (by decide+kernel),aj,adw (by decide+kernel),aj,adw (by decide+kernel),aj,adM rfl]
theorem n9:(cY nm sp nd kn ch im ex).lookup ("nodes" : Str)=some (.ref nd):=by
 unfold cY
 rw[aj,adw (by decide+kernel),aj,adw (by decide+kernel),aj,adw (by decide+kernel),aj,adw (by decide+kernel),aj,adM rfl]
theorem PB:(cY nm sp nd kn ch im ex).lookup ("known" : Str)=some (.ref kn):=by
 unfold cY
 rw[aj,adw (by decide+kernel),aj,adw (by decide+kernel),aj,adw (by decide+kernel),aj,adM rfl]
theorem PD:(cY nm sp nd kn ch im ex).lookup ("choices" : Str)=some (.ref ch):=by
 unfold cY
 rw[aj,adw (by decide+kernel),aj,adw (by decide+kernel),aj,adM rfl]
theorem PF:(cY nm sp nd kn ch im ex).lookup ("imported" : Str)=some (.ref im):=by
 unfold cY
 rw[aj,adw (by decide+kernel),aj,adM rfl]
theorem PH:(cY nm sp nd kn ch im ex).lookup ("exported" : Str)=some (.ref ex):=by
 unfold cY
 rw[aj,adM rfl]
theorem j3{m:Str}(h1:m ≠ "names")(h2:m ≠ "spots")(h3:m ≠ "nodes")(h4:m ≠ "known")(h5:m ≠ "choices")(h6:m ≠ "imported")(h7:m ≠ "exported"):(cY nm sp nd kn ch im ex).lookup m=none:=by
 unfold cY
 rw[aj,adw h7,aj,adw h6,aj,adw h5,aj,adw h4,aj,adw h3,aj,adw h2,aj,adw h1]
 rfl
end
theorem de{b:Bool}{A B:Prop}(h:b=false)(k:B):if b=true then A else B:=by rw[h];exact jU k
theorem df{b:Bool}{A B:Prop}(h:b=true)(k:A):if b=true then A else B:=by rw[h];exact pe k
def iQ:Nat->List Str->List (Key×V)
 | _,[]=>[]
 | i,n::r=>(.inr n,.int (i:Int))::iQ (i+1) r
theorem Ac:∀(names:List Str) (i j:Nat) (z:Str),names.Nodup->names[j]?=some z->aI (iQ i names) (.inr z)=some (V.int ((i+j:Nat):Int))
 | [],_,_,_,_,h=>by simp at h
 | n::r,i,0,z,_,h=>by
  have e:n=z:=by simpa using h
  subst e
  rw[iQ,cD rfl]
  rfl
 | n::r,i,j+1,z,hn,h=>by
  have h2:r[j]?=some z:=by simpa using h
  have hz:z≠n:=λe=>(ad1.mp hn).1 (e ▸ adX h2)
  rw[iQ,cy (λq=>hz (aer q).symm),Ac r (i+1) j z (ad1.mp hn).2 h2,show i+1+j=i+(j+1) by omega]
def iH(p:Nd):List V:=[.int (p.1:Int),.int (p.2.1:Int),.int (p.2.2:Int)]
def jB(p:Nd):List Key:=[.inl (p.1:Int),.inl (p.2.1:Int),.inl (p.2.2:Int)]
theorem wj{p q:Nd}(h:jB p=jB q):p=q:=by
 unfold jB at h
 simp only[ahg,Sum.inl.injEq,ahP]at h
 obtain⟨h1,h2,h3⟩:=h
 exact ahE (by omega) (ahE (by omega) (by omega))
def iy:Nat->List Nd->List (List Key×V)
 | _,[]=>[]
 | i,p::r=>(jB p,.int (i:Int))::iy (i+1) r
theorem Cz:∀(l:List Nd) (i:Nat),(iy i l).length=l.length
 | [],_=>rfl
 | _::r,i=>by rw[iy,adL,adL,Cz r]
theorem CA:∀(a b:List Nd) (i:Nat),iy i (a++b)=iy i a++iy (i+a.length) b
 | [],b,i=>rfl
 | p::r,b,i=>by rw[afc,iy,iy,CA r b (i+1),afc,adL,show i+1+r.length=i+(r.length+1) by omega]
theorem Ad:∀(l:List Nd) (i:Nat) (p:Nd),aI (iy i l) (jB p)=none->p∉l
 | [],_,_,_=>adI
 | q::r,i,p,h=>by
  by_cases e:q=p
  . rw[e,iy,cD rfl]at h
    cases h
  . rw[iy,cy (λz=>e (wj z))]at h
    rw[adq,af6]
    exact⟨λz=>e z.symm,Ad r (i+1) p h⟩
theorem Ae:∀(l:List Nd) (i:Nat) (p:Nd) (v:V),aI (iy i l) (jB p)=some v->∃j,l[j]?=some p/\v=.int ((i+j:Nat):Int)
 | [],_,_,_,h=>nomatch h
 | q::r,i,p,v,h=>by
  by_cases e:q=p
  . rw[e,iy,cD rfl]at h
    exact⟨0,by rw[e];rfl,(adN h).symm⟩
  . rw[iy,cy (λz=>e (wj z))]at h
    obtain⟨j,h1,h2⟩:=Ae r (i+1) p v h
    exact⟨j+1,by simpa using h1,by rw[h2,show i+1+j=i+(j+1) by omega]⟩
structure bq where
 N:List Nd
 TS:List Tr
 ts:List Addr
 CH:List (List Key×V)
 IM:List (Tr×Addr×V)
 EX:List (Key×V)
def ub(N:List Nd)(TS:List Tr)(e:List Key×V):Prop:=∃t h l n:Nat,e.1=[.inl (t:Int),.inl (h:Int),.inl (l:Int)]/\e.2=.int (n:Int)/\t<N.length/\h<N.length/\l<N.length/\n<N.length/\
 (∀v,ev v (au TS n)=if ev v (au TS t)=true then ev v (au TS h) else ev v (au TS l))/\min (az N t) (min (az N h) (az N l))<=az N n
structure FO(P:Program) (w:World) (C:Addr) (H:Hp) (y dy nm sp nd kn ch im ex:Addr) (names:List Str) (S:bq):Prop where
 hy:H y=some (.ins C dy (cY nm sp nd kn ch im ex))
 hn:H nm=some (.lst (names.map V.str))
 hs:H sp=some (.dK (iQ 0 names))
 hd:H nd=some (.lst (S.ts.map V.ref))
 ht:Paired (λt p=>H t=some (.tup (iH p))) S.ts S.N
 hk:H kn=some (.dT (iy 2 (S.N.drop 2)))
 hc:H ch=some (.dT S.CH)
 ck:∀e∈S.CH,ub S.N S.TS e
 hi:H im=some (lK P w im S.IM)
 ik:∀p∈S.IM,jZ H p.1 p.2.1/\∃i:Nat,i<S.N.length/\p.2.2=.int (i:Int)/\au S.TS i=p.1
 he:H ex=some (.dK S.EX)
 ek:∀kv∈S.EX,∃i:Nat,kv.1=.inl (i:Int)/\i<S.N.length/\eL H (au S.TS i) kv.2
 e0:aI S.EX (.inl 0)=some (.bl false)/\aI S.EX (.inl 1)=some (.bl true)
 fs:FS names S.N S.TS
 nn:names.Nodup
 ns:∀n∈names,PyData.strOk n=true
 n8:names.length<=8
 d1:nd≠nm
 d2:kn≠ch
 d3:sp≠ex
def Kp(H H':Hp)(nd kn ch im ex:Addr):Prop:=∀b o,H b=some o->b≠nd->b≠kn->b≠ch->b≠im->b≠ex->H' b=some o
structure Bd(S:bq) (b:Nat):Prop where
 b1:S.N.length<=b
 b2:S.CH.length<=b
 b3:S.IM.length<=b
 b4:S.EX.length<=b
structure cz(S S':bq):Prop where
 gn:∃a,S'.N=S.N++a
 gt:∃a,S'.TS=S.TS++a
theorem cz.refl(S:bq):cz S S:=⟨⟨[],by simp⟩,⟨[],by simp⟩⟩
theorem cz.trans{S S1 S2:bq}(a:cz S S1)(b:cz S1 S2):cz S S2:=by
 obtain⟨⟨x,hx⟩,⟨y,hy⟩⟩:=a
 obtain⟨⟨x',qk⟩,⟨y',Oh⟩⟩:=b
 exact⟨⟨x++x',by rw[qk,hx,aeg]⟩,⟨y++y',by rw[Oh,hy,aeg]⟩⟩
theorem cz.le{S S':bq}(a:cz S S'):S.N.length<=S'.N.length:=by
 obtain⟨⟨x,hx⟩,_⟩:=a
 rw[hx,adm]
 omega
theorem cz.nd{S S':bq}(a:cz S S'){i:Nat}(h:i<S.N.length):S'.N.getD i (0,0,0)=S.N.getD i (0,0,0):=by
 obtain⟨⟨x,hx⟩,_⟩:=a
 rw[hx]
 exact pK h
theorem cz.az{S S':bq}(a:cz S S'){i:Nat}(h:i<S.N.length):Gen.az S'.N i=Gen.az S.N i:=by unfold Gen.az;rw[a.nd h]
theorem cz.au{S S':bq}(a:cz S S'){i:Nat}(h:i<S.TS.length):Gen.au S'.TS i=Gen.au S.TS i:=by
 obtain⟨_,⟨x,hx⟩⟩:=a
 unfold Gen.au
 rw[hx]
 exact pK h
theorem ub.grow{S S':bq}(a:cz S S')(hl:S.N.length=S.TS.length){e:List Key×V}(h:ub S.N S.TS e):ub S'.N S'.TS e:=by
 obtain⟨t,h',l,n,e1,e2,l1,l2,l3,l4,hv,hm⟩:=h
 have:=a.le
 refine⟨t,h',l,n,e1,e2,by omega,by omega,by omega,by omega,λv=>?_,?_⟩
 . rw[a.au (by omega),a.au (by omega),a.au (by omega),a.au (by omega)]
   exact hv v
 . rw[a.az l1,a.az l2,a.az l3,a.az l4]
   exact hm
section
variable {P:Program}{w:World}{K:W.Frag}{mg:Str->Option Value}{base:Heap}{C y dy nm sp nd kn ch im ex:Addr}{names:List Str}{S:bq}{H H':Hp}
theorem Kp.of(s:ak H H'):Kp H H' nd kn ch im ex:=λb o h _ _ _ _ _=>s b o h
theorem Kp.trans{H1:Hp}(a:Kp H H1 nd kn ch im ex)(b:Kp H1 H' nd kn ch im ex):Kp H H' nd kn ch im ex:=λc o h h1 h2 h3 h4 h5=>b c o (a c o h h1 h2 h3 h4 h5) h1 h2 h3 h4 h5
theorem FO.hU(h:FO P w C H y dy nm sp nd kn ch im ex names S)(k:Kp H H' nd kn ch im ex):∀a xs,H a=some (.tup xs)->H' a=some (.tup xs):=λa xs e=>
 k a _ e (aL e h.hd (by intro z;cases z)) (aL e h.hk (by intro z;cases z)) (aL e h.hc (by intro z;cases z)) (aL e h.hi (by intro z;cases z)) (aL e h.he (by intro z;cases z))
theorem FO.same(h:FO P w C H y dy nm sp nd kn ch im ex names S)(s:ak H H'):FO P w C H' y dy nm sp nd kn ch im ex names S:=
 ⟨s _ _ h.hy,s _ _ h.hn,s _ _ h.hs,s _ _ h.hd,Paired.cM h.ht λ_ _ e=>s _ _ e,s _ _ h.hk,s _ _ h.hc,h.ck,s _ _ h.hi,λp hp=>⟨(h.ik p hp).1.keep λa xs e=>s _ _ e,(h.ik p hp).2⟩,s _ _ h.he,
  λkv bb=>let ⟨i,a,b,c⟩:=h.ek kv bb; ⟨i,a,b,c.keep λa xs e=>s _ _ e⟩,h.e0,h.fs,h.nn,h.ns,h.n8,h.d1,h.d2,h.d3⟩
theorem FO.node(h:FO P w C H y dy nm sp nd kn ch im ex names S){i:Nat}(hi:i<S.N.length):∃t,S.ts[i]?=some t/\H t=some (.tup (iH (S.N.getD i (0,0,0)))):=by
 obtain⟨t,h1,h2⟩:=cH h.ht (i:=i) (adj hi)
 refine⟨t,h1,?_⟩
 rw[h2,adA,adj hi]
 rfl
inductive CC(P:Program) (w:World) (C:Addr) (vs:List V) (H:Hp) (Q:VK):Prop
 | mk (y dy nm sp nd kn ch im ex:Addr) (names:List Str) (S:bq) (x s:Nat) (b:Bool) (h1:vs=[.ref y,.int (x:Int),.int (s:Int),.int (if b=true then 2 else 1)]) (h2:FO P w C H y dy nm sp nd kn ch im ex names S) (h3:x<S.N.length) (h4:Q (.int ((if az S.N x=s then (if b=true then cS S.N x else low S.N x) else x:Nat):Int)) H):CC P w C vs H Q
def vm(P:Program)(w:World)(C:Addr):Sp:=λvs H Q _=>CC P w C vs H Q
theorem G8:aQ ["self", "number", "spot", "side", "node"] ["self", "number", "spot", "side"] (ar sg):=⟨rfl,rfl,rfl,by decide+kernel,rfl,by decide+kernel,by decide+kernel⟩
theorem M7{f:Addr}{fd:FuncData}(F:b0 K "half" "Forest.half" sg f fd)(T:eY K mg C):ay P w K mg base aC 1 f fd ["self", "number", "spot", "side"] (vm P w C):=by
 refine F.ok G8 (λvs H Q E h=>?_) (λcdv A outer s H vs Q E hr h=>?_)
 . obtain⟨y,dy,nm,sp,nd,kn,ch,im,ex,names,S,x,s0,b,rfl,_⟩:=h
   rfl
 . obtain⟨y,dy,nm,sp,nd,kn,ch,im,ex,names,S,x,s0,b,rfl,hO,hx,kk⟩:=h
   refine⟨_,ai (aD (i:=4) G8.nd rfl (Or.inl rfl) (aK (r:=eS K) a0 (aM (pv 0) rfl) (pv 1) (λ_ _=>rfl)))
    (av (aN (oZ (cF jr (aK (r:=cN K) bx (pv 4) ao (λ_ _=>rfl)) (pv 2) (cU _)) (aK (r:=cN K) bx (pv 4) (pv 3) (λ_ _=>rfl)) (pv 1)))),?_⟩
   obtain⟨t,h1,h2⟩:=hO.node hx
   refine⟨_,rfl,y,C,dy,_,_,rfl,hO.hy,T.cl,T.n3,n9 ..,_,rfl,nd,_,_,.ref t,rfl,rfl,aw.of hO.hd,aG (by rw[ado,h1];rfl),?_⟩
   refine⟨_,rfl,t,_,0,_,rfl,rfl,aS.of h2,aG (j:=0) rfl,_,rfl,rfl,_,rfl,?_⟩
   by_cases e:az S.N x=s0
   . rw[adM e]at kk
     refine df (ad3 (by rw[← e];rfl)) ?_
     refine⟨_,rfl,_,rfl,t,_,_,_,rfl,rfl,aS.of h2,?_,kk⟩
     cases b
     . exact aG (j:=1) rfl
     . exact aG (j:=2) rfl
   . rw[adw e]at kk
     refine de (adS λz=>e ?_) ⟨_,rfl,kk⟩
     have:=V.int.inj z
     have q:((az S.N x:Nat):Int)=(s0:Int):=this
     omega
inductive CD(P:Program) (w:World) (C:Addr) (vs:List V) (H:Hp) (Q:VK):Prop
 | mk (y dy nm sp nd kn ch im ex:Addr) (names:List Str) (S:bq) (s l u b:Nat) (h1:vs=[.ref y,.int (s:Int),.int (l:Int),.int (u:Int)]) (h2:FO P w C H y dy nm sp nd kn ch im ex names S) (h3:s<names.length) (h4:l<S.N.length) (h5:u<S.N.length) (h6:s<az S.N l) (h7:s<az S.N u) (h8:Bd S b) (h9:b<4000000) (OE:∀(n:Nat) (S':bq) (H':Hp),FO P w C H' y dy nm sp nd kn ch im ex names S'->Kp H H' nd kn ch im ex->cz S S'->Bd S' (b+1)->S'.CH=S.CH->S'.IM=S.IM->S'.EX=S.EX->n<S'.N.length->s<=az S'.N n->au S'.TS n=(if l=u then au S.TS l else .node (names.getD s "") (au S.TS l) (au S.TS u))->Q (.int (n:Int)) H'):CD P w C vs H Q
def jC(P:Program)(w:World)(C:Addr):Sp:=λvs H Q _=>CD P w C vs H Q
abbrev nNo:List Str:=["self", "spot", "low", "high", "key", "number"]
abbrev jO:List Str:=["self", "spot", "low", "high"]
theorem D8:aQ nNo jO (ar sf):=⟨rfl,rfl,rfl,by decide+kernel,rfl,by decide+kernel,by decide+kernel⟩
theorem big{n:Nat}(h:n<=8000000):n<sizeLine:=aeL h (by decide)
theorem Jd{α:Type}{l:List α}{j:Nat}{x d:α}(h:(l.drop 2)[j]?=some x):2+j<l.length/\l.getD (2+j) d=x:=by
 rw[afL]at h
 have:=(adt.mp h).1
 exact⟨this,by rw[adA,h];rfl⟩
theorem M8{f:Addr}{fd:FuncData}(F:b0 K "node" "Forest.node" sf f fd)(T:eY K mg C)(O2:gf mg):ay P w K mg base aC 1 f fd jO (jC P w C):=by
 refine F.ok D8 (λvs H Q E h=>?_) (λcdv A outer s H vs Q E hr h=>?_)
 . obtain⟨y,dy,nm,sp,nd,kn,ch,im,ex,names,S,s0,l,u,b,rfl,_⟩:=h
   rfl
 . obtain⟨y,dy,nm,sp,nd,kn,ch,im,ex,names,S,s0,l,u,b,rfl,hO,hs,hl,GW,s1,s2,hB,hb,kk⟩:=h
   have hu:=d6 hr
   refine⟨_,ai (cw (cF jr (pv 2) (pv 3) (cU _)) (av (aN (pv 2))) bf)
    (ai (aD (i:=4) D8.nd rfl (Or.inl rfl) (eE (aa (pv 1) (aa (pv 2) (aa (pv 3) ag)))))
    (ai (aD (i:=5) D8.nd rfl (Or.inl rfl) (tK hu (aM (pv 0) rfl) (pv 4) ⟨rfl,rfl,rfl,rfl⟩))
    (ai (cw (eD (uo (pv 5)))
     (ai (aD (i:=5) D8.nd rfl (Or.inl rfl) (bz cc (by rfl) O2.len aem (aa (aM (pv 0) rfl) ag)))
     (ai (eu (eV adZ ad7 ad8 d7 (aM (pv 0) rfl) (aa (pv 4) ag)))
     (av (dQ hu (aM (pv 0) rfl) (pv 4) (pv 5) rfl)))) bf)
    (av (aN (pv 5)))))),?_⟩
   refine⟨_,rfl,_,rfl,rfl,_,rfl,?_⟩
   by_cases e:l=u
   . refine df (ad3 (by rw[e])) ⟨_,rfl,kk l S H hO (λ_ _ h _ _ _ _ _=>h) (.refl S) ⟨ad0 hB.b1,ad0 hB.b2,ad0 hB.b3,ad0 hB.b4⟩ rfl rfl rfl hl (ae5 s1) (by rw[adM e])⟩
   . refine de (adS λz=>e (by have:=V.int.inj z;omega)) ?_
     refine⟨_,rfl,_,rfl,_,rfl,(by show 3<=sizeLine;decide),λt ht=>?_⟩
     have q1:(upd H t (.tup (iH (s0,l,u)))) t=some (.tup (iH (s0,l,u))):=af
     have qU:ak H (upd H t (.tup (iH (s0,l,u)))):=ak.ax ht
     show eF _ _ _ _ (upd H t (.tup (iH (s0,l,u))))
     generalize upd H t (.tup (iH (s0,l,u)))=H1 at q1 qU ⊢
     have aW:=hO.same qU
     have hlen:=aW.fs.len
     have jt:H1 t=some (.tup ((jB (s0,l,u)).map kV)):=q1
     refine⟨_,rfl,y,C,dy,_,_,rfl,aW.hy,T.cl,T.n4,PB ..,kn,rfl,.inr ⟨_,.inl aW.hk⟩,_,rfl,_,br.t (k:=jB (s0,l,u)) aW.hk jt,?_⟩
     cases hv:aI (iy 2 (S.N.drop 2)) (jB (s0,l,u)) with
     | some v=>
      obtain⟨j,hj,rfl⟩:=Ae _ _ _ _ hv
      obtain⟨j1,j2⟩:=Jd (d:=(0,0,0)) hj
      refine⟨_,rfl,_,rfl,de rfl ⟨_,rfl,kk (2+j) S H1 aW (.of qU) (.refl S) ⟨ad0 hB.b1,ad0 hB.b2,ad0 hB.b3,ad0 hB.b4⟩ rfl rfl rfl j1 ?_ ?_⟩⟩
      . unfold az
        rw[j2]
        exact adn _
      . obtain⟨_,_,_,_,_,_,a7⟩:=aW.fs.nd (2+j) (by omega) j1
        rw[a7,adw e]
        unfold az low cS
        rw[j2]
     | none=>
      have vh:=Ad _ _ _ hv
      have Xs:=aW.ht.length
      refine⟨_,rfl,_,rfl,df rfl ?_⟩
      refine⟨_,rfl,y,C,dy,_,_,rfl,aW.hy,T.cl,T.n3,n9 ..,nd,_,rfl,.inl (aw.of aW.hd),?_⟩
      rw[abc,Xs]
      refine⟨_,rfl,y,C,dy,_,_,rfl,aW.hy,T.cl,T.n3,n9 ..,.inl ⟨rfl,_,aw.of aW.hd⟩,_,rfl,nd,_,_,rfl,rfl,aW.hd,(by rw[abc,Xs];exact big (by have:=hB.b1;omega)),?_⟩
      have q2:(upd H1 nd (.lst (S.ts.map V.ref++[.ref t]))) nd=some (.lst ((S.ts++[t]).map V.ref)):=by rw[af,adp];rfl
      have k2:∀b o,H1 b=some o->b≠nd->(upd H1 nd (.lst (S.ts.map V.ref++[.ref t]))) b=some o:=λb o h n=>by rw[ah n];exact h
      generalize upd H1 nd (.lst (S.ts.map V.ref++[.ref t]))=H2 at q2 k2 ⊢
      have nl:∀{b:Addr}{o:HO},H1 b=some o->(∀xs,o≠.lst xs)->b≠nd:=λhb ho z=>by
       rw[z,aW.hd]at hb
       exact ho _ (adN hb).symm
      have y2:=k2 _ _ aW.hy (nl aW.hy (λ_ z=>by cases z))
      have kn2:=k2 _ _ aW.hk (nl aW.hk (λ_ z=>by cases z))
      have t2:=k2 _ _ jt (nl jt (λ_ z=>by cases z))
      refine⟨_,rfl,_,rfl,y,C,dy,_,_,rfl,y2,T.cl,T.n4,PB ..,_,rfl,kn,_,rfl,eP.t (k:=jB (s0,l,u)) kn2 t2 (by rw[Cz];exact big (by have:=hB.b1;rw[aeM];omega)),?_⟩
      have ZX:putK (iy 2 (S.N.drop 2)) (jB (s0,l,u)) (.int (S.N.length:Int))=iy 2 ((S.N++[(s0,l,u)]).drop 2):=by
       have h2:=aW.fs.two
       rw[gw _ hv,List.drop_append_of_le_length h2,CA,aeM,show 2+(S.N.length-2)=S.N.length by omega]
       rfl
      rw[ZX]
      have q3:(upd H2 kn (.dT (iy 2 ((S.N++[(s0,l,u)]).drop 2)))) kn=some (.dT (iy 2 ((S.N++[(s0,l,u)]).drop 2))):=af
      have k3:∀b o,H1 b=some o->b≠nd->b≠kn->(upd H2 kn (.dT (iy 2 ((S.N++[(s0,l,u)]).drop 2)))) b=some o:=λb o h n1 n2=>by rw[ah n2];exact k2 b o h n1
      have Xt:(upd H2 kn (.dT (iy 2 ((S.N++[(s0,l,u)]).drop 2)))) nd=some (.lst ((S.ts++[t]).map V.ref)):=by rw[ah (adG (nl aW.hk (λ_ z=>by cases z)))];exact q2
      generalize upd H2 kn (.dT (iy 2 ((S.N++[(s0,l,u)]).drop 2)))=H3 at q3 k3 Xt ⊢
      have kt:∀{b:Addr}{o:HO},H1 b=some o->(∀xs,o≠.lst xs)->(∀xs,o≠.dT xs)->H3 b=some o:=λhb ho hd=>k3 _ _ hb (nl hb ho) λz=>by
       rw[z,aW.hk]at hb
       exact hd _ (adN hb).symm
      have G:cz S {S with N:=S.N++[(s0,l,u)],TS:=S.TS++[.node (names.getD s0 "") (au S.TS l) (au S.TS u)],ts:=S.ts++[t] }:=⟨⟨_,rfl⟩,⟨_,rfl⟩⟩
      have fs':=aW.fs.push hs hl GW e s1 s2 λi i2 hi z=>vh (by
       rw[List.mem_iff_getElem?]
       refine⟨i-2,?_⟩
       rw[afL,show 2+(i-2)=i by omega,adj hi]
       rw[adA,adj hi]at z
       exact congrArg some z)
      have D9:∀a xs,H1 a=some (.tup xs)->H3 a=some (.tup xs):=λa xs h=>kt h (λ_ z=>by cases z) (λ_ z=>by cases z)
      refine⟨_,rfl,kk S.N.length {S with N:=S.N++[(s0,l,u)],TS:=S.TS++[.node (names.getD s0 "") (au S.TS l) (au S.TS u)],ts:=S.ts++[t] } H3 ⟨kt aW.hy (λ_ z=>by cases z) (λ_ z=>by cases z),k3 _ _ aW.hn (adG aW.d1) (aL aW.hn aW.hk (by intro z;cases z)),kt aW.hs (λ_ z=>by cases z) (λ_ z=>by cases z),Xt,dc (Paired.cM aW.ht λ_ _ h=>D9 _ _ h) (.cons (D9 _ _ q1) .nil),q3,k3 _ _ aW.hc (nl aW.hc (λ_ z=>by cases z)) (adG aW.d2),λe' h=>ub.grow G hlen (aW.ck e' h),kt aW.hi (λ_ z=>by cases z) (λ_ z=>by cases z),λp hp=>?_,kt aW.he (λ_ z=>by cases z) (λ_ z=>by cases z),λkv bb=>?_,aW.e0,fs',aW.nn,aW.ns,aW.n8,aW.d1,aW.d2,aW.d3⟩ (λb o h n1 n2 _ _ _=>k3 _ _ (qU _ _ h) n1 n2) G ⟨by rw[adm];have:=hB.b1;show S.N.length+1<=b+1;omega,ad0 hB.b2,ad0 hB.b3,ad0 hB.b4⟩ rfl rfl rfl (by rw[adm];exact af7 _) ?_ ?_⟩
      . obtain⟨h1,i,i1,i2,i3⟩:=aW.ik p hp
        exact⟨h1.keep D9,i,by rw[adm];show i<S.N.length+1;omega,i2,by rw[← i3];exact G.au (by omega)⟩
      . obtain⟨i,i1,i2,i3⟩:=aW.ek kv bb
        have e9:au (S.TS++[.node (names.getD s0 "") (au S.TS l) (au S.TS u)]) i=au S.TS i:=G.au (by omega)
        exact⟨i,i1,by rw[adm];show i<S.N.length+1;omega,by rw[e9];exact i3.keep D9⟩
      . show s0<=az (S.N++[(s0,l,u)]) S.N.length
        unfold az
        rw[pM]
        exact adn _
      . rw[adw e,hlen]
        exact pM
end
end Gen
namespace L2
open PySem PySem.Spec PyProof.Rows
section
variable {X:Cx}{a:Expr}{ta:TE}
def ZY(c:Bool)(ta:TE):TE:=λσ H Q=>ta σ H λx H1=>(∃b,x=.bl b/\Q (.bl (b == c)) H1)\/∃p,x=.ref p/\Q (.bl false) H1
theorem G9{c:Bool}{j pos'} (ha:PE X a ta):PC X .Is a (.Constant (.bool c) j pos') (ZY c ta):=by
 intro pins s σ H Q I h
 refine aP (ha pins s σ H _ I h) λv s1 ⟨x,H1,I1,r1,q1⟩=>Constant_bool ?_
 rcases q1 with⟨b,rfl,q⟩|⟨p,rfl,q⟩
 . obtain rfl:v=Value.bool b:=r1
   exact adv ⟨.bl _,H1,I1,by cases b <;> cases c <;> rfl,q⟩
 . obtain rfl:v=Value.ref p:=r1
   exact adv ⟨.bl _,H1,I1,rfl,q⟩
theorem Hd(hc:X.calm=true):fJ X (.builtin "min") (λxs H Q=>∃i j k,xs=[.int i,.int j,.int k]/\Q (.int (min i (min j k))) H):=by
 intro pins s σ H xs us Q I r h
 obtain⟨i,j,k,rfl,q⟩:=h
 cases r with
 | cons r1 r=>
  cases r with
  | cons r2 r=>
   cases r with
   | cons r3 r=>
    cases r
    obtain⟨t1,rfl⟩:=r1
    obtain⟨t2,rfl⟩:=r2
    obtain⟨t3,rfl⟩:=r3
    refine min_three_ints (I.ok.hd hc) λh' tk kp=>⟨_,H,I.kept kp,?_,q⟩
    by_cases h1:j<i
    . rw[adM h1]
      by_cases h2:k<j
      . rw[adM h2,show min i (min j k)=k by omega];exact⟨_,rfl⟩
      . rw[adw h2,show min i (min j k)=j by omega];exact⟨_,rfl⟩
    . rw[adw h1]
      by_cases h2:k<i
      . rw[adM h2,show min i (min j k)=k by omega];exact⟨_,rfl⟩
      . rw[adw h2,show min i (min j k)=i by omega];exact⟨_,rfl⟩
end
end L2
namespace Gen
open PySem L2
abbrev m7:Stmt:=inClass (top 7) 3
abbrev j4:Stmt:=inClass (top 7) 4
def gr:Tr->Nat
 | .leaf _=>0
 | .node _ l r=>gr l+gr r+2
theorem gu{κ:Type}[DecidableEq κ] {k:κ}{v:V} : ∀{kvs:List (κ×V)},aI kvs k=some v->(k,v)∈kvs
 | [],h=>nomatch h
 | (k',v')::r,h=>by
  by_cases e:k'=k
  . subst e
    rw[cD rfl]at h
    cases h
    exact adB
  . rw[cy e]at h
    exact adx _ (gu h)
theorem rj{κ:Type}[DecidableEq κ] {k:κ} : ∀{kvs:List (κ×V)},(∀kv∈kvs,kv.1≠k)->aI kvs k=none
 | [],_=>rfl
 | (k',v')::r,h=>by
  rw[cy (h _ adB)]
  exact rj λkv hk=>h kv (adx _ hk)
theorem j5{κ:Type}[DecidableEq κ] {k:κ} : ∀{kvs:List (κ×V)},aI kvs k=none->∀kv∈kvs,kv.1≠k
 | [],_,_,h=>nomatch h
 | (k',v')::r,h,kv,hk=>by
  by_cases e:k'=k
  . subst e
    rw[cD rfl]at h
    cases h
  . rw[cy e]at h
    rcases adq.mp hk with rfl|hk
    . exact e
    . exact j5 h kv hk
theorem pN{κ:Type}[DecidableEq κ] {kvs:List (κ×V)}{k:κ}{v:V}{e:κ×V}(h:e∈putK kvs k v):e∈kvs\/e=(k,v):=by
 unfold putK at h
 split at h
 . obtain⟨p,hp,rfl⟩:=ads.mp h
   by_cases q:p.1=k
   . rw[adM q]
     exact .inr (by rw[q])
   . rw[adw q]
     exact .inl hp
 . rcases adu.mp h with h|h
   . exact .inl h
   . exact .inr (adJ.mp h)
theorem Ea{L:List (Tr×Addr×V)}{t:Tr}{v:V}(h:iY L t=some v):∃b,(t,b,v)∈L:=by
 unfold iY at h
 cases e:L.find? λp=>decide (p.1=t) with
 | none=>rw[e]at h;cases h
 | some p=>
  rw[e]at h
  have h1:=List.find?_some e
  have h2:=ae1 e
  obtain⟨a,b,c⟩:=p
  have:a=t:=aef h1
  subst this
  cases(show c=v from adN h)
  exact⟨b,h2⟩
theorem Eb{L:List (Tr×Addr×V)}{t:Tr}(h:∀p∈L,p.1≠t):iY L t=none:=by
 unfold iY
 rw[afM.mpr λp hp=>by rw[ad4];exact h p hp]
 rfl
theorem Je{L:List (Tr×Addr×V)}{t:Tr}(h:iY L t=none):∀p∈L,p.1≠t:=λp hp e=>by
 unfold iY at h
 rw[Option.map_eq_none_iff,afM]at h
 exact h p hp (by rw[ad4];exact e)
theorem CI{ns:List Str}{n:Str}{l r:Tr}(h:cV ns (.node n l r)):∃j,ns[j]?=some n/\l≠r/\cV (ns.drop (j+1)) l/\cV (ns.drop (j+1)) r:=by
 generalize et:Tr.node n l r=t at h
 induction h with
 | leaf=>cases et
 | node ne a b=>
  cases et
  exact⟨0,rfl,ne,a,b⟩
 | skip _ ih=>
  obtain⟨j,a,b,c,d⟩:=ih et
  exact⟨j+1,by simpa using a,b,by simpa using c,by simpa using d⟩
theorem FS.PJ{names:List Str}{N:List Nd}{TS:List Tr}(h:FS names N TS)(hn:names.Nodup){i k:Nat}(hi:i<N.length)(hk:k<=names.length) (hc:cV (names.drop k) (au TS i)):k<=az N i:=by
 by_cases i2:i<2
 . unfold az
   rcases (show i=0\/i=1 by omega) with rfl|rfl
   . rw[h.z0]
     exact hk
   . rw[h.z1]
     exact hk
 . obtain⟨a1,_,_,_,_,_,a7⟩:=h.nd i (by omega) hi
   rw[a7]at hc
   obtain⟨j,h1,_⟩:=CI hc
   rw[afL]at h1
   have hj:=(adt.mp h1).1
   rw[adA,adj a1,adj hj]at h1
   have:=(agV hn).mp (adN h1)
   omega
section
variable {P:Program}{w:World}{K:W.Frag}{mg:Str->Option Value}{base:Heap}{C y dy nm sp nd kn ch im ex:Addr}{names:List Str}{S:bq}{H H':Hp}
theorem Bd.up{S:bq}{b c:Nat}(h:Bd S b)(hc:b<=c):Bd S c:=⟨ady h.b1 hc,ady h.b2 hc,ady h.b3 hc,ady h.b4 hc⟩
theorem Bd.pim{S:bq}{b:Nat}(h:Bd S b)(e:Tr×Addr×V):Bd {S with IM:=S.IM++[e] } (b+1):=⟨ad0 h.b1,ad0 h.b2,by rw[adm];exact aeP h.b3,ad0 h.b4⟩
theorem Bd.pex{S:bq}{b:Nat}(h:Bd S b)(e:Key×V):Bd {S with EX:=S.EX++[e] } (b+1):=⟨ad0 h.b1,ad0 h.b2,ad0 h.b3,by rw[adm];exact aeP h.b4⟩
theorem Bd.pch{S:bq}{b:Nat}(h:Bd S b)(k:List Key)(v:V):Bd {S with CH:=putK S.CH k v} (b+1):=⟨ad0 h.b1,ady (d5 _ _ _) (aeP h.b2),ad0 h.b3,ad0 h.b4⟩
theorem Ec{a:Addr}{o:HO}(h:a=nd\/a=kn\/a=ch\/a=im\/a=ex):Kp H (upd H a o) nd kn ch im ex:=λb ob hb h1 h2 h3 h4 h5=>by
 rw[ah (by rcases h with rfl|rfl|rfl|rfl|rfl <;> assumption)]
 exact hb
theorem FO.Ti(h:FO P w C H y dy nm sp nd kn ch im ex names S){t:Tr}{b:Addr}{i:Nat}(hk:jZ H t b)(hi:i<S.N.length)(ht:au S.TS i=t) :
 FO P w C (upd H im (lK P w im (S.IM++[(t,b,.int (i:Int))]))) y dy nm sp nd kn ch im ex names {S with IM:=S.IM++[(t,b,.int (i:Int))] }:=by
 have k:∀{a:Addr}{o:HO},H a=some o->o≠lK P w im S.IM->(upd H im (lK P w im (S.IM++[(t,b,.int (i:Int))]))) a=some o:=λha ho=>by
  rw[ah (aL ha h.hi ho)]
  exact ha
 have kt:∀a xs,H a=some (.tup xs)->(upd H im (lK P w im (S.IM++[(t,b,.int (i:Int))]))) a=some (.tup xs):=λa xs ha=>k ha (by intro z;cases z)
 refine⟨k h.hy (by intro z;cases z),k h.hn (by intro z;cases z),k h.hs (by intro z;cases z),k h.hd (by intro z;cases z),Paired.cM h.ht λ_ _ e=>kt _ _ e,k h.hk (by intro z;cases z),k h.hc (by intro z;cases z),h.ck,af,λp hp=>?_,k h.he (by intro z;cases z),
  λkv bb=>let ⟨i,a,b,c⟩:=h.ek kv bb; ⟨i,a,b,c.keep kt⟩,h.e0,h.fs,h.nn,h.ns,h.n8,h.d1,h.d2,h.d3⟩
 rcases adu.mp hp with hp|hp
 . exact⟨(h.ik p hp).1.keep kt,(h.ik p hp).2⟩
 . rw[adJ]at hp
   subst hp
   exact⟨hk.keep kt,i,hi,rfl,ht⟩
theorem FO.Tj(h:FO P w C H y dy nm sp nd kn ch im ex names S){v:V}{i:Nat}(hv:eL H (au S.TS i) v) (hi:i<S.N.length) (hn:aI S.EX (.inl (i:Int))=none) :
 FO P w C (upd H ex (.dK (S.EX++[(.inl (i:Int),v)]))) y dy nm sp nd kn ch im ex names {S with EX:=S.EX++[(.inl (i:Int),v)] }:=by
 have k:∀{a:Addr}{o:HO},H a=some o->(∀q,o≠.dK q)->(upd H ex (.dK (S.EX++[(.inl (i:Int),v)]))) a=some o:=λha ho=>by
  rw[ah (aL ha h.he (ho _))]
  exact ha
 have kt:∀a xs,H a=some (.tup xs)->(upd H ex (.dK (S.EX++[(.inl (i:Int),v)]))) a=some (.tup xs):=λa xs ha=>k ha (by intro _ z;cases z)
 refine⟨k h.hy (by intro _ z;cases z),k h.hn (by intro _ z;cases z),by rw[ah h.d3];exact h.hs,k h.hd (by intro _ z;cases z),Paired.cM h.ht λ_ _ e=>kt _ _ e,k h.hk (by intro _ z;cases z),k h.hc (by intro _ z;cases z),h.ck,k h.hi (by intro _ z;cases z),λp hp=>⟨(h.ik p hp).1.keep kt,(h.ik p hp).2⟩,af,
  λkv bb=>?_,?_,h.fs,h.nn,h.ns,h.n8,h.d1,h.d2,h.d3⟩
 . rcases adu.mp bb with bb|bb
   . obtain⟨i,a,b,c⟩:=h.ek kv bb
     exact⟨i,a,b,c.keep kt⟩
   . rw[adJ]at bb
     subst bb
     exact⟨i,rfl,hi,hv.keep kt⟩
 . have old:∀(c:Int) (u:V),aI S.EX (.inl c)=some u->aI (S.EX++[(.inl (i:Int),v)]) (.inl c)=some u:=λc u hc=>by
    rw[kG _ _ _ _ hn,adw (λz=>by rw[z,hn]at hc;cases hc)]
    exact hc
   exact⟨old 0 _ h.e0.1,old 1 _ h.e0.2⟩
theorem FO.Tn(h:FO P w C H y dy nm sp nd kn ch im ex names S){k':List Key}{u:V}(hc:ub S.N S.TS (k',u)) :
 FO P w C (upd H ch (.dT (putK S.CH k' u))) y dy nm sp nd kn ch im ex names {S with CH:=putK S.CH k' u}:=by
 have k:∀{a:Addr}{o:HO},H a=some o->(∀q,o≠.dT q)->(upd H ch (.dT (putK S.CH k' u))) a=some o:=λha ho=>by
  rw[ah (aL ha h.hc (ho _))]
  exact ha
 have kt:∀a xs,H a=some (.tup xs)->(upd H ch (.dT (putK S.CH k' u))) a=some (.tup xs):=λa xs ha=>k ha (by intro _ z;cases z)
 refine⟨k h.hy (by intro _ z;cases z),k h.hn (by intro _ z;cases z),k h.hs (by intro _ z;cases z),k h.hd (by intro _ z;cases z),Paired.cM h.ht λ_ _ e=>kt _ _ e,by rw[ah h.d2];exact h.hk,af,λe' he=>?_,k h.hi (by intro _ z;cases z),λp hp=>⟨(h.ik p hp).1.keep kt,(h.ik p hp).2⟩,k h.he (by intro _ z;cases z),
  λkv bb=>let ⟨i,a,b,c⟩:=h.ek kv bb; ⟨i,a,b,c.keep kt⟩,h.e0,h.fs,h.nn,h.ns,h.n8,h.d1,h.d2,h.d3⟩
 rcases pN he with he|he
 . exact h.ck e' he
 . subst he
   exact hc
inductive Af(P:Program) (w:World) (C:Addr) (d:Nat) (vs:List V) (H:Hp) (Q:VK):Prop
 | mk (y dy nm sp nd kn ch im ex:Addr) (names:List Str) (S:bq) (t:Tr) (v:V) (b:Nat) (h1:vs=[.ref y,v]) (h2:FO P w C H y dy nm sp nd kn ch im ex names S) (h3:eL H t v) (h4:cV names t) (h5:t.dep<d) (h6:Bd S b) (h7:b+gr t<4000000) (h8:∀(n:Nat) (S':bq) (H':Hp),FO P w C H' y dy nm sp nd kn ch im ex names S'->Kp H H' nd kn ch im ex->cz S S'->Bd S' (b+gr t)->S'.CH=S.CH->S'.EX=S.EX->(∀p∈S'.IM,p∈S.IM\/p.1.dep<=t.dep)->n<S'.N.length->au S'.TS n=t->Q (.int (n:Int)) H'):Af P w C d vs H Q
def sj(P:Program)(w:World)(C:Addr)(d:Nat):Sp:=λvs H Q _=>Af P w C d vs H Q
abbrev nTk:List Str:=["self", "tree", "number"]
theorem Jf:aQ nTk ["self", "tree"] (ar m7):=⟨rfl,rfl,rfl,by decide+kernel,rfl,by decide+kernel,by decide+kernel⟩
theorem ZZ{A:Around}{k:Nat}(hr:aZ k A):A.units+17<cLine:=by have:=hr.un;omega
theorem gg:Kp H H nd kn ch im ex:=λ_ _ h _ _ _ _ _=>h
theorem Jg{f fN:Addr}{fd dN:FuncData}{d k:Nat}(F:b0 K "taken" "Forest.taken" m7 f fd)(T:eY K mg C) (G:ay P w K mg base aC (k+1) f fd ["self", "tree"] (sj P w C d)) (mT:Meth K C "taken" f) (bT:Binds K fd ["self", "tree"] [])
 (gN:ay P w K mg base aC 1 fN dN jO (jC P w C)) (mN:Meth K C "node" fN) (bN:Binds K dN jO []):ay P w K mg base aC (k+1+1) f fd ["self", "tree"] (sj P w C (d+1)):=by
 refine F.ok Jf (λvs H Q E h=>?_) (λcdv A outer s H vs Q E hr h=>?_)
 . obtain⟨y,dy,nm,sp,nd,kn,ch,im,ex,names,S,t,v,b,rfl,_⟩:=h
   rfl
 . obtain⟨y,dy,nm,sp,nd,kn,ch,im,ex,names,S,t,v,b,rfl,hO,hv,hc,hd,hB,hb,kk⟩:=h
   have hu:=d6 hr
   have Xu:=ZZ hr
   have cC:=hr.mono (aeP (adW k))
   refine⟨_,ai (cw (eD (G9 (pv 1))) (av (aN ao)) bf)
    (ai (cw (eD (G9 (pv 1))) (av (aN ao)) bf)
    (ai (aD (i:=2) Jf.nd rfl (Or.inl rfl) (M4 Xu (aM (pv 0) rfl) (pv 1) ⟨rfl,rfl,rfl,rfl⟩))
    (ai (cw (eD (uo (pv 2)))
     (ai (aD (i:=2) Jf.nd rfl (Or.inl rfl) (aV (pv 0) T.cl mN gN cC bN .nil aA (aa (cG hu (aM (pv 0) rfl) (aK (r:=cN K) bx (pv 1) ao (λ_ _=>rfl)) (λ_ _=>rfl))
      (aa (aV (pv 0) T.cl mT G hr bT .nil aA (aa (aK (r:=cN K) bx (pv 1) ao (λ_ _=>rfl)) ag))
      (aa (aV (pv 0) T.cl mT G hr bT .nil aA (aa (aK (r:=cN K) bx (pv 1) ao (λ_ _=>rfl)) ag)) ag)))))
     (av (M5 Xu (aM (pv 0) rfl) (pv 1) (pv 2) rfl))) bf)
    (av (aN (pv 2)))))),?_⟩
   cases t with
   | leaf c=>
    cases(show v=.bl c from hv)
    have two:=hO.fs.two
    cases c
    . refine⟨_,rfl,.inl ⟨_,rfl,_,rfl,de rfl ?_⟩⟩
      refine⟨_,rfl,.inl ⟨_,rfl,_,rfl,df rfl ?_⟩⟩
      exact kk 0 S H hO gg (.refl S) (hB.up (adV ..)) rfl rfl (λp hp=>.inl hp) (by omega) hO.fs.t0
    . refine⟨_,rfl,.inl ⟨_,rfl,_,rfl,df rfl ?_⟩⟩
      exact kk 1 S H hO gg (.refl S) (hB.up (adV ..)) rfl rfl (λp hp=>.inl hp) (by omega) hO.fs.t1
   | node n l r=>
    obtain⟨a,vl,vr,rfl,ha,hl,hR⟩:=hv
    have jt:jZ H (.node n l r) a:=⟨⟨a,vl,vr,rfl,ha,hl,hR⟩,ady (ji hc) hO.n8,M6 hc hO.ns⟩
    refine⟨_,rfl,.inr ⟨_,rfl,_,rfl,de rfl ?_⟩⟩
    refine⟨_,rfl,.inr ⟨_,rfl,_,rfl,de rfl ?_⟩⟩
    refine⟨_,rfl,y,C,dy,_,_,rfl,hO.hy,T.cl,T.n6,PF ..,im,_,rfl,hO.hi,_,rfl,_,a,rfl,hO.hi,jt,λp hp=>(hO.ik p hp).1,?_⟩
    cases Xv:iY S.IM (.node n l r) with
    | some u=>
     obtain⟨b',hm⟩:=Ea Xv
     obtain⟨_,i,hi,e1,e2⟩:=hO.ik _ hm
     cases(show u=.int (i:Int) from e1)
     refine⟨_,rfl,_,rfl,de rfl ⟨_,rfl,?_⟩⟩
     exact kk i S H hO gg (.refl S) (hB.up (adV ..)) rfl rfl (λp hp=>.inl hp) hi e2
    | none=>
     obtain⟨j,hj,hne,cl,cr⟩:=CI hc
     have hjl:=(adt.mp hj).1
     have Cw:cV names l:=ft (i:=0) (ns:=names) cl (adW _)
     have cr':cV names r:=ft (i:=0) (ns:=names) cr (adW _)
     have hsz:gr (.node n l r)=gr l+gr r+2:=rfl
     have Ed:(Tr.node n l r).dep=max l.dep r.dep+1:=rfl
     refine⟨_,rfl,_,rfl,df rfl ?_⟩
     refine⟨_,rfl,y,dy,_,rfl,hO.hy,j3 _ _ _ _ _ _ _ (by decide+kernel) (by decide+kernel) (by decide+kernel) (by decide+kernel) (by decide+kernel) (by decide+kernel) (by decide+kernel),?_⟩
     refine⟨_,rfl,y,C,dy,_,_,rfl,hO.hy,T.cl,T.n2,Pz ..,_,rfl,a,_,0,_,rfl,rfl,aS.of ha,aG (j:=0) rfl,sp,.int ((0+j:Nat):Int),rfl,?_,?_⟩
     . have:=br.k (k:=.inr n) hO.hs
       rw[Ac names 0 j n hO.nn hj]at this
       exact this
     refine⟨_,rfl,y,dy,_,rfl,hO.hy,j3 _ _ _ _ _ _ _ (by decide+kernel) (by decide+kernel) (by decide+kernel) (by decide+kernel) (by decide+kernel) (by decide+kernel) (by decide+kernel),?_⟩
     refine⟨_,rfl,a,_,1,_,rfl,rfl,aS.of ha,aG (j:=1) rfl,?_⟩
     refine⟨y,dy,nm,sp,nd,kn,ch,im,ex,names,S,l,vl,b,rfl,hO,hl,Cw,by omega,hB,by omega,λn1 S1 H1 aW k1 g1 B1 c1 x1 i1 l1 t1=>?_⟩
     have u0:=hO.hU k1 _ _ ha
     refine⟨_,rfl,y,dy,_,rfl,aW.hy,j3 _ _ _ _ _ _ _ (by decide+kernel) (by decide+kernel) (by decide+kernel) (by decide+kernel) (by decide+kernel) (by decide+kernel) (by decide+kernel),?_⟩
     refine⟨_,rfl,a,_,2,_,rfl,rfl,aS.of u0,aG (j:=2) rfl,?_⟩
     refine⟨y,dy,nm,sp,nd,kn,ch,im,ex,names,S1,r,vr,b+gr l,rfl,aW,hR.keep (hO.hU k1),cr',by omega,B1,by omega,λn2 S2 H2 cZ k2 g2 B2 c2 x2 i2 l2 t2=>?_⟩
     have xK:n1<S2.N.length:=adY l1 g2.le
     have xM:au S2.TS n1=l:=by rw[g2.au (by rw[← aW.fs.len];exact l1)];exact t1
     refine⟨y,dy,nm,sp,nd,kn,ch,im,ex,names,S2,j,n1,n2,b+gr l+gr r,by rw[ahf];rfl,cZ,hjl,xK,l2,cZ.fs.PJ cZ.nn xK hjl (by rw[xM];exact cl),cZ.fs.PJ cZ.nn l2 hjl (by rw[t2];exact cr),B2,by omega,λn3 S3 H3 fG k3 g3 B3 c3 m3 x3 l3 s3 t3=>?_⟩
     have qq:=(k1.trans k2).trans k3
     have Xw:au S3.TS n3=.node n l r:=by
      rw[t3,xM,t2,adw (λz=>hne (by rw[← xM,← t2,z])),adA,hj]
      rfl
     have KZ:jZ H3 (.node n l r) a:=jt.keep (hO.hU qq)
     have jA:iY S3.IM (.node n l r)=none:=Eb λp hp z=>by
      rw[m3]at hp
      rcases i2 p hp with hp|hp
      . rcases i1 p hp with hp|hp
        . exact Je Xv p hp z
        . rw[z]at hp
          omega
      . rw[z]at hp
        omega
     refine⟨_,rfl,_,rfl,y,C,dy,_,_,rfl,fG.hy,T.cl,T.n6,PF ..,_,rfl,im,S3.IM,_,a,rfl,rfl,fG.hi,KZ,λp hp=>(fG.ik p hp).1,jA,big (by have:=B3.b3;omega),?_⟩
     have Ag:=fG.Ti KZ l3 Xw
     refine⟨_,rfl,kk n3 _ _ Ag (qq.trans (Ec (.inr (.inr (.inr (.inl rfl)))))) ((g1.trans g2).trans ⟨g3.gn,g3.gt⟩) ((B3.pim _).up (by omega)) (c3.trans (c2.trans c1)) (x3.trans (x2.trans x1)) (λp hp=>?_) l3 Xw⟩
     rcases adu.mp hp with hp|hp
     . rw[m3]at hp
       rcases i2 p hp with hp|hp
       . rcases i1 p hp with hp|hp
         . exact .inl hp
         . exact .inr (by omega)
       . exact .inr (by omega)
     . rw[adJ]at hp
       subst hp
       exact .inr (adn _)
inductive xN(P:Program) (w:World) (C:Addr) (d:Nat) (vs:List V) (H:Hp) (Q:VK):Prop
 | mk (y dy nm sp nd kn ch im ex:Addr) (names:List Str) (S:bq) (n b:Nat) (h1:vs=[.ref y,.int (n:Int)]) (h2:FO P w C H y dy nm sp nd kn ch im ex names S) (h3:n<S.N.length) (h4:(au S.TS n).dep<d) (h5:Bd S b) (h6:b+gr (au S.TS n)<4000000) (h7:∀(v:V) (S':bq) (H':Hp),FO P w C H' y dy nm sp nd kn ch im ex names S'->Kp H H' nd kn ch im ex->S'.N=S.N->S'.TS=S.TS->Bd S' (b+gr (au S.TS n))->(∀kv∈S'.EX,kv∈S.EX\/∃i:Nat,kv.1=.inl (i:Int)/\(au S.TS i).dep<=(au S.TS n).dep)->eL H' (au S.TS n) v->Q v H'):xN P w C d vs H Q
def pO(P:Program)(w:World)(C:Addr)(d:Nat):Sp:=λvs H Q _=>xN P w C d vs H Q
abbrev nTa:List Str:=["self", "number", "tree", "node"]
theorem Ee:aQ nTa ["self", "number"] (ar j4):=⟨rfl,rfl,rfl,by decide+kernel,rfl,by decide+kernel,by decide+kernel⟩
theorem Ef{f:Addr}{fd:FuncData}{d k:Nat}(F:b0 K "tree_at" "Forest.tree_at" j4 f fd)(T:eY K mg C) (G:ay P w K mg base aC k f fd ["self", "number"] (pO P w C d)) (mT:Meth K C "tree_at" f) (bT:Binds K fd ["self", "number"] []) :
 ay P w K mg base aC (k+1) f fd ["self", "number"] (pO P w C (d+1)):=by
 refine F.ok Ee (λvs H Q E h=>?_) (λcdv A outer s H vs Q E hr h=>?_)
 . obtain⟨y,dy,nm,sp,nd,kn,ch,im,ex,names,S,n,b,rfl,_⟩:=h
   rfl
 . obtain⟨y,dy,nm,sp,nd,kn,ch,im,ex,names,S,n,b,rfl,hO,hn,hd,hB,hb,kk⟩:=h
   have hu:=d6 hr
   refine⟨_,ai (aD (i:=2) Ee.nd rfl (Or.inl rfl) (tK hu (aM (pv 0) rfl) (pv 1) ⟨rfl,rfl,rfl,rfl⟩))
    (ai (cw (eD (uo (pv 2)))
     (ai (aD (i:=3) Ee.nd rfl (Or.inl rfl) (aK (r:=eS K) a0 (aM (pv 0) rfl) (pv 1) (λ_ _=>rfl)))
     (ai (aD (i:=2) Ee.nd rfl (Or.inl rfl) (eE (aa (aK (r:=eS K) a0 (aM (pv 0) rfl) (aK (r:=cN K) bx (pv 3) ao (λ_ _=>rfl)) (λ_ _=>rfl))
      (aa (aV (pv 0) T.cl mT G hr bT .nil aA (aa (aK (r:=cN K) bx (pv 3) ao (λ_ _=>rfl)) ag))
      (aa (aV (pv 0) T.cl mT G hr bT .nil aA (aa (aK (r:=cN K) bx (pv 3) ao (λ_ _=>rfl)) ag)) ag)))))
     (av (dQ hu (aM (pv 0) rfl) (pv 1) (pv 2) rfl)))) bf)
    (av (aN (pv 2)))),?_⟩
   refine⟨_,rfl,y,C,dy,_,_,rfl,hO.hy,T.cl,T.n7,PH ..,ex,rfl,.inl ⟨_,.inl hO.he⟩,_,rfl,_,br.k (k:=.inl (n:Int)) hO.he,?_⟩
   cases hv:aI S.EX (.inl (n:Int)) with
   | some v=>
    obtain⟨i,e1,i1,i2⟩:=hO.ek _ (gu hv)
    have ei:i=n:=by have:=afQ e1;omega
    subst ei
    have WU:v≠.aY:=λz=>by
     have i3:eL H (au S.TS i) v:=i2
     rw[z]at i3
     cases ht:au S.TS i with
     | leaf c=>rw[ht]at i3;cases(show V.aY=.bl c from i3)
     | node a l r=>rw[ht]at i3;obtain⟨_,_,_,z,_⟩:=i3;cases z
    refine⟨_,rfl,_,rfl,de (adS WU) ⟨_,rfl,?_⟩⟩
    exact kk v S H hO gg rfl rfl (hB.up (adV ..)) (λkv h=>.inl h) i2
   | none=>
    have n2:2<=n:=ag0 λq=>by
     rcases (show n=0\/n=1 by omega) with rfl|rfl
     . rw[show ((0:Nat):Int)=0 from rfl,hO.e0.1]at hv
       cases hv
     . rw[show ((1:Nat):Int)=1 from rfl,hO.e0.2]at hv
       cases hv
    obtain⟨a1,a2,a3,a4,a5,a6,a7⟩:=hO.fs.nd n n2 hn
    have wk:low S.N n<S.N.length:=by omega
    have Ah:cS S.N n<S.N.length:=by omega
    have hsz:gr (au S.TS n)=gr (au S.TS (low S.N n))+gr (au S.TS (cS S.N n))+2:=by rw[a7];rfl
    have Ed:(au S.TS n).dep=max (au S.TS (low S.N n)).dep (au S.TS (cS S.N n)).dep+1:=by rw[a7];rfl
    obtain⟨t,h1,h2⟩:=hO.node hn
    refine⟨_,rfl,_,rfl,df rfl ?_⟩
    refine⟨_,rfl,y,C,dy,_,_,rfl,hO.hy,T.cl,T.n3,n9 ..,_,rfl,nd,_,_,.ref t,rfl,rfl,aw.of hO.hd,aG (by rw[ado,h1];rfl),?_⟩
    refine⟨_,rfl,y,C,dy,_,_,rfl,hO.hy,T.cl,T.n1,D7 ..,_,rfl,t,_,0,_,rfl,rfl,aS.of h2,aG (j:=0) rfl,nm,_,_,.str (names.getD (az S.N n) ""),rfl,rfl,aw.of hO.hn,aG (by rw[ado];exact(show names[az S.N n]?.map V.str=some (.str (names.getD (az S.N n) "")) by rw[adA,adj a1];rfl)),?_⟩
    refine⟨_,rfl,y,dy,_,rfl,hO.hy,j3 _ _ _ _ _ _ _ (by decide+kernel) (by decide+kernel) (by decide+kernel) (by decide+kernel) (by decide+kernel) (by decide+kernel) (by decide+kernel),?_⟩
    refine⟨_,rfl,t,_,1,_,rfl,rfl,aS.of h2,aG (j:=1) rfl,?_⟩
    refine⟨y,dy,nm,sp,nd,kn,ch,im,ex,names,S,low S.N n,b,rfl,hO,wk,by omega,hB,by omega,λv1 S1 H1 aW k1 g1 t1 B1 x1 r1=>?_⟩
    have h21:=hO.hU k1 _ _ h2
    refine⟨_,rfl,y,dy,_,rfl,aW.hy,j3 _ _ _ _ _ _ _ (by decide+kernel) (by decide+kernel) (by decide+kernel) (by decide+kernel) (by decide+kernel) (by decide+kernel) (by decide+kernel),?_⟩
    refine⟨_,rfl,t,_,2,_,rfl,rfl,aS.of h21,aG (j:=2) rfl,?_⟩
    refine⟨y,dy,nm,sp,nd,kn,ch,im,ex,names,S1,cS S.N n,b+gr (au S.TS (low S.N n)),rfl,aW,by rw[g1];exact Ah,by rw[t1];omega,B1,by rw[t1];omega,λv2 S2 H2 cZ k2 g2 t2 B2 x2 r2=>?_⟩
    rw[t1]at t2 B2 x2 r2
    refine⟨(by show 3<=sizeLine;decide),λq hq=>?_⟩
    have s3:ak H2 (upd H2 q (.tup [.str (names.getD (az S.N n) ""),v1,v2])):=ak.ax hq
    have q3:(upd H2 q (.tup [.str (names.getD (az S.N n) ""),v1,v2])) q=some (.tup [.str (names.getD (az S.N n) ""),v1,v2]):=af
    show eF _ _ _ _ (upd H2 q (.tup [.str (names.getD (az S.N n) ""),v1,v2]))
    generalize upd H2 q (.tup [.str (names.getD (az S.N n) ""),v1,v2])=H3 at s3 q3 ⊢
    have fG:=cZ.same s3
    have Xx:∀a xs,H2 a=some (.tup xs)->H3 a=some (.tup xs):=λa xs h=>s3 _ _ h
    have qq:=(k1.trans k2).trans (Kp.of s3)
    have hT:eL H3 (au S.TS n) (.ref q):=by
     rw[a7]
     exact⟨q,v1,v2,rfl,q3,(r1.keep (aW.hU k2)).keep Xx,r2.keep Xx⟩
    have jA:aI S2.EX (.inl (n:Int))=none:=rj λkv bb z=>by
     rcases x2 kv bb with bb|⟨i,e1,e2⟩
     . rcases x1 kv bb with bb|⟨i,e1,e2⟩
       . exact j5 hv kv bb z
       . rw[e1]at z
         have:i=n:=by have:=afQ z;omega
         rw[this]at e2
         omega
     . rw[e1]at z
       have:i=n:=by have:=afQ z;omega
       rw[this]at e2
       omega
    refine⟨_,rfl,_,rfl,y,C,dy,_,_,rfl,fG.hy,T.cl,T.n7,PH ..,_,rfl,ex,_,rfl,eP.k (k:=.inl (n:Int)) fG.he (big (by have:=B2.b4;omega)),?_⟩
    rw[gw _ jA]
    have Ag:=fG.Tj (i:=n) (v:=.ref q) (by rw[t2];exact hT) (by rw[g2,g1];exact hn) jA
    refine⟨_,rfl,kk (.ref q) _ _ Ag (qq.trans (Ec (.inr (.inr (.inr (.inr rfl)))))) (g2.trans g1) t2 ((B2.pex _).up (by omega)) (λkv bb=>?_) (hT.keep λa xs e=>by rw[ah (aL e fG.he (by intro z;cases z))];exact e)⟩
    rcases adu.mp bb with bb|bb
    . rcases x2 kv bb with bb|⟨i,e1,e2⟩
      . rcases x1 kv bb with bb|⟨i,e1,e2⟩
        . exact .inl bb
        . exact .inr ⟨i,e1,by omega⟩
      . exact .inr ⟨i,e1,by omega⟩
    . rw[adJ]at bb
      subst bb
      exact .inr ⟨n,rfl,adn _⟩
end
abbrev j6:Stmt:=inClass (top 7) 5
def cst:Nat->Nat
 | 0=>0
 | d+1=>2*cst d+2
def hf(N:List Nd)(s:Nat)(b:Bool)(n:Nat):Nat:=if az N n=s then (if b=true then cS N n else low N n) else n
section
variable {names:List Str}{N:List Nd}{TS:List Tr}
theorem FS.at2(h:FS names N TS){n:Nat}(hn:n<N.length)(hs:az N n<names.length):2<=n:=ag0 λq=>by
 unfold az at hs
 rcases (show n=0\/n=1 by omega) with rfl|rfl
 . rw[h.z0]at hs
   exact aey _ hs
 . rw[h.z1]at hs
   exact aey _ hs
theorem FS.Eg(h:FS names N TS){n s:Nat}{b:Bool}(hn:n<N.length)(hs:s<names.length):hf N s b n<N.length:=by
 unfold hf
 split
 . next e=>
   obtain⟨_,a2,a3,_⟩:=h.nd n (h.at2 hn (by omega)) hn
   split <;> omega
 . exact hn
theorem FS.Ai(h:FS names N TS){n s:Nat}{b:Bool}(hn:n<N.length)(hs:s<names.length)(hle:s<=az N n):s<az N (hf N s b n):=by
 unfold hf
 split
 . next e=>
   obtain⟨_,_,_,_,a5,a6,_⟩:=h.nd n (h.at2 hn (by omega)) hn
   split <;> omega
 . next e=>omega
theorem FS.Eh(h:FS names N TS){n s:Nat}(hn:n<N.length)(hs:s<names.length)(v:Str->Bool):ev v (au TS n)=if v (names.getD s "")=true then ev v (au TS (hf N s true n)) else ev v (au TS (hf N s false n)):=by
 unfold hf
 by_cases e:az N n=s
 . obtain⟨_,_,_,_,_,_,a7⟩:=h.nd n (h.at2 hn (by omega)) hn
   rw[adM e,adM e,a7,e]
   rfl
 . rw[adw e,adw e]
   split <;> rfl
end
inductive xO(P:Program) (w:World) (C:Addr) (d:Nat) (vs:List V) (H:Hp) (Q:VK):Prop
 | mk (y dy nm sp nd kn ch im ex:Addr) (names:List Str) (S:bq) (t h l b:Nat) (h1:vs=[.ref y,.int (t:Int),.int (h:Int),.int (l:Int)]) (h2:FO P w C H y dy nm sp nd kn ch im ex names S) (h3:t<S.N.length) (h4:h<S.N.length) (h5:l<S.N.length) (h6:names.length-min (az S.N t) (min (az S.N h) (az S.N l))<d) (h7:Bd S b) (h8:b+cst d<4000000) (h9:∀(n:Nat) (S':bq) (H':Hp),FO P w C H' y dy nm sp nd kn ch im ex names S'->Kp H H' nd kn ch im ex->cz S S'->Bd S' (b+cst d)->S'.IM=S.IM->S'.EX=S.EX->n<S'.N.length->(∀v,ev v (au S'.TS n)=if ev v (au S.TS t)=true then ev v (au S.TS h) else ev v (au S.TS l))->min (az S.N t) (min (az S.N h) (az S.N l))<=az S'.N n->Q (.int (n:Int)) H'):xO P w C d vs H Q
def gJ(P:Program)(w:World)(C:Addr)(d:Nat):Sp:=λvs H Q _=>xO P w C d vs H Q
abbrev nCh:List Str:=["self", "test", "high", "low", "key", "number", "spot", "lows", "highs"]
abbrev jD:List Str:=["self", "test", "high", "low"]
theorem uc:aQ nCh jD (ar j6):=⟨rfl,rfl,rfl,by decide+kernel,rfl,by decide+kernel,by decide+kernel⟩
section
variable {P:Program}{w:World}{K:W.Frag}{mg:Str->Option Value}{base:Heap}{C:Addr}
theorem He{f fN fH:Addr}{fd dN dH:FuncData}{d k:Nat}(F:b0 K "chosen" "Forest.chosen" j6 f fd)(T:eY K mg C)(O2:gf mg) (G:ay P w K mg base aC (k+1) f fd jD (gJ P w C d)) (mC:Meth K C "chosen" f) (bC:Binds K fd jD [])
 (gN:ay P w K mg base aC 1 fN dN jO (jC P w C)) (mN:Meth K C "node" fN) (bN:Binds K dN jO [])
 (gH:ay P w K mg base aC 1 fH dH ["self", "number", "spot", "side"] (vm P w C)) (mH:Meth K C "half" fH) (bH:Binds K dH ["self", "number", "spot", "side"] []):ay P w K mg base aC (k+1+1) f fd jD (gJ P w C (d+1)):=by
 refine F.ok uc (λvs H Q E h=>?_) (λcdv A outer s H vs Q E hr h=>?_)
 . obtain⟨y,dy,nm,sp,nd,kn,ch,im,ex,names,S,t,h,l,b,rfl,_⟩:=h
   rfl
 . obtain⟨y,dy,nm,sp,nd,kn,ch,im,ex,names,S,t,h,l,b,rfl,hO,ht,hh,hl,hd,hB,hb,kk⟩:=h
   have hu:=d6 hr
   have cC:=hr.mono (aeP (adW k))
   refine⟨_,ai (cw (PW.pt (ur (cF jr (pv 1) ao (cU _)) (yA (cF jr (pv 2) (pv 3) (cU _))))) (av (aN (pv 2))) bf)
    (ai (cw (cF jr (pv 1) ao (cU _)) (av (aN (pv 3))) bf)
    (ai (aD (i:=4) uc.nd rfl (Or.inl rfl) (eE (aa (pv 1) (aa (pv 2) (aa (pv 3) ag)))))
    (ai (aD (i:=5) uc.nd rfl (Or.inl rfl) (tK hu (aM (pv 0) rfl) (pv 4) ⟨rfl,rfl,rfl,rfl⟩))
    (ai (cw (eD (uo (pv 5)))
     (ai (aD (i:=6) uc.nd rfl (Or.inl rfl) (bz (Hd rfl) (by rfl) O2.min ahh (aa (aK (r:=cN K) bx (aK (r:=eS K) a0 (aM (pv 0) rfl) (pv 1) (λ_ _=>rfl)) ao (λ_ _=>rfl))
      (aa (aK (r:=cN K) bx (aK (r:=eS K) a0 (aM (pv 0) rfl) (pv 2) (λ_ _=>rfl)) ao (λ_ _=>rfl)) (aa (aK (r:=cN K) bx (aK (r:=eS K) a0 (aM (pv 0) rfl) (pv 3) (λ_ _=>rfl)) ao (λ_ _=>rfl)) ag)))))
     (ai (aD (i:=7) uc.nd rfl (Or.inl rfl) (aV (pv 0) T.cl mC G hr bC .nil aA (aa (aV (pv 0) T.cl mH gH cC bH .nil aA (aa (pv 1) (aa (pv 6) (aa ao ag))))
      (aa (aV (pv 0) T.cl mH gH cC bH .nil aA (aa (pv 2) (aa (pv 6) (aa ao ag)))) (aa (aV (pv 0) T.cl mH gH cC bH .nil aA (aa (pv 3) (aa (pv 6) (aa ao ag)))) ag)))))
     (ai (aD (i:=8) uc.nd rfl (Or.inl rfl) (aV (pv 0) T.cl mC G hr bC .nil aA (aa (aV (pv 0) T.cl mH gH cC bH .nil aA (aa (pv 1) (aa (pv 6) (aa ao ag))))
      (aa (aV (pv 0) T.cl mH gH cC bH .nil aA (aa (pv 2) (aa (pv 6) (aa ao ag)))) (aa (aV (pv 0) T.cl mH gH cC bH .nil aA (aa (pv 3) (aa (pv 6) (aa ao ag)))) ag)))))
     (ai (aD (i:=5) uc.nd rfl (Or.inl rfl) (aV (pv 0) T.cl mN gN cC bN .nil aA (aa (pv 6) (aa (pv 7) (aa (pv 8) ag)))))
     (av (dQ hu (aM (pv 0) rfl) (pv 4) (pv 5) rfl)))))) bf)
    (av (aN (pv 5))))))),?_⟩
   have aib:cst (d+1)=2*cst d+2:=rfl
   have iJ:∀{H1:Hp}{n:Nat},FO P w C H1 y dy nm sp nd kn ch im ex names S->Kp H H1 nd kn ch im ex->n<S.N.length->(∀v,ev v (au S.TS n)=if ev v (au S.TS t)=true then ev v (au S.TS h) else ev v (au S.TS l))->min (az S.N t) (min (az S.N h) (az S.N l))<=az S.N n->Q (.int (n:Int)) H1:=
    λo1 k1 n1 v1 m1=>kk _ S _ o1 k1 (.refl S) (hB.up (adV ..)) rfl rfl n1 v1 m1
   refine⟨_,rfl,rfl,_,rfl,?_⟩
   by_cases e1:t=1
   . refine df (ad3 (by rw[e1];rfl)) (df rfl ⟨_,rfl,iJ hO gg hh (λv=>?_) (by omega)⟩)
     rw[e1,hO.fs.t1]
     exact(adM rfl).symm
   refine de (adS λz=>e1 (by have:=V.int.inj z;omega)) ⟨_,rfl,_,rfl,rfl,_,rfl,?_⟩
   by_cases e2:h=l
   . refine df (ad3 (by rw[e2])) ⟨_,rfl,iJ hO gg hh (λv=>?_) (by omega)⟩
     rw[e2]
     split <;> rfl
   refine de (adS λz=>e2 (by have:=V.int.inj z;omega)) ⟨_,rfl,rfl,_,rfl,?_⟩
   by_cases e3:t=0
   . refine df (ad3 (by rw[e3];rfl)) ⟨_,rfl,iJ hO gg hl (λv=>?_) (by omega)⟩
     rw[e3,hO.fs.t0]
     exact(adw (λz=>by cases z)).symm
   refine de (adS λz=>e3 (by have:=V.int.inj z;omega)) ?_
   refine⟨_,rfl,_,rfl,_,rfl,(by show 3<=sizeLine;decide),λq hq=>?_⟩
   have q1:(upd H q (.tup (iH (t,h,l)))) q=some (.tup (iH (t,h,l))):=af
   have s1:ak H (upd H q (.tup (iH (t,h,l)))):=ak.ax hq
   show eF _ _ _ _ (upd H q (.tup (iH (t,h,l))))
   generalize upd H q (.tup (iH (t,h,l)))=H1 at q1 s1 ⊢
   have aW:=hO.same s1
   have jt:H1 q=some (.tup ((jB (t,h,l)).map kV)):=q1
   refine⟨_,rfl,y,C,dy,_,_,rfl,aW.hy,T.cl,T.n5,PD ..,ch,rfl,.inr ⟨_,.inl aW.hc⟩,_,rfl,_,br.t (k:=jB (t,h,l)) aW.hc jt,?_⟩
   cases hv:aI S.CH (jB (t,h,l)) with
   | some u=>
    obtain⟨t',h',l',n,ek,en,_,_,_,l4,K0,hmn⟩:=aW.ck _ (gu hv)
    have ek':=wj (p:=(t,h,l)) (q:=(t',h',l')) ek
    cases ek'
    cases(show u=.int (n:Int) from en)
    exact⟨_,rfl,_,rfl,de rfl ⟨_,rfl,iJ aW (.of s1) l4 K0 hmn⟩⟩
   | none=>
    have tl:az S.N t<names.length:=(hO.fs.nd t (by omega) ht).1
    refine⟨_,rfl,_,rfl,df rfl ?_⟩
    obtain⟨r1,x1,x1'⟩:=aW.node ht
    obtain⟨r2,x2,x2'⟩:=aW.node hh
    obtain⟨r3,x3,x3'⟩:=aW.node hl
    obtain⟨s0,hs0⟩:∃s0,s0=min (az S.N t) (min (az S.N h) (az S.N l)):=⟨_,rfl⟩
    have nF:s0<names.length:=by omega
    refine⟨_,rfl,y,C,dy,_,_,rfl,aW.hy,T.cl,T.n3,n9 ..,_,rfl,nd,_,_,.ref r1,rfl,rfl,aw.of aW.hd,aG (by rw[ado,x1];rfl),r1,_,0,.int (az S.N t:Int),rfl,rfl,aS.of x1',aG (j:=0) rfl,?_⟩
    refine⟨_,rfl,y,C,dy,_,_,rfl,aW.hy,T.cl,T.n3,n9 ..,_,rfl,nd,_,_,.ref r2,rfl,rfl,aw.of aW.hd,aG (by rw[ado,x2];rfl),r2,_,0,.int (az S.N h:Int),rfl,rfl,aS.of x2',aG (j:=0) rfl,?_⟩
    refine⟨_,rfl,y,C,dy,_,_,rfl,aW.hy,T.cl,T.n3,n9 ..,_,rfl,nd,_,_,.ref r3,rfl,rfl,aw.of aW.hd,aG (by rw[ado,x3];rfl),r3,_,0,.int (az S.N l:Int),rfl,rfl,aS.of x3',aG (j:=0) rfl,?_⟩
    refine⟨_,_,_,rfl,?_⟩
    rw[show min ((az S.N t:Nat):Int) (min ((az S.N h:Nat):Int) ((az S.N l:Nat):Int))=((s0:Nat):Int) by omega]
    have rm:∀m∈["half", "chosen", "node"],(cY nm sp nd kn ch im ex).lookup (m:Str)=none:=λm hm=>by
     simp only[adq,adI,aec]at hm
     rcases hm with rfl|rfl|rfl <;> exact j3 _ _ _ _ _ _ _ (by decide+kernel) (by decide+kernel) (by decide+kernel) (by decide+kernel) (by decide+kernel) (by decide+kernel) (by decide+kernel)
    have nH:=rm "half" (by decide)
    have nC:=rm "chosen" (by decide)
    have nN:=rm "node" (by decide)
    have lt:=λb=>hO.fs.Eg (b:=b) ht nF
    have lh:=λb=>hO.fs.Eg (b:=b) hh nF
    have ll:=λb=>hO.fs.Eg (b:=b) hl nF
    have pt:=λb=>hO.fs.Ai (b:=b) ht nF (by omega)
    have ph:=λb=>hO.fs.Ai (b:=b) hh nF (by omega)
    have pl:=λb=>hO.fs.Ai (b:=b) hl nF (by omega)
    refine⟨_,rfl,y,dy,_,rfl,aW.hy,nC,?_⟩
    refine⟨_,rfl,y,dy,_,rfl,aW.hy,nH,_,rfl,_,rfl,y,dy,nm,sp,nd,kn,ch,im,ex,names,S,t,s0,false,rfl,aW,ht,?_⟩
    refine⟨_,rfl,y,dy,_,rfl,aW.hy,nH,_,rfl,_,rfl,y,dy,nm,sp,nd,kn,ch,im,ex,names,S,h,s0,false,rfl,aW,hh,?_⟩
    refine⟨_,rfl,y,dy,_,rfl,aW.hy,nH,_,rfl,_,rfl,y,dy,nm,sp,nd,kn,ch,im,ex,names,S,l,s0,false,rfl,aW,hl,?_⟩
    have m1:=pt false
    have m2:=ph false
    have m3:=pl false
    refine⟨y,dy,nm,sp,nd,kn,ch,im,ex,names,S,hf S.N s0 false t,hf S.N s0 false h,hf S.N s0 false l,b,rfl,aW,lt false,lh false,ll false,by omega,hB,by omega,λn2 S2 H2 cZ k2 g2 B2 i2 x2 l2 v2 p2=>?_⟩
    have Xy:=g2.le
    have CJ:∀{i:Nat},i<S.N.length->az S2.N i=az S.N i:=λhi=>g2.az hi
    have PK:∀{i:Nat},i<S.N.length->au S2.TS i=au S.TS i:=λhi=>g2.au (by rw[← hO.fs.len];exact hi)
    have Aj:∀{i:Nat},i<S.N.length->∀b,hf S2.N s0 b i=hf S.N s0 b i:=λhi b=>by unfold hf az low cS;rw[g2.nd hi]
    refine⟨_,rfl,y,dy,_,rfl,cZ.hy,nC,?_⟩
    refine⟨_,rfl,y,dy,_,rfl,cZ.hy,nH,_,rfl,_,rfl,y,dy,nm,sp,nd,kn,ch,im,ex,names,S2,t,s0,true,rfl,cZ,by omega,?_⟩
    refine⟨_,rfl,y,dy,_,rfl,cZ.hy,nH,_,rfl,_,rfl,y,dy,nm,sp,nd,kn,ch,im,ex,names,S2,h,s0,true,rfl,cZ,by omega,?_⟩
    refine⟨_,rfl,y,dy,_,rfl,cZ.hy,nH,_,rfl,_,rfl,y,dy,nm,sp,nd,kn,ch,im,ex,names,S2,l,s0,true,rfl,cZ,by omega,?_⟩
    have m4:=pt true
    have m5:=ph true
    have m6:=pl true
    have lt':=lt true
    have PM:=lh true
    have PN:=ll true
    have e4:=Aj ht true
    have e5:=Aj hh true
    have e6:=Aj hl true
    refine⟨y,dy,nm,sp,nd,kn,ch,im,ex,names,S2,hf S2.N s0 true t,hf S2.N s0 true h,hf S2.N s0 true l,b+cst d,rfl,cZ,by omega,by omega,by omega,?_,B2,by omega,λn3 S3 H3 fG k3 g3 B3 i3 x3 l3 v3 p3=>?_⟩
    . rw[e4,e5,e6,CJ lt',CJ PM,CJ PN]
      omega
    rw[e4,e5,e6,CJ lt',CJ PM,CJ PN]at p3
    rw[e4,e5,e6,PK lt',PK PM,PK PN]at v3
    have PQ:n2<S3.N.length:=adY l2 g3.le
    have PR:az S3.N n2=az S2.N n2:=g3.az l2
    have tr3:au S3.TS n2=au S2.TS n2:=g3.au (by rw[← cZ.fs.len];exact l2)
    refine⟨_,rfl,y,dy,_,rfl,fG.hy,nN,_,rfl,_,rfl,_,rfl,y,dy,nm,sp,nd,kn,ch,im,ex,names,S3,s0,n2,n3,b+cst d+cst d,rfl,fG,nF,PQ,l3,by omega,by omega,B3,by omega,λn4 S4 H4 Ag k4 g4 B4 c4 i4 x4 l4 s4 t4=>?_⟩
    have Xa:=(((Kp.of s1).trans k2).trans k3).trans k4
    have vn:=(g2.trans g3).trans g4
    have K0:∀v,ev v (au S4.TS n4)=if ev v (au S.TS t)=true then ev v (au S.TS h) else ev v (au S.TS l):=λv=>by
     have e7:ev v (au S4.TS n4)=if v (names.getD s0 "")=true then ev v (au S3.TS n3) else ev v (au S3.TS n2):=by
      rw[t4]
      by_cases z:n2=n3
      . rw[adM z,z]
        split <;> rfl
      . rw[adw z]
        rfl
     rw[e7,tr3,v2 v,v3 v,hO.fs.Eh ht nF v,hO.fs.Eh hh nF v,hO.fs.Eh hl nF v]
     cases v (names.getD s0 "") <;> rfl
    have gl4:=vn.le
    have hq4:H4 q=some (.tup ((jB (t,h,l)).map kV)):=aW.hU ((k2.trans k3).trans k4) _ _ jt
    have hck:ub S4.N S4.TS (jB (t,h,l),.int (n4:Int)):=by
     refine⟨t,h,l,n4,rfl,rfl,by omega,by omega,by omega,l4,λv=>?_,?_⟩
     . rw[K0 v,vn.au (by rw[← hO.fs.len];exact ht),vn.au (by rw[← hO.fs.len];exact hh),vn.au (by rw[← hO.fs.len];exact hl)]
     . rw[vn.az ht,vn.az hh,vn.az hl]
       omega
    refine⟨_,rfl,_,rfl,y,C,dy,_,_,rfl,Ag.hy,T.cl,T.n5,PD ..,_,rfl,ch,_,rfl,eP.t (k:=jB (t,h,l)) Ag.hc hq4 (big (by have:=B4.b2;omega)),?_⟩
    have jE:=Ag.Tn hck
    exact⟨_,rfl,kk n4 _ _ jE (Xa.trans (Ec (.inr (.inr (.inl rfl))))) ⟨vn.gn,vn.gt⟩ ((B4.pch _ _).up (by omega)) (i4.trans (i3.trans i2)) (x4.trans (x3.trans x2)) l4 K0 (by rw[← hs0];exact s4)⟩
end
abbrev oN:Stmt:=inClass (top 7) 0
theorem jF:∀(kvs acc:List (Key×V)),((acc++kvs).map (·.1)).Nodup->bG acc kvs=acc++kvs
 | [],acc,_=>(afk acc).symm
 | (k,v)::r,acc,h=>by
  have hn:aI acc k=none:=rj λkv bb z=>by
   rw[adp,adQ,adK]at h
   exact h.2.2 _ (ads.mpr ⟨kv,bb,z⟩) _ adB rfl
  show bG (putK acc k v) r=acc++(k,v)::r
  rw[gw v hn,jF r (acc++[(k,v)]) (by rw[aeg];exact h),aeg]
  rfl
theorem Ak:∀(names:List Str) (i:Nat),(iQ i names).map (·.1)=names.map Sum.inr
 | [],_=>rfl
 | n::r,i=>by rw[iQ,adQ,adQ,Ak r]
theorem CK:∀(names:List Str) (i:Nat),(iQ i names).length=names.length
 | [],_=>rfl
 | n::r,i=>by rw[iQ,adL,adL,CK r]
theorem CL:∀(a b:List Str) (i:Nat),iQ i (a++b)=iQ i a++iQ (i+a.length) b
 | [],b,i=>rfl
 | p::r,b,i=>by rw[afc,iQ,iQ,CL r b (i+1),afc,adL,show i+1+r.length=i+(r.length+1) by omega]
theorem Hf{names:List Str}(h:names.Nodup):bG [] (iQ 0 names)=iQ 0 names:=jF _ [] (by
 rw[afo,Ak]
 exact afZ.mpr (af0 (λh z=>h (aer z)) h))
def Hg(n:Nat)(t0 t1:Addr):bq:=⟨[(n,0,0),(n,1,1)],[.leaf false,.leaf true],[t0,t1],[],[],[(.inl 0,.bl false),(.inl 1,.bl true)]⟩
theorem fs0(names:List Str)(t0 t1:Addr):FS names (Hg names.length t0 t1).N (Hg names.length t0 t1).TS:=
 ⟨rfl,adn _,rfl,rfl,rfl,rfl,λi h2 hi=>absurd (show i<2 from hi) (by omega),λi j h2 _ hi=>absurd (show i<2 from hi) (by omega)⟩
inductive Al(P:Program) (w:World) (C:Addr) (vs:List V) (H:Hp) (Q:VK):Prop
 | mk (p dy o:Addr) (names:List Str) (h1:vs=[.ref p,.ref o]) (h2:H p=some (.ins C dy [])) (h3:H o=some (.lst (names.map V.str))) (h4:names.Nodup) (h5:(∀n∈names,PyData.strOk n=true)) (h6:names.length<=8) (h7:∀(nm sp nd kn ch im ex t0 t1:Addr) (H':Hp),FO P w C H' p dy nm sp nd kn ch im ex names (Hg names.length t0 t1)->aX H H' p->(∀g∈[nd,kn,ch,im,ex],H g=none)->H sp=none->Q .aY H'):Al P w C vs H Q
def wo(P:Program)(w:World)(C:Addr):Sp:=λvs H Q _=>Al P w C vs H Q
theorem PU:(["spot", "name"]:List Str).Nodup:=by decide+kernel
section
variable {P:Program}{w:World}{K:W.Frag}{mg:Str->Option Value}{base:Heap}{C:Addr}
theorem Z0:aQ ["self", "order"] ["self", "order"] (ar oN):=⟨rfl,rfl,rfl,by decide+kernel,rfl,by decide+kernel,by decide+kernel⟩
theorem Jh{f:Addr}{fd:FuncData}(F:b0 K "__init__" "Forest.__init__" oN f fd)(T:eY K mg C)(O2:gf mg)(O:Own mg):ay P w K mg base aC 1 f fd ["self", "order"] (wo P w C):=by
 refine F.ok Z0 (λvs H Q E h=>?_) (λcdv A outer s H vs Q E hr h=>?_)
 . obtain⟨p,dy,o,names,rfl,_⟩:=h
   rfl
 . obtain⟨p,dy,o,names,rfl,hp,ho,nn,ns,n8,kk⟩:=h
   refine⟨_,ai (dh (pv 0) (bw ig (by rfl) O2.list aeu (aa (pv 1) ag)) rfl)
    (ai (dh (pv 0) (bw (dq rfl) (by rfl) O2.dict ad9 (aa (eG (N:=["spot", "name"]) (js:=[none,none]) (g:=Dn K 2 (o7 (fg 0) (o7 (fg 1) Dm))) (by kernel_rfl) rfl (BZ rfl O.enum (aa (pv 1) ag))
     (λ_ _ _ _ _ _=>jm rfl (cg (aH (i:=0) PU rfl (Or.inl rfl) (.inr rfl)) (cg (aH (i:=1) PU rfl (Or.inl rfl) (.inr rfl)) iA))) (λ_ _ _ _ _ _=>bQ)
     (λ_ _ _ _ _ _=>eE (aa (pv 1) (aa (pv 0) ag)))) ag)) rfl)
    (ai (dh (pv 0) (cK (aa (eE (aa (bz cc (by rfl) O2.len aem (aa (aM (pv 0) rfl) ag)) (aa ao (aa ao ag))))
     (aa (eE (aa (bz cc (by rfl) O2.len aem (aa (aM (pv 0) rfl) ag)) (aa ao (aa ao ag)))) ag))) rfl)
    (ai (dh (pv 0) yN rfl)
    (ai (dh (pv 0) yN rfl)
    (ai (dh (pv 0) Jc rfl)
    (av (dh (pv 0) (ox (eQ ao jk (eQ ao jk ow)) rfl rfl (by simp) (by decide)) rfl))))))),?_⟩
   have np:∀{b:Addr}{u:HO},H b=some u->(∀C dx fs,u≠.ins C dx fs)->b≠p:=λhb hu z=>by
    rw[z,hp]at hb
    exact hu _ _ _ (adN hb).symm
   have nop:o≠p:=np ho (λ_ _ _ z=>by cases z)
   refine⟨_,rfl,o,_,rfl,.inl (aw.of ho),λnm e1=>?_⟩
   obtain⟨p1,q1,r1,k1⟩:=cq (o:=.lst (names.map V.str)) (fs':=aq "names" (.ref nm) []) hp e1
   have b1:nm≠p:=(ae hp e1).symm
   refine⟨_,rfl,p,C,dy,_,rfl,r1,T.cl,T.n1,(by show 0<1000;decide),?_⟩
   show eF _ _ _ _ (upd (upd H nm (.lst (names.map V.str))) p (.ins C dy (aq "names" (.ref nm) [])))
   generalize upd (upd H nm (.lst (names.map V.str))) p (.ins C dy (aq "names" (.ref nm) []))=H1 at p1 q1 k1 ⊢
   have lJ:=k1 _ _ ho nop
   refine⟨_,rfl,o,rfl,⟨_,aw.of lJ⟩,λR hR=>?_⟩
   refine fQ names.length (λi acc σ H9=>(∃vs:List Addr,acc=vs.map V.ref/\Paired (λt (kv:Key×V)=>H9 t=some (.tup [kV kv.1,kv.2])) vs (iQ 0 (names.take i)))/\(∃u v,σ=[u,v])/\ak H1 H9) ⟨⟨[],rfl,.nil⟩,⟨none,none,rfl⟩,ak.ax hR⟩ af ?_ ?_
   . rintro acc σ H2 PV ⟨⟨vs,rfl,Hh⟩,_,s2⟩
     rw[ad5]at Hh
     refine⟨⟨_,aw.of (s2 _ _ lJ),by rw[abc];exact adn _⟩,R,vs,_,rfl,PV,Hh,λsp pY=>?_⟩
     rw[Hf nn]
     obtain⟨p3,q3,r3,k3⟩:=cq (o:=.dK (iQ 0 names)) (fs':=aq "spots" (.ref sp) (aq "names" (.ref nm) [])) (s2 _ _ p1) pY
     have b3:sp≠p:=(ae (s2 _ _ p1) pY).symm
     have PX:∀b u,H1 b=some u->b≠p->(upd (upd H2 sp (.dK (iQ 0 names))) p (.ins C dy (aq "spots" (.ref sp) (aq "names" (.ref nm) [])))) b=some u:=λb u hb nb=>k3 _ _ (s2 _ _ hb) nb
     refine⟨_,rfl,p,C,dy,_,rfl,r3,T.cl,T.n2,iG (aB (adn _)) (by show 1<1000;decide),?_⟩
     show eF _ _ _ _ (upd (upd H2 sp (.dK (iQ 0 names))) p (.ins C dy (aq "spots" (.ref sp) (aq "names" (.ref nm) []))))
     generalize upd (upd H2 sp (.dK (iQ 0 names))) p (.ins C dy (aq "spots" (.ref sp) (aq "names" (.ref nm) [])))=H3 at p3 q3 PX ⊢
     have qq:aX H H3 p:=λb u hb nb=>PX _ _ (k1 _ _ hb nb) nb
     have K1:=PX _ _ q1 b1
     have Xz:∀{f:Str}{v:V}{r:List (Str×V)},f ≠ "names" -> (aq f v r).lookup ("names" : Str)=r.lookup ("names" : Str):=λh=>by rw[aj,adw (adG h)]
     refine⟨_,rfl,p,C,dy,_,_,rfl,p3,T.cl,T.n1,(by rw[Xz (by decide+kernel),aj,adM rfl]),nm,_,rfl,.inl (aw.of K1),?_⟩
     rw[abc]
     refine⟨(by show 3<=sizeLine;decide),λt0 Cc=>?_⟩
     have s4:ak H3 (upd H3 t0 (.tup (iH (names.length,0,0)))):=ak.ax Cc
     have q4:(upd H3 t0 (.tup (iH (names.length,0,0)))) t0=some (.tup (iH (names.length,0,0))):=af
     show ju _ _ _ (upd H3 t0 (.tup (iH (names.length,0,0)))) _
     generalize upd H3 t0 (.tup (iH (names.length,0,0)))=H4 at s4 q4 ⊢
     refine⟨_,rfl,p,C,dy,_,_,rfl,s4 _ _ p3,T.cl,T.n1,(by rw[Xz (by decide+kernel),aj,adM rfl]),nm,_,rfl,.inl (aw.of (s4 _ _ K1)),?_⟩
     rw[abc]
     refine⟨(by show 3<=sizeLine;decide),λt1 PY=>?_⟩
     have s5:ak H4 (upd H4 t1 (.tup (iH (names.length,1,1)))):=ak.ax PY
     have q5:(upd H4 t1 (.tup (iH (names.length,1,1)))) t1=some (.tup (iH (names.length,1,1))):=af
     show vR _ (upd H4 t1 (.tup (iH (names.length,1,1)))) _
     generalize upd H4 t1 (.tup (iH (names.length,1,1)))=H5 at s5 q5 ⊢
     refine⟨(by show 2<=sizeLine;decide),λnd e6=>?_⟩
     have lq:=s4.trans s5
     obtain⟨p6,q6,r6,k6⟩:=cq (o:=.lst [.ref t0,.ref t1]) (fs':=aq "nodes" (.ref nd) (aq "spots" (.ref sp) (aq "names" (.ref nm) []))) (lq _ _ p3) e6
     have b6:nd≠p:=(ae (lq _ _ p3) e6).symm
     have d1:nd≠nm:=(ae (lq _ _ K1) e6).symm
     refine⟨_,rfl,p,C,dy,_,rfl,r6,T.cl,T.n3,iG (aB (aB (adn _))) (by show 2<1000;decide),?_⟩
     show eF _ _ _ _ (upd (upd H5 nd (.lst [.ref t0,.ref t1])) p (.ins C dy (aq "nodes" (.ref nd) (aq "spots" (.ref sp) (aq "names" (.ref nm) [])))))
     have f6:H nd=none:=cI (λb u hb nb=>lq _ _ (qq _ _ hb nb)) e6 b6
     have Hk:∀b u,H3 b=some u->b≠p->(upd (upd H5 nd (.lst [.ref t0,.ref t1])) p (.ins C dy (aq "nodes" (.ref nd) (aq "spots" (.ref sp) (aq "names" (.ref nm) []))))) b=some u:=λb u hb nb=>k6 _ _ (lq _ _ hb) nb
     have tp:∀{b:Addr}{xs:List V},H5 b=some (.tup xs)->b≠p:=λhb=>aL hb (lq _ _ p3) (by intro z;cases z)
     have XA:=k6 _ _ (s5 _ _ q4) (tp (s5 _ _ q4))
     have XB:=k6 _ _ q5 (tp q5)
     have n0:t0≠p:=tp (s5 _ _ q4)
     have n1:t1≠p:=tp q5
     generalize upd (upd H5 nd (.lst [.ref t0,.ref t1])) p (.ins C dy (aq "nodes" (.ref nd) (aq "spots" (.ref sp) (aq "names" (.ref nm) []))))=H6 at p6 q6 Hk XA XB ⊢
     have XC:aX H H6 p:=λb u hb nb=>Hk _ _ (qq _ _ hb nb) nb
     intro kn e7
     obtain⟨p7,q7,r7,k7⟩:=cq (o:=.dT []) (fs':=aq "known" (.ref kn) (aq "nodes" (.ref nd) (aq "spots" (.ref sp) (aq "names" (.ref nm) [])))) p6 e7
     have b7:kn≠p:=(ae p6 e7).symm
     refine⟨_,rfl,p,C,dy,_,rfl,r7,T.cl,T.n4,iG (aB (aB (aB (adn _)))) (by show 3<1000;decide),?_⟩
     show eF _ _ _ _ (upd (upd H6 kn (.dT [])) p (.ins C dy (aq "known" (.ref kn) (aq "nodes" (.ref nd) (aq "spots" (.ref sp) (aq "names" (.ref nm) []))))))
     have f7:H kn=none:=cI XC e7 b7
     generalize upd (upd H6 kn (.dT [])) p (.ins C dy (aq "known" (.ref kn) (aq "nodes" (.ref nd) (aq "spots" (.ref sp) (aq "names" (.ref nm) [])))))=H7 at p7 q7 k7 ⊢
     have XD:aX H H7 p:=λb u hb nb=>k7 _ _ (XC _ _ hb nb) nb
     intro ch e8
     obtain⟨p8,q8,r8,k8⟩:=cq (o:=.dT []) (fs':=aq "choices" (.ref ch) (aq "known" (.ref kn) (aq "nodes" (.ref nd) (aq "spots" (.ref sp) (aq "names" (.ref nm) []))))) p7 e8
     have b8:ch≠p:=(ae p7 e8).symm
     have d2:kn≠ch:=ae q7 e8
     refine⟨_,rfl,p,C,dy,_,rfl,r8,T.cl,T.n5,iG (aB (aB (aB (aB (adn _))))) (by show 4<1000;decide),?_⟩
     show eF _ _ _ _ (upd (upd H7 ch (.dT [])) p (.ins C dy (aq "choices" (.ref ch) (aq "known" (.ref kn) (aq "nodes" (.ref nd) (aq "spots" (.ref sp) (aq "names" (.ref nm) [])))))))
     have f8:H ch=none:=cI XD e8 b8
     generalize upd (upd H7 ch (.dT [])) p (.ins C dy (aq "choices" (.ref ch) (aq "known" (.ref kn) (aq "nodes" (.ref nd) (aq "spots" (.ref sp) (aq "names" (.ref nm) []))))))=H8 at p8 q8 k8 ⊢
     have K2:aX H H8 p:=λb u hb nb=>k8 _ _ (XD _ _ hb nb) nb
     intro im e9
     obtain⟨p9,q9,r9,k9⟩:=cq (o:=lK P w im []) (fs':=aq "imported" (.ref im) (aq "choices" (.ref ch) (aq "known" (.ref kn) (aq "nodes" (.ref nd) (aq "spots" (.ref sp) (aq "names" (.ref nm) [])))))) p8 e9
     have b9:im≠p:=(ae p8 e9).symm
     refine⟨_,rfl,p,C,dy,_,rfl,r9,T.cl,T.n6,iG (aB (aB (aB (aB (aB (adn _)))))) (by show 5<1000;decide),?_⟩
     show eF _ _ _ _ (upd (upd H8 im (lK P w im [])) p (.ins C dy (aq "imported" (.ref im) (aq "choices" (.ref ch) (aq "known" (.ref kn) (aq "nodes" (.ref nd) (aq "spots" (.ref sp) (aq "names" (.ref nm) []))))))))
     have f9:H im=none:=cI K2 e9 b9
     generalize upd (upd H8 im (lK P w im [])) p (.ins C dy (aq "imported" (.ref im) (aq "choices" (.ref ch) (aq "known" (.ref kn) (aq "nodes" (.ref nd) (aq "spots" (.ref sp) (aq "names" (.ref nm) [])))))))=H9 at p9 q9 k9 ⊢
     have K3:aX H H9 p:=λb u hb nb=>k9 _ _ (K2 _ _ hb nb) nb
     intro ex eA
     refine⟨af,[(.inl 0,.bl false),(.inl 1,.bl true)],rfl,(by show 2<=15;decide),?_⟩
     have bA:ex≠p:=(ae p9 eA).symm
     have fA:H ex=none:=cI K3 eA bA
     have hup:∀o':HO,upd (upd H9 ex (.dK [])) ex o'=upd H9 ex o':=λo'=>by
      funext b
      by_cases e:b=ex
      . rw[e,af,af]
      . rw[ah e,ah e,ah e]
     rw[show bG [] [((.inl 0:Key),V.bl false),(.inl 1,.bl true)]=[(.inl 0,.bl false),(.inl 1,.bl true)] from jF _ [] (by decide),hup]
     obtain⟨pA,qA,rA,kA⟩:=cq (o:=.dK [(.inl 0,.bl false),(.inl 1,.bl true)]) (fs':=cY nm sp nd kn ch im ex) p9 eA
     refine⟨_,rfl,p,C,dy,_,rfl,rA,T.cl,T.n7,iG (aB (aB (aB (aB (aB (aB (adn _))))))) (by show 6<1000;decide),?_⟩
     have Hl:∀b u,H6 b=some u->b≠p->(upd (upd H9 ex (.dK [(.inl 0,.bl false),(.inl 1,.bl true)])) p (.ins C dy (cY nm sp nd kn ch im ex))) b=some u:=λb u hb nb=>kA _ _ (k9 _ _ (k8 _ _ (k7 _ _ hb nb) nb) nb) nb
     have hs9:=k9 _ _ (k8 _ _ (k7 _ _ (Hk _ _ q3 b3) b3) b3) b3
     have f3:H sp=none:=cI (λb u hb nb=>s2 _ _ (k1 _ _ hb nb)) pY b3
     refine kk nm sp nd kn ch im ex t0 t1 _ ⟨pA,Hl _ _ (Hk _ _ K1 b1) b1,Hl _ _ (Hk _ _ q3 b3) b3,Hl _ _ q6 b6,.cons (Hl _ _ XA n0) (.cons (Hl _ _ XB n1) .nil),kA _ _ (k9 _ _ (k8 _ _ q7 b7) b7) b7,kA _ _ (k9 _ _ q8 b8) b8,(λ_ h=>nomatch h),kA _ _ q9 b9,(λ_ h=>nomatch h),qA,?_,⟨rfl,rfl⟩,fs0 names t0 t1,nn,ns,n8,d1,d2,ae hs9 eA⟩ (λb u hb nb=>kA _ _ (K3 _ _ hb nb) nb) ?_ f3
     . intro kv bb
       rcases adq.mp bb with rfl|bb
       . exact⟨0,rfl,Nat.zero_lt_two,rfl⟩
       . rw[adJ]at bb
         subst bb
         exact⟨1,rfl,Nat.one_lt_two,rfl⟩
     . intro g hg
       simp only[adq,adI,aec]at hg
       rcases hg with rfl|rfl|rfl|rfl|rfl <;> assumption
   . rintro i acc σ H9 hi PV ⟨⟨vs,rfl,Hh⟩,⟨u,v,rfl⟩,s9⟩
     have xj:names[i]?=some names[i]:=adj hi
     have ei:(names.map V.str)[i]?=some (.str names[i]):=by rw[ado,xj];rfl
     refine⟨⟨_,_,aw.of (s9 _ _ lJ),ei⟩,?_⟩
     rintro x' H' ⟨Tp,xv,rfl,BX,rfl,ib⟩
     have ex:=ib _ (aw.of (s9 _ _ lJ))
     rw[ei]at ex
     cases ex
     have sT:ak H9 (upd H9 Tp (.tup [.int (i:Int),.str names[i]])):=ak.ax BX
     have qT:(upd H9 Tp (.tup [.int (i:Int),.str names[i]])) Tp=some (.tup [.int (i:Int),.str names[i]]):=af
     refine⟨Tp,_,rfl,aS.of qT,rfl,_,_,rfl,_,_,rfl,rfl,?_⟩
     show nY _ (upd H9 Tp (.tup [.int (i:Int),.str names[i]])) _
     generalize upd H9 Tp (.tup [.int (i:Int),.str names[i]])=HT at sT qT ⊢
     refine zw ?_
     refine⟨_,rfl,_,rfl,(by show 2<=sizeLine;decide),λt2 Am=>?_⟩
     have PZ:=sT _ _ PV
     have nR:R≠t2:=ae PZ Am
     have hvl:=Hh.length
     rw[CK,adU]at hvl
     refine⟨_,(ah nR).trans PZ,(by rw[abc];exact small (by omega)),cP hi af ⟨⟨vs++[t2],by rw[adp];rfl,?_⟩,⟨_,_,rfl⟩,λb o' hb=>?_⟩⟩
     . rw[aen,xj,ago,CL,adU,afG (ae5 hi)]
       refine dc (Paired.cM Hh λt kv e=>?_) (.cons ?_ .nil)
       . have e':=sT _ _ e
         rw[ah (aL e' PZ (by intro z;cases z)),ah (ae e' Am)]
         exact e'
       . rw[ah (adG nR),af]
         show some (HO.tup [V.str names[i],V.int (i:Int)])=some (HO.tup [V.str names[i],V.int ((0+i:Nat):Int)])
         rw[ahf]
     . rw[ah (ae hb hR),ah (ae (sT _ _ (s9 _ _ hb)) Am)]
       exact sT _ _ (s9 _ _ hb)
end
theorem An:∀t:Tr,gr t+2<=2*2 ^ t.dep
 | .leaf _=>adn _
 | .node _ l r=>by
  have h1:=An l
  have h2:=An r
  have e1:2 ^ l.dep<=2 ^ max l.dep r.dep:=aeo (by decide) (by omega)
  have e2:2 ^ r.dep<=2 ^ max l.dep r.dep:=aeo (by decide) (by omega)
  show gr l+gr r+2+2<=2*2 ^ (max l.dep r.dep+1)
  rw[afr]
  omega
theorem K4{t:Tr}(h:t.dep<=8):gr t<=510:=by
 have h1:=An t
 have h2:2 ^ t.dep<=2 ^ 8:=aeo (by decide) h
 omega
section
variable (P:Program) (w:World) (K:W.Frag) (mg:Str->Option Value) (base:Heap) (C:Addr)
end
theorem vo{H H':Hp}(s:ak H H'):∀a xs,H a=some (.tup xs)->H' a=some (.tup xs):=λa xs e=>s _ _ e
section
variable {P:Program}{w:World}{K:W.Frag}{mg:Str->Option Value}{base:Heap}{C fI fT fC fA:Addr}{dI dT dC dA:FuncData}
theorem bd0{n:Nat}{t0 t1:Addr} : Bd (Hg n t0 t1) 2:=⟨adn _,adW _,adW _,adn _⟩
theorem Ji{H H1:Hp}{x dx C:Addr}(hx:H x=none)(P0:H dx=none) (k1:aX (upd (upd H dx (.own x)) x (.ins C dx [])) H1 x):ak H H1:=λb o hb=>by
 have n1:=ae hb hx
 have n2:=ae hb P0
 exact k1 b o (by rw[ah n1,ah n2];exact hb) n1
theorem Ao{H:Hp}{x dx C g:Addr}(hx:H x=none)(P0:H dx=none) (hg:(upd (upd H dx (.own x)) x (.ins C dx [])) g=none):H g=none:=by
 cases e:H g with
 | none=>rfl
 | some o=>
  rw[ah (ae e hx),ah (ae e P0),e]at hg
  cases hg
end
abbrev so:Stmt:=inClass (top 7) 2
abbrev i8:Stmt:=inClass (top 7) 7
def nJ(G:List Str)(e:Str->Bool)(t:Tr):Prop:=∃e':Str->Bool,(∀z,z∉G->e' z=e z)/\ev e' t=true
theorem Jj{G:List Str}{e:Str->Bool}{b:Bool} : nJ G e (.leaf b) ↔ b=true:=⟨λ⟨_,_,h⟩=>h,λh=>⟨e,λ_ _=>rfl,h⟩⟩
theorem P4{G ns:List Str}{e:Str->Bool}{n:Str}{l r:Tr}(hn:n∈G)(hs:n∉ns)(cl:cV ns l)(cr:cV ns r):nJ G e (.node n l r) ↔ nJ G e l\/nJ G e r:=by
 constructor
 . rintro⟨e',h1,h2⟩
   unfold ev at h2
   cases h:e' n
   . rw[h,adw (by decide)]at h2
     exact .inl ⟨e',h1,h2⟩
   . rw[h,adM rfl]at h2
     exact .inr ⟨e',h1,h2⟩
 . rintro (⟨e',h1,h2⟩|⟨e',h1,h2⟩)
   . refine⟨put e' n false,λz hz=>?_,?_⟩
     . rw[← h1 z hz]
       exact adw λq:z=n=>hz (by rw[q];exact hn)
     . unfold ev
       rw[show put e' n false n=false from adM rfl,adw (by decide),iP cl hs]
       exact h2
   . refine⟨put e' n true,λz hz=>?_,?_⟩
     . rw[← h1 z hz]
       exact adw λq:z=n=>hz (by rw[q];exact hn)
     . unfold ev
       rw[show put e' n true n=true from adM rfl,adM rfl,iP cr hs]
       exact h2
theorem M9{G:List Str}{e:Str->Bool}{n:Str}{l r:Tr}(hn:n∉G):nJ G e (.node n l r) ↔ if e n=true then nJ G e r else nJ G e l:=by
 have key:∀e':Str->Bool,(∀z,z∉G->e' z=e z)->ev e' (.node n l r)=if e n=true then ev e' r else ev e' l:=λe' h=>by
  unfold ev
  rw[h n hn]
  cases r <;> cases l <;> rfl
 cases h:e n
 . rw[adw (by decide)]
   constructor
   . rintro⟨e',h1,h2⟩
     rw[key e' h1,h,adw (by decide)]at h2
     exact⟨e',h1,h2⟩
   . rintro⟨e',h1,h2⟩
     refine⟨e',h1,?_⟩
     rw[key e' h1,h,adw (by decide)]
     exact h2
 . rw[adM rfl]
   constructor
   . rintro⟨e',h1,h2⟩
     rw[key e' h1,h,adM rfl]at h2
     exact⟨e',h1,h2⟩
   . rintro⟨e',h1,h2⟩
     refine⟨e',h1,?_⟩
     rw[key e' h1,h,adM rfl]
     exact h2
def wc:Tr->Nat
 | .leaf _=>0
 | .node _ l r=>wc l+wc r+1100
section
variable {P:Program}{w:World}{K:W.Frag}{mg:Str->Option Value}{base:Heap}{C y dy nm sp nd kn ch im ex:Addr}{names:List Str}{S:bq}{H H':Hp}
theorem FO.putD(h:FO P w C H y dy nm sp nd kn ch im ex names S){md:Addr}{M M':List (Key×V)}(hm:H md=some (.dK M)) (n1:md≠sp) (n2:md≠ex):FO P w C (upd H md (.dK M')) y dy nm sp nd kn ch im ex names S:=by
 have k:∀{a:Addr}{o:HO},H a=some o->(∀q,o≠.dK q)->(upd H md (.dK M')) a=some o:=λha ho=>by
  rw[ah (aL ha hm (ho _))]
  exact ha
 have kt:∀a xs,H a=some (.tup xs)->(upd H md (.dK M')) a=some (.tup xs):=λa xs ha=>k ha (by intro _ z;cases z)
 exact⟨k h.hy (by intro _ z;cases z),k h.hn (by intro _ z;cases z),by rw[ah (adG n1)];exact h.hs,k h.hd (by intro _ z;cases z),Paired.cM h.ht λ_ _ e=>kt _ _ e,k h.hk (by intro _ z;cases z),k h.hc (by intro _ z;cases z),h.ck,k h.hi (by intro _ z;cases z),λp hp=>⟨(h.ik p hp).1.keep kt,(h.ik p hp).2⟩,by rw[ah (adG n2)];exact h.he,
  λkv bb=>let ⟨i,a,b,c⟩:=h.ek kv bb; ⟨i,a,b,c.keep kt⟩,h.e0,h.fs,h.nn,h.ns,h.n8,h.d1,h.d2,h.d3⟩
theorem FO.dk(h:FO P w C H y dy nm sp nd kn ch im ex names S){b:Addr}{M:List (Key×V)}(hb:H b=some (.dK M)) (n2:b≠ex) (k:Kp H H' nd kn ch im ex):H' b=some (.dK M):=
 k b _ hb (aL hb h.hd (by intro z;cases z)) (aL hb h.hk (by intro z;cases z)) (aL hb h.hc (by intro z;cases z)) (aL hb h.hi (by intro z;cases z)) n2
inductive CN(P:Program) (w:World) (C:Addr) (vs:List V) (H:Hp) (Q:VK):Prop
 | mk (y dy nm sp nd kn ch im ex:Addr) (names:List Str) (S:bq) (n:Str) (j b:Nat) (h1:vs=[.ref y,.str n]) (h2:FO P w C H y dy nm sp nd kn ch im ex names S) (h3:names[j]?=some n) (h4:Bd S b) (h5:b<3000000) (h6:∀(i:Nat) (S':bq) (H':Hp),FO P w C H' y dy nm sp nd kn ch im ex names S'->Kp H H' nd kn ch im ex->cz S S'->Bd S' (b+1)->S'.IM=S.IM->S'.EX=S.EX->i<S'.N.length->au S'.TS i=.node n (.leaf false) (.leaf true)->Q (.int (i:Int)) H'):CN P w C vs H Q
def vp(P:Program)(w:World)(C:Addr):Sp:=λvs H Q _=>CN P w C vs H Q
theorem Z1:aQ ["self", "name"] ["self", "name"] (ar so):=⟨rfl,rfl,rfl,by decide+kernel,rfl,by decide+kernel,by decide+kernel⟩
theorem Na{f fN:Addr}{fd dN:FuncData}(F:b0 K "leaf_of" "Forest.leaf_of" so f fd)(T:eY K mg C)
 (gN:ay P w K mg base aC 1 fN dN jO (jC P w C)) (mN:Meth K C "node" fN) (bN:Binds K dN jO []):ay P w K mg base aC 2 f fd ["self", "name"] (vp P w C):=by
 refine F.ok Z1 (λvs H Q E h=>?_) (λcdv A outer s H vs Q E hr h=>?_)
 . obtain⟨y,dy,nm,sp,nd,kn,ch,im,ex,names,S,n,j,b,rfl,_⟩:=h
   rfl
 . obtain⟨y,dy,nm,sp,nd,kn,ch,im,ex,names,S,n,j,b,rfl,hO,hj,hB,hb,kk⟩:=h
   have hu:=d6 hr
   refine⟨_,av (aN (aV (pv 0) T.cl mN gN hr bN .nil aA (aa (cG hu (aM (pv 0) rfl) (pv 1) (λ_ _=>rfl)) (aa ao (aa ao ag))))),?_⟩
   have two:=hO.fs.two
   have hjl:=(adt.mp hj).1
   have z0:az S.N 0=names.length:=by unfold az;rw[hO.fs.z0]
   have z1:az S.N 1=names.length:=by unfold az;rw[hO.fs.z1]
   refine⟨_,rfl,y,dy,_,rfl,hO.hy,j3 _ _ _ _ _ _ _ (by decide+kernel) (by decide+kernel) (by decide+kernel) (by decide+kernel) (by decide+kernel) (by decide+kernel) (by decide+kernel),?_⟩
   refine⟨_,rfl,y,C,dy,_,_,rfl,hO.hy,T.cl,T.n2,Pz ..,_,rfl,sp,.int ((0+j:Nat):Int),rfl,?_,?_⟩
   . have:=br.k (k:=.inr n) hO.hs
     rw[Ac names 0 j n hO.nn hj]at this
     exact this
   refine⟨y,dy,nm,sp,nd,kn,ch,im,ex,names,S,j,0,1,b,by rw[ahf];rfl,hO,hjl,by omega,by omega,by omega,by omega,hB,by omega,λi S' H' hO' k' g' B' c' m' x' l' s' t'=>?_⟩
   refine kk i S' H' hO' k' g' B' m' x' l' ?_
   rw[t',adw (by decide),hO.fs.t0,hO.fs.t1,adA,hj]
   rfl
end
abbrev m8:Stmt:=top 27
abbrev m9:Stmt:=top 28
def bV(b:Bool):V:=.int (if b=true then 1 else 0)
def cn:List Str->List Bool->Tr
 | [],bs=>.leaf (bs.headD false)
 | n::r,bs=>if cn r (bs.take (bs.length / 2))=cn r (bs.drop (bs.length / 2)) then cn r (bs.take (bs.length / 2)) else .node n (cn r (bs.take (bs.length / 2))) (cn r (bs.drop (bs.length / 2)))
theorem wq(n:Str)(r:List Str)(bs:List Bool):cn (n::r) bs=if cn r (bs.take (bs.length / 2))=cn r (bs.drop (bs.length / 2)) then cn r (bs.take (bs.length / 2)) else .node n (cn r (bs.take (bs.length / 2))) (cn r (bs.drop (bs.length / 2))):=rfl
theorem oO:∀(names:List Str) (bs:List Bool),cV names (cn names bs)
 | [],bs=>.leaf _ _
 | n::r,bs=>by
  rw[wq]
  by_cases e:cn r (bs.take (bs.length / 2))=cn r (bs.drop (bs.length / 2))
  . rw[adM e]
    exact .skip (oO r _)
  . rw[adw e]
    exact .node e (oO r _) (oO r _)
theorem To(e:Str->Bool)(n:Str)(r:List Str)(bs:List Bool):ev e (cn (n::r) bs)=if e n=true then ev e (cn r (bs.drop (bs.length / 2))) else ev e (cn r (bs.take (bs.length / 2))):=by
 rw[wq]
 by_cases q:cn r (bs.take (bs.length / 2))=cn r (bs.drop (bs.length / 2))
 . rw[adM q,q]
   split <;> rfl
 . rw[adw q]
   rfl
theorem Ap(n:Nat):2 ^ (n+1) / 2=2 ^ n:=by rw[afr];omega
inductive Aq(d:Nat) (vs:List V) (H:Hp) (Q:VK):Prop
 | mk (u v:V) (t t':Tr) (h1:vs=[u,v]) (h2:eL H t u) (h3:eL H t' v) (h4:t.dep<d) (h5:Q (.bl (decide (t=t'))) H):Aq d vs H Q
def j7(d:Nat):Sp:=λvs H Q _=>Aq d vs H Q
section
variable {P:Program}{w:World}{K:W.Frag}{mg:Str->Option Value}{base:Heap}
abbrev ng:List Str:=["_law_found", "_law_due"]
theorem Z2:aQ ng ng (ar m9):=⟨rfl,rfl,rfl,by decide+kernel,rfl,by decide+kernel,by decide+kernel⟩
theorem Ar{f:Addr}{fd:FuncData}{d k:Nat}(F:b0 K "_law_same_tree" "_law_same_tree" m9 f fd)(T:gf mg) (G:ay P w K mg base aC k f fd ng (j7 d)) (mS:mg "_law_same_tree" = some (.ref f)) (bS:Binds K fd ng []):ay P w K mg base aC (k+1) f fd ng (j7 (d+1)):=by
 refine F.ok Z2 (λvs H Q E h=>?_) (λcdv A outer s H vs Q E hr h=>?_)
 . obtain⟨u,v,t,t',rfl,_⟩:=h
   rfl
 . obtain⟨u,v,t,t',rfl,hu,hv,hd,kk⟩:=h
   refine⟨_,ai (cw (PW.pt (ur (jl (bz hJ (by rfl) T.isi aeq (aa (pv 1) (aa (lV (v:=.ty "bool") (by rfl) T.bool afh rfl) ag))))
    (yA (jl (bz hJ (by rfl) T.isi aeq (aa (pv 0) (aa (lV (v:=.ty "bool") (by rfl) T.bool afh rfl) ag)))))))
    (av (aN (yC (bz hJ (by rfl) T.isi aeq (aa (pv 1) (aa (lV (v:=.ty "bool") (by rfl) T.bool afh rfl) ag)))
     (yC (bz hJ (by rfl) T.isi aeq (aa (pv 0) (aa (lV (v:=.ty "bool") (by rfl) T.bool afh rfl) ag))) (Fb (vQ jr (pv 0) (pv 1) (cU _))))))) bf)
    (ai (cw (PW.pt (ur (yB (jl (bz hJ (by rfl) T.isi aeq (aa (pv 0) (aa (lV (v:=.ty "tuple") (by rfl) T.tuple afN rfl) ag)))))
     (ur (cF J5 (bz cc (by rfl) T.len aem (aa (pv 0) ag)) ao (cU _))
     (ur (yB (jl (bz hJ (by rfl) T.isi aeq (aa (aK (r:=cN K) bx (pv 0) ao (λ_ _=>rfl)) (aa (lV (v:=.ty "str") (by rfl) T.str PyProof.Rows.boot_str rfl) ag)))))
     (yA (cF J5 (aK (r:=cN K) bx (pv 0) ao (λ_ _=>rfl)) (aK (r:=cN K) bx (pv 1) ao (λ_ _=>rfl)) (cU _)))))))
     (av (aN jk)) bf)
    (av (aN (yC (aE G hr rfl mS F.kp bS .nil aA (aa (aK (r:=cN K) bx (pv 0) ao (λ_ _=>rfl)) (aa (aK (r:=cN K) bx (pv 1) ao (λ_ _=>rfl)) ag)))
     (Fb (aE G hr rfl mS F.kp bS .nil aA (aa (aK (r:=cN K) bx (pv 0) ao (λ_ _=>rfl)) (aa (aK (r:=cN K) bx (pv 1) ao (λ_ _=>rfl)) ag)))))))),?_⟩
   have fin:∀{b:Bool},(b=true ↔ t=t')->Q (.bl b) H:=λ{b} hb=>by
    rw[show b=decide (t=t') by rw[aea,hb,agp]]
    exact kk
   cases t' with
   | leaf c'=>
    cases(show v=.bl c' from hv)
    refine⟨_,rfl,_,_, "bool",true,rfl,.bl _,rfl,_,rfl,pe (pe ?_)⟩
    refine⟨_,rfl,_,_, "bool",true,rfl,.bl _,rfl,_,rfl,pe ?_⟩
    cases t with
    | leaf c=>
     cases(show u=.bl c from hu)
     refine⟨_,rfl,_,_, "bool",true,rfl,.bl _,rfl,_,rfl,pe ⟨_,rfl,_,rfl,rfl,fin ?_⟩⟩
     rw[agp]
     exact⟨λz=>(by cases z;rfl),λz=>(by cases z;rfl)⟩
    | node n l r=>
     obtain⟨a,vl,vr,rfl,ha,_,_⟩:=hu
     exact⟨_,rfl,_,_, "bool",false,rfl,.tup ha,rfl,_,rfl,jU (fin ⟨λz=>(by cases z),λz=>(by cases z)⟩)⟩
   | node n' l' r'=>
    obtain⟨a',vl',vr',rfl,xr,uO,G4⟩:=hv
    refine⟨_,rfl,_,_, "bool",false,rfl,.tup xr,rfl,_,rfl,jU ?_⟩
    cases t with
    | leaf c=>
     cases(show u=.bl c from hu)
     refine⟨_,rfl,_,_, "bool",true,rfl,.bl _,rfl,_,rfl,pe ?_⟩
     exact⟨_,rfl,_,_, "bool",false,rfl,.tup xr,rfl,_,rfl,jU (fin ⟨λz=>(by cases z),λz=>(by cases z)⟩)⟩
    | node n l r=>
     obtain⟨a,vl,vr,rfl,ha,hl,hR⟩:=hu
     have Ed:(Tr.node n l r).dep=max l.dep r.dep+1:=rfl
     refine⟨_,rfl,_,_, "bool",false,rfl,.tup ha,rfl,_,rfl,jU ?_⟩
     refine⟨_,rfl,_,_, "tuple",true,rfl,.tup ha,rfl,_,rfl,jU ?_⟩
     refine⟨_,rfl,a,_,rfl,.inr (aS.of ha),rfl,_,rfl,jU ?_⟩
     refine⟨_,rfl,a,_,0,_,rfl,rfl,aS.of ha,aG (j:=0) rfl,_,_, "str",true,rfl,.str n,rfl,_,rfl,jU ?_⟩
     refine⟨_,rfl,a,_,0,_,rfl,rfl,aS.of ha,aG (j:=0) rfl,_,rfl,a',_,0,_,rfl,rfl,aS.of xr,aG (j:=0) rfl,rfl,_,rfl,?_⟩
     by_cases en:n=n'
     . subst en
       refine de (by rw[ad3 rfl];rfl) ?_
       refine⟨_,rfl,a,_,1,_,rfl,rfl,aS.of ha,aG (j:=1) rfl,_,rfl,a',_,1,_,rfl,rfl,aS.of xr,aG (j:=1) rfl,_,_,l,l',rfl,hl,uO,by omega,_,rfl,?_⟩
       by_cases el:l=l'
       . subst el
         refine df (ad3 rfl) ?_
         refine⟨_,rfl,a,_,2,_,rfl,rfl,aS.of ha,aG (j:=2) rfl,_,rfl,a',_,2,_,rfl,rfl,aS.of xr,aG (j:=2) rfl,_,_,r,r',rfl,hR,G4,by omega,fin ?_⟩
         rw[agp]
         exact⟨λz=>(by rw[z]),λz=>(by injection z)⟩
       . refine de (adS el) (fin ?_)
         exact⟨λz=>(nomatch z),λz=>absurd (by injection z) el⟩
     . refine df (by rw[adS (λz=>en (V.str.inj z))];rfl) (fin ⟨λz=>(nomatch z),λz=>absurd (by injection z) en⟩)
inductive As(d:Nat) (vs:List V) (H:Hp) (Q:VK):Prop
 | mk (p q:Addr) (names:List Str) (bs:List Bool) (h1:vs=[.ref p,.ref q]) (h2:H p=some (.lst (names.map V.str))) (h3:H q=some (.lst (bs.map bV))) (h4:names.length<d) (h5:names.length<=8) (h6:bs.length=2 ^ names.length) (h7:∀(v:V) (H':Hp),ak H H'->eL H' (cn names bs) v->Q v H'):As d vs H Q
def oP(d:Nat):Sp:=λvs H Q _=>As d vs H Q
abbrev nCn:List Str:=["_law_names", "_law_bits", "_law_half", "_law_low", "_law_high"]
abbrev sY:List Str:=["_law_names", "_law_bits"]
theorem Ei:aQ nCn sY (ar m8):=⟨rfl,rfl,rfl,by decide+kernel,rfl,by decide+kernel,by decide+kernel⟩
theorem Au{xs:List V}{k:Nat}(h:k<=xs.length):ie xs (some (k:Int)) none=xs.drop k:=by
 unfold ie
 rw[HT.BQ,HT.yR,afG h]
 exact aed (by rw[aeM];exact adn _)
theorem P5{xs:List V}{k:Nat}(h:k<=xs.length):ie xs none (some (k:Int))=xs.take k:=by
 unfold ie
 rw[HT.BQ,HT.yR,afG h]
 rfl
theorem Jk{f fS:Addr}{fd dS:FuncData}{d k:Nat}(F:b0 K "_law_canon" "_law_canon" m8 f fd)(O2:gf mg) (G:ay P w K mg base aC (k+9) f fd sY (oP d)) (mC:mg "_law_canon" = some (.ref f)) (bC:Binds K fd sY [])
 (gS:ay P w K mg base aC 9 fS dS ng (j7 9)) (mS:mg "_law_same_tree" = some (.ref fS)) (kS:W.keepIn K (.ref fS)=true) (bS:Binds K dS ng []):ay P w K mg base aC (k+9+1) f fd sY (oP (d+1)):=by
 refine F.ok Ei (λvs H Q E h=>?_) (λcdv A outer s H vs Q E hr h=>?_)
 . obtain⟨p,q,names,bs,rfl,_⟩:=h
   rfl
 . obtain⟨p,q,names,bs,rfl,hp,hq,hd,n8,hlen,kk⟩:=h
   have hu:=d6 hr
   have P6:=hr.mono (Nat.le_add_left 9 k)
   refine⟨_,ai (cw (cF (Px (Nat.lt_of_succ_lt hu)) (pv 0) (cK ag) (cU _)) (av (aN (vQ jr (aK (r:=eS K) a0 (pv 1) ao (λ_ _=>rfl)) ao (cU _)))) bf)
    (ai (aD (i:=2) Ei.nd rfl (Or.inl rfl) (aT rL (bz cc (by rfl) O2.len aem (aa (pv 1) ag)) ao))
    (ai (aD (i:=3) Ei.nd rfl (Or.inl rfl) (aE G hr rfl mC F.kp bC .nil aA (aa (eR oy (pv 0) (ff ao) gZ) (aa (eR oy (pv 1) gZ (ff (pv 2))) ag))))
    (ai (aD (i:=4) Ei.nd rfl (Or.inl rfl) (aE G hr rfl mC F.kp bC .nil aA (aa (eR oy (pv 0) (ff ao) gZ) (aa (eR oy (pv 1) (ff (pv 2)) gZ) ag))))
    (ai (cw (jl (aE gS P6 rfl mS kS bS .nil aA (aa (pv 3) (aa (pv 4) ag)))) (av (aN (pv 3))) bf)
    (av (aN (eE (aa (aK (r:=eS K) a0 (pv 0) ao (λ_ _=>rfl)) (aa (pv 3) (aa (pv 4) ag)))))))))),?_⟩
   refine⟨_,rfl,(by show 0<=sizeLine;decide),λe0 he0=>?_⟩
   have s1:ak H (upd H e0 (.lst [])):=ak.ax he0
   have q1:(upd H e0 (.lst [])) e0=some (.lst []):=af
   generalize upd H e0 (.lst [])=H1 at s1 q1 ⊢
   refine⟨p,e0,_,rfl,rfl,aw.of (s1 _ _ hp),aw.of q1,_,rfl,?_⟩
   cases names with
   | nil=>
    match bs,hlen with
    | [b],_=>
     refine df rfl ⟨_,rfl,q,_,0,_,rfl,rfl,aw.of (s1 _ _ hq),aG (j:=0) rfl,rfl,kk _ H1 s1 ?_⟩
     cases b <;> rfl
   | cons n r=>
    rw[adL]at hd n8 hlen
    have hpw:=Ap r.length
    have hps:=afr 2 r.length
    have hh:bs.length / 2=2 ^ r.length:=by rw[hlen,hpw]
    refine de rfl ⟨_,rfl,q,_,rfl,.inl (aw.of (s1 _ _ hq)),_,_,rfl,rfl,⟨by decide,by decide⟩,?_⟩
    have eh:V.int ((((bs.map bV).length:Nat):Int) / 2)=V.int ((2 ^ r.length:Nat):Int):=by rw[abc,← hh];rfl
    show fg 2 (V.int ((((bs.map bV).length:Nat):Int) / 2)) _ _ _
    rw[eh]
    have hle:2 ^ r.length<=(bs.map bV).length:=by rw[abc];omega
    have n1:ie ((n::r).map V.str) (some 1) none=r.map V.str:=Au (k:=1) (by rw[abc,adL];omega)
    have XE:r.length<=8:=by omega
    refine⟨_,rfl,_,rfl,p,_,rfl,aw.of (s1 _ _ hp),λp2 fu=>?_⟩
    rw[n1]
    have s2:ak H1 (upd H1 p2 (.lst (r.map V.str))):=ak.ax fu
    have q2:(upd H1 p2 (.lst (r.map V.str))) p2=some (.lst (r.map V.str)):=af
    show ju _ _ _ (upd H1 p2 (.lst (r.map V.str))) _
    generalize upd H1 p2 (.lst (r.map V.str))=H2 at s2 q2 ⊢
    have jy:=s1.trans s2
    refine⟨_,rfl,_,rfl,_,rfl,q,_,rfl,aw.of (jy _ _ hq),λb2 zu=>?_⟩
    rw[P5 hle,← aft]
    have s3:ak H2 (upd H2 b2 (.lst ((bs.take (2 ^ r.length)).map bV))):=ak.ax zu
    have q3:(upd H2 b2 (.lst ((bs.take (2 ^ r.length)).map bV))) b2=some (.lst ((bs.take (2 ^ r.length)).map bV)):=af
    refine⟨p2,b2,r,bs.take (2 ^ r.length),rfl,s3 _ _ q2,q3,by omega,XE,by rw[adU];omega,λv1 H4 s4 r1=>?_⟩
    have Av:=(jy.trans s3).trans s4
    refine⟨_,rfl,_,rfl,p,_,rfl,aw.of (Av _ _ hp),λp5 lG=>?_⟩
    rw[n1]
    have s5:ak H4 (upd H4 p5 (.lst (r.map V.str))):=ak.ax lG
    have q5:(upd H4 p5 (.lst (r.map V.str))) p5=some (.lst (r.map V.str)):=af
    show ju _ _ _ (upd H4 p5 (.lst (r.map V.str))) _
    generalize upd H4 p5 (.lst (r.map V.str))=H5 at s5 q5 ⊢
    have xu:=Av.trans s5
    refine⟨_,rfl,_,rfl,_,rfl,q,_,rfl,aw.of (xu _ _ hq),λb6 Hn=>?_⟩
    rw[Au hle,← agN]
    have s6:ak H5 (upd H5 b6 (.lst ((bs.drop (2 ^ r.length)).map bV))):=ak.ax Hn
    have q6:(upd H5 b6 (.lst ((bs.drop (2 ^ r.length)).map bV))) b6=some (.lst ((bs.drop (2 ^ r.length)).map bV)):=af
    refine⟨p5,b6,r,bs.drop (2 ^ r.length),rfl,s6 _ _ q5,q6,by omega,XE,by rw[aeM];omega,λv2 H7 s7 r2=>?_⟩
    have XF:=(s5.trans s6).trans s7
    have CO:=Av.trans XF
    have P7:=r1.keep (vo XF)
    have c1:=ji (oO r (bs.take (2 ^ r.length)))
    refine⟨_,rfl,_,rfl,_,_,_,_,rfl,P7,r2,by omega,_,rfl,?_⟩
    have ec:=wq n r bs
    rw[hh]at ec
    by_cases e:cn r (bs.take (2 ^ r.length))=cn r (bs.drop (2 ^ r.length))
    . refine df (ad3 e) ⟨_,rfl,kk v1 H7 CO ?_⟩
      rw[ec,adM e]
      exact P7
    . refine de (adS e) ?_
      refine⟨_,rfl,p,_,0,_,rfl,rfl,aw.of (CO _ _ hp),aG (j:=0) rfl,_,rfl,_,rfl,(by show 3<=sizeLine;decide),λt ht=>?_⟩
      have s8:ak H7 (upd H7 t (.tup [.str n,v1,v2])):=ak.ax ht
      refine kk (.ref t) _ (CO.trans s8) ?_
      rw[ec,adw e]
      exact⟨t,v1,v2,rfl,af,P7.keep (vo s8),r2.keep (vo s8)⟩
end
end Gen
namespace PySem
section
variable {prog:Program}{w:World}{A:Around}{s:Shared}{R:Result->Shared->Prop}
variable {I:Addr}{fp wr:List Addr}{G:Array GenState->Array GenState->Prop}{n:Nat}{P:Nat->Value->Prop}{St:Nat->Shared->Prop}
end
end PySem
namespace L2
open PySem PySem.Spec PyProof.Rows
section
variable {X:Cx}
end
section
variable {X:Cx}{a:Expr}{ta:TE}
end
theorem Nb:lg 1=true/\lg 2=true/\lg 3=true/\lg 4=true/\lg 5=true:=by decide+kernel
def j8(k:Nat):Array Nat:=if k<=1 then p0 k else i7 (cB k) 0 (2 ^ k-2) 2 (p0 k)
theorem Tq:∀k∈[1,2,3,4,5],((j8 k).toList.map λi=>(dG k).getD i [])=bU k:=by decide+kernel
theorem CP:∀k∈[1,2,3,4,5],(j8 k).size=2 ^ k:=by decide+kernel
theorem Ts:∀k∈[1,2,3,4,5],((j8 k).toList.all λi=>Nat.blt i (2 ^ k))=true:=by decide+kernel
section
variable {prog:Program}{w:World}
theorem Nc(k:Nat)(h1:1<=k)(h6:k<=5):yj prog w (dG k) (j8 k):=by
 obtain⟨a1,a2,a3,a4,a5⟩:=Nb
 obtain⟨b2,b3,b4,b5⟩:=GU
 have qs:=λk hk=>CP k hk
 rcases (show k=1\/k=2\/k=3\/k=4\/k=5 by omega) with rfl|rfl|rfl|rfl|rfl
 . refine⟨rfl,λA E s it C=>?_⟩
   have C':=C.congr λi j hi hj=>zT a1 hi hj
   exact MS C' (p:=p0 1) (Pw 1) rfl (by decide+kernel) ⟨rfl,rfl⟩
 . exact ky a2 b2 (by decide) (by decide) (qs 2 (by simp))
 . exact ky a3 b3 (by decide) (by decide) (qs 3 (by simp))
 . exact ky a4 b4 (by decide) (by decide) (qs 4 (by simp))
 . exact ky a5 b5 (by decide) (by decide) (qs 5 (by simp))
end
section
variable {X:Cx}
theorem Aw:fJ X (.builtin "sorted") (λxs H Q=>∃p ts k,xs=[.ref p]/\aw X.K H p (ts.map V.ref)/\Paired (λt b=>aS X.K H t (b.map V.int)) ts (dG k)/\k<=5/\
 ∀D K5,H D=none->Paired (λt b=>aS X.K H t (b.map V.int)) K5 (bU k)->Q (.ref D) (upd H D (.lst (K5.map V.ref)))):=by
 intro pins s σ H xs us Q I r h
 obtain⟨p,ts,k,rfl,hp,hb,h6,q⟩:=h
 obtain⟨u,rfl,rx⟩:=vals1 r
 cases(show u=Value.ref p from rx)
 obtain⟨its,rv,pl,hz⟩:=I.list hp
 have l1:=rv.length
 rw[abc]at l1
 have l2:=hb.length
 rw[mZ]at l2
 by_cases KN:k=0
 . subst KN
   obtain⟨n,hn⟩:=qp s.heap its its.toArray
   exact D6 pl.isList (by omega) ⟨.ref (s.heap.objs.size+1),_,I.laid (t':=s.toks) (o:=.lst (ts.map V.ref)) (λb o hb=>oM hb) (by omega) ⟨hz,its,n,rv,hn⟩,rfl,q _ ts (I.hok.fresh (by omega)) hb⟩
 have hk:k∈[1,2,3,4,5]:=by
  rcases (show k=1\/k=2\/k=3\/k=4\/k=5 by omega) with rfl|rfl|rfl|rfl|rfl <;> simp
 have two:2 ^ 1<=2 ^ k/\2 ^ k<=2 ^ 5:=⟨aeo (by decide) (by omega),aeo (by decide) h6⟩
 have hin:∀i∈(j8 k).toList,i<2 ^ k:=λi hi=>by
  have:=aeO.mp (Ts k hk) i hi
  rwa[Nat.blt_eq]at this
 refine BA (k:=k) (q:=j8 k) pl.isList (Ct I rv hb) (xI k) (by omega) (by omega) (by omega) (Nc k (by omega) h6) ?_
 obtain⟨n,hn⟩:=qp s.heap its ((j8 k).map λi=>its.getD i .none)
 have fu:=vj (d:=0) (e:=[]) hb (l:=(j8 k).toList) (λi hi=>by have:=hin i hi;omega)
 rw[Tq k hk]at fu
 refine⟨.ref (s.heap.objs.size+1),_,I.laid (t':=s.toks) (o:=.lst (((j8 k).toList.map λi=>ts.getD i 0).map V.ref)) (λb o hb=>oM hb) (by omega) ?_,rfl,q _ _ (I.hok.fresh (by omega)) fu⟩
 refine⟨?_,((j8 k).map λi=>its.getD i .none).toList,n,?_,?_⟩
 . rw[abc,abc,ae8,CP k hk,aeF]
   omega
 . have v:=zU rv (l:=(j8 k).toList) (λi hi=>by rw[abc];have:=hin i hi;omega)
   rw[Array.toList_map]
   have e:((j8 k).toList.map λi=>ts.getD i 0).map V.ref=(j8 k).toList.map λi=>(ts.map V.ref).getD i .aY:=by
    rw[aeC]
    refine aeT λi hi=>?_
    show V.ref (ts.getD i 0)=_
    exact(Ja (by have:=hin i hi;omega)).symm
   rw[e]
   exact v
 . rw[Array.toArray_toList]
   exact hn
end
end L2
namespace L2
open PySem PySem.Spec PyProof.Rows PySem.W
theorem cO:∀k,(bU k).length=2 ^ k
 | 0=>rfl
 | k+1=>by
  rw[bU,List.length_flatMap,afr,← cO k]
  generalize bU k=l
  induction l with
  | nil=>rfl
  | cons a l ih=>rw[adQ,List.sum_cons,ih,adL];show 2+l.length*2=(l.length+1)*2;omega
end L2
namespace Gen
open PySem L2
theorem Ej{n:Nat}(h:n<=8):2 ^ n<=256:=aeo (by decide) h
abbrev sq:Stmt:=top 26
def kz(H:Hp)(ts:List Addr) (bs:List (List Int)):Prop:=Paired (λt b=>H t=some (.tup (b.map V.int))) ts bs
theorem kz.same{H H':Hp}{ts:List Addr}{bs:List (List Int)}(h:kz H ts bs) (s:ak H H'):kz H' ts bs:=Paired.cM h λt b e=>s _ _ e
def nK(K:W.Frag)(H:Hp)(ts:List Addr) (bs:List (List Int)):Prop:=Paired (λt b=>aS K H t (b.map V.int)) ts bs
theorem kz.t{K:W.Frag}{H:Hp}{ts:List Addr}{bs:List (List Int)}(h:kz H ts bs):nK K H ts bs:=Paired.cM h λt b e=>aS.of e
theorem Ho{K:W.Frag}{H H':Hp}{a:Addr}{xs:List V}(e:ak H H')(h:aS K H a xs):aS K H' a xs:=by
 rcases h with (h|⟨o,h⟩)|h
 . exact .inl (.inl (e a _ h))
 . exact .inl (.inr ⟨o,e a _ h⟩)
 . exact .inr h
theorem nK.same{K:W.Frag}{H H':Hp}{ts:List Addr}{bs:List (List Int)}(h:nK K H ts bs) (s:ak H H'):nK K H' ts bs:=Paired.cM h λt b e=>Ho s e
def Ax(K:W.Frag):Sp:=λvs H Q _=>∃(n:Nat),vs=[.int (n:Int)]/\n<=5/\∀p us H',ak H H'->H p=none->H' p=some (.lst (us.map V.ref))->nK K H' us (bU n)->Q (.ref p) H'
theorem Nf(r:List Int)(b:Int):(r.map V.int++[V.int b])=(r++[b]).map V.int:=by rw[adp];rfl
theorem Hq{K:W.Frag}{b:Int}{D p:Addr}{Q:Hp->Prop}{H1:Hp}{ts:List Addr}{bs:List (List Int)}(hD:H1 D=none) (hp:H1 p=some (.lst (ts.map V.ref))) (h2:kz H1 ts bs) (hlen:bs.length<=256) (hk:∀r∈bs,r.length<=8)
 (fin:∀H4 ws,ak H1 H4->H4 D=some (.lst (ws.map V.ref))->kz H4 ws (bs.map (· ++ [b]))->Q H4) :
 ∃W:Nat->Nat->St->Hp->Prop,(∃m,W 0 m [none] (upd H1 D (.lst [])))/\wX D (fg 0) nY (wJ (yk K) (iL 0) (Il (ju (tC (.int b)) vR))) (uv K p) W Q:=by
 have hl:=h2.length
 refine fQ bs.length (λj acc bY H4=>(∃ws:List Addr,acc=ws.map V.ref/\kz H4 ws ((bs.take j).map (· ++ [b]))/\ws.length=j)/\(∃u,bY=[u])/\ak H1 H4) ⟨⟨[],rfl,.nil,rfl⟩,⟨none,rfl⟩,ak.ax hD⟩ af ?_ ?_
 . rintro acc bY H4 cQ ⟨⟨ws,rfl,Ay,_⟩,_,s4⟩
   rw[ad5]at Ay
   exact⟨⟨_,aw.of (s4 _ _ hp),by rw[abc,hl];exact adn _⟩,fin H4 ws s4 cQ Ay⟩
 . rintro j acc bY H4 hj cQ ⟨⟨ws,rfl,Ay,sM⟩,⟨u,rfl⟩,s4⟩
   have XG:bs[j]?=some bs[j]:=adj hj
   obtain⟨t,ht,hT⟩:=cH h2 (i:=j) XG
   have ej:(ts.map V.ref)[j]?=some (.ref t):=by rw[ado,ht];rfl
   refine⟨⟨_,_,aw.of (s4 _ _ hp),ej⟩,?_⟩
   rintro x' H' ⟨rfl,ib⟩
   have ex:=ib _ (aw.of (s4 _ _ hp))
   rw[ej]at ex
   cases ex
   refine dv ?_
   have Fp:(bs.take (j+1)).map (· ++ [b])=(bs.take j).map (· ++ [b])++[bs[j]++[b]]:=by
    rw[aen,XG,adp]
    rfl
   have Gb:=hk _ (aee hj)
   generalize bs[j]=r at hT Fp Gb
   have P8:∀(R:Addr) (J:Hp),ak H' J->J R=some (.tup ((r++[b]).map V.int))->∃acc,J D=some (.lst acc)/\acc.length<sizeLine/\∃m',m'<bs.length-j/\FR D bs.length (λj acc bY H4=>(∃ws:List Addr,acc=ws.map V.ref/\kz H4 ws ((bs.take j).map (· ++ [b]))/\ws.length=j)/\(∃u,bY=[u])/\ak H1 H4) (j+1) m' [some (.ref t)] (upd J D (.lst (acc++[.ref R]))):=by
    intro R J sJ hR
    have XH:=sJ _ _ cQ
    have nt:∀{b:Addr}{o:List V},J b=some (.tup o)->b≠D:=λhb e=>by rw[e,XH]at hb;cases hb
    refine⟨_,XH,(by rw[abc];exact small (by omega)),cP hj af ⟨⟨ws++[R],by rw[adp];rfl,?_,by rw[adm,ad2,sM]⟩,⟨_,rfl⟩,?_⟩⟩
    . rw[Fp]
      refine agJ (Paired.cM Ay λc d e=>?_) ?_
      . have:=sJ _ _ e
        rw[ah (nt this)]
        exact this
      . rw[ah (nt hR)]
        exact hR
    . intro y o hy
      rw[ah (ae hy hD)]
      exact sJ _ _ (s4 _ _ hy)
   refine⟨_,rfl,(by show 1<=sizeLine;decide),λT1 hT1=>?_⟩
   have z1:ak H' (upd H' T1 (.tup [.int b])):=ak.ax hT1
   have z2:(upd H' T1 (.tup [.int b])) T1=some (.tup [.int b]):=af
   generalize upd H' T1 (.tup [.int b])=J3 at z1 z2 ⊢
   refine⟨t,T1,_,_,rfl,rfl,aS.of (z1 _ _ (s4 _ _ hT)),aS.of z2,(by simp),?_,λe=>?_,λ_ R hR=>?_⟩
   . rw[abc]
     exact mG (by show r.length+1<=1000;omega)
   . have:r=[]:=List.map_eq_nil_iff.mp e
     subst this
     exact P8 T1 J3 z1 z2
   . exact P8 R _ (z1.trans (ak.ax hR)) (by rw[af,Nf])
section
variable {P:Program}{w:World}{K:W.Frag}{mg:Str->Option Value}{base:Heap}
theorem Hr{H H':Hp}{D:Addr}(s:ak H H')(h:H' D=none):H D=none:=by
 cases e:H D with
 | none=>rfl
 | some o=>rw[s _ _ e]at h;cases h
theorem Ek:aQ ["_law_many", "_law_found", "_law_k"] ["_law_many"] (ar sq):=⟨rfl,rfl,rfl,by decide+kernel,rfl,by decide+kernel,by decide+kernel⟩
theorem BB{f:Addr}{fd:FuncData}(F:b0 K "_law_all_bits" "_law_all_bits" sq f fd)(O:Own mg)(hS:mg "sorted" = none):ay P w K mg base aC 1 f fd ["_law_many"] (Ax K):=by
 refine F.ok Ek (λvs H Q E h=>?_) (λcdv A outer s H vs Q E hr h=>?_)
 . obtain⟨k,rfl,_⟩:=h
   rfl
 . obtain⟨n,rfl,n8,kk⟩:=h
   refine⟨_,ai (aD (i:=1) Ek.nd rfl (Or.inl rfl) (cK (aa (eE ag) ag)))
    (ai (dJ ad6 rfl (cW rfl O.range (aa (pv 0) ag)) (aH (i:=2) Ek.nd rfl (Or.inl rfl))
     (av (aD (i:=1) Ek.nd rfl (Or.inl rfl) (aT kX
      (eG (N:=["_law_one"]) (js:=[none]) (by kernel_rfl) rfl (c8 (pv 1)) (λ_ _ _ _ _ _=>aH (i:=0) Ks rfl (Or.inl rfl) (.inr rfl)) (λ_ _ _ _ _ _=>bQ) (λ_ _ _ _ _ _=>aT (r:=yk K) Cu (pv 0) (eE (aa ao ag))))
      (eG (N:=["_law_one"]) (js:=[none]) (by kernel_rfl) rfl (c8 (pv 1)) (λ_ _ _ _ _ _=>aH (i:=0) Ks rfl (Or.inl rfl) (.inr rfl)) (λ_ _ _ _ _ _=>bQ) (λ_ _ _ _ _ _=>aT (r:=yk K) Cu (pv 0) (eE (aa ao ag))))))))
    (av (aN (bz Aw (by rfl) hS PyProof.Rows.boot_sorted (aa (pv 1) ag))))),?_⟩
   refine⟨(by show 0<=sizeLine;decide),λe he=>?_⟩
   have t0:ak H (upd H e (.tup [])):=ak.ax he
   have q0:(upd H e (.tup [])) e=some (.tup (([]:List Int).map V.int)):=af
   generalize upd H e (.tup [])=H0 at t0 q0 ⊢
   refine⟨(by show 1<=sizeLine;decide),λp0 zp=>?_⟩
   have t1:ak H0 (upd H0 p0 (.lst [.ref e])):=ak.ax zp
   have q1:(upd H0 p0 (.lst [.ref e])) p0=some (.lst ([e].map V.ref)):=af
   generalize upd H0 p0 (.lst [.ref e])=H1 at t1 q1 ⊢
   have t01:=t0.trans t1
   refine⟨_,rfl,_,rfl,ahO (by decide : -(2 ^ 62)<=(0:Int)) (by omega),agq (by omega:((n:Nat):Int)<=256) (by decide),gj (n:=((n:Int)).toNat) (λi σ Hi=>∃(p:Addr) (ts:List Addr) (v2:Option V),σ=[some (.int (n:Int)),some (.ref p),v2]/\Hi p=some (.lst (ts.map V.ref))/\kz Hi ts (dG i)/\ak H Hi) ?_ ?_ ?_⟩
   . exact⟨p0,[e],none,rfl,q1,.cons (t1 _ _ q0) .nil,t01⟩
   . rintro i σ Hi hi ⟨p,ts,v2,rfl,hp,je,si⟩
     rw[ael]at hi
     have sQ:(dG i).length<=256:=by
      rw[mZ]
      exact Ej (by omega)
     have lD:∀r∈dG i,r.length<=8:=λr G4=>by rw[xI i r G4];omega
     refine⟨_,rfl,p,rfl,⟨_,aw.of hp⟩,λD hD=>Hq hD hp je sQ lD λH2 ws s2 qL Kn=>?_⟩
     refine⟨_,rfl,p,rfl,⟨_,aw.of (s2 _ _ hp)⟩,λD' hD'=>Hq hD' (s2 _ _ hp) (je.same s2) sQ lD λH3 ws' s3 xa Ko=>?_⟩
     have l1:=Kn.length
     have l2:=Ko.length
     rw[abc]at l1 l2
     refine⟨D,D',_,_,rfl,rfl,s3 _ _ qL,xa,(by rw[abc,abc];exact mG (by omega)),λR hR=>⟨R,ws++ws',_,rfl,?_,?_,?_⟩⟩
     . rw[af,adp]
     . rw[dG]
       exact dc (Paired.cM Kn λt b e=>by have:=s3 _ _ e;rw[ah (ae this hR)];exact this) (Paired.cM Ko λt b e=>by rw[ah (ae e hR)];exact e)
     . exact si.trans (s2.trans (s3.trans (ak.ax hR)))
   . rintro σ Hi ⟨p,ts,v2,rfl,hp,je,si⟩
     rw[ael]at je
     refine⟨_,rfl,p,ts,n,rfl,aw.of hp,je.t,n8,λD K5 hD Z3=>?_⟩
     exact kk D K5 _ (si.trans (ak.ax hD)) (Hr si hD) af (nK.same Z3 (ak.ax hD))
end
def bI(b:Bool):Int:=if b=true then 1 else 0
def rowOf(e:Str->Bool)(names:List Str):List Int:=names.map λn=>bI (e n)
theorem j9:∀k,bU (k+1)=(bU k).map (0 :: ·)++(bU k).map (1 :: ·)
 | 0=>rfl
 | k+1=>by
  have dist:∀(x:Int) (l:List (List Int)),(l.map (x :: ·)).flatMap (λr=>[r++[(0:Int)],r++[1]])=(l.flatMap λr=>[r++[(0:Int)],r++[1]]).map (x :: ·):=λx l=>by
   induction l with
   | nil=>rfl
   | cons a l ih=>rw[adQ,ahM,ih,ahM,adp];rfl
  have h:=j9 k
  rw[show bU (k+1+1)=(bU (k+1)).flatMap λr=>[r++[0],r++[1]] from rfl,h,List.flatMap_append,dist,dist,← h]
  rfl
theorem Az{k t:Nat}(h:t<2 ^ k):(bU (k+1))[t]?=((bU k)[t]?).map (0 :: ·):=by
 rw[j9,aeI (by rw[abc,cO];exact h),ado]
theorem AA{k t:Nat}(h:¬ t<2 ^ k):(bU (k+1))[t]?=((bU k)[t-2 ^ k]?).map (1 :: ·):=by
 rw[j9,aeD (by rw[abc,cO];omega),abc,cO,ado]
theorem vq(e:Str->Bool):∀(names:List Str) (bs:List Bool) (t:Nat),bs.length=2 ^ names.length->(bU names.length)[t]?=some (rowOf e names)->ev e (cn names bs)=bs.getD t false
 | [],bs,t,h1,h2=>by
  match bs,h1 with
  | [b],_=>
   have:t<1:=(adt.mp h2).1
   have:t=0:=by omega
   subst this
   rfl
 | n::r,bs,t,h1,h2=>by
  rw[adL]at h1 h2
  have hp:=Ap r.length
  have hq:=afr 2 r.length
  have lt:=(adt.mp h2).1
  rw[cO]at lt
  rw[To,h1,hp]
  by_cases q:t<2 ^ r.length
  . rw[Az q,afO]at h2
    obtain⟨x,hx,e1⟩:=h2
    have e2:=afK e1
    have en:e n=false:=by
     cases h:e n
     . rfl
     . have:=e2.1
       rw[show (λn=>bI (e n)) n=1 by show bI (e n)=1;rw[h];rfl]at this
       cases this
    rw[en,adw (by decide),vq e r _ t (by rw[adU];omega) (by rw[hx,e2.2];rfl),adA,adA,agx q]
  . rw[AA q,afO]at h2
    obtain⟨x,hx,e1⟩:=h2
    have e2:=afK e1
    have en:e n=true:=by
     cases h:e n
     . have:=e2.1
       rw[show (λn=>bI (e n)) n=0 by show bI (e n)=0;rw[h];rfl]at this
       cases this
     . rfl
    rw[en,adM rfl,vq e r _ (t-2 ^ r.length) (by rw[aeM];omega) (by rw[hx,e2.2];rfl),adA,adA,afL,show 2 ^ r.length+(t-2 ^ r.length)=t by omega]
theorem AB(e:Str->Bool):∀(names:List Str),∃t,t<2 ^ names.length/\(bU names.length)[t]?=some (rowOf e names)
 | []=>⟨0,by decide,rfl⟩
 | n::r=>by
  obtain⟨t,h1,h2⟩:=AB e r
  rw[adL]
  have hq:=afr 2 r.length
  cases h:e n
  . refine⟨t,by omega,?_⟩
    rw[Az h1,h2]
    show some (0::rowOf e r)=some (bI (e n)::rowOf e r)
    rw[h]
    rfl
  . refine⟨2 ^ r.length+t,by omega,?_⟩
    rw[AA (by omega),Nat.add_sub_cancel_left,h2]
    show some (1::rowOf e r)=some (bI (e n)::rowOf e r)
    rw[h]
    rfl
theorem i9:∀(k:Nat),∀r∈bU k,r.length=k/\∀x∈r,x=0\/x=1
 | 0,r,h=>by
  rw[show r=[] from adJ.mp h]
  exact⟨rfl,λ_ h=>nomatch h⟩
 | k+1,r,h=>by
  rw[j9]at h
  rcases adu.mp h with h|h
  . obtain⟨q,hq,rfl⟩:=ads.mp h
    obtain⟨l,b⟩:=i9 k q hq
    exact⟨by rw[adL,l],λx hx=>by rcases adq.mp hx with rfl|hx;exact .inl rfl;exact b x hx⟩
  . obtain⟨q,hq,rfl⟩:=ads.mp h
    obtain⟨l,b⟩:=i9 k q hq
    exact⟨by rw[adL,l],λx hx=>by rcases adq.mp hx with rfl|hx;exact .inr rfl;exact b x hx⟩
def eX(l:List (Str×Str)) (n:Str):Str:=((l.find? λr=>decide (r.1=n)).map (·.2)).getD n
theorem AD(n:Str):∀l:List (Str×Str),(aI (cR l) (.inr n)).getD (.str n)=.str (eX l n)
 | []=>rfl
 | r::l=>by
  by_cases e:r.1=n
  . have h1:aI (cR (r::l)) (.inr n)=some (.str r.2):=cD (p:=((.inr r.1:Key),V.str r.2)) (by rw[e])
    rw[h1,eX,aeE (by simpa using e)]
    rfl
  . have h1:aI (cR (r::l)) (.inr n)=aI (cR l) (.inr n):=cy (p:=((.inr r.1:Key),V.str r.2)) (λq=>e (aer q))
    rw[h1,AD n l,eX,eX,aeW (by simpa using e)]
def fZ(M:aR)(bs cs:List Int):List Int:=M.keepers.map λr=>dZ (cX M bs cs M.gates.length) (eX M.nexts r.1)
section
variable {M:aR}{names:List Str}{bs cs:List Int}
theorem kZ.keys(h:kZ M names bs cs):(cX M bs cs M.gates.length).map (·.1)=names:=by rw[jg h.l1 h.l2,ad5,h.ok.all]
theorem kZ.next(h:kZ M names bs cs){r:Str×V}(hr:r∈M.keepers):pI (cX M bs cs M.gates.length) (eX M.nexts r.1):=by
 have hk:=h.keys
 unfold eX
 cases e:M.nexts.find? λq=>decide (q.1=r.1) with
 | none=>
  have hm:r.1∈names:=by rw[h.ok.all];exact adT _ (adF _ (ads.mpr ⟨r,hr,rfl⟩))
  exact .inr (.inr (.inl ⟨h.ok.nm _ hm,by rw[hk];exact hm⟩))
 | some q=>exact(h.ok.nxl q (ae1 e)).Pm h.ok.nm λx hx=>by rw[hk];exact hx
theorem rn:(fZ M bs cs).length=M.keepers.length:=by unfold fZ;rw[abc]
theorem kZ.xP(h:kZ M names bs cs):∀b∈fZ M bs cs,b=0\/b=1:=λb hb=>by
 obtain⟨r,_,rfl⟩:=ads.mp hb
 exact i6 (rf h.b1 h.b2 _) _
end
structure Fm(M:aR) (names:List Str):Prop where
 ok:dj M names
 n1:M.switches.length<=12
 n2:M.keepers.length<=16
 n3:M.gates.length<=60
def K6(n:Nat)(bs:List Int):Prop:=n=bs.length/\∀b∈bs,b=0\/b=1
theorem Fm.fit{M:aR}{names:List Str}{bs cs:List Int}(h:Fm M names)(hb:K6 M.switches.length bs)(hc:K6 M.keepers.length cs):kZ M names bs cs:=⟨h.ok,hb.1,hc.1,hb.2,hc.2,h.n1,h.n2,h.n3⟩
theorem vt{a b:List (Str×Int)}{n:Str}(h:n∈a.map (·.1)):cT (a++b) n=cT a n:=by
 unfold cT
 rw[ahN]
 cases e:a.find? λr=>decide (r.1=n) with
 | some r=>rfl
 | none=>
  obtain⟨r,hr,he⟩:=ads.mp h
  have:=afM.mp e r hr
  exact absurd (ad3 he) (by simpa using this)
theorem sZ{a b:List (Str×Int)}{n:Str}(h:n∉a.map (·.1)):cT (a++b) n=cT b n:=by
 unfold cT
 rw[ahN]
 have e:(a.find? λr=>decide (r.1=n))=none:=afM.mpr λr hr=>by
  simp only[ad4]
  intro q
  exact h (ads.mpr ⟨r,hr,q⟩)
 rw[e]
 rfl
theorem lT:∀(gs:List (Str×Str×Str)) (acc:List (Str×Int)) (n:Str),n∈acc.map (·.1)->cT (gs.foldl eU acc) n=cT acc n
 | [],_,_,_=>rfl
 | g::gs,acc,n,h=>by
  rw[afI,lT gs (eU acc g) n (by unfold eU;rw[adp];exact adT _ h)]
  exact vt h
end Gen
namespace L2
open PySem PySem.Spec PyProof.Rows
def Hs(K:W.Frag)(a:Addr)(xs:List V):It:=⟨λi H=>aw K H a xs/\i<xs.length,λi H x H'=>H'=H/\xs.reverse[i]?=some x,λi H=>i=xs.length⟩
theorem Jl{P:Program}{w:World}{K:W.Frag}{tg:Expr}{xs:List V}(a it:Addr):Turn P w K tg (Hs K a xs) [it] it (λi h=>i<=xs.length/\h.IsRevIter it a ((xs.length:Int)-1-(i:Int))) where
 mem:=by simp
 obj:=λi h st b hb=>by
  have e:b=it:=by simpa using hb
  subst e
  obtain⟨_,o,e,c,d⟩:=st
  exact⟨o,e,λv z=>by rw[d]at z;cases z⟩
 keep:=λi h h' st k=>⟨st.1,st.2.at λo e=>k it (by simp) o e⟩
 item:=by
  intro X hP hw hK hc i pins s σ H E I hf st hg
  subst hP hw hK
  obtain⟨hq,hi⟩:=hg
  obtain⟨its,rv,p,hz⟩:=I.list hq
  have hl:=rv.length
  have hx:xs[xs.length-1-i]?=some (xs[xs.length-1-i]'(by omega)):=adj (by omega)
  obtain⟨u,hu,ru⟩:=rv.get hx
  obtain⟨f0,f1,f2,f3,f4,f5⟩:=hf it (by simp)
  have hit:=st.2
  have e:(xs.length:Int)-1-(i:Int)=((xs.length-1-i:Nat):Int):=by omega
  rw[e]at hit
  refine wpAny_pyNext_rev_item hit p.isList (x:=u) (by simpa using hu) λh' cj sb=>?_
  have I1:Inv X pins σ H {s with heap:=h'}:=I.turned (t':=s.toks) (λb o hb e=>(sb.2 b hb).trans e) f0 f1 f3 f4 f5
  obtain⟨o,e1,c,d⟩:=id cj
  have e2:((xs.length-1-i:Nat):Int)-1=(xs.length:Int)-1-((i+1:Nat):Int):=by omega
  rw[e2]at cj
  refine⟨u,rfl,uu (s:={s with heap:=h'}) e1 c d (by decide) ⟨_,H,I1,ru,⟨rfl,?_⟩,⟨hi,cj⟩,λb hb=>(hf b hb).1⟩⟩
  rw[ahi (by omega)]
  exact hx
 done:=by
  intro X hP hw hK hc i pins s σ H E I hf st hg
  subst hP hw hK
  obtain⟨f0,f1,f2,f3,f4,f5⟩:=hf it (by simp)
  have hit:=st.2
  have hi:i=xs.length:=hg
  have e:(xs.length:Int)-1-(i:Int) = -1:=by omega
  rw[e]at hit
  exact wpAny_pyNext_rev_end (I.ok.hd hc) hit λh' eb=>⟨rfl,I.turned (t':=s.toks) (λb o hb e=>eb b o hb e) f0 f1 f3 f4 f5⟩
 self:=λ_ _ _ _ _ st h=>wpAny_pyIter_revIter st.2 h
section
variable {X:Cx}{tg:Expr}
def Tt(K:W.Frag)(ta:TA):TI:=λσ H R=>ta σ H λvs H1=>∃a xs,vs=[.ref a]/\aw K H1 a xs/\R (Hs K a xs) H1
theorem P9{a:Expr}{ta:TA}{p pos:Pos}(hg:Gl X "reversed")(hm:X.mg "reversed" = none)(ha:PA X [a] ta) (hs:starEach [a] X.env=[(false,eval a X.env)]:=by rfl) :
 PI X tg (.Call (.Name "reversed" p) [a] [] pos) (Tt X.K ta):=by
 intro pins s σ H R I h
 refine Call_ (mn I hg hm PyProof.Rows.boot_reversed (aez (aP (ha pos pins s σ H _ I h) λus s1 ⟨vs,H1,I1,r1,q1⟩=>?_) hs rfl))
 obtain⟨l,xs,e,hq,q⟩:=q1
 subst e
 cases r1 with
 | cons r rr=>
  cases rr
  cases r
  obtain⟨its,rv,pl,hz⟩:=I1.list hq
  have hl:=rv.length
  refine call_reversed_list pl.isList ?_
  have hit:(s1.heap.push (revObj l ((its.toArray.size:Int)-1))).IsRevIter s1.heap.objs.size l ((xs.length:Int)-1-((0:Nat):Int)):=⟨_,adP _ rfl,rfl,by simp[revObj,hl]⟩
  refine wpAny_pyIter_revIter hit ?_
  refine⟨s1.heap.objs.size,[s1.heap.objs.size],_,_,H1,rfl,I1.kept (t':=s1.toks) λb o e=>adl _ e,Jl (xs:=xs) l _,⟨adW _,hit⟩,λb hb=>?_,q⟩
  have e:b=s1.heap.objs.size:=by simpa using hb
  subst e
  exact I1.tH (adn _) (I1.hok.fresh (adn _))
end
theorem Ng{K:W.Frag}{a:Addr}{xs:List V}{g:TG}{tb:TS}{D:Ends}{σ:St}{H:Hp}(Pv:Nat->St->Hp->Prop)(h0:Pv 0 σ H)(hl:∀i σ H,i<=xs.length->Pv i σ H->aw K H a xs)
 (hs:∀i x σ H,xs.reverse[i]?=some x->Pv i σ H->g x σ H λia H2=>tb {D with nx:=Pv (i+1),ct:=Pv (i+1),bk:=D.nx} ia H2) (hd:∀σ H,Pv xs.length σ H->D.nx σ H) :
 ∃W:Nat->Nat->St->Hp->Prop,(∃m,W 0 m σ H)/\∀i m σ H,W i m σ H->
  ((Hs K a xs).stop i H/\D.nx σ H)\/((Hs K a xs).go i H/\∃N:St->Hp->Prop,(∀bY H',N bY H'->∃m',m'<m/\W (i+1) m' bY H')/\∀x H',(Hs K a xs).yld i H x H'->g x σ H' λia H2=>tb {D with nx:=N,ct:=N,bk:=D.nx} ia H2):=by
 refine⟨λi m σ H=>m=xs.length-i/\i<=xs.length/\Pv i σ H,⟨xs.length,by simp,adW _,h0⟩,?_⟩
 rintro i m σ H ⟨rfl,hi,p⟩
 have q:=hl i σ H hi p
 by_cases eN:i<xs.length
 . refine .inr ⟨⟨q,eN⟩,Pv (i+1),λbY H' p'=>⟨xs.length-(i+1),by omega,rfl,eN,p'⟩,λx H' y=>?_⟩
   obtain⟨e,y⟩:=y
   subst e
   exact hs i x σ _ y p
 . have e:i=xs.length:=by omega
   subst e
   exact .inl ⟨rfl,hd σ H p⟩
end L2
namespace Gen
open PySem L2
structure MF(C:Addr) (H:Hp) (x dx g1 g2 g3 g4 g5 g6:Addr) (ts:List Addr) (M:aR):Prop where
 hx:H x=some (.ins C dx (lA g1 g2 g3 g4 g5 g6))
 h1:H g1=some (.lst (M.switches.map V.str))
 h2:H g2=some (.dK (M.keepers.map λr=>((.inr r.1:Key),r.2)))
 h3:H g3=some (.lst (ts.map V.ref))
 hp:Paired (λt r=>H t=some (.tup (mQ r))) ts M.gates
theorem MF.same{C:Addr}{H H':Hp}{x dx g1 g2 g3 g4 g5 g6:Addr}{ts:List Addr}{M:aR}(h:MF C H x dx g1 g2 g3 g4 g5 g6 ts M)(s:ak H H'):MF C H' x dx g1 g2 g3 g4 g5 g6 ts M:=
 ⟨s _ _ h.hx,s _ _ h.h1,s _ _ h.h2,s _ _ h.h3,Paired.cM h.hp λt r e=>s _ _ e⟩
theorem Jm{n:Str}{l:List (Str×V)}(h:n∉l.map (·.1)):aI (gq l) (.inr n)=none:=by
 have:=pG n l
 rw[adS h]at this
 cases e:aI (gq l) (.inr n) with
 | none=>rfl
 | some v=>rw[e]at this;cases this
theorem rp:∀(l:List (Str×V)) (acc:List (Str×V)),((acc++l).map (·.1)).Nodup->bG (gq acc) (gq l)=gq (acc++l)
 | [],acc,_=>by rw[afk];rfl
 | r::l,acc,h=>by
  have e:acc++r::l=(acc++[r])++l:=by simp
  have hn:r.1∉acc.map (·.1):=λhm=>by
   rw[adp]at h
   exact(adK.mp h).2.2 _ hm _ (by simp) rfl
  have h1:putK (gq acc) (.inr r.1) r.2=gq (acc++[r]):=by
   rw[gw _ (Jm hn)]
   unfold gq
   rw[adp]
   rfl
  show bG (putK (gq acc) (.inr r.1) r.2) (gq l)=_
  rw[h1,e]
  exact rp l (acc++[r]) (by rw[← e];exact h)
theorem rq{l:List (Str×Str)}(h:(l.map (·.1)).Nodup):bG [] (cR l)=cR l:=by
 rw[KL]
 exact rp _ [] (by rw[afo,aeC];exact h)
theorem pP{α β γ δ:Type} {F:α->γ->Prop}{F':α->δ->Prop}{g:β->γ}{h:β->δ} : ∀{ts:List α}{l:List β},Paired F ts (l.map g)->(∀t x,F t (g x)->F' t (h x))->Paired F' ts (l.map h)
 | [],[],_,_=>.nil
 | t::ts,x::l,.cons r p,k=>.cons (k t x r) (pP p k)
theorem sr{H:Hp}{a:Addr}{α:Type}{l:List α}{g:α->List V}{h:α->Key×V}(e:∀x,g x=[kV (h x).1,(h x).2]) (t:bu H a (l.map g)):∃ts:List Addr,H a=some (.lst (ts.map V.ref))/\Paired (λt kv=>H t=some (.tup [kV kv.1,kv.2])) ts (l.map h):=by
 obtain⟨ts,h1,h2⟩:=t
 exact⟨ts,h1,pP h2 λt x hx=>by rw[← e x];exact hx⟩
theorem nh{α β γ:Type} {F:α->β->Prop}{g:γ->β} : ∀{us:List α}{l:List γ},Paired F us (l.map g)->Paired (λt r=>F t (g r)) us l
 | [],[],_=>.nil
 | _::_,_::_,.cons h t=>.cons h (nh t)
 | _::_,[],h=>nomatch h
 | [],_::_,h=>nomatch h
def vE(M:aR)(e:Str->Bool):List (Str×Int):=cX M (rowOf e M.switches) (rowOf e (M.keepers.map (·.1))) M.gates.length
def dz(M:aR)(e:Str->Bool)(n:Str):Bool:=decide (dZ (vE M e) n=1)
theorem pQ(e:Str->Bool)(l:List Str):∀b∈rowOf e l,b=0\/b=1:=λb hb=>by
 unfold rowOf at hb
 obtain⟨n,_,rfl⟩:=ads.mp hb
 unfold bI
 cases e n
 . exact .inl rfl
 . exact .inr rfl
theorem su(M:aR)(e:Str->Bool):qY (vE M e):=rf (pQ e _) (pQ e _) _
theorem wu(M:aR)(e:Str->Bool)(i:Nat):(cX M (rowOf e M.switches) (rowOf e (M.keepers.map (·.1))) i).map (·.1)=M.switches++M.keepers.map (·.1)++(M.gates.take i).map (·.1):=jg (by unfold rowOf;rw[abc]) (by unfold rowOf;rw[abc,abc]) i
theorem rE(e:Str->Bool):∀{l:List Str}{n:Str},n∈l->cT (l.zip (rowOf e l)) n=bI (e n)
 | [],_,h=>nomatch h
 | x::l,n,h=>by
  by_cases q:x=n
  . subst q
    show cT ((x,bI (e x))::l.zip (rowOf e l)) x=_
    unfold cT
    rw[aeE (by simp)]
    rfl
  . have h':n∈l:=by
     rcases adq.mp h with z|z
     . exact absurd z.symm q
     . exact z
    have ih:=rE e h'
    show cT ((x,bI (e x))::l.zip (rowOf e l)) n=_
    unfold cT at ih ⊢
    rw[aeW (by simpa using q)]
    exact ih
theorem CQ(b:Bool):decide (bI b=1)=b:=by cases b <;> decide
theorem Qa(M:aR)(e:Str->Bool):dz M e "0" = false:=by unfold dz;rw[vd];decide
theorem Qb(M:aR)(e:Str->Bool):dz M e "1" = true:=by unfold dz;rw[ve];decide
section
variable {M:aR}{names:List Str}
theorem lr(ok:dj M names):(M.switches++M.keepers.map (·.1)++M.gates.map (·.1)).Nodup:=ok.all ▸ ok.nd
theorem Ht(ok:dj M names)(e:Str->Bool){n:Str}(h:n∈M.keepers.map (·.1)++M.switches):dz M e n=e n:=by
 have hn:n∈M.switches++M.keepers.map (·.1):=by
  rcases adu.mp h with h|h
  . exact adF _ h
  . exact adT _ h
 have hN:bg n:=ok.nm n (by rw[ok.all];exact adT _ hn)
 unfold dz vE cX
 rw[jf hN,lT _ _ _ (by
  unfold vf
  rw[adp,fq (by simp[rowOf]),fq (by simp[rowOf])]
  exact hn)]
 unfold vf
 by_cases hs:n∈M.switches
 . rw[vt (by rw[fq (by simp[rowOf])];exact hs),rE e hs,CQ]
 . have hk:n∈M.keepers.map (·.1):=by
    rcases adu.mp hn with z|z
    . exact absurd z hs
    . exact z
   rw[sZ (by rw[fq (by simp[rowOf])];exact hs),rE e hk,CQ]
theorem El(e:Str->Bool)(x:Str)(hx:bg x):dz M e ("~" ++ x) = !dz M e x:=by
 unfold dz
 rw[lR,jf hx]
 rcases qZ (su M e) x with h|h <;> rw[h] <;> decide
theorem vw(e:Str->Bool){i:Nat}{z:Str}(hz:Lit (M.switches++M.keepers.map (·.1)++(M.gates.take i).map (·.1)) z) (ok:dj M names):dZ (cX M (rowOf e M.switches) (rowOf e (M.keepers.map (·.1))) i) z=dZ (vE M e) z:=by
 have key:∀x∈M.switches++M.keepers.map (·.1)++(M.gates.take i).map (·.1),cT (vE M e) x=cT (cX M (rowOf e M.switches) (rowOf e (M.keepers.map (·.1))) i) x:=λx hx=>by
  have es:vE M e=(M.gates.drop i).foldl eU (cX M (rowOf e M.switches) (rowOf e (M.keepers.map (·.1))) i):=by
   unfold vE cX
   rw[ad5,← agE,aew]
  rw[es]
  exact lT _ _ _ (by rw[wu];exact hx)
 have nm:∀x∈M.switches++M.keepers.map (·.1)++(M.gates.take i).map (·.1),bg x:=λx hx=>ok.nm x (by
  rw[ok.all]
  rcases adu.mp hx with h|h
  . exact adT _ h
  . obtain⟨g,hg,rfl⟩:=ads.mp h
    exact adF _ (ads.mpr ⟨g,aet hg,rfl⟩))
 rcases hz with rfl|rfl|⟨x,hx,rfl|rfl⟩
 . rw[vd,vd]
 . rw[ve,ve]
 . rw[jf (nm _ hx),jf (nm _ hx),key _ hx]
 . rw[lR,lR,key _ hx]
theorem Hu(ok:dj M names)(e:Str->Bool){i:Nat}{g:Str×Str×Str}(hg:M.gates[i]?=some g):dz M e g.1=(dz M e g.2.1 && dz M e g.2.2):=by
 have hi:=(adt.mp hg).1
 have eg:M.gates[i]=g:=(adt.mp hg).2
 obtain⟨l1,l2⟩:=ok.gl i g hg
 have hN:bg g.1:=ok.nm _ (by rw[ok.all];exact adF _ (ads.mpr ⟨g,adX hg,rfl⟩))
 have hn:g.1∉(cX M (rowOf e M.switches) (rowOf e (M.keepers.map (·.1))) i).map (·.1):=by
  rw[wu]
  have:=lr ok
  intro hm
  have e2:M.gates.map (·.1)=(M.gates.take i).map (·.1)++g.1::(M.gates.drop (i+1)).map (·.1):=by
   rw[← eg,← adQ (f:=(·.1)) (a:=M.gates[i]),← aeJ hi,← adp,aew]
  rw[e2,← aeg]at this
  exact(adK.mp this).2.2 _ hm _ adB rfl
 have ex:dZ (vE M e) g.1=dZ (vE M e) g.2.1*dZ (vE M e) g.2.2:=by
  have es:vE M e=(M.gates.drop (i+1)).foldl eU (cX M (rowOf e M.switches) (rowOf e (M.keepers.map (·.1))) (i+1)):=by
   unfold vE cX
   rw[ad5,← agE,aew]
  rw[jf hN]
  conv=>lhs;rw[es]
  rw[lT _ _ _ (by rw[wu];exact adF _ (ads.mpr ⟨g,by rw[← eg];exact agu.mpr ⟨i,by omega,rfl⟩,rfl⟩)),xE hi,eg]
  unfold eU
  rw[sZ hn,vw e l1 ok,vw e l2 ok]
  unfold cT
  rw[aeE (by simp)]
  rfl
 unfold dz
 rw[ex]
 rcases i6 (su M e) g.2.1 with h|h <;> rcases i6 (su M e) g.2.2 with h'|h' <;> rw[h,h'] <;> decide
end
section
variable {P:Program}{w:World}{K:W.Frag}{mg:Str->Option Value}{base:Heap}
abbrev sv:Stmt:=top 5
def aU(z:Str):Str:=if z.cps.toList[0]?=some 126 then ⟨z.cps.toList.tail.toArray⟩ else z
def Hw:Sp:=λvs H Q _=>∃z:Str,vs=[.str z]/\z.length<=1000/\Q (.str (aU z)) H
theorem Qc:aQ ["literal"] ["literal"] (ar sv):=⟨rfl,rfl,rfl,by decide+kernel,rfl,by decide+kernel,by decide+kernel⟩
theorem Nh{f:Addr}{fd:FuncData}(F:b0 K "bare_name" "bare_name" sv f fd):ay P w K mg base aC 1 f fd ["literal"] Hw:=by
 refine F.ok Qc (λvs H Q E h=>?_) (λcdv A outer s H vs Q E hr h=>?_)
 . obtain⟨z,rfl,_⟩:=h
   rfl
 . obtain⟨z,rfl,hz,kk⟩:=h
   have zP:z.length<=sizeLine:=ady hz (by decide)
   refine⟨_,ai (cw (jl (eV afg agi agj xA (pv 0) (aa bp ag))) (av (aN (eR Cj (pv 0) (ff ao) gZ))) bf)
    (av (aN (pv 0))),?_⟩
   have tl:("~" : Str)=⟨#[126]⟩:=by decide+kernel
   refine⟨_,rfl,rfl,z, "~",rfl,rfl,_,rfl,?_⟩
   rw[tl,vb]
   refine iZ (λh=>?_) (λh2=>?_)
   . have e:z.cps.toList[0]?=some 126:=aef h
     refine⟨_,rfl,_,rfl,z,1,rfl,rfl,rfl,zP,?_⟩
     have ts:aU z=Txt.slice z (some 1) none:=by
      rw[aU,adM e,oK (Txt.slice z (some 1) none),vc]
     rw[← ts]
     exact kk
   . have e:¬ z.cps.toList[0]?=some 126:=λe=>h2 (ad3 e)
     rw[aU,adw e]at kk
     exact⟨_,rfl,kk⟩
end
theorem xQ{x:Str}(h:bg x):aU x=x:=adw (pH h)
theorem vx(x:Str):aU ("~" ++ x)=x:=by
 unfold aU
 rw[adM (by rw[iw];rfl),iw]
 exact(oK x).symm
theorem HA:aU "0" = "0":=by decide+kernel
theorem HB:aU "1" = "1":=by decide+kernel
theorem Jn:¬ ("0" : Str).cps.toList[0]?=some 126:=by decide+kernel
theorem Jo:¬ ("1" : Str).cps.toList[0]?=some 126:=by decide+kernel
theorem AE{names:List Str}{z:Str}(h:Lit names z)(hn:∀x∈names,bg x):aU z = "0" \/ aU z = "1" \/ aU z∈names:=by
 rcases h with rfl|rfl|⟨x,hx,rfl|rfl⟩
 . exact .inl HA
 . exact .inr (.inl HB)
 . rw[xQ (hn _ hx)]
   exact .inr (.inr hx)
 . rw[vx]
   exact .inr (.inr hx)
theorem HC{M:aR}{names:List Str}(e:Str->Bool){z:Str}(h:Lit names z)(hn:∀x∈names,bg x):dz M e z=if z.cps.toList[0]?=some 126 then !dz M e (aU z) else dz M e (aU z):=by
 rcases h with rfl|rfl|⟨x,hx,rfl|rfl⟩
 . rw[adw Jn,HA]
 . rw[adw Jo,HB]
 . rw[adw (pH (hn _ hx)),xQ (hn _ hx)]
 . rw[adM (by rw[iw];rfl),vx,El e x (hn _ hx)]
abbrev sy:Stmt:=inClass (top 9) 3
abbrev oQ:Stmt:=inClass (top 9) 4
structure ni(K:W.Frag) (mg:Str->Option Value) (C:Addr):Prop where
 cl:om K C
 n1:cA K C "machine"
 n2:cA K C "forest"
 n3:cA K C "planted"
 n4:cA K C "inputs"
 n5:cA K C "nexts"
 n6:cA K C "made_into"
 n7:cA K C "made_without"
 mgC:mg "Grove" = some (.ref C)
def dr(x y pl cJ nx mi mw:Addr):List (Str×V):=aq "made_without" (.ref mw) (aq "made_into" (.ref mi) (aq "nexts" (.ref nx) (aq "inputs" (.ref cJ) (aq "planted" (.ref pl) (aq "forest" (.ref y) (aq "machine" (.ref x) []))))))
section
variable (x y pl cJ nx mi mw:Addr)
theorem Jp:(dr x y pl cJ nx mi mw).lookup ("machine" : Str)=some (.ref x):=by
 unfold dr
 rw[aj,adw (by decide+kernel),aj,adw (by decide+kernel),aj,adw (by decide+kernel),aj,adw (by decide+kernel),aj,adw (by decide+kernel),aj,adw (by decide+kernel),aj,adM rfl]
theorem ud:(dr x y pl cJ nx mi mw).lookup ("forest" : Str)=some (.ref y):=by
 unfold dr
 rw[aj,adw (by decide+kernel),aj,adw (by decide+kernel),aj,adw (by decide+kernel),aj,adw (by decide+kernel),aj,adw (by decide+kernel),aj,adM rfl]
theorem AF:(dr x y pl cJ nx mi mw).lookup ("planted" : Str)=some (.ref pl):=by
 unfold dr
 rw[aj,adw (by decide+kernel),aj,adw (by decide+kernel),aj,adw (by decide+kernel),aj,adw (by decide+kernel),aj,adM rfl]
theorem Z4:(dr x y pl cJ nx mi mw).lookup ("inputs" : Str)=some (.ref cJ):=by
 unfold dr
 rw[aj,adw (by decide+kernel),aj,adw (by decide+kernel),aj,adw (by decide+kernel),aj,adM rfl]
theorem Jq:(dr x y pl cJ nx mi mw).lookup ("nexts" : Str)=some (.ref nx):=by
 unfold dr
 rw[aj,adw (by decide+kernel),aj,adw (by decide+kernel),aj,adM rfl]
theorem Z5:(dr x y pl cJ nx mi mw).lookup ("made_into" : Str)=some (.ref mi):=by
 unfold dr
 rw[aj,adw (by decide+kernel),aj,adM rfl]
theorem Z6:(dr x y pl cJ nx mi mw).lookup ("made_without" : Str)=some (.ref mw):=by
 unfold dr
 rw[aj,adM rfl]
theorem Z7{m:Str}(h1:m ≠ "machine")(h2:m ≠ "forest")(h3:m ≠ "planted")(h4:m ≠ "inputs")(h5:m ≠ "nexts")(h6:m ≠ "made_into")(h7:m ≠ "made_without"):(dr x y pl cJ nx mi mw).lookup m=none:=by
 unfold dr
 rw[aj,adw h7,aj,adw h6,aj,adw h5,aj,adw h4,aj,adw h3,aj,adw h2,aj,adw h1]
 rfl
end
structure GA where
 (g dg x dx f1 f2 f3 f4 f5 f6 y dy nm sp nd kn ch im ex pl cJ nx mi mw:Addr)
 ts:List Addr
structure GS where
 S:bq
 (PL NX MI MW:List (Key×V))
def GA.own(a:GA):List Addr:=[a.nd,a.kn,a.ch,a.im,a.ex,a.pl,a.nx,a.mi,a.mw]
def KG(H H':Hp)(a:GA):Prop:=∀b o,H b=some o->b∉a.own->H' b=some o
theorem KG.refl{H:Hp}{a:GA} : KG H H a:=λ_ _ h _=>h
theorem KG.trans{H H1 H2:Hp}{a:GA}(x:KG H H1 a)(y:KG H1 H2 a):KG H H2 a:=λb o h n=>y b o (x b o h n) n
theorem KG.of{H H':Hp}{a:GA}(k:Kp H H' a.nd a.kn a.ch a.im a.ex):KG H H' a:=λb o h n=>by
 simp only[GA.own,adq,adI,aec,af6]at n
 exact k b o h n.1 n.2.1 n.2.2.1 n.2.2.2.1 n.2.2.2.2.1
theorem KG.same{H H':Hp}{a:GA}(s:ak H H'):KG H H' a:=λb o h _=>s b o h
structure GB(s:GS) (b:Nat):Prop where
 bd:Bd s.S b
 b1:s.PL.length<=b
 b2:s.NX.length<=b
 b3:s.MI.length<=b
 b4:s.MW.length<=b
theorem GB.up{s:GS}{b c:Nat}(h:GB s b)(l:b<=c):GB s c:=⟨h.bd.up l,ady h.b1 l,ady h.b2 l,ady h.b3 l,ady h.b4 l⟩
def AG(l:List Str):List (Key×V):=l.map λz=>((.inr z:Key),V.bl true)
def ba(M:aR):List Str:=M.keepers.map (·.1)++M.switches
def ue(M:aR)(S:bq) (PL:List (Key×V)):Prop:=∀n v,aI PL (.inr n)=some v->∃i:Nat,v=.int (i:Int)/\i<S.N.length/\∀e,ev e (au S.TS i)=dz M e n
theorem ue.grow{M:aR}{S S':bq}{PL:List (Key×V)}(h:ue M S PL) (g:cz S S') (hl:S.N.length=S.TS.length):ue M S' PL:=λn v hv=>by
 obtain⟨i,e1,l,e2⟩:=h n v hv
 have:=g.le
 exact⟨i,e1,by omega,λe=>by rw[g.au (by omega)];exact e2 e⟩
structure GO(P:Program) (w:World) (CF CM CG:Addr) (H:Hp) (a:GA) (M:aR) (s:GS):Prop where
 hg:H a.g=some (.ins CG a.dg (dr a.x a.y a.pl a.cJ a.nx a.mi a.mw))
 fo:FO P w CF H a.y a.dy a.nm a.sp a.nd a.kn a.ch a.im a.ex (ba M) s.S
 mf:MF CM H a.x a.dx a.f1 a.f2 a.f3 a.f4 a.f5 a.f6 a.ts M
 h4:H a.f4=some (.dK (cR M.nexts))
 h5:H a.f5=some (.dK (cR M.nevers))
 hp:H a.pl=some (.dK s.PL)
 hin:H a.cJ=some (.dK (AG M.switches))
 hnx:H a.nx=some (.dK s.NX)
 hmi:H a.mi=some (.dK s.MI)
 hmw:H a.mw=some (.dK s.MW)
 ok:∃all,dj M all
 n60:M.gates.length<=60
 pk:ue M s.S s.PL
 p0:∀n:Str,(n = "0" \/ n = "1" \/ n∈ba M)->(aI s.PL (.inr n)).isSome=true
 d1:a.f1≠a.nd
 d3:a.f3≠a.nd
 dd:[a.f2,a.f4,a.f5,a.pl,a.cJ,a.nx,a.mi,a.mw,a.sp,a.ex].Nodup
section
variable {P:Program}{w:World}{CF CM CG:Addr}{H H':Hp}{a:GA}{M:aR}{s:GS}
theorem GO.same(h:GO P w CF CM CG H a M s)(k:ak H H'):GO P w CF CM CG H' a M s:=
 ⟨k _ _ h.hg,h.fo.same k,h.mf.same k,k _ _ h.h4,k _ _ h.h5,k _ _ h.hp,k _ _ h.hin,k _ _ h.hnx,k _ _ h.hmi,k _ _ h.hmw,h.ok,h.n60,h.pk,h.p0,h.d1,h.d3,h.dd⟩
theorem GO.ne(h:GO P w CF CM CG H a M s){i j:Nat}{x y:Addr}(hi:[a.f2,a.f4,a.f5,a.pl,a.cJ,a.nx,a.mi,a.mw,a.sp,a.ex][i]?=some x)(hj:[a.f2,a.f4,a.f5,a.pl,a.cJ,a.nx,a.mi,a.mw,a.sp,a.ex][j]?=some y)(zi:i≠j):x≠y:=λe=>by
 subst e
 exact zi ((agF (adt.mp hi).1 h.dd).mp (hi.trans hj.symm))
theorem GO.keep(h:GO P w CF CM CG H a M s){S':bq}{PL' cL CS vy:List (Key×V)}(fo:FO P w CF H' a.y a.dy a.nm a.sp a.nd a.kn a.ch a.im a.ex (ba M) S') (k:KG H H' a) (hp:H' a.pl=some (.dK PL')) (hnx:H' a.nx=some (.dK cL)) (hmi:H' a.mi=some (.dK CS)) (hmw:H' a.mw=some (.dK vy))
 (pk:ue M S' PL') (p0:∀n:Str,(n = "0" \/ n = "1" \/ n∈ba M)->(aI PL' (.inr n)).isSome=true):GO P w CF CM CG H' a M ⟨S',PL',cL,CS,vy⟩:=by
 have ki:∀{b:Addr}{C dx:Addr}{fs:List (Str×V)},H b=some (.ins C dx fs)->H' b=some (.ins C dx fs):=λ{b} {C} {dx} {fs} hb=>k b _ hb λhm=>by
  simp only[GA.own,adq,adI,aec]at hm
  rcases hm with e|e|e|e|e|e|e|e|e <;> rw[e]at hb
  . rw[h.fo.hd]at hb;cases hb
  . rw[h.fo.hk]at hb;cases hb
  . rw[h.fo.hc]at hb;cases hb
  . rw[h.fo.hi]at hb;cases hb
  . rw[h.fo.he]at hb;cases hb
  . rw[h.hp]at hb;cases hb
  . rw[h.hnx]at hb;cases hb
  . rw[h.hmi]at hb;cases hb
  . rw[h.hmw]at hb;cases hb
 have kt:∀{b:Addr}{xs:List V},H b=some (.tup xs)->H' b=some (.tup xs):=λ{b} {xs} hb=>k b _ hb λhm=>by
  simp only[GA.own,adq,adI,aec]at hm
  rcases hm with e|e|e|e|e|e|e|e|e <;> rw[e]at hb
  . rw[h.fo.hd]at hb;cases hb
  . rw[h.fo.hk]at hb;cases hb
  . rw[h.fo.hc]at hb;cases hb
  . rw[h.fo.hi]at hb;cases hb
  . rw[h.fo.he]at hb;cases hb
  . rw[h.hp]at hb;cases hb
  . rw[h.hnx]at hb;cases hb
  . rw[h.hmi]at hb;cases hb
  . rw[h.hmw]at hb;cases hb
 have kl:∀{b:Addr}{xs:List V},H b=some (.lst xs)->b≠a.nd->H' b=some (.lst xs):=λ{b} {xs} hb nb=>k b _ hb λhm=>by
  simp only[GA.own,adq,adI,aec]at hm
  rcases hm with e|e|e|e|e|e|e|e|e
  . exact nb e
  all_goals rw[e]at hb
  . rw[h.fo.hk]at hb;cases hb
  . rw[h.fo.hc]at hb;cases hb
  . rw[h.fo.hi]at hb;cases hb
  . rw[h.fo.he]at hb;cases hb
  . rw[h.hp]at hb;cases hb
  . rw[h.hnx]at hb;cases hb
  . rw[h.hmi]at hb;cases hb
  . rw[h.hmw]at hb;cases hb
 have kd:∀{b:Addr}{M:List (Key×V)}{i:Nat},H b=some (.dK M)->[a.f2,a.f4,a.f5,a.pl,a.cJ,a.nx,a.mi,a.mw,a.sp,a.ex][i]?=some b->(i=0\/i=1\/i=2\/i=4)->H' b=some (.dK M):=λ{b} {M} {i} hb hi h4=>k b _ hb λhm=>by
  simp only[GA.own,adq,adI,aec]at hm
  rcases hm with e|e|e|e|e|e|e|e|e
  . rw[e,h.fo.hd]at hb;cases hb
  . rw[e,h.fo.hk]at hb;cases hb
  . rw[e,h.fo.hc]at hb;cases hb
  . rw[e,h.fo.hi]at hb;cases hb
  . exact h.ne hi (j:=9) rfl (by omega) e
  . exact h.ne hi (j:=3) rfl (by omega) e
  . exact h.ne hi (j:=5) rfl (by omega) e
  . exact h.ne hi (j:=6) rfl (by omega) e
  . exact h.ne hi (j:=7) rfl (by omega) e
 exact⟨ki h.hg,fo,⟨ki h.mf.hx,kl h.mf.h1 h.d1,kd h.mf.h2 (i:=0) rfl (by omega),kl h.mf.h3 h.d3,Paired.cM h.mf.hp λ_ _ e=>kt e⟩,kd h.h4 (i:=1) rfl (by omega),kd h.h5 (i:=2) rfl (by omega),hp,kd h.hin (i:=4) rfl (by omega),hnx,hmi,hmw,h.ok,h.n60,pk,p0,h.d1,h.d3,h.dd⟩
theorem GO.grown(h:GO P w CF CM CG H a M s){S':bq}(fo:FO P w CF H' a.y a.dy a.nm a.sp a.nd a.kn a.ch a.im a.ex (ba M) S') (k:Kp H H' a.nd a.kn a.ch a.im a.ex) (g:cz s.S S'):GO P w CF CM CG H' a M ⟨S',s.PL,s.NX,s.MI,s.MW⟩:=
 h.keep fo (KG.of k) (h.fo.dk h.hp (h.ne (i:=3) (j:=9) rfl rfl (by decide)) k) (h.fo.dk h.hnx (h.ne (i:=5) (j:=9) rfl rfl (by decide)) k) (h.fo.dk h.hmi (h.ne (i:=6) (j:=9) rfl rfl (by decide)) k) (h.fo.dk h.hmw (h.ne (i:=7) (j:=9) rfl rfl (by decide)) k) (h.pk.grow g h.fo.fs.len) h.p0
theorem GO.Tu(h:GO P w CF CM CG H a M s){n:Str}{i:Nat}(hi:i<s.S.N.length) (he:∀e,ev e (au s.S.TS i)=dz M e n):GO P w CF CM CG (upd H a.pl (.dK (putK s.PL (.inr n) (.int (i:Int))))) a M ⟨s.S,putK s.PL (.inr n) (.int (i:Int)),s.NX,s.MI,s.MW⟩:=by
 refine h.keep (h.fo.putD h.hp (h.ne (i:=3) (j:=8) rfl rfl (by decide)) (h.ne (i:=3) (j:=9) rfl rfl (by decide))) (λb o hb nb=>?_) af ?_ ?_ ?_ (λm v hv=>?_) (λm hm=>?_)
 . rw[ah λe=>nb (by rw[e];simp[GA.own])]
   exact hb
 . rw[ah (h.ne (i:=5) (j:=3) rfl rfl (by decide))];exact h.hnx
 . rw[ah (h.ne (i:=6) (j:=3) rfl rfl (by decide))];exact h.hmi
 . rw[ah (h.ne (i:=7) (j:=3) rfl rfl (by decide))];exact h.hmw
 . rw[eO]at hv
   by_cases e:(.inr m:Key)=.inr n
   . rw[adM e]at hv
     cases hv
     cases aer e
     exact⟨i,rfl,hi,he⟩
   . rw[adw e]at hv
     exact h.pk m v hv
 . rw[eO]
   by_cases e:(.inr m:Key)=.inr n
   . rw[adM e];rfl
   . rw[adw e];exact h.p0 m hm
end
inductive AH(P:Program) (w:World) (CF CM CG:Addr) (vs:List V) (H:Hp) (Q:VK):Prop
 | mk (a:GA) (M:aR) (s:GS) (i j b:Nat) (h1:vs=[.ref a.g,.int (i:Int),.int (j:Int)]) (h2:GO P w CF CM CG H a M s) (h3:i<s.S.N.length) (h4:j<s.S.N.length) (h5:GB s b) (h6:b+1022<3000000) (h7:∀(n:Nat) (S':bq) (H':Hp),GO P w CF CM CG H' a M ⟨S',s.PL,s.NX,s.MI,s.MW⟩->Kp H H' a.nd a.kn a.ch a.im a.ex->cz s.S S'->GB ⟨S',s.PL,s.NX,s.MI,s.MW⟩ (b+1022)->n<S'.N.length->(∀e,ev e (au S'.TS n)=(ev e (au s.S.TS i) && ev e (au s.S.TS j)))->Q (.int (n:Int)) H'):AH P w CF CM CG vs H Q
def CT(P:Program)(w:World)(CF CM CG:Addr):Sp:=λvs H Q _=>AH P w CF CM CG vs H Q
inductive CU(P:Program) (w:World) (CF CM CG:Addr) (vs:List V) (H:Hp) (Q:VK):Prop
 | mk (a:GA) (M:aR) (s:GS) (i b:Nat) (h1:vs=[.ref a.g,.int (i:Int)]) (h2:GO P w CF CM CG H a M s) (h3:i<s.S.N.length) (h4:GB s b) (h5:b+1022<3000000) (h6:∀(n:Nat) (S':bq) (H':Hp),GO P w CF CM CG H' a M ⟨S',s.PL,s.NX,s.MI,s.MW⟩->Kp H H' a.nd a.kn a.ch a.im a.ex->cz s.S S'->GB ⟨S',s.PL,s.NX,s.MI,s.MW⟩ (b+1022)->n<S'.N.length->(∀e,ev e (au S'.TS n) = !ev e (au s.S.TS i))->Q (.int (n:Int)) H'):CU P w CF CM CG vs H Q
def HD(P:Program)(w:World)(CF CM CG:Addr):Sp:=λvs H Q _=>CU P w CF CM CG vs H Q
section
variable {P:Program}{w:World}{K:W.Frag}{mg:Str->Option Value}{base:Heap}{CF CM CG:Addr}
theorem c9:cst 9=1022:=rfl
theorem Z8:aQ ["self", "one", "other"] ["self", "one", "other"] (ar oQ):=⟨rfl,rfl,rfl,by decide+kernel,rfl,by decide+kernel,by decide+kernel⟩
theorem Tv:aQ ["self", "number"] ["self", "number"] (ar sy):=⟨rfl,rfl,rfl,by decide+kernel,rfl,by decide+kernel,by decide+kernel⟩
theorem vz(nm sp nd kn ch im ex:Addr):(cY nm sp nd kn ch im ex).lookup ("chosen" : Str)=none:=j3 _ _ _ _ _ _ _ (by decide+kernel) (by decide+kernel) (by decide+kernel) (by decide+kernel) (by decide+kernel) (by decide+kernel) (by decide+kernel)
theorem Jr{f fC:Addr}{fd dC:FuncData}(F:b0 K "both_of" "Grove.both_of" oQ f fd)(TG:ni K mg CG)(TF:eY K mg CF)
 (gC:ay P w K mg base aC 10 fC dC jD (gJ P w CF 9)) (mC:Meth K CF "chosen" fC) (bC:Binds K dC jD []):ay P w K mg base aC 11 f fd ["self", "one", "other"] (CT P w CF CM CG):=by
 refine F.ok Z8 (λvs H Q E h=>?_) (λcdv A outer s H vs Q E hr h=>?_)
 . obtain⟨a,M,s,i,j,b,rfl,_⟩:=h
   rfl
 . obtain⟨a,M,s,i,j,b,rfl,hG,hi,hj,hB,hb,kk⟩:=h
   refine⟨_,av (aN (aV (aM (pv 0) rfl) TF.cl mC gC hr bC .nil aA (aa (pv 1) (aa (pv 2) (aa ao ag))))),?_⟩
   have two:=hG.fo.fs.two
   have n8:=hG.fo.n8
   refine⟨_,rfl,a.g,CG,a.dg,_,_,rfl,hG.hg,TG.cl,TG.n2,ud ..,a.y,a.dy,_,rfl,hG.fo.hy,vz ..,_,rfl,_,rfl,a.y,a.dy,a.nm,a.sp,a.nd,a.kn,a.ch,a.im,a.ex,ba M,s.S,i,j,0,b,rfl,hG.fo,hi,hj,by omega,by omega,hB.bd,by rw[c9];omega,λn S' H' fo k g B _ _ l e _=>?_⟩
   refine kk n S' H' (hG.grown fo k g) k g ⟨B,ady hB.b1 (adV ..),ady hB.b2 (adV ..),ady hB.b3 (adV ..),ady hB.b4 (adV ..)⟩ l λv=>?_
   rw[e v,hG.fo.fs.t0]
   show (if _ then _ else false)=_
   cases ev v (au s.S.TS i) <;> simp
theorem Ni{f fC:Addr}{fd dC:FuncData}(F:b0 K "opposite_of" "Grove.opposite_of" sy f fd)(TG:ni K mg CG)(TF:eY K mg CF)
 (gC:ay P w K mg base aC 10 fC dC jD (gJ P w CF 9)) (mC:Meth K CF "chosen" fC) (bC:Binds K dC jD []):ay P w K mg base aC 11 f fd ["self", "number"] (HD P w CF CM CG):=by
 refine F.ok Tv (λvs H Q E h=>?_) (λcdv A outer s H vs Q E hr h=>?_)
 . obtain⟨a,M,s,i,b,rfl,_⟩:=h
   rfl
 . obtain⟨a,M,s,i,b,rfl,hG,hi,hB,hb,kk⟩:=h
   refine⟨_,av (aN (aV (aM (pv 0) rfl) TF.cl mC gC hr bC .nil aA (aa (pv 1) (aa ao (aa ao ag))))),?_⟩
   have two:=hG.fo.fs.two
   have n8:=hG.fo.n8
   refine⟨_,rfl,a.g,CG,a.dg,_,_,rfl,hG.hg,TG.cl,TG.n2,ud ..,a.y,a.dy,_,rfl,hG.fo.hy,vz ..,_,rfl,a.y,a.dy,a.nm,a.sp,a.nd,a.kn,a.ch,a.im,a.ex,ba M,s.S,i,0,1,b,rfl,hG.fo,hi,by omega,by omega,by omega,hB.bd,by rw[c9];omega,λn S' H' fo k g B _ _ l e _=>?_⟩
   refine kk n S' H' (hG.grown fo k g) k g ⟨B,ady hB.b1 (adV ..),ady hB.b2 (adV ..),ady hB.b3 (adV ..),ady hB.b4 (adV ..)⟩ l λv=>?_
   rw[e v,hG.fo.fs.t0,hG.fo.fs.t1]
   show (if _ then false else true)=_
   cases ev v (au s.S.TS i) <;> simp
end
abbrev sA:Stmt:=inClass (top 9) 1
abbrev ke:Stmt:=inClass (top 9) 2
abbrev bo(kvs:List (Key×V)) (n:Str):Prop:=(aI kvs (.inr n)).isSome=true
theorem lu:∀(kvs acc:List (Key×V)) (n:Str),bo (bG acc kvs) n ↔ ((∃kv∈kvs,kv.1=(.inr n:Key))\/bo acc n)
 | [],acc,n=>⟨λh=>.inr h,λh=>h.elim (λ⟨_,z,_⟩=>nomatch z) id⟩
 | kv::r,acc,n=>by
  show bo (bG (putK acc kv.1 kv.2) r) n ↔ _
  rw[lu r]
  unfold bo
  rw[eO]
  constructor
  . rintro (⟨q,hq,e⟩|h)
    . exact .inl ⟨q,adx _ hq,e⟩
    . by_cases e:(.inr n:Key)=kv.1
      . exact .inl ⟨kv,adB,e.symm⟩
      . rw[adw e]at h
        exact .inr h
  . rintro (⟨q,hq,e⟩|h)
    . rcases adq.mp hq with rfl|hq
      . exact .inr (by rw[adM e.symm];rfl)
      . exact .inl ⟨q,hq,e⟩
    . refine .inr ?_
      by_cases e:(.inr n:Key)=kv.1
      . rw[adM e];rfl
      . rw[adw e];exact h
theorem l8{kvs:List (Key×V)}{n:Str}(h:∃kv∈kvs,kv.1=(.inr n:Key)):bo kvs n:=by
 unfold bo
 cases e:aI kvs (.inr n) with
 | some v=>rfl
 | none=>obtain⟨kv,hk,q⟩:=h;exact absurd q (j5 e kv hk)
theorem sC{kvs:List (Key×V)}{n:Str}(h:bo kvs n):∃kv∈kvs,kv.1=(.inr n:Key):=by
 unfold bo at h
 cases e:aI kvs (.inr n) with
 | some v=>exact⟨_,gu e,rfl⟩
 | none=>rw[e]at h;cases h
theorem l9{ND:List (Key×V)}{x y n:Str} : bo (bG ND (bG [] [(.inr x,.bl true),(.inr y,.bl true)])) n ↔ (n=x\/n=y\/bo ND n):=by
 rw[lu]
 constructor
 . rintro (h|h)
   . have h2:=(lu [(.inr x,.bl true),(.inr y,.bl true)] [] n).mp (l8 h)
     rcases h2 with⟨kv,hk,e⟩|h2
     . rcases adq.mp hk with rfl|hk
       . exact .inl (aer e).symm
       . rw[adJ.mp hk]at e
         exact .inr (.inl (aer e).symm)
     . cases h2
   . exact .inr (.inr h)
 . rintro (rfl|rfl|h)
   . exact .inl (sC ((lu _ _ _).mpr (.inl ⟨_,adB,rfl⟩)))
   . exact .inl (sC ((lu _ _ _).mpr (.inl ⟨_,adx _ adB,rfl⟩)))
   . exact .inr h
theorem vA{M:aR}{all:List Str}(ok:dj M all){i:Nat}{g:Str×Str×Str}{z:Str}(hg:M.gates[i]?=some g)(hz:z=g.2.1\/z=g.2.2):aU z = "0" \/ aU z = "1" \/ aU z∈ba M\/∃j g',j<i/\M.gates[j]?=some g'/\aU z=g'.1:=by
 have hl:Lit (M.switches++M.keepers.map (·.1)++(M.gates.take i).map (·.1)) z:=by
  rcases hz with rfl|rfl
  . exact(ok.gl i g hg).1
  . exact(ok.gl i g hg).2
 have nm:∀x∈M.switches++M.keepers.map (·.1)++(M.gates.take i).map (·.1),bg x:=λx hx=>ok.nm x (by
  rw[ok.all]
  rcases adu.mp hx with h|h
  . exact adT _ h
  . obtain⟨g,hg,rfl⟩:=ads.mp h
    exact adF _ (ads.mpr ⟨g,aet hg,rfl⟩))
 rcases AE hl nm with h|h|h
 . exact .inl h
 . exact .inr (.inl h)
 . rcases adu.mp h with h|h
   . refine .inr (.inr (.inl ?_))
     unfold ba
     rcases adu.mp h with h|h
     . exact adF _ h
     . exact adT _ h
   . obtain⟨g',qG,e⟩:=ads.mp h
     obtain⟨j,hj,ej⟩:=agu.mp qG
     exact .inr (.inr (.inr ⟨j,g',by omega,by rw[adj (by omega),ej],e.symm⟩))
theorem AI{M:aR}{all:List Str}(ok:dj M all){i j:Nat}{g g':Str×Str×Str}{z:Str}(hg:M.gates[i]?=some g)(qG:M.gates[j]?=some g')(zi:i<j)(hz:z=g.2.1\/z=g.2.2):g'.1≠aU z:=λe=>by
 have nd:=lr ok
 have hN:bg g'.1:=ok.nm _ (by rw[ok.all];exact adF _ (ads.mpr ⟨g',adX qG,rfl⟩))
 rcases vA ok hg hz with h|h|h|⟨k,g2,hk,AJ,h⟩
 . exact(rZ hN).1 (e.trans h)
 . exact(rZ hN).2.1 (e.trans h)
 . have h1:g'.1∈M.switches++M.keepers.map (·.1):=by
    rw[e]
    unfold ba at h
    rcases adu.mp h with h|h
    . exact adF _ h
    . exact adT _ h
   exact(adK.mp nd).2.2 _ h1 _ (ads.mpr ⟨g',adX qG,rfl⟩) rfl
 . have Aj:=(adK.mp nd).2.1
   have e1:(M.gates.map (·.1))[k]?=(M.gates.map (·.1))[j]?:=by rw[ado,ado,AJ,qG,aeK,aeK,e,h]
   have:=(agF (by rw[abc];exact(adt.mp AJ).1) Aj).mp e1
   omega
theorem oR{all:List Str}{z:Str}(h:Lit all z)(hn:∀x∈all,bg x):z.length<=1000:=by
 have:D5 z:=by
  rcases h with rfl|rfl|⟨x,hx,rfl|rfl⟩
  . exact .inl rfl
  . exact .inr (.inl rfl)
  . exact .inr (.inr (.inl (hn _ hx)))
  . exact .inr (.inr (.inr ⟨x,hn _ hx,rfl⟩))
 exact ady this.len.2 (by decide)
theorem AK{a b:List Str}{z:Str}(h:Lit a z)(hs:∀x∈a,x∈b):Lit b z:=by
 rcases h with h|h|⟨x,hx,h⟩
 . exact .inl h
 . exact .inr (.inl h)
 . exact .inr (.inr ⟨x,hs x hx,h⟩)
inductive AL(P:Program) (w:World) (CF CM CG:Addr) (d:Nat) (vs:List V) (H:Hp) (Q:VK):Prop
 | mk (a:GA) (M:aR) (s:GS) (z:Str) (all:List Str) (b:Nat) (h1:vs=[.ref a.g,.str z]) (h2:GO P w CF CM CG H a M s) (h3:dj M all) (h4:Lit all z) (h5:(d=0->bo s.PL (aU z))) (h6:GB s b) (h7:b+190000*d<2900000) (h8:∀(S':bq) (PL':List (Key×V)) (H':Hp),GO P w CF CM CG H' a M ⟨S',PL',s.NX,s.MI,s.MW⟩->KG H H' a->cz s.S S'->GB ⟨S',PL',s.NX,s.MI,s.MW⟩ (b+190000*d)->(∀n,bo s.PL n->bo PL' n)->bo PL' (aU z)->Q .aY H'):AL P w CF CM CG d vs H Q
def wx(P:Program)(w:World)(CF CM CG:Addr)(d:Nat):Sp:=λvs H Q _=>AL P w CF CM CG d vs H Q
inductive HE(P:Program) (w:World) (CF CM CG:Addr) (d:Nat) (vs:List V) (H:Hp) (Q:VK):Prop
 | mk (a:GA) (M:aR) (s:GS) (z:Str) (all:List Str) (b:Nat) (h1:vs=[.ref a.g,.str z]) (h2:GO P w CF CM CG H a M s) (h3:dj M all) (h4:Lit all z) (h5:(d=0->bo s.PL (aU z))) (h6:GB s b) (h7:b+190000*d<2895000) (h8:∀(n:Nat) (S':bq) (PL':List (Key×V)) (H':Hp),GO P w CF CM CG H' a M ⟨S',PL',s.NX,s.MI,s.MW⟩->KG H H' a->cz s.S S'->GB ⟨S',PL',s.NX,s.MI,s.MW⟩ (b+190000*d+1022)->(∀n,bo s.PL n->bo PL' n)->n<S'.N.length->(∀e,ev e (au S'.TS n)=dz M e z)->Q (.int (n:Int)) H'):HE P w CF CM CG d vs H Q
def Em(P:Program)(w:World)(CF CM CG:Addr)(d:Nat):Sp:=λvs H Q _=>HE P w CF CM CG d vs H Q
abbrev nPt:List Str:=["self", "literal", "needed", "name", "one", "other"]
section
variable (P:Program) (w:World) (K:W.Frag) (mg:Str->Option Value) (base:Heap)
structure yn(fB:Addr) (dB:FuncData):Prop where
 gB:ay P w K mg base aC 1 fB dB ["literal"] Hw
 mB:mg "bare_name" = some (.ref fB)
 kB:W.keepIn K (.ref fB)=true
 bB:Binds K dB ["literal"] []
end
section
variable {P:Program}{w:World}{K:W.Frag}{mg:Str->Option Value}{base:Heap}{CF CM CG:Addr}{fB:Addr}{dB:FuncData}
theorem Qd:aQ ["self", "literal", "number"] ["self", "literal"] (ar sA):=⟨rfl,rfl,rfl,by decide+kernel,rfl,by decide+kernel,by decide+kernel⟩
theorem pR:aQ nPt ["self", "literal"] (ar ke):=⟨rfl,rfl,rfl,by decide+kernel,rfl,by decide+kernel,by decide+kernel⟩
theorem pS{x y pl cJ nx mi mw:Addr} : ∀m∈["plant", "number_of", "opposite_of", "both_of", "either_of", "next_number", "moves_into", "stands_of", "first_stands"],(dr x y pl cJ nx mi mw).lookup (m:Str)=none:=λm hm=>by
 simp only[adq,adI,aec]at hm
 rcases hm with rfl|rfl|rfl|rfl|rfl|rfl|rfl|rfl|rfl <;> exact Z7 _ _ _ _ _ _ _ (by decide+kernel) (by decide+kernel) (by decide+kernel) (by decide+kernel) (by decide+kernel) (by decide+kernel) (by decide+kernel)
theorem CV{f fP fO:Addr}{fd dP dO:FuncData}{d k:Nat}(F:b0 K "number_of" "Grove.number_of" sA f fd)(TG:ni K mg CG)(B:yn P w K mg base fB dB)
 (gP:ay P w K mg base aC (k+11) fP dP ["self", "literal"] (wx P w CF CM CG d)) (mP:Meth K CG "plant" fP) (bP:Binds K dP ["self", "literal"] [])
 (gO:ay P w K mg base aC 11 fO dO ["self", "number"] (HD P w CF CM CG)) (mO:Meth K CG "opposite_of" fO) (bO:Binds K dO ["self", "number"] []):ay P w K mg base aC (k+11+1) f fd ["self", "literal"] (Em P w CF CM CG d):=by
 refine F.ok Qd (λvs H Q E h=>?_) (λcdv A outer s H vs Q E hr h=>?_)
 . obtain⟨a,M,s,z,all,b,rfl,_⟩:=h
   rfl
 . obtain⟨a,M,s,z,all,b,rfl,hG,ok,hz,h0,hB,hb,kk⟩:=h
   have hu:=d6 hr
   have cC:aZ 1 _:=hr.mono (by omega)
   have hrO:aZ 11 _:=hr.mono (by omega)
   have hlen:=oR hz ok.nm
   refine⟨_,ai (eu (aV (pv 0) TG.cl mP gP hr bP .nil aA (aa (pv 1) ag)))
    (ai (aD (i:=2) Qd.nd rfl (Or.inl rfl) (cG hu (aM (pv 0) rfl) (aE B.gB cC rfl B.mB B.kB B.bB .nil aA (aa (pv 1) ag)) (λ_ _=>rfl)))
    (av (aN (oZ (jl (eV afg agi agj xA (pv 1) (aa bp ag))) (aV (pv 0) TG.cl mO gO hrO bO .nil aA (aa (pv 2) ag)) (pv 2))))),?_⟩
   refine⟨_,rfl,a.g,a.dg,_,rfl,hG.hg,pS _ (by simp),_,rfl,a,M,s,z,all,b,rfl,hG,ok,hz,h0,hB,by omega,λS1 tf H1 qr k1 g1 B1 m1 p1=>?_⟩
   obtain⟨v,hv⟩:∃v,aI tf (.inr (aU z))=some v:=by
    cases e:aI tf (.inr (aU z)) with
    | some v=>exact⟨v,rfl⟩
    | none=>unfold bo at p1;rw[e]at p1;cases p1
   obtain⟨i,rfl,li,ei⟩:=qr.pk _ _ hv
   refine⟨_,rfl,a.g,CG,a.dg,_,_,rfl,qr.hg,TG.cl,TG.n3,AF ..,_,rfl,z,rfl,hlen,a.pl,.int (i:Int),rfl,?_,?_⟩
   . have:=br.k (k:=.inr (aU z)) qr.hp
     rw[show aI tf (.inr (aU z))=some (.int (i:Int)) from hv]at this
     exact this
   have tl:("~" : Str)=⟨#[126]⟩:=by decide+kernel
   refine⟨_,rfl,rfl,z, "~",rfl,rfl,_,rfl,?_⟩
   rw[tl,vb]
   have lD:∀e,dz M e z=if z.cps.toList[0]?=some 126 then !dz M e (aU z) else dz M e (aU z):=λe=>HC e hz ok.nm
   refine iZ (λh=>?_) (λh=>?_)
   . have Js:=aef h
     refine⟨_,rfl,a.g,a.dg,_,rfl,qr.hg,pS _ (by simp),_,rfl,a,M,_,i,b+190000*d,rfl,qr,li,B1,by omega,λn S2 H2 tj k2 g2 B2 l2 e2=>?_⟩
     refine kk n S2 tf H2 tj (k1.trans (KG.of k2)) (g1.trans g2) B2 m1 l2 λe=>?_
     rw[e2 e,lD e,adM Js,ei e]
   . have Js:¬ z.cps.toList[0]?=some 126:=λe=>h (ad3 e)
     refine⟨_,rfl,kk i S1 tf H1 qr k1 g1 (B1.up (by omega)) m1 li λe=>?_⟩
     rw[lD e,adw Js,ei e]
theorem En{f:Addr}{fd:FuncData}(F:b0 K "plant" "Grove.plant" ke f fd)(TG:ni K mg CG)(B:yn P w K mg base fB dB):ay P w K mg base aC 11 f fd ["self", "literal"] (wx P w CF CM CG 0):=by
 refine F.ok pR (λvs H Q E h=>?_) (λcdv A outer s H vs Q E hr h=>?_)
 . obtain⟨a,M,s,z,all,b,rfl,_⟩:=h
   rfl
 . obtain⟨a,M,s,z,all,b,rfl,hG,ok,hz,h0,hB,hb,kk⟩:=h
   have hu:=d6 hr
   have cC:aZ 1 _:=hr.mono (by omega)
   refine⟨_,ai (cw (eD (ou hu (aE B.gB cC rfl B.mB B.kB B.bB .nil aA (aa (pv 1) ag)) (aM (pv 0) rfl)) (by with_unfolding_all rfl)) (av BK) bf) Fc,?_⟩
   refine⟨_,rfl,z,rfl,oR hz ok.nm,_,rfl,a.g,CG,a.dg,_,_,rfl,hG.hg,TG.cl,TG.n3,AF ..,a.pl,_,rfl,br.k (k:=.inr (aU z)) hG.hp,_,rfl,df (h0 rfl) ?_⟩
   exact kk s.S s.PL H hG KG.refl (.refl _) (hB.up (by omega)) (λ_ h=>h) (h0 rfl)
end
section
variable {P:Program}{w:World}{K:W.Frag}{mg:Str->Option Value}{base:Heap}{CF CM CG:Addr}{fB:Addr}{dB:FuncData}
theorem gd{H:Hp}{p:Addr}{o o':HO} : upd (upd H p o) p o'=upd H p o':=by
 funext b
 by_cases e:b=p
 . rw[e,af,af]
 . rw[ah e,ah e,ah e]
theorem Eo{f:Addr}{fd:FuncData}(F:b0 K "plant" "Grove.plant" ke f fd)(TG:ni K mg CG)(TM:tV K mg CM)(O2:gf mg)(B:yn P w K mg base fB dB)
 {fN fA:Addr}{dN dA:FuncData}(gN:ay P w K mg base aC 12 fN dN ["self", "literal"] (Em P w CF CM CG 0)) (mN:Meth K CG "number_of" fN) (bN:Binds K dN ["self", "literal"] [])
 (gA:ay P w K mg base aC 11 fA dA ["self", "one", "other"] (CT P w CF CM CG)) (mA:Meth K CG "both_of" fA) (bA:Binds K dA ["self", "one", "other"] []):ay P w K mg base aC 13 f fd ["self", "literal"] (wx P w CF CM CG 1):=by
 refine F.ok pR (λvs H Q E h=>?_) (λcdv A outer s H vs Q E hr h=>?_)
 . obtain⟨a,M,s,z,all,b,rfl,_⟩:=h
   rfl
 . obtain⟨a,M,s,z,all,b,rfl,hG,ok,hz,_,hB,hb,kk⟩:=h
   have hu:=d6 hr
   have cC:aZ 1 _:=hr.mono (by omega)
   have hrA:aZ 11 _:=hr.mono (by omega)
   refine⟨_,ai (cw (eD (ou hu (aE B.gB cC rfl B.mB B.kB B.bB .nil aA (aa (pv 1) ag)) (aM (pv 0) rfl)) (by with_unfolding_all rfl)) (av BK) bf)
    (ai (aD (i:=2) pR.nd rfl (Or.inl rfl) (ox (eQ (aE B.gB cC rfl B.mB B.kB B.bB .nil aA (aa (pv 1) ag)) jk ow) rfl rfl (by simp) (by decide)))
    (ai (dJ ad6 rfl (P9 rfl O2.rev (aa (aM (aM (pv 0) rfl) rfl) ag)) (jm rfl (cg (aH (i:=3) pR.nd rfl (Or.inl rfl)) (cg (aH (i:=4) pR.nd rfl (Or.inl rfl)) (cg (aH (i:=5) pR.nd rfl (Or.inl rfl)) iA))))
     (av (cw (eD (ou hu (pv 3) (pv 2)) (by with_unfolding_all rfl)) (av (eu (eV afa agD PySem.F.type_dict_update GF (pv 2) (aa (ox (eQ (aE B.gB cC rfl B.mB B.kB B.bB .nil aA (aa (pv 4) ag)) jk (eQ (aE B.gB cC rfl B.mB B.kB B.bB .nil aA (aa (pv 5) ag)) jk ow)) rfl rfl (by simp) (by decide)) ag)))) bf)))
    (av (dJ ad6 rfl (c8 (aM (aM (pv 0) rfl) rfl)) (jm rfl (cg (aH (i:=3) pR.nd rfl (Or.inl rfl)) (cg (aH (i:=4) pR.nd rfl (Or.inl rfl)) (cg (aH (i:=5) pR.nd rfl (Or.inl rfl)) iA))))
     (av (cw (PW.pt (E9 (eD (ou hu (pv 3) (pv 2)) (by with_unfolding_all rfl)) (BJ (eD (kQ hu (pv 3) (aM (pv 0) rfl)) (by with_unfolding_all rfl))))) (av (dQ hu (aM (pv 0) rfl) (pv 3) (aV (pv 0) TG.cl mA gA hrA bA .nil aA (aa (aV (pv 0) TG.cl mN gN hr bN .nil aA (aa (pv 4) ag)) (aa (aV (pv 0) TG.cl mN gN hr bN .nil aA (aa (pv 5) ag)) ag))) rfl)) bf)))))),?_⟩
   have hlen:=oR hz ok.nm
   have XI:∀{i:Nat}{g:Str×Str×Str},M.gates[i]?=some g->Lit all g.2.1/\Lit all g.2.2:=λ{i} {g} hg=>by
    have hs:∀x∈M.switches++M.keepers.map (·.1)++(M.gates.take i).map (·.1),x∈all:=λx hx=>by
     rw[ok.all]
     rcases adu.mp hx with h|h
     . exact adT _ h
     . obtain⟨g,hg,rfl⟩:=ads.mp h
       exact adF _ (ads.mpr ⟨g,aet hg,rfl⟩)
    exact⟨AK (ok.gl i g hg).1 hs,AK (ok.gl i g hg).2 hs⟩
   refine⟨_,rfl,z,rfl,hlen,_,rfl,a.g,CG,a.dg,_,_,rfl,hG.hg,TG.cl,TG.n3,AF ..,a.pl,_,rfl,br.k (k:=.inr (aU z)) hG.hp,_,rfl,iZ (λh=>?_) (λIZ=>?_)⟩
   . exact kk s.S s.PL H hG KG.refl (.refl _) (hB.up (by omega)) (λ_ h=>h) h
   refine λne hne=>⟨_,rfl,z,rfl,hlen,af,[(.inr (aU z),.bl true)],rfl,(by show 1<=15;decide),?_⟩
   show eF _ _ _ _ (upd (upd H ne (.dK [])) ne (.dK [(.inr (aU z),.bl true)]))
   rw[gd]
   have s1:ak H (upd H ne (.dK [(.inr (aU z),.bl true)])):=ak.ax hne
   have q1:(upd H ne (.dK [(.inr (aU z),.bl true)])) ne=some (.dK [(.inr (aU z),.bl true)]):=af
   generalize upd H ne (.dK [(.inr (aU z),.bl true)])=H1 at s1 q1 ⊢
   have qr:=hG.same s1
   have Qe:=hG.mf.hp.length
   have n60:=hG.n60
   have nn:∀{x:Addr}{o:HO},H x=some o->x≠ne:=λh=>ae h hne
   have Dl:ne∉a.own:=λhm=>by
    simp only[GA.own,adq,adI,aec]at hm
    rcases hm with e|e|e|e|e|e|e|e|e <;> rw[e]at hne
    . rw[hG.fo.hd]at hne;cases hne
    . rw[hG.fo.hk]at hne;cases hne
    . rw[hG.fo.hc]at hne;cases hne
    . rw[hG.fo.hi]at hne;cases hne
    . rw[hG.fo.he]at hne;cases hne
    . rw[hG.hp]at hne;cases hne
    . rw[hG.hnx]at hne;cases hne
    . rw[hG.hmi]at hne;cases hne
    . rw[hG.hmw]at hne;cases hne
   refine⟨_,rfl,a.g,CG,a.dg,_,_,rfl,qr.hg,TG.cl,TG.n1,Jp ..,a.x,CM,a.dx,_,_,rfl,qr.mf.hx,TM.cl,TM.n3,GH ..,a.f3,_,rfl,aw.of qr.mf.h3,Ng (K:=K) (a:=a.f3) (xs:=a.ts.map V.ref) (λi σ Hi=>∃(ND:List (Key×V)) (v3 v4 v5:Option V),σ=[some (.ref a.g),some (.str z),some (.ref ne),v3,v4,v5]/\(∀b u,H1 b=some u->b≠ne->Hi b=some u)/\Hi ne=some (.dK ND)/\ND.length<=1+2*i/\bo ND (aU z)/\∀j g,M.gates[j]?=some g->M.gates.length<=j+i->bo ND g.1->bo ND (aU g.2.1)/\bo ND (aU g.2.2)) ?_ ?_ ?_ ?_⟩
   . refine⟨_,none,none,none,rfl,λ_ _ h _=>h,q1,adn _,l8 ⟨_,adB,rfl⟩,λj g hg hj _=>?_⟩
     have:=(adt.mp hg).1
     omega
   . rintro i σ Hi _ ⟨ND,v3,v4,v5,rfl,ki,_⟩
     exact aw.of (ki _ _ qr.mf.h3 (nn hG.mf.h3))
   . rintro i xv σ Hi hx ⟨ND,v3,v4,v5,rfl,ki,AM,hNl,K7,gQ⟩
     have hi:i<M.gates.length:=by
      have:=(adt.mp hx).1
      rw[List.length_reverse,abc]at this
      omega
     rw[ahi (by rw[abc];omega),abc,Qe]at hx
     have hj0:M.gates.length-1-i<M.gates.length:=by omega
     have nq:M.gates[M.gates.length-1-i]?=some M.gates[M.gates.length-1-i]:=adj hj0
     obtain⟨t,ht,hT⟩:=cH qr.mf.hp nq
     rw[ado,ht]at hx
     cases hx
     generalize M.gates[M.gates.length-1-i]=g0 at nq hT
     have hTi:=ki _ _ hT (aL hT q1 (by intro z;cases z))
     obtain⟨lo,lt⟩:=XI nq
     refine⟨t,_,rfl,aS.of hTi,rfl,_,_,rfl,_,_,rfl,_,_,rfl,rfl,?_⟩
     refine⟨_,rfl,_,rfl,ne,_,rfl,br.k (k:=.inr g0.1) AM,_,rfl,iZ (λhin=>?_) (λJt=>?_)⟩
     . refine⟨_,rfl,.inr (.inr (.inl ⟨rfl,.inl ⟨_,AM⟩⟩)),λe2 Kf=>⟨_,rfl,_,rfl,oR lo ok.nm,_,rfl,_,rfl,oR lt ok.nm,af,[(.inr (aU g0.2.1),.bl true),(.inr (aU g0.2.2),.bl true)],rfl,(by show 2<=15;decide),?_⟩⟩
       rw[gd]
       have s2:ak Hi (upd Hi e2 (.dK (bG [] [(.inr (aU g0.2.1),.bl true),(.inr (aU g0.2.2),.bl true)]))):=ak.ax Kf
       have q2:(upd Hi e2 (.dK (bG [] [(.inr (aU g0.2.1),.bl true),(.inr (aU g0.2.2),.bl true)]))) e2=some (.dK (bG [] [(.inr (aU g0.2.1),.bl true),(.inr (aU g0.2.2),.bl true)])):=af
       have nne:ne≠e2:=ae AM Kf
       have ml:(bG [] [((.inr (aU g0.2.1):Key),V.bl true),(.inr (aU g0.2.2),.bl true)]).length<=2:=by
        have:=eZ [((.inr (aU g0.2.1):Key),V.bl true),(.inr (aU g0.2.2),.bl true)] []
        simpa using this
       generalize upd Hi e2 (.dK (bG [] [(.inr (aU g0.2.1),.bl true),(.inr (aU g0.2.2),.bl true)]))=Hj at s2 q2 ⊢
       have hlm:=eZ (bG [] [((.inr (aU g0.2.1):Key),V.bl true),(.inr (aU g0.2.2),.bl true)]) ND
       refine⟨ne,e2,ND,_,rfl,rfl,s2 _ _ AM,.inl q2,nne,mG (by omega),?_⟩
       refine⟨_,_,_,_,rfl,λb u hb nb=>?_,af,by omega,l9.mpr (.inr (.inr K7)),λj g hg hj hh=>?_⟩
       . rw[ah nb]
         exact s2 _ _ (ki b u hb nb)
       . by_cases ej:j=M.gates.length-1-i
         . subst ej
           rw[nq]at hg
           cases hg
           exact⟨l9.mpr (.inl rfl),l9.mpr (.inr (.inl rfl))⟩
         . have eN:M.gates.length-1-i<j:=by omega
           rcases l9.mp hh with h|h|h
           . exact absurd h (AI ok nq hg eN (.inl rfl))
           . exact absurd h (AI ok nq hg eN (.inr rfl))
           . obtain⟨c1,c2⟩:=gQ j g hg (by omega) h
             exact⟨l9.mpr (.inr (.inr c1)),l9.mpr (.inr (.inr c2))⟩
     . refine⟨ND,_,_,_,rfl,ki,AM,by omega,K7,λj g hg hj hh=>?_⟩
       by_cases ej:j=M.gates.length-1-i
       . subst ej
         rw[nq]at hg
         cases hg
         exact absurd hh Jt
       . exact gQ j g hg (by omega) hh
   . rintro σ H2 ⟨ND,v3,v4,v5,rfl,k2,AM,hNl,K7,gQ⟩
     rw[abc,Qe]at gQ
     have jy:ak H H2:=λb u hb=>k2 _ _ (s1 _ _ hb) (nn hb)
     have tj:=hG.same jy
     refine⟨_,rfl,a.g,CG,a.dg,_,_,rfl,tj.hg,TG.cl,TG.n1,Jp ..,a.x,CM,a.dx,_,_,rfl,tj.mf.hx,TM.cl,TM.n3,GH ..,a.f3,rfl,⟨_,aw.of tj.mf.h3⟩,jQ (K:=K) (a:=a.f3) (xs:=a.ts.map V.ref) (λi σ Hi=>∃(S':bq) (PL':List (Key×V)) (v3 v4 v5:Option V),σ=[some (.ref a.g),some (.str z),some (.ref ne),v3,v4,v5]/\GO P w CF CM CG Hi a M ⟨S',PL',s.NX,s.MI,s.MW⟩/\KG H2 Hi a/\cz s.S S'/\GB ⟨S',PL',s.NX,s.MI,s.MW⟩ (b+3067*i)/\(∀n,bo s.PL n->bo PL' n)/\∀j g,M.gates[j]?=some g->j<i->bo ND g.1->bo PL' g.1) ?_ ?_ ?_ ?_⟩
     . exact⟨s.S,s.PL,v3,v4,v5,rfl,tj,KG.refl,.refl _,hB,λ_ h=>h,λj g hg hj=>absurd hj (aev _)⟩
     . rintro i σ Hi _ ⟨S',PL',v3,v4,v5,rfl,cE,_⟩
       exact aw.of cE.mf.h3
     . rintro i xv σ Hi hx ⟨S',PL',v3,v4,v5,rfl,cE,ki,gi,Bi,mi,pi⟩
       have hi:i<M.gates.length:=by
        have:=(adt.mp hx).1
        rw[abc]at this
        omega
       have nq:M.gates[i]?=some M.gates[i]:=adj hi
       obtain⟨t,ht,hT⟩:=cH cE.mf.hp nq
       rw[ado,ht]at hx
       cases hx
       generalize M.gates[i]=g0 at nq hT
       obtain⟨lo,lt⟩:=XI nq
       refine⟨t,_,rfl,aS.of hT,rfl,_,_,rfl,_,_,rfl,_,_,rfl,rfl,?_⟩
       have Z9:=ki _ _ AM Dl
       have keep:∀{Ju:List (Key×V)},(∀n,bo PL' n->bo Ju n)->(bo ND g0.1->bo Ju g0.1)->∀j g,M.gates[j]?=some g->j<i+1->bo ND g.1->bo Ju g.1:=λh1 h2 j g hg hj hh=>by
        by_cases ej:j=i
        . subst ej
          rw[nq]at hg
          cases hg
          exact h2 hh
        . exact h1 _ (pi j g hg (by omega) hh)
       refine⟨_,rfl,_,rfl,ne,_,rfl,br.k (k:=.inr g0.1) Z9,_,rfl,iZ (λhin=>?_) (λJt=>jU ?_)⟩
       . refine⟨_,rfl,_,rfl,a.g,CG,a.dg,_,_,rfl,cE.hg,TG.cl,TG.n3,AF ..,a.pl,_,rfl,br.k (k:=.inr g0.1) cE.hp,_,rfl,iZ (λhnp=>?_) (λjH=>?_)⟩
         . have early:∀x,(x=g0.2.1\/x=g0.2.2)->bo PL' (aU x):=λx hx=>by
            obtain⟨c1,c2⟩:=gQ i g0 nq (by omega) hin
            have Pt:bo ND (aU x):=by
             rcases hx with rfl|rfl
             . exact c1
             . exact c2
            rcases vA ok nq hx with h|h|h|⟨j,g',hj,qG,h⟩
            . exact cE.p0 _ (.inl h)
            . exact cE.p0 _ (.inr (.inl h))
            . exact cE.p0 _ (.inr (.inr h))
            . rw[h]
              exact pi j g' qG hj (by rw[← h];exact Pt)
           refine⟨_,rfl,a.g,a.dg,_,rfl,cE.hg,pS _ (by simp),?_⟩
           refine⟨_,rfl,a.g,a.dg,_,rfl,cE.hg,pS _ (by simp),_,rfl,a,M,_,g0.2.1,all,b+3067*i,rfl,cE,ok,lo,λ_=>early _ (.inl rfl),Bi,by omega,λn1 S1 tf Ha xR ka ga Ba ma la ea=>?_⟩
           refine⟨_,rfl,a.g,a.dg,_,rfl,xR.hg,pS _ (by simp),_,rfl,a,M,_,g0.2.2,all,_,rfl,xR,ok,lt,λ_=>ma _ (early _ (.inr rfl)),Ba,by omega,λn2 S2 CW Hb hGb kb gb Bb mb lb eb=>?_⟩
           have gl:S1.N.length<=S2.N.length:=gb.le
           refine⟨a,M,_,n1,n2,_,rfl,hGb,by show n1<S2.N.length;omega,lb,Bb,by omega,λn3 S3 Hc Qf kc gc Bc lc ec=>?_⟩
           refine⟨_,rfl,a.g,CG,a.dg,_,_,rfl,Qf.hg,TG.cl,TG.n3,AF ..,_,rfl,a.pl,_,rfl,eP.k (k:=.inr g0.1) Qf.hp (big (by have:=Bc.b1;omega)),?_⟩
           have aaa:∀e,ev e (au S3.TS n3)=dz M e g0.1:=λe=>by
            rw[ec e,Hu ok e nq]
            show (ev e (au S2.TS n1) && ev e (au S2.TS n2))=_
            rw[gb.au (i:=n1) (by have:=xR.fo.fs.len;show n1<S1.TS.length;rw[← this];exact la),ea e,eb e]
           have hGp:=Qf.Tu (n:=g0.1) lc aaa
           have jG:∀n,bo CW n->bo (putK CW (.inr g0.1) (.int (n3:Int))) n:=λn h=>by
            unfold bo
            rw[eO]
            split
            . rfl
            . exact h
           refine⟨S3,_,_,_,_,rfl,hGp,((ki.trans ka).trans (kb.trans (KG.of kc))).trans (λx o hx nx=>?_),(gi.trans ga).trans (gb.trans gc),⟨Bc.bd.up (by omega),?_,ady Bc.b2 (by omega),ady Bc.b3 (by omega),ady Bc.b4 (by omega)⟩,λn h=>jG _ (mb _ (ma _ (mi _ h))),keep (λn h=>jG _ (mb _ (ma _ h))) λ_=>?_⟩
           . rw[ah λe=>nx (by rw[e];simp[GA.own])]
             exact hx
           . have:=Bc.b1
             exact ady (d5 _ _ _) (by show CW.length+1<=_;have h2:CW.length<=_:=this;omega)
           . unfold bo
             rw[eO,adM rfl]
             rfl
         . have aab:bo PL' g0.1:=by
            cases e:aI PL' (.inr g0.1) with
            | some v=>unfold bo;rw[e];rfl
            | none=>rw[show aI (GS.PL ⟨S',PL',s.NX,s.MI,s.MW⟩) (.inr g0.1)=none from e]at jH;exact absurd rfl jH
           exact⟨S',PL',_,_,_,rfl,cE,ki,gi,Bi.up (by omega),mi,keep (λ_ h=>h) λ_=>aab⟩
       . exact⟨S',PL',_,_,_,rfl,cE,ki,gi,Bi.up (by omega),mi,keep (λ_ h=>h) λh=>absurd h Jt⟩
     . rintro σ H3 ⟨S',PL',v3,v4,v5,rfl,xS,k3,g3,B3,m3,p3⟩
       rw[abc,Qe]at B3 p3
       refine kk S' PL' H3 xS (λx o hx nx=>k3 _ _ (jy _ _ hx) nx) g3 (B3.up (by omega)) m3 ?_
       rcases AE hz ok.nm with h|h|h
       . exact xS.p0 _ (.inl h)
       . exact xS.p0 _ (.inr (.inl h))
       . rw[ok.all]at h
         rcases adu.mp h with h|h
         . refine xS.p0 _ (.inr (.inr ?_))
           unfold ba
           rcases adu.mp h with h|h
           . exact adF _ h
           . exact adT _ h
         . obtain⟨g,hg,e⟩:=ads.mp h
           obtain⟨j,hj⟩:=ahp hg
           have:=(adt.mp hj).1
           rw[← e]
           exact p3 j g hj (by omega) (by rw[e];exact K7)
end
abbrev oS:Stmt:=inClass (top 9) 0
abbrev kf:Stmt:=top 11
theorem Nj{D a:Addr}{l:List Str}{K:W.Frag}{Q:Hp->Prop}{H:Hp}(hl:l.length<=600)(hD:H D=none) (ha:H a=some (.lst (l.map V.str)))
 (fin:∀H' (ts:List Addr),ak H H'->H' D=some (.lst (ts.map V.ref))->Paired (λt (kv:Key×V)=>H' t=some (.tup [kV kv.1,kv.2])) ts (l.map λz=>((.inr z:Key),V.bl true))->Q H') :
 ∃W:Nat->Nat->St->Hp->Prop,(∃m,W 0 m [none] (upd H D (.lst [])))/\wX D (fg 0) nY (Il (ju (iL 0) (ju (tC (.bl true)) vR))) (uv K a) W Q:=by
 refine fQ l.length (λi acc σ H9=>(∃ts:List Addr,acc=ts.map V.ref/\Paired (λt (kv:Key×V)=>H9 t=some (.tup [kV kv.1,kv.2])) ts ((l.take i).map λz=>((.inr z:Key),V.bl true)))/\(∃u,σ=[u])/\ak H H9) ⟨⟨[],rfl,.nil⟩,⟨none,rfl⟩,ak.ax hD⟩ af ?_ ?_
 . rintro acc σ H9 cQ ⟨⟨ts,rfl,je⟩,_,s9⟩
   rw[ad5]at je
   exact⟨⟨_,aw.of (s9 _ _ ha),by rw[abc];exact adn _⟩,fin H9 ts s9 cQ je⟩
 . rintro i acc σ H9 hi cQ ⟨⟨ts,rfl,je⟩,⟨u,rfl⟩,s9⟩
   have qM:l[i]?=some l[i]:=adj hi
   have hx:(l.map V.str)[i]?=some (.str l[i]):=by rw[ado,qM];rfl
   refine⟨⟨_,_,aw.of (s9 _ _ ha),hx⟩,?_⟩
   rintro x H' ⟨rfl,ib⟩
   have ex:=ib _ (aw.of (s9 _ _ ha))
   rw[hx]at ex
   cases ex
   refine dv ⟨_,rfl,(by show 2<=sizeLine;decide),λt ht=>?_⟩
   have XJ:D≠t:=ae cQ ht
   have qe:=je.length
   rw[abc,adU]at qe
   refine⟨_,(ah XJ).trans cQ,(by rw[abc];exact small (by omega)),cP hi af ⟨⟨ts++[t],by rw[adp];rfl,?_⟩,⟨_,rfl⟩,λb o hb=>?_⟩⟩
   . rw[aen,qM,ago,adp]
     refine dc (Paired.cM je λb kv e=>?_) (.cons ?_ .nil)
     . rw[ah (aL e cQ (by intro z;cases z)),ah (ae e ht)]
       exact e
     . rw[ah (adG XJ),af]
       rfl
   . rw[ah (ae hb hD),ah (ae (s9 _ _ hb) ht)]
     exact s9 _ _ hb
theorem FO.Ep{P:Program}{w:World}{C y dy nm sp nd kn ch im ex g:Addr}{names:List Str}{S:bq}{H H':Hp}{Cg dg:Addr}{fs:List (Str×V)}(h:FO P w C H y dy nm sp nd kn ch im ex names S) (hg:H g=some (.ins Cg dg fs)) (hy:g≠y) (k:aX H H' g):FO P w C H' y dy nm sp nd kn ch im ex names S:=by
 have ne:∀{b:Addr}{o:HO},H b=some o->(∀C d f,o≠.ins C d f)->b≠g:=λhb ho e=>by
  rw[e,hg]at hb
  exact ho _ _ _ (adN hb).symm
 have kt:∀b xs,H b=some (.tup xs)->H' b=some (.tup xs):=λb xs hb=>k _ _ hb (ne hb (by intro _ _ _ z;cases z))
 exact⟨k _ _ h.hy (adG hy),k _ _ h.hn (ne h.hn (by intro _ _ _ z;cases z)),k _ _ h.hs (ne h.hs (by intro _ _ _ z;cases z)),k _ _ h.hd (ne h.hd (by intro _ _ _ z;cases z)),Paired.cM h.ht λ_ _ e=>kt _ _ e,k _ _ h.hk (ne h.hk (by intro _ _ _ z;cases z)),k _ _ h.hc (ne h.hc (by intro _ _ _ z;cases z)),h.ck,k _ _ h.hi (ne h.hi (by intro _ _ _ z;cases z)),λp hp=>⟨(h.ik p hp).1.keep kt,(h.ik p hp).2⟩,k _ _ h.he (ne h.he (by intro _ _ _ z;cases z)),
  λkv bb=>let ⟨i,a,b,c⟩:=h.ek kv bb; ⟨i,a,b,c.keep kt⟩,h.e0,h.fs,h.nn,h.ns,h.n8,h.d1,h.d2,h.d3⟩
structure MG(CM:Addr) (H:Hp) (x dx f1 f2 f3 f4 f5 f6:Addr) (ts:List Addr) (M:aR):Prop where
 mf:MF CM H x dx f1 f2 f3 f4 f5 f6 ts M
 h4:H f4=some (.dK (cR M.nexts))
 h5:H f5=some (.dK (cR M.nevers))
 ok:∃all,dj M all
 n60:M.gates.length<=60
 n8:(ba M).length<=8
 d24:f2≠f4
 d25:f2≠f5
 d45:f4≠f5
theorem MG.same{CM:Addr}{H H':Hp}{x dx f1 f2 f3 f4 f5 f6:Addr}{ts:List Addr}{M:aR}(h:MG CM H x dx f1 f2 f3 f4 f5 f6 ts M)(s:ak H H'):MG CM H' x dx f1 f2 f3 f4 f5 f6 ts M:=⟨h.mf.same s,s _ _ h.h4,s _ _ h.h5,h.ok,h.n60,h.n8,h.d24,h.d25,h.d45⟩
theorem kh{M:aR}{all:List Str}(ok:dj M all):(ba M).Nodup:=by
 have h:=(adK.mp (lr ok)).1
 unfold ba
 rw[adK]at h ⊢
 exact⟨h.2.1,h.1,λa ha b hb e=>h.2.2 b hb a ha e.symm⟩
theorem Nk{M:aR}{all:List Str}(ok:dj M all):∀n∈ba M,bg n:=λn hn=>ok.nm n (by
 rw[ok.all]
 unfold ba at hn
 refine adT _ ?_
 rcases adu.mp hn with h|h
 . exact adF _ h
 . exact adT _ h)
theorem Nl{x:Str}(h:bg x):PyData.strOk x=true:=by
 unfold PyData.strOk
 rw[Array.all_eq_true']
 refine λc hc=>ad3 ?_
 have:=ku.mp (h.2.2 c (ahl.mpr hc))
 omega
inductive vB(CM:Addr) (vs:List V) (H:Hp) (Q:VK):Prop
 | mk (x dx f1 f2 f3 f4 f5 f6:Addr) (ts:List Addr) (M:aR) (h1:vs=[.ref x]) (h2:MF CM H x dx f1 f2 f3 f4 f5 f6 ts M) (h3:(ba M).length<=100) (h4:∀p H',H p=none->ak H H'->H' p=some (.lst ((ba M).map V.str))->Q (.ref p) H'):vB CM vs H Q
def xT(CM:Addr):Sp:=λvs H Q _=>vB CM vs H Q
inductive AN(P:Program) (w:World) (CF CM CG:Addr) (vs:List V) (H:Hp) (Q:VK):Prop
 | mk (g dg o x dx f1 f2 f3 f4 f5 f6:Addr) (ts:List Addr) (M:aR) (h1:vs=[.ref g,.ref x,.ref o]) (h2:H g=some (.ins CG dg [])) (h3:g≠x) (h4:MG CM H x dx f1 f2 f3 f4 f5 f6 ts M) (h5:H o=some (.lst ((ba M).map V.str))) (h6:∀(y dy nm sp nd kn ch im ex pl cJ nx mi mw:Addr) (S:bq) (PL:List (Key×V)) (H':Hp),GO P w CF CM CG H' ⟨g,dg,x,dx,f1,f2,f3,f4,f5,f6,y,dy,nm,sp,nd,kn,ch,im,ex,pl,cJ,nx,mi,mw,ts⟩ M ⟨S,PL,[],[],[]⟩->aX H H' g->(∀b∈[nd,kn,ch,im,ex,pl,nx,mi,mw],H b=none)->GB ⟨S,PL,[],[],[]⟩ 20->Q .aY H'):AN P w CF CM CG vs H Q
def CY(P:Program)(w:World)(CF CM CG:Addr):Sp:=λvs H Q _=>AN P w CF CM CG vs H Q
abbrev nGI:List Str:=["self", "machine", "order", "name"]
section
variable {P:Program}{w:World}{K:W.Frag}{mg:Str->Option Value}{base:Heap}{CF CM CG:Addr}
theorem Tw:aQ ["machine"] ["machine"] (ar kf):=⟨rfl,rfl,rfl,by decide+kernel,rfl,by decide+kernel,by decide+kernel⟩
theorem K8(l:List (Str×V)):(l.map λr=>((.inr r.1:Key),r.2)).map (λkv=>kV kv.1)=(l.map (·.1)).map V.str:=by rw[aeC,aeC];rfl
theorem BC{f:Addr}{fd:FuncData}(F:b0 K "order_of" "order_of" kf f fd)(TM:tV K mg CM)(O2:gf mg):ay P w K mg base aC 1 f fd ["machine"] (xT CM):=by
 refine F.ok Tw (λvs H Q E h=>?_) (λcdv A outer s H vs Q E hr h=>?_)
 . obtain⟨x,dx,f1,f2,f3,f4,f5,f6,ts,M,rfl,_⟩:=h
   rfl
 . obtain⟨x,dx,f1,f2,f3,f4,f5,f6,ts,M,rfl,hM,hl,kk⟩:=h
   refine⟨_,av (aN (aT kX (bw (oI rfl) (by rfl) O2.list aeu (aa (aM (pv 0) rfl) ag)) (aM (pv 0) rfl))),?_⟩
   refine⟨_,rfl,x,CM,dx,_,_,rfl,hM.hx,TM.cl,TM.n2,GG ..,f2,_,rfl,.inl hM.h2,λq1 hq1=>?_⟩
   rw[K8]
   have s1:ak H (upd H q1 (.lst ((M.keepers.map (·.1)).map V.str))):=ak.ax hq1
   have e1:(upd H q1 (.lst ((M.keepers.map (·.1)).map V.str))) q1=some (.lst ((M.keepers.map (·.1)).map V.str)):=af
   generalize upd H q1 (.lst ((M.keepers.map (·.1)).map V.str))=H1 at s1 e1 ⊢
   have lI:=hM.same s1
   have du:(ba M).length=M.keepers.length+M.switches.length:=by unfold ba;rw[adm,abc]
   refine⟨_,rfl,x,CM,dx,_,_,rfl,lI.hx,TM.cl,TM.n1,zK ..,q1,f1,_,_,rfl,rfl,e1,lI.h1,(by simp only[abc];exact mG (by omega)),λq2 Qg=>?_⟩
   have hn:H q2=none:=by
    cases e:H q2 with
    | none=>rfl
    | some u=>rw[s1 _ _ e]at Qg;cases Qg
   refine kk q2 _ hn (s1.trans (ak.ax Qg)) ?_
   rw[af,← adp]
   rfl
theorem Qh:aQ nGI ["self", "machine", "order"] (ar oS):=⟨rfl,rfl,rfl,by decide+kernel,rfl,by decide+kernel,by decide+kernel⟩
theorem aac:(["name"]:List Str).Nodup:=by decide+kernel
theorem HF(nm sp nd kn ch im ex:Addr):(cY nm sp nd kn ch im ex).lookup ("leaf_of" : Str)=none:=j3 _ _ _ _ _ _ _ (by decide+kernel) (by decide+kernel) (by decide+kernel) (by decide+kernel) (by decide+kernel) (by decide+kernel) (by decide+kernel)
theorem Jv{f fF fL:Addr}{fd dF dL:FuncData}(F:b0 K "__init__" "Grove.__init__" oS f fd)(TG:ni K mg CG)(TF:eY K mg CF)(TM:tV K mg CM)(O2:gf mg)
 (mF:Mk K CF fF) (gF:ay P w K mg base aC 1 fF dF ["self", "order"] (wo P w CF)) (bF:Binds K dF ["self", "order"] [])
 (gL:ay P w K mg base aC 2 fL dL ["self", "name"] (vp P w CF)) (mL:Meth K CF "leaf_of" fL) (bL:Binds K dL ["self", "name"] []):ay P w K mg base aC 3 f fd ["self", "machine", "order"] (CY P w CF CM CG):=by
 refine F.ok Qh (λvs H Q E h=>?_) (λcdv A outer s H vs Q E hr h=>?_)
 . obtain⟨g,dg,o,x,dx,f1,f2,f3,f4,f5,f6,ts,M,rfl,_⟩:=h
   rfl
 . obtain⟨g,dg,o,x,dx,f1,f2,f3,f4,f5,f6,ts,M,rfl,hg,gx,hM,ho,kk⟩:=h
   have hu:=d6 hr
   refine⟨_,ai (dh (pv 0) (pv 1) rfl)
    (ai (dh (pv 0) (vS mF gF hr rfl TF.mgC bF .nil aA (aa (pv 2) ag)) rfl)
    (ai (dh (pv 0) (ox (eQ bp ao (eQ bp ao ow)) rfl rfl (by simp) (by decide)) rfl)
    (ai (dJ ad6 rfl (c8 (aT kX (bw (oI rfl) (by rfl) O2.list aeu (aa (aM (pv 1) rfl) ag)) (aM (pv 1) rfl))) (aH (i:=3) Qh.nd rfl (Or.inl rfl))
     (av (dQ hu (aM (pv 0) rfl) (pv 3) (aV (aM (pv 0) rfl) TF.cl mL gL hr bL .nil aA (aa (pv 3) ag)) rfl)))
    (ai (dh (pv 0) (bw (dq rfl) (by rfl) O2.dict ad9 (aa (eG (N:=["name"]) (js:=[none]) (by kernel_rfl) rfl (c8 (aM (pv 1) rfl)) (λ_ _ _ _ _ _=>aH (i:=0) aac rfl (Or.inl rfl) (.inr rfl)) (λ_ _ _ _ _ _=>bQ) (λ_ _ _ _ _ _=>eE (aa (pv 0) (aa jk ag)))) ag)) rfl)
    (ai (dh (pv 0) jT rfl)
    (ai (dh (pv 0) jT rfl)
    (av (dh (pv 0) jT rfl)))))))),?_⟩
   obtain⟨all,ok⟩:=hM.ok
   have n8:=hM.n8
   have np:∀{b:Addr}{u:HO},H b=some u->(∀C dx fs,u≠.ins C dx fs)->b≠g:=λhb hu z=>by
    rw[z,hg]at hb
    exact hu _ _ _ (adN hb).symm
   refine⟨_,rfl,_,rfl,g,CG,dg,[],rfl,hg,TG.cl,TG.n1,(by show 0<1000;decide),?_⟩
   have k1:aX H (upd H g (.ins CG dg (aq "machine" (.ref x) []))) g:=λb u hb nb=>by rw[ah nb];exact hb
   have g1:(upd H g (.ins CG dg (aq "machine" (.ref x) []))) g=some (.ins CG dg (aq "machine" (.ref x) [])):=af
   have n1:∀b,(upd H g (.ins CG dg (aq "machine" (.ref x) []))) b=none->H b=none:=λb hb=>by
    by_cases e:b=g
    . rw[e,af]at hb;cases hb
    . rw[ah e]at hb;exact hb
   show eF _ _ _ _ (upd H g (.ins CG dg (aq "machine" (.ref x) [])))
   generalize upd H g (.ins CG dg (aq "machine" (.ref x) []))=H1 at k1 g1 n1 ⊢
   refine⟨_,rfl,λy dy hy CZ ndy=>?_⟩
   have lJ:=k1 _ _ ho (np ho (by intro _ _ _ z;cases z))
   refine⟨y,dy,o,ba M,rfl,af,by rw[ah (ae lJ hy),ah (ae lJ CZ)];exact lJ,kh ok,λn hn=>Nl (Nk ok n hn),n8,λnm sp nd kn ch im ex t0 t1 Hm aW km fr0 aad=>⟨rfl,?_⟩⟩
   have sm:=Ji hy CZ km
   have fr:∀b∈[nd,kn,ch,im,ex],H1 b=none:=λb hb=>Ao hy CZ (fr0 b hb)
   have fsp:H1 sp=none:=Ao hy CZ aad
   have gm:=sm _ _ g1
   have gy:g≠y:=ae g1 hy
   refine⟨_,rfl,g,CG,dg,_,rfl,gm,TG.cl,TG.n2,iG (aB (adn _)) (by show 1<1000;decide),?_⟩
   have k2:aX Hm (upd Hm g (.ins CG dg (aq "forest" (.ref y) (aq "machine" (.ref x) [])))) g:=λb u hb nb=>by rw[ah nb];exact hb
   have g2:(upd Hm g (.ins CG dg (aq "forest" (.ref y) (aq "machine" (.ref x) [])))) g=some (.ins CG dg (aq "forest" (.ref y) (aq "machine" (.ref x) []))):=af
   show eF _ _ _ _ (upd Hm g (.ins CG dg (aq "forest" (.ref y) (aq "machine" (.ref x) []))))
   generalize upd Hm g (.ins CG dg (aq "forest" (.ref y) (aq "machine" (.ref x) [])))=H2 at k2 g2 ⊢
   have cZ:=aW.Ep gm gy k2
   have rF:aX H H2 g:=λb u hb nb=>k2 _ _ (sm _ _ (k1 _ _ hb nb)) nb
   refine λpl jH=>⟨af,[(.inr "0",.int 0),(.inr "1",.int 1)],rfl,(by show 2<=15;decide),?_⟩
   rw[show bG [] [((.inr "0" : Key),V.int 0),(.inr "1",.int 1)]=[(.inr "0",.int 0),(.inr "1",.int 1)] from jF _ [] (by decide+kernel),gd]
   obtain⟨g3,q3,r3,k3⟩:=cq (o:=.dK [(.inr "0",.int 0),(.inr "1",.int 1)]) (fs':=aq "planted" (.ref pl) (aq "forest" (.ref y) (aq "machine" (.ref x) []))) g2 jH
   refine⟨_,rfl,g,CG,dg,_,rfl,r3,TG.cl,TG.n3,iG (aB (aB (adn _))) (by show 2<1000;decide),?_⟩
   show eF _ _ _ _ (upd (upd H2 pl (.dK [(.inr "0",.int 0),(.inr "1",.int 1)])) g (.ins CG dg (aq "planted" (.ref pl) (aq "forest" (.ref y) (aq "machine" (.ref x) [])))))
   have XM:∀{b:Addr}{u:HO},H2 b=some u->pl≠b:=λhb=>(ae hb jH).symm
   have Qi:=XM cZ.hs
   have Jw:=XM cZ.he
   have Qj:pl≠g:=(ae g2 jH).symm
   have C0:H pl=none:=cI rF jH Qj
   have aic:f2≠pl:=ae hM.mf.h2 C0
   have aid:f4≠pl:=ae hM.h4 C0
   have aie:f5≠pl:=ae hM.h5 C0
   generalize upd (upd H2 pl (.dK [(.inr "0",.int 0),(.inr "1",.int 1)])) g (.ins CG dg (aq "planted" (.ref pl) (aq "forest" (.ref y) (aq "machine" (.ref x) []))))=H3 at g3 q3 k3 ⊢
   have fG:=cZ.Ep g2 gy k3
   have qq:aX H H3 g:=λb u hb nb=>k3 _ _ (rF _ _ hb nb) nb
   have XN:H3 x=_:=qq _ _ hM.mf.hx (adG gx)
   have h23:=qq _ _ hM.mf.h2 (np hM.mf.h2 (by intro _ _ _ z;cases z))
   have Kr:=qq _ _ hM.mf.h1 (np hM.mf.h1 (by intro _ _ _ z;cases z))
   refine⟨_,rfl,x,CM,dx,_,_,rfl,XN,TM.cl,TM.n2,GG ..,f2,_,rfl,.inl h23,λl1 oH=>?_⟩
   rw[K8]
   have s4:ak H3 (upd H3 l1 (.lst ((M.keepers.map (·.1)).map V.str))):=ak.ax oH
   have q4:(upd H3 l1 (.lst ((M.keepers.map (·.1)).map V.str))) l1=some (.lst ((M.keepers.map (·.1)).map V.str)):=af
   generalize upd H3 l1 (.lst ((M.keepers.map (·.1)).map V.str))=H4 at s4 q4 ⊢
   have du:(ba M).length=M.keepers.length+M.switches.length:=by unfold ba;rw[adm,abc]
   refine⟨_,rfl,x,CM,dx,_,_,rfl,s4 _ _ XN,TM.cl,TM.n1,zK ..,l1,f1,_,_,rfl,rfl,q4,s4 _ _ Kr,(by simp only[abc];exact mG (by omega)),λl2 Qk=>?_⟩
   rw[show (M.keepers.map (·.1)).map V.str++M.switches.map V.str=(ba M).map V.str by rw[← adp];rfl]
   have s5:ak H4 (upd H4 l2 (.lst ((ba M).map V.str))):=ak.ax Qk
   have q5:(upd H4 l2 (.lst ((ba M).map V.str))) l2=some (.lst ((ba M).map V.str)):=af
   have nl2:∀{b:Addr}{u:HO},H4 b=some u->l2≠b:=λhb=>(ae hb Qk).symm
   have aae:l2≠nd:=nl2 (s4 _ _ fG.hd)
   generalize upd H4 l2 (.lst ((ba M).map V.str))=H5 at s5 q5 ⊢
   have lq:=s4.trans s5
   have jE:=fG.same lq
   have pk0:ue M (Hg (ba M).length t0 t1) [(.inr "0",.int 0),(.inr "1",.int 1)]:=λn v hv=>by
    rcases adq.mp (gu hv) with e|e
    . cases aer (agT e).1
      exact⟨0,(agT e).2,(by show 0<2;decide),λe=>(Qa M e).symm⟩
    . have e:=adJ.mp e
      cases aer (agT e).1
      exact⟨1,(agT e).2,(by show 1<2;decide),λe=>(Qb M e).symm⟩
   refine⟨l2,rfl,⟨_,aw.of q5⟩,jQ (K:=K) (a:=l2) (xs:=(ba M).map V.str) (λi σ Hi=>∃(S:bq) (PL:List (Key×V)) (v3:Option V),σ=[some (.ref g),some (.ref x),some (.ref o),v3]/\FO P w CF Hi y dy nm sp nd kn ch im ex (ba M) S/\Hi pl=some (.dK PL)/\(∀b u,H5 b=some u->b∉[nd,kn,ch,im,ex,pl]->Hi b=some u)/\Bd S (2+i)/\PL.length<=2+i/\ue M S PL/\bo PL "0" /\ bo PL "1" /\ ∀n∈(ba M).take i,bo PL n) ?_ ?_ ?_ ?_⟩
   . exact⟨_,_,none,rfl,jE,lq _ _ q3,λ_ _ h _=>h,bd0,adn _,pk0,l8 ⟨_,adB,rfl⟩,l8 ⟨_,adx _ adB,rfl⟩,(λn hn=>by cases hn)⟩
   . rintro i σ Hi _ ⟨S,PL,v3,rfl,tm,XO,ki,_⟩
     refine aw.of (ki _ _ q5 λhm=>?_)
     simp only[adq,adI,aec]at hm
     rcases hm with e|e|e|e|e|e
     . exact aae e
     . rw[e,jE.hk]at q5;cases q5
     . rw[e,jE.hc]at q5;cases q5
     . rw[e,jE.hi]at q5;cases q5
     . rw[e,jE.he]at q5;cases q5
     . rw[e,lq _ _ q3]at q5;cases q5
   . rintro i xv σ Hi hx ⟨S,PL,v3,rfl,tm,XO,ki,Bi,li,pki,p0,p1,pn⟩
     have hi:i<(ba M).length:=by
      have:=(adt.mp hx).1
      rwa[abc]at this
     have xU:(ba M)[i]?=some (ba M)[i]:=adj hi
     rw[ado,xU]at hx
     cases hx
     generalize (ba M)[i]=n at xU
     have gi:Hi g=_:=ki _ _ (lq _ _ g3) λhm=>by
      have g5:=lq _ _ g3
      simp only[adq,adI,aec]at hm
      rcases hm with e|e|e|e|e|e <;> rw[e]at g5
      . rw[jE.hd]at g5;cases g5
      . rw[jE.hk]at g5;cases g5
      . rw[jE.hc]at g5;cases g5
      . rw[jE.hi]at g5;cases g5
      . rw[jE.he]at g5;cases g5
      . rw[lq _ _ q3]at g5;cases g5
     refine⟨_,rfl,g,CG,dg,_,_,rfl,gi,TG.cl,TG.n2,(by rw[aj,adw (by decide+kernel),aj,adM rfl]),y,dy,_,rfl,tm.hy,HF ..,_,rfl,y,dy,nm,sp,nd,kn,ch,im,ex,ba M,S,n,i,2+i,rfl,tm,xU,Bi,by omega,λm S' H6 K9 k6 g6 B6 _ _ l6 t6=>?_⟩
     have uY:=tm.dk XO Jw k6
     have g6':H6 g=_:=k6 _ _ gi (aL gi tm.hd (by intro z;cases z)) (aL gi tm.hk (by intro z;cases z)) (aL gi tm.hc (by intro z;cases z)) (aL gi tm.hi (by intro z;cases z)) (aL gi tm.he (by intro z;cases z))
     refine⟨_,rfl,g,CG,dg,_,_,rfl,g6',TG.cl,TG.n3,(by rw[aj,adM rfl]),_,rfl,pl,_,rfl,eP.k (k:=.inr n) uY (small (by omega)),?_⟩
     have jG:∀z,bo PL z->bo (putK PL (.inr n) (.int (m:Int))) z:=λz h=>by
      unfold bo
      rw[eO]
      split
      . rfl
      . exact h
     have hlen:=tm.fs.len
     refine⟨S',_,_,rfl,K9.putD uY Qi Jw,af,λb u hb nb=>?_,by rw[← agS];exact B6,ady (d5 _ _ _) (by omega),λz v hv=>?_,jG _ p0,jG _ p1,λz hz=>?_⟩
     . have Hn:=ki b u hb nb
       simp only[adq,adI,aec,af6]at nb
       rw[ah nb.2.2.2.2.2]
       exact k6 _ _ Hn nb.1 nb.2.1 nb.2.2.1 nb.2.2.2.1 nb.2.2.2.2.1
     . rw[eO]at hv
       by_cases e:(.inr z:Key)=.inr n
       . rw[adM e]at hv
         cases hv
         cases aer e
         refine⟨m,rfl,l6,λe=>?_⟩
         rw[t6,Ht ok e (adX xU)]
         show (if e n=true then true else false)=e n
         cases e n <;> rfl
       . rw[adw e]at hv
         exact pki.grow g6 hlen z v hv
     . rw[aen,xU]at hz
       rcases adu.mp hz with h|h
       . exact jG _ (pn z h)
       . have:z=n:=by simpa using h
         rw[this]
         unfold bo
         rw[eO,adM rfl]
         rfl
   . rintro σ H6 ⟨S,PL,v3,rfl,K9,uY,k6,B6,l6,pk6,p0,p1,pn⟩
     rw[abc]at B6 l6 pn
     rw[ad5]at pn
     have old:∀b u,H b=some u->b≠g->H6 b=some u/\b∉[nd,kn,ch,im,ex,pl]:=λb u hb nb=>by
      have gU:b∉[nd,kn,ch,im,ex,pl]:=λhm=>by
       have tw:=k1 _ _ hb nb
       simp only[adq,adI,aec]at hm
       rcases hm with e|e|e|e|e|e
       . rw[e,fr nd (by simp)]at tw;cases tw
       . rw[e,fr kn (by simp)]at tw;cases tw
       . rw[e,fr ch (by simp)]at tw;cases tw
       . rw[e,fr im (by simp)]at tw;cases tw
       . rw[e,fr ex (by simp)]at tw;cases tw
       . rw[e,C0]at hb;cases hb
      exact⟨k6 _ _ (lq _ _ (qq _ _ hb nb)) gU,gU⟩
     have gi:H6 g=_:=k6 _ _ (lq _ _ g3) λhm=>by
      have g5:=lq _ _ g3
      simp only[adq,adI,aec]at hm
      rcases hm with e|e|e|e|e|e <;> rw[e]at g5
      . rw[jE.hd]at g5;cases g5
      . rw[jE.hk]at g5;cases g5
      . rw[jE.hc]at g5;cases g5
      . rw[jE.hi]at g5;cases g5
      . rw[jE.he]at g5;cases g5
      . rw[lq _ _ q3]at g5;cases g5
     have o6:aX H H6 g:=λb u hb nb=>(old b u hb nb).1
     have hx6:=o6 _ _ hM.mf.hx (adG gx)
     have La:=o6 _ _ hM.mf.h1 (np hM.mf.h1 (by intro _ _ _ z;cases z))
     refine⟨_,rfl,x,CM,dx,_,_,rfl,hx6,TM.cl,TM.n1,zK ..,f1,rfl,⟨_,aw.of La⟩,λD hD=>Nj (by omega) hD La λH7 tt s7 hD7 htt=>?_⟩
     refine⟨D,tt,_,rfl,hD7,htt,λcJ Jx=>?_⟩
     have C1:(M.switches.map λz=>((.inr z:Key),V.bl true)).map (·.1)=M.switches.map Sum.inr:=by rw[aeC];rfl
     have Ql:M.switches.Nodup:=by
      have:=kh ok
      unfold ba at this
      exact(adK.mp this).2.1
     rw[show bG [] (M.switches.map λz=>((.inr z:Key),V.bl true))=AG M.switches from jF _ [] (by
      rw[afo,C1]
      exact afZ.mpr (af0 (λh z=>h (aer z)) Ql))]
     have g7:=s7 _ _ gi
     obtain⟨g8,q8,r8,k8⟩:=cq (o:=.dK (AG M.switches)) (fs':=aq "inputs" (.ref cJ) (aq "planted" (.ref pl) (aq "forest" (.ref y) (aq "machine" (.ref x) [])))) g7 Jx
     refine⟨_,rfl,g,CG,dg,_,rfl,r8,TG.cl,TG.n4,iG (aB (aB (aB (adn _)))) (by show 3<1000;decide),?_⟩
     have C2:=K9.same s7
     have Er:∀{b:Addr}{u:HO},H7 b=some u->cJ≠b:=λhb=>(ae hb Jx).symm
     have AO:cJ≠g:=Er g7
     have i1:=Er C2.hs
     have i2:=Er C2.he
     have i3:=Er (s7 _ _ uY)
     show eF _ _ _ _ (upd (upd H7 cJ (.dK (AG M.switches))) g (.ins CG dg (aq "inputs" (.ref cJ) (aq "planted" (.ref pl) (aq "forest" (.ref y) (aq "machine" (.ref x) []))))))
     generalize upd (upd H7 cJ (.dK (AG M.switches))) g (.ins CG dg (aq "inputs" (.ref cJ) (aq "planted" (.ref pl) (aq "forest" (.ref y) (aq "machine" (.ref x) [])))))=H8 at g8 q8 k8 ⊢
     refine λnx hnx=>?_
     obtain⟨g9,q9,r9,k9⟩:=cq (o:=.dK []) (fs':=aq "nexts" (.ref nx) (aq "inputs" (.ref cJ) (aq "planted" (.ref pl) (aq "forest" (.ref y) (aq "machine" (.ref x) []))))) g8 hnx
     refine⟨_,rfl,g,CG,dg,_,rfl,r9,TG.cl,TG.n5,iG (aB (aB (aB (aB (adn _))))) (by show 4<1000;decide),?_⟩
     have Qm:nx≠g:=(ae g8 hnx).symm
     show eF _ _ _ _ (upd (upd H8 nx (.dK [])) g (.ins CG dg (aq "nexts" (.ref nx) (aq "inputs" (.ref cJ) (aq "planted" (.ref pl) (aq "forest" (.ref y) (aq "machine" (.ref x) [])))))))
     generalize upd (upd H8 nx (.dK [])) g (.ins CG dg (aq "nexts" (.ref nx) (aq "inputs" (.ref cJ) (aq "planted" (.ref pl) (aq "forest" (.ref y) (aq "machine" (.ref x) []))))))=H9 at g9 q9 k9 ⊢
     refine λmi hmi=>?_
     obtain⟨ga,qa,ra,ka⟩:=cq (o:=.dK []) (fs':=aq "made_into" (.ref mi) (aq "nexts" (.ref nx) (aq "inputs" (.ref cJ) (aq "planted" (.ref pl) (aq "forest" (.ref y) (aq "machine" (.ref x) [])))))) g9 hmi
     refine⟨_,rfl,g,CG,dg,_,rfl,ra,TG.cl,TG.n6,iG (aB (aB (aB (aB (aB (adn _)))))) (by show 5<1000;decide),?_⟩
     have XQ:mi≠g:=(ae g9 hmi).symm
     show eF _ _ _ _ (upd (upd H9 mi (.dK [])) g (.ins CG dg (aq "made_into" (.ref mi) (aq "nexts" (.ref nx) (aq "inputs" (.ref cJ) (aq "planted" (.ref pl) (aq "forest" (.ref y) (aq "machine" (.ref x) []))))))))
     generalize upd (upd H9 mi (.dK [])) g (.ins CG dg (aq "made_into" (.ref mi) (aq "nexts" (.ref nx) (aq "inputs" (.ref cJ) (aq "planted" (.ref pl) (aq "forest" (.ref y) (aq "machine" (.ref x) [])))))))=Ha at ga qa ka ⊢
     refine λmw hmw=>?_
     obtain⟨gb,qb,rb,kb⟩:=cq (o:=.dK []) (fs':=dr x y pl cJ nx mi mw) ga hmw
     refine⟨_,rfl,g,CG,dg,_,rfl,rb,TG.cl,TG.n7,iG (aB (aB (aB (aB (aB (aB (adn _))))))) (by show 6<1000;decide),?_⟩
     have mwg:mw≠g:=(ae ga hmw).symm
     have XR:aX H9 (upd (upd Ha mw (.dK [])) g (.ins CG dg (dr x y pl cJ nx mi mw))) g:=λb u hb nb=>kb _ _ (ka _ _ hb nb) nb
     have XS:aX H8 (upd (upd Ha mw (.dK [])) g (.ins CG dg (dr x y pl cJ nx mi mw))) g:=λb u hb nb=>XR _ _ (k9 _ _ hb nb) nb
     have Qn:aX H7 (upd (upd Ha mw (.dK [])) g (.ins CG dg (dr x y pl cJ nx mi mw))) g:=λb u hb nb=>XS _ _ (k8 _ _ hb nb) nb
     have xV:aX H (upd (upd Ha mw (.dK [])) g (.ins CG dg (dr x y pl cJ nx mi mw))) g:=λb u hb nb=>Qn _ _ (s7 _ _ (o6 _ _ hb nb)) nb
     have k0a:aX H Ha g:=λb u hb nb=>ka _ _ (k9 _ _ (k8 _ _ (s7 _ _ (o6 _ _ hb nb)) nb) nb) nb
     have K3:aX H H9 g:=λb u hb nb=>k9 _ _ (k8 _ _ (s7 _ _ (o6 _ _ hb nb)) nb) nb
     have K2:aX H H8 g:=λb u hb nb=>k8 _ _ (s7 _ _ (o6 _ _ hb nb)) nb
     have XT:H nx=none:=cI K2 hnx Qm
     have XU:H mi=none:=cI K3 hmi XQ
     have XW:H mw=none:=cI k0a hmw mwg
     have aaf:H cJ=none:=cI (λb u hb nb=>s7 _ _ (o6 _ _ hb nb)) Jx AO
     have dd:∀{b:Addr}{u:HO},H b=some u->b≠g->b≠pl/\b≠cJ/\b≠nx/\b≠mi/\b≠mw/\b≠sp/\b≠ex:=λ{b} {u} hb nb=>⟨ae hb C0,ae hb aaf,ae hb XT,ae hb XU,ae hb XW,ae (k1 _ _ hb nb) fsp,ae (k1 _ _ hb nb) (fr ex (by simp))⟩
     have e2:=dd hM.mf.h2 (np hM.mf.h2 (by intro _ _ _ z;cases z))
     have e4:=dd hM.h4 (np hM.h4 (by intro _ _ _ z;cases z))
     have e5:=dd hM.h5 (np hM.h5 (by intro _ _ _ z;cases z))
     have Qo:=C2.hs
     have Qp:=C2.he
     have XX:∀{b:Addr}{u:HO},H7 b=some u->(∀C dx fs,u≠.ins C dx fs)->b≠g:=λhb hu z=>by
      rw[z,g7]at hb
      exact hu _ _ _ (adN hb).symm
     have spg:=XX Qo (by intro _ _ _ z;cases z)
     have exg:=XX Qp (by intro _ _ _ z;cases z)
     have XY:=s7 _ _ uY
     have a8:∀{b:Addr}{u:HO},H7 b=some u->b≠g->nx≠b/\mi≠b/\mw≠b:=λhb nb=>⟨(ae (k8 _ _ hb nb) hnx).symm,(ae (k9 _ _ (k8 _ _ hb nb) nb) hmi).symm,(ae (ka _ _ (k9 _ _ (k8 _ _ hb nb) nb) nb) hmw).symm⟩
     have b1:=a8 Qo spg
     have b2:=a8 Qp exg
     have b3:=a8 XY Qj
     have c1:nx≠cJ:=(ae q8 hnx).symm
     have c2:mi≠cJ:=(ae (k9 _ _ q8 AO) hmi).symm
     have c3:mw≠cJ:=(ae (ka _ _ (k9 _ _ q8 AO) AO) hmw).symm
     have c4:mi≠nx:=(ae q9 hmi).symm
     have c5:mw≠nx:=(ae (ka _ _ q9 Qm) hmw).symm
     have c6:mw≠mi:=(ae qa hmw).symm
     have sx:=C2.d3
     refine kk y dy nm sp nd kn ch im ex pl cJ nx mi mw S PL _ ⟨gb,C2.Ep g7 gy Qn,⟨xV _ _ hM.mf.hx (adG gx),xV _ _ hM.mf.h1 (np hM.mf.h1 (by intro _ _ _ z;cases z)),xV _ _ hM.mf.h2 (np hM.mf.h2 (by intro _ _ _ z;cases z)),xV _ _ hM.mf.h3 (np hM.mf.h3 (by intro _ _ _ z;cases z)),Paired.cM hM.mf.hp λ_ _ e=>xV _ _ e (np e (by intro _ _ _ z;cases z))⟩,xV _ _ hM.h4 (np hM.h4 (by intro _ _ _ z;cases z)),xV _ _ hM.h5 (np hM.h5 (by intro _ _ _ z;cases z)),Qn _ _ XY Qj,XS _ _ q8 AO,XR _ _ q9 Qm,kb _ _ qa XQ,qb,hM.ok,hM.n60,pk6,λn hn=>?_,?_,?_,?_⟩ xV (λb hb=>?_) ⟨B6.up (by omega),by show PL.length<=20;omega,adW _,adW _,adW _⟩
     . rcases hn with rfl|rfl|hn
       . exact p0
       . exact p1
       . exact pn n hn
     . exact ae (k1 _ _ hM.mf.h1 (np hM.mf.h1 (by intro _ _ _ z;cases z))) (fr nd (by simp))
     . exact ae (k1 _ _ hM.mf.h3 (np hM.mf.h3 (by intro _ _ _ z;cases z))) (fr nd (by simp))
     . have Lb:=hM.d24
       have Qq:=hM.d25
       have m45:=hM.d45
       obtain⟨x1,x2,x3,x4,x5,x6,x7⟩:=e2
       obtain⟨y1,y2,y3,y4,y5,y6,y7⟩:=e4
       obtain⟨z1,z2,z3,z4,z5,z6,z7⟩:=e5
       obtain⟨u1,u2,u3⟩:=b1
       obtain⟨w1,w2,w3⟩:=b2
       obtain⟨t1,t2,t3⟩:=b3
       simp only[ad1,adq,adI,aec,af6,aex,ahP,ahK]
       exact⟨⟨Lb,Qq,x1,x2,x3,x4,x5,x6,x7⟩,⟨m45,y1,y2,y3,y4,y5,y6,y7⟩,⟨z1,z2,z3,z4,z5,z6,z7⟩,⟨i3.symm,t1.symm,t2.symm,t3.symm,Qi,Jw⟩,⟨c1.symm,c2.symm,c3.symm,i1,i2⟩,⟨c4.symm,c5.symm,u1,w1⟩,⟨c6.symm,u2,w2⟩,⟨u3,w3⟩,sx⟩
     . simp only[adq,adI,aec]at hb
       rcases hb with rfl|rfl|rfl|rfl|rfl|rfl|rfl|rfl|rfl
       . exact n1 _ (fr _ (by simp))
       . exact n1 _ (fr _ (by simp))
       . exact n1 _ (fr _ (by simp))
       . exact n1 _ (fr _ (by simp))
       . exact n1 _ (fr _ (by simp))
       . exact C0
       . exact XT
       . exact XU
       . exact XW
end
section
variable {P:Program}{w:World}{K:W.Frag}{mg:Str->Option Value}{base:Heap}{C:Addr}
theorem ko{k:Nat}{f:Addr}{fd:FuncData}{ps:List Str}{sp:Sp}(h:∀vs H Q E,¬ sp vs H Q E):ay P w K mg base aC k f fd ps sp:=⟨λvs H Q E q=>(h _ _ _ _ q).elim,λA outer s H args us vs Q E _ _ _ _ q=>(h _ _ _ _ q).elim⟩
theorem tE{f:Addr}{fd:FuncData}(F:b0 K "tree_at" "Forest.tree_at" j4 f fd)(T:eY K mg C)(mT:Meth K C "tree_at" f)(bT:Binds K fd ["self", "number"] []):∀d,ay P w K mg base aC (d+1) f fd ["self", "number"] (pO P w C d)
 | 0=>ko λvs H Q E q=>by first|(obtain⟨_,_,_,_,_,_,_,_,_,_,_,_,_,_,_,_,h,_⟩:=q;exact aev _ h)|(cases q;omega)
 | d+1=>Ef F T (tE F T mT bT d) mT bT
theorem vC{f fN fH:Addr}{fd dN dH:FuncData}(F:b0 K "chosen" "Forest.chosen" j6 f fd)(T:eY K mg C)(O2:gf mg)(mC:Meth K C "chosen" f)(bC:Binds K fd jD []) (gN:ay P w K mg base aC 1 fN dN jO (jC P w C)) (mN:Meth K C "node" fN) (bN:Binds K dN jO [])
 (gH:ay P w K mg base aC 1 fH dH ["self", "number", "spot", "side"] (vm P w C)) (mH:Meth K C "half" fH) (bH:Binds K dH ["self", "number", "spot", "side"] []):∀d,ay P w K mg base aC (d+1) f fd jD (gJ P w C d)
 | 0=>ko λvs H Q E q=>by first|(obtain⟨_,_,_,_,_,_,_,_,_,_,_,_,_,_,_,_,_,_,_,_,h,_⟩:=q;exact aev _ h)|(cases q;omega)
 | d+1=>He F T O2 (vC F T O2 mC bC gN mN bN gH mH bH d) mC bC gN mN bN gH mH bH
theorem AQ{f:Addr}{fd:FuncData}(F:b0 K "_law_same_tree" "_law_same_tree" m9 f fd)(T:gf mg) (mS:mg "_law_same_tree" = some (.ref f)) (bS:Binds K fd ng []):∀d,ay P w K mg base aC d f fd ng (j7 d)
 | 0=>ko λvs H Q E q=>by first|(obtain⟨_,_,_,_,_,_,_,h,_⟩:=q;exact aev _ h)|(cases q;omega)
 | d+1=>Ar F T (AQ F T mS bS d) mS bS
theorem xW{f fS:Addr}{fd dS:FuncData}(F:b0 K "_law_canon" "_law_canon" m8 f fd)(O2:gf mg) (mC:mg "_law_canon" = some (.ref f)) (bC:Binds K fd sY [])
 (gS:ay P w K mg base aC 9 fS dS ng (j7 9)) (mS:mg "_law_same_tree" = some (.ref fS)) (kS:W.keepIn K (.ref fS)=true) (bS:Binds K dS ng []):∀d,ay P w K mg base aC (d+9) f fd sY (oP d)
 | 0=>ko λvs H Q E q=>by first|(obtain⟨_,_,_,_,_,_,_,h,_⟩:=q;exact aev _ h)|(cases q;omega)
 | d+1=>(show d+9+1=d+1+9 by omega) ▸ Jk F O2 (xW F O2 mC bC gS mS kS bS d) mC bC gS mS kS bS
end
def wy(S:bq) (R:(Str->Bool)->Tr->Prop) (MD:List (Key×V)):Prop:=∀kv∈MD,∃i m:Nat,kv.1=.inl (i:Int)/\kv.2=.int (m:Int)/\i<S.N.length/\m<S.N.length/\(∀e,ev e (au S.TS m)=true ↔ R e (au S.TS i))/\az S.N i<=az S.N m
theorem wy.grow{S S':bq}{R:(Str->Bool)->Tr->Prop}{MD:List (Key×V)}(h:wy S R MD) (g:cz S S') (hl:S.N.length=S.TS.length):wy S' R MD:=λkv bb=>by
 obtain⟨i,m,e1,e2,l1,l2,hv,hs⟩:=h kv bb
 have:=g.le
 refine⟨i,m,e1,e2,by omega,by omega,λe=>?_,?_⟩
 . rw[g.au (by omega),g.au (by omega)]
   exact hv e
 . rw[g.az l1,g.az l2]
   exact hs
def qt(H H':Hp)(nd kn ch im ex md:Addr):Prop:=∀b o,H b=some o->b≠nd->b≠kn->b≠ch->b≠im->b≠ex->b≠md->H' b=some o
theorem qt.of{H H':Hp}{nd kn ch im ex md:Addr}(k:Kp H H' nd kn ch im ex):qt H H' nd kn ch im ex md:=λb o h h1 h2 h3 h4 h5 _=>k b o h h1 h2 h3 h4 h5
theorem qt.trans{H H1 H':Hp}{nd kn ch im ex md:Addr}(a:qt H H1 nd kn ch im ex md)(b:qt H1 H' nd kn ch im ex md):qt H H' nd kn ch im ex md:=λc o h h1 h2 h3 h4 h5 h6=>b c o (a c o h h1 h2 h3 h4 h5 h6) h1 h2 h3 h4 h5 h6
inductive Lc(P:Program) (w:World) (C:Addr) (d:Nat) (vs:List V) (H:Hp) (Q:VK):Prop
 | mk (y dy nm sp nd kn ch im ex g md:Addr) (names G:List Str) (S:bq) (gk MD:List (Key×V)) (n b:Nat) (h1:vs=[.ref y,.int (n:Int),.ref g,.ref md]) (h2:FO P w C H y dy nm sp nd kn ch im ex names S) (h3:n<S.N.length) (h4:(au S.TS n).dep<d) (h5:H g=some (.dK gk)) (h6:H md=some (.dK MD)) (h7:md≠sp) (h8:md≠ex) (h9:g≠ex) (OE:g≠md) (WY:(∀z,(aI gk (.inr z)).isSome=true ↔ z∈G)) (WZ:wy S (nJ G) MD) (Kr:MD.length<=b) (h14:Bd S b) (N2:b+wc (au S.TS n)<3000000) (La:∀(m:Nat) (S':bq) (AR:List (Key×V)) (H':Hp),FO P w C H' y dy nm sp nd kn ch im ex names S'->H' md=some (.dK AR)->wy S' (nJ G) AR->AR.length<=b+wc (au S.TS n)->qt H H' nd kn ch im ex md->cz S S'->Bd S' (b+wc (au S.TS n))->S'.IM=S.IM->S'.EX=S.EX->m<S'.N.length->(∀e,ev e (au S'.TS m)=true ↔ nJ G e (au S.TS n))->az S.N n<=az S'.N m->Q (.int (m:Int)) H'):Lc P w C d vs H Q
def Es(P:Program)(w:World)(C:Addr)(d:Nat):Sp:=λvs H Q _=>Lc P w C d vs H Q
abbrev nWo:List Str:=["self", "number", "gone", "made", "node", "low", "high", "is_gone"]
abbrev vD:List Str:=["self", "number", "gone", "made"]
section
variable {P:Program}{w:World}{K:W.Frag}{mg:Str->Option Value}{base:Heap}{C:Addr}
theorem AS:aQ nWo vD (ar i8):=⟨rfl,rfl,rfl,by decide+kernel,rfl,by decide+kernel,by decide+kernel⟩
theorem Et{f fN fC:Addr}{fd dN dC:FuncData}{d k:Nat}(F:b0 K "without" "Forest.without" i8 f fd)(T:eY K mg C) (G0:ay P w K mg base aC (k+10) f fd vD (Es P w C d)) (mW:Meth K C "without" f) (bW:Binds K fd vD [])
 (gN:ay P w K mg base aC 1 fN dN jO (jC P w C)) (mN:Meth K C "node" fN) (bN:Binds K dN jO [])
 (gC:ay P w K mg base aC 10 fC dC jD (gJ P w C 9)) (mC:Meth K C "chosen" fC) (bC:Binds K dC jD []):ay P w K mg base aC (k+10+1) f fd vD (Es P w C (d+1)):=by
 refine F.ok AS (λvs H Q E h=>?_) (λcdv A outer s H vs Q E hr h=>?_)
 . obtain⟨y,dy,nm,sp,nd,kn,ch,im,ex,g,md,names,G,S,gk,MD,n,b,rfl,_⟩:=h
   rfl
 . obtain⟨y,dy,nm,sp,nd,kn,ch,im,ex,g,md,names,G,S,gk,MD,n,b,rfl,hO,hn,hd,hg,oT,m1,m2,g1,g2,hG,hM,Qr,hB,hb,kk⟩:=h
   have hu:=d6 hr
   have cC:aZ 1 _:=hr.mono (by omega)
   have wz:aZ 10 _:=hr.mono (by omega)
   refine⟨_,ai (cw (cF yf (pv 1) ao (cU _)) (av (aN (pv 1))) bf)
    (ai (cw (eD (kQ hu (pv 1) (pv 3)) (by with_unfolding_all rfl))
     (ai (aD (i:=4) AS.nd rfl (Or.inl rfl) (aK (r:=eS K) a0 (aM (pv 0) rfl) (pv 1) (λ_ _=>rfl)))
     (ai (aD (i:=5) AS.nd rfl (Or.inl rfl) (aV (pv 0) T.cl mW G0 hr bW .nil aA (aa (aK (r:=cN K) bx (pv 4) ao (λ_ _=>rfl)) (aa (pv 2) (aa (pv 3) ag)))))
     (ai (aD (i:=6) AS.nd rfl (Or.inl rfl) (aV (pv 0) T.cl mW G0 hr bW .nil aA (aa (aK (r:=cN K) bx (pv 4) ao (λ_ _=>rfl)) (aa (pv 2) (aa (pv 3) ag)))))
     (ai (aD (i:=7) AS.nd rfl (Or.inl rfl) (NK (ou hu (aK (r:=eS K) a0 (aM (pv 0) rfl) (aK (r:=cN K) bx (pv 4) ao (λ_ _=>rfl)) (λ_ _=>rfl)) (pv 2)) (by with_unfolding_all rfl)))
     (av (dQ hu (pv 3) (pv 1) (oZ (jl (pv 7)) (aV (pv 0) T.cl mC gC wz bC .nil aA (aa (pv 5) (aa ao (aa (pv 6) ag)))) (aV (pv 0) T.cl mN gN cC bN .nil aA (aa (aK (r:=cN K) bx (pv 4) ao (λ_ _=>rfl)) (aa (pv 5) (aa (pv 6) ag))))) rfl)))))) bf)
    (av (aN (cG hu (pv 3) (pv 1) (λ_ _=>rfl))))),?_⟩
   refine⟨_,rfl,_,_,rfl,rfl,_,rfl,?_⟩
   by_cases h2:n<2
   . refine df (ad3 (by omega)) ⟨_,rfl,kk n S MD H hO oT hM (by omega) (.of gg) (.refl S) (hB.up (adV ..)) rfl rfl hn (λe=>?_) (adn _)⟩
     have Eu:∃c,au S.TS n=.leaf c:=by
      rcases (show n=0\/n=1 by omega) with rfl|rfl
      . exact⟨_,hO.fs.t0⟩
      . exact⟨_,hO.fs.t1⟩
     obtain⟨c,hc⟩:=Eu
     rw[hc,Jj]
     exact Iff.rfl
   refine de (adS (by omega)) ?_
   refine⟨_,rfl,_,rfl,md,_,rfl,br.k (k:=.inl (n:Int)) oT,_,rfl,?_⟩
   have iJ:∀{v:V},aI MD (.inl (n:Int))=some v->Q v H:=λhv=>by
    obtain⟨i,m,e1,e2,l1,l2,Fn,hs⟩:=hM _ (gu hv)
    have ei:i=n:=by have:=afQ e1;omega
    subst ei
    cases(show _=V.int (m:Int) from e2)
    exact kk m S MD H hO oT hM (by omega) (.of gg) (.refl S) (hB.up (adV ..)) rfl rfl l2 Fn hs
   cases hv:aI MD (.inl (n:Int)) with
   | some v=>
    refine de rfl ⟨_,rfl,_,rfl,md,v,rfl,?_,iJ hv⟩
    have:=br.k (k:=.inl (n:Int)) oT
    rw[hv]at this
    exact this
   | none=>
    refine df rfl ?_
    obtain⟨a1,a2,a3,a4,a5,a6,a7⟩:=hO.fs.nd n (by omega) hn
    have wk:low S.N n<S.N.length:=by omega
    have Ah:cS S.N n<S.N.length:=by omega
    have hwc:wc (au S.TS n)=wc (au S.TS (low S.N n))+wc (au S.TS (cS S.N n))+1100:=by rw[a7];rfl
    have Ed:(au S.TS n).dep=max (au S.TS (low S.N n)).dep (au S.TS (cS S.N n)).dep+1:=by rw[a7];rfl
    obtain⟨t,h1,qu⟩:=hO.node hn
    have rm:∀m∈["without", "chosen", "node"],(cY nm sp nd kn ch im ex).lookup (m:Str)=none:=λm hm=>by
     simp only[adq,adI,aec]at hm
     rcases hm with rfl|rfl|rfl <;> exact j3 _ _ _ _ _ _ _ (by decide+kernel) (by decide+kernel) (by decide+kernel) (by decide+kernel) (by decide+kernel) (by decide+kernel) (by decide+kernel)
    have nW:=rm "without" (by decide)
    have nC:=rm "chosen" (by decide)
    have nN:=rm "node" (by decide)
    refine⟨_,rfl,y,C,dy,_,_,rfl,hO.hy,T.cl,T.n3,n9 ..,_,rfl,nd,_,_,.ref t,rfl,rfl,aw.of hO.hd,aG (by rw[ado,h1];rfl),?_⟩
    refine⟨_,rfl,y,dy,_,rfl,hO.hy,nW,_,rfl,t,_,1,_,rfl,rfl,aS.of qu,aG (j:=1) rfl,_,rfl,_,rfl,?_⟩
    refine⟨y,dy,nm,sp,nd,kn,ch,im,ex,g,md,names,G,S,gk,MD,low S.N n,b,rfl,hO,wk,by omega,hg,oT,m1,m2,g1,g2,hG,hM,Qr,hB,by omega,λn1 S1 Qs H1 aW Jy lI Jz k1 vF B1 Qt Qu l1 e1 p1=>?_⟩
    have gl1:=vF.le
    have hlen:=hO.fs.len
    have kd:∀{Hx:Hp}{b:Addr}{M:List (Key×V)},qt H Hx nd kn ch im ex md->H b=some (.dK M)->b≠ex->b≠md->Hx b=some (.dK M):=λk hb n1 n2=>k _ _ hb (aL hb hO.hd (by intro z;cases z)) (aL hb hO.hk (by intro z;cases z)) (aL hb hO.hc (by intro z;cases z)) (aL hb hO.hi (by intro z;cases z)) n1 n2
    have kt:∀{Hx:Hp}{b:Addr}{xs:List V},qt H Hx nd kn ch im ex md->H b=some (.tup xs)->Hx b=some (.tup xs):=λk hb=>k _ _ hb (aL hb hO.hd (by intro z;cases z)) (aL hb hO.hk (by intro z;cases z)) (aL hb hO.hc (by intro z;cases z)) (aL hb hO.hi (by intro z;cases z)) (aL hb hO.he (by intro z;cases z)) (aL hb oT (by intro z;cases z))
    have th:au S1.TS (cS S.N n)=au S.TS (cS S.N n):=vF.au (by omega)
    have sh:az S1.N (cS S.N n)=az S.N (cS S.N n):=vF.az Ah
    refine⟨_,rfl,y,dy,_,rfl,aW.hy,nW,_,rfl,t,_,2,_,rfl,rfl,aS.of (kt k1 qu),aG (j:=2) rfl,_,rfl,_,rfl,?_⟩
    refine⟨y,dy,nm,sp,nd,kn,ch,im,ex,g,md,names,G,S1,gk,Qs,cS S.N n,b+wc (au S.TS (low S.N n)),rfl,aW,by omega,by rw[th];omega,kd k1 hg g1 g2,Jy,m1,m2,g1,g2,hG,lI,Jz,B1,by rw[th];omega,λn2 S2 AU H2 cZ JA nG JB k2 xX B2 Qv vG l2 e2 p2=>?_⟩
    rw[th]at JB B2 e2
    rw[sh]at p2
    have rF:=k1.trans k2
    have Ew:=vF.trans xX
    have Xy:=xX.le
    have xK:n1<S2.N.length:=by omega
    have xM:au S2.TS n1=au S1.TS n1:=xX.au (by rw[← aW.fs.len];exact l1)
    have qU:az S2.N n1=az S1.N n1:=xX.az l1
    have two:=cZ.fs.two
    have aif:az S2.N 1=names.length:=by unfold az;rw[cZ.fs.z1]
    have gU:(names.map V.str)[az S.N n]?=some (.str (names.getD (az S.N n) "")):=by rw[ado,adA,adj a1];rfl
    have AJ:=kd rF hg g1 g2
    refine⟨_,rfl,y,C,dy,_,_,rfl,cZ.hy,T.cl,T.n1,D7 ..,_,rfl,t,_,0,_,rfl,rfl,aS.of (kt rF qu),aG (j:=0) rfl,nm,_,_,.str (names.getD (az S.N n) ""),rfl,rfl,aw.of cZ.hn,aG gU,_,rfl,g,_,rfl,br.k (k:=.inr (names.getD (az S.N n) "")) AJ,?_⟩
    have ln:names.getD (az S.N n) "" ∉ names.drop (az S.N n+1):=by
     have h3:=hO.nn
     rw[← aew (az S.N n) names,aeJ a1]at h3
     have h4:=(adK.mp h3).2.1
     rw[adA,adj a1]
     exact(ad1.mp h4).1
    have cl:cV (names.drop (az S.N n+1)) (au S.TS (low S.N n)):=ft (hO.fs.Cy hO.nn _ wk) a5
    have cr:cV (names.drop (az S.N n+1)) (au S.TS (cS S.N n)):=ft (hO.fs.Cy hO.nn _ Ah) a6
    have fin:∀(m:Nat) (S3:bq) (H3:Hp),FO P w C H3 y dy nm sp nd kn ch im ex names S3->Kp H2 H3 nd kn ch im ex->cz S2 S3->Bd S3 (b+wc (au S.TS n))->S3.IM=S2.IM->S3.EX=S2.EX->m<S3.N.length->(∀e,ev e (au S3.TS m)=true ↔ nJ G e (au S.TS n))->az S.N n<=az S3.N m->
     ∃a H4,V.ref md=.ref a/\eP H3 a (.int (n:Int)) (.int (m:Int)) H4/\(HY (Dy (iL 3) (iL 1))) {nx:=λ_ H'=>Q .aY H',rt:=Q} ((((([some (.ref y),some (.int (n:Int)),some (.ref g),some (.ref md),some (.ref t),some (.int (n1:Int)),some (.int (n2:Int)),some (.bl (aI gk (.inr (names.getD (az S.N n) ""))).isSome)]:St))))) H4:=by
     intro m S3 H3 fG k3 oU B3 rG nM l3 HG PR
     have AV:=cZ.dk JA m2 k3
     have pT:=Ew.trans oU
     have gl3:=pT.le
     have jG:=fG.putD (M':=putK AU (.inl (n:Int)) (.int (m:Int))) AV m1 m2
     refine⟨md,_,rfl,eP.k (k:=.inl (n:Int)) AV (big (by omega)),?_⟩
     refine⟨_,rfl,_,rfl,md,.int (m:Int),rfl,?_,?_⟩
     . have:=br.k (k:=.inl (n:Int)) (show (upd H3 md (.dK (putK AU (.inl (n:Int)) (.int (m:Int))))) md=some (.dK (putK AU (.inl (n:Int)) (.int (m:Int)))) from af)
       rw[eO,adM rfl]at this
       exact this
     refine kk m S3 _ _ jG af (λkv bb=>?_) (ady (d5 _ _ _) (by omega)) ((rF.trans (.of k3)).trans λc o hc _ _ _ _ _ n6=>by rw[ah n6];exact hc) pT B3 (rG.trans (Qv.trans Qt)) (nM.trans (vG.trans Qu)) l3 HG PR
     rcases pN bb with bb|bb
     . exact(nG.grow oU cZ.fs.len) kv bb
     . subst bb
       exact⟨n,m,rfl,rfl,by omega,l3,λe=>by rw[pT.au (i:=n) (by omega)];exact HG e,by rw[pT.az hn];exact PR⟩
    have hc9:cst 9=1022:=rfl
    have n8:=hO.n8
    by_cases hin:names.getD (az S.N n) "" ∈ G
    . refine⟨_,rfl,_,rfl,df ((hG _).mpr hin) ?_⟩
      refine⟨_,rfl,y,dy,_,rfl,cZ.hy,nC,_,rfl,_,rfl,?_⟩
      refine⟨y,dy,nm,sp,nd,kn,ch,im,ex,names,S2,n1,1,n2,b+wc (au S.TS (low S.N n))+wc (au S.TS (cS S.N n)),rfl,cZ,xK,by omega,l2,by omega,B2,by omega,λm S3 H3 fG k3 oU B3 rG nM l3 e3 p3=>⟨_,rfl,_,rfl,fin m S3 H3 fG k3 oU (B3.up (by omega)) rG nM l3 (λe=>?_) (by omega)⟩⟩
      rw[e3 e,xM,cZ.fs.t1,a7,P4 hin ln cl cr,← e1 e,← e2 e,show ev e (Tr.leaf true)=true from rfl]
      cases ev e (au S1.TS n1) <;> cases ev e (au S2.TS n2) <;> decide
    . have vh:(aI gk (.inr (names.getD (az S.N n) ""))).isSome=false:=by
       cases h:(aI gk (.inr (names.getD (az S.N n) ""))).isSome
       . rfl
       . exact absurd ((hG _).mp h) hin
      refine⟨_,rfl,_,rfl,de vh ?_⟩
      refine⟨_,rfl,y,dy,_,rfl,cZ.hy,nN,_,rfl,t,_,0,_,rfl,rfl,aS.of (kt rF qu),aG (j:=0) rfl,_,rfl,_,rfl,?_⟩
      refine⟨y,dy,nm,sp,nd,kn,ch,im,ex,names,S2,az S.N n,n1,n2,b+wc (au S.TS (low S.N n))+wc (au S.TS (cS S.N n)),rfl,cZ,a1,xK,l2,by omega,by omega,B2,by omega,λm S3 H3 fG k3 oU B3 _ rG nM l3 p3 t3=>⟨_,rfl,_,rfl,fin m S3 H3 fG k3 oU (B3.up (by omega)) rG nM l3 (λe=>?_) p3⟩⟩
      have e7:ev e (au S3.TS m)=if e (names.getD (az S.N n) "")=true then ev e (au S2.TS n2) else ev e (au S2.TS n1):=by
       rw[t3]
       by_cases z:n1=n2
       . rw[adM z,z]
         split <;> rfl
       . rw[adw z]
         rfl
      rw[e7,a7,M9 hin,xM]
      cases e (names.getD (az S.N n) "")
      . rw[adw (by decide),adw (by decide)]
        exact e1 e
      . rw[adM rfl,adM rfl]
        exact e2 e
end
abbrev iz:Stmt:=inClass (top 7) 8
def iT(z:Str):Tr->Prop
 | .leaf _=>False
 | .node n l r=>z=n\/iT z l\/iT z r
def nr(R:Str->Option Tr)(e:Str->Bool):Str->Bool:=λn=>match R n with|some t=>ev e t|none=>e n
def wA(S:bq)(R:Str->Option Tr) (MD:List (Key×V)):Prop:=∀kv∈MD,∃i m:Nat,kv.1=.inl (i:Int)/\kv.2=.int (m:Int)/\i<S.N.length/\m<S.N.length/\(∀e,ev e (au S.TS m)=ev (nr R e) (au S.TS i))/\∀z,iT z (au S.TS i)->(R z).isSome=true
theorem wA.grow{S S':bq}{R:Str->Option Tr}{MD:List (Key×V)}(h:wA S R MD) (g:cz S S') (hl:S.N.length=S.TS.length):wA S' R MD:=λkv bb=>by
 obtain⟨i,m,e1,e2,l1,l2,hv,ho⟩:=h kv bb
 have:=g.le
 refine⟨i,m,e1,e2,by omega,by omega,λe=>?_,λz hz=>ho z (by rw[g.au (by omega)]at hz;exact hz)⟩
 rw[g.au (by omega),g.au (by omega)]
 exact hv e
def AW(S:bq)(R:Str->Option Tr) (gk:List (Key×V)):Prop:=∀z,match R z with|some t=>∃i:Nat,aI gk (.inr z)=some (.int (i:Int))/\i<S.N.length/\au S.TS i=t|none=>aI gk (.inr z)=none
theorem AW.grow{S S':bq}{R:Str->Option Tr}{gk:List (Key×V)}(h:AW S R gk) (g:cz S S') (hl:S.N.length=S.TS.length):AW S' R gk:=λz=>by
 have hz:=h z
 have:=g.le
 cases e:R z with
 | none=>rw[e]at hz;exact hz
 | some t=>
  rw[e]at hz
  obtain⟨i,h1,h2,h3⟩:=hz
  exact⟨i,h1,by omega,by rw[g.au (by omega)];exact h3⟩
inductive Ld(P:Program) (w:World) (C:Addr) (d:Nat) (vs:List V) (H:Hp) (Q:VK):Prop
 | mk (y dy nm sp nd kn ch im ex g md:Addr) (names:List Str) (R:Str->Option Tr) (S:bq) (gk MD:List (Key×V)) (n b:Nat) (h1:vs=[.ref y,.int (n:Int),.ref g,.ref md]) (h2:FO P w C H y dy nm sp nd kn ch im ex names S) (h3:n<S.N.length) (h4:(au S.TS n).dep<d) (h5:(∀z,iT z (au S.TS n)->(R z).isSome=true)) (h6:H g=some (.dK gk)) (h7:H md=some (.dK MD)) (h8:md≠sp) (h9:md≠ex) (OE:g≠ex) (WY:g≠md) (WZ:AW S R gk) (Kr:wA S R MD) (h14:MD.length<=b) (N2:Bd S b) (La:b+wc (au S.TS n)<3000000) (h17:∀(m:Nat) (S':bq) (AR:List (Key×V)) (H':Hp),FO P w C H' y dy nm sp nd kn ch im ex names S'->H' md=some (.dK AR)->wA S' R AR->AR.length<=b+wc (au S.TS n)->qt H H' nd kn ch im ex md->cz S S'->Bd S' (b+wc (au S.TS n))->S'.IM=S.IM->S'.EX=S.EX->m<S'.N.length->(∀e,ev e (au S'.TS m)=ev (nr R e) (au S.TS n))->Q (.int (m:Int)) H'):Ld P w C d vs H Q
def Ex(P:Program)(w:World)(C:Addr)(d:Nat):Sp:=λvs H Q _=>Ld P w C d vs H Q
abbrev nRe:List Str:=["self", "number", "trees", "made", "node", "low", "high", "name"]
abbrev vH:List Str:=["self", "number", "trees", "made"]
section
variable {P:Program}{w:World}{K:W.Frag}{mg:Str->Option Value}{base:Heap}{C:Addr}
theorem AX:aQ nRe vH (ar iz):=⟨rfl,rfl,rfl,by decide+kernel,rfl,by decide+kernel,by decide+kernel⟩
theorem BD{f fL fC:Addr}{fd dL dC:FuncData}{d k:Nat}(F:b0 K "replaced" "Forest.replaced" iz f fd)(T:eY K mg C) (G0:ay P w K mg base aC (k+10) f fd vH (Ex P w C d)) (mW:Meth K C "replaced" f) (bW:Binds K fd vH [])
 (gL:ay P w K mg base aC 2 fL dL ["self", "name"] (vp P w C)) (mL:Meth K C "leaf_of" fL) (bL:Binds K dL ["self", "name"] [])
 (gC:ay P w K mg base aC 10 fC dC jD (gJ P w C 9)) (mC:Meth K C "chosen" fC) (bC:Binds K dC jD []):ay P w K mg base aC (k+10+1) f fd vH (Ex P w C (d+1)):=by
 refine F.ok AX (λvs H Q E h=>?_) (λcdv A outer s H vs Q E hr h=>?_)
 . obtain⟨y,dy,nm,sp,nd,kn,ch,im,ex,g,md,names,R,S,gk,MD,n,b,rfl,_⟩:=h
   rfl
 . obtain⟨y,dy,nm,sp,nd,kn,ch,im,ex,g,md,names,R,S,gk,MD,n,b,rfl,hO,hn,hd,wI,hg,oT,m1,m2,g1,g2,hG,hM,Qr,hB,hb,kk⟩:=h
   have hu:=d6 hr
   have oC:aZ 2 _:=hr.mono (by omega)
   have wz:aZ 10 _:=hr.mono (by omega)
   refine⟨_,ai (cw (cF yf (pv 1) ao (cU _)) (av (aN (pv 1))) bf)
    (ai (cw (eD (kQ hu (pv 1) (pv 3)) (by with_unfolding_all rfl))
     (ai (aD (i:=4) AX.nd rfl (Or.inl rfl) (aK (r:=eS K) a0 (aM (pv 0) rfl) (pv 1) (λ_ _=>rfl)))
     (ai (aD (i:=5) AX.nd rfl (Or.inl rfl) (aV (pv 0) T.cl mW G0 hr bW .nil aA (aa (aK (r:=cN K) bx (pv 4) ao (λ_ _=>rfl)) (aa (pv 2) (aa (pv 3) ag)))))
     (ai (aD (i:=6) AX.nd rfl (Or.inl rfl) (aV (pv 0) T.cl mW G0 hr bW .nil aA (aa (aK (r:=cN K) bx (pv 4) ao (λ_ _=>rfl)) (aa (pv 2) (aa (pv 3) ag)))))
     (ai (aD (i:=7) AX.nd rfl (Or.inl rfl) (aK (r:=eS K) a0 (aM (pv 0) rfl) (aK (r:=cN K) bx (pv 4) ao (λ_ _=>rfl)) (λ_ _=>rfl)))
     (av (dQ hu (pv 3) (pv 1) (aV (pv 0) T.cl mC gC wz bC .nil aA (aa (oZ (eD (ou hu (pv 7) (pv 2)) (by with_unfolding_all rfl)) (cG hu (pv 2) (pv 7) (λ_ _=>rfl)) (aV (pv 0) T.cl mL gL oC bL .nil aA (aa (pv 7) ag))) (aa (pv 6) (aa (pv 5) ag)))) rfl)))))) bf)
    (av (aN (cG hu (pv 3) (pv 1) (λ_ _=>rfl))))),?_⟩
   refine⟨_,rfl,_,_,rfl,rfl,_,rfl,?_⟩
   by_cases h2:n<2
   . refine df (ad3 (by omega)) ⟨_,rfl,kk n S MD H hO oT hM (by omega) (.of gg) (.refl S) (hB.up (adV ..)) rfl rfl hn (λe=>?_)⟩
     have Eu:∃c,au S.TS n=.leaf c:=by
      rcases (show n=0\/n=1 by omega) with rfl|rfl
      . exact⟨_,hO.fs.t0⟩
      . exact⟨_,hO.fs.t1⟩
     obtain⟨c,hc⟩:=Eu
     rw[hc]
     rfl
   refine de (adS (by omega)) ?_
   refine⟨_,rfl,_,rfl,md,_,rfl,br.k (k:=.inl (n:Int)) oT,_,rfl,?_⟩
   have iJ:∀{v:V},aI MD (.inl (n:Int))=some v->Q v H:=λhv=>by
    obtain⟨i,m,e1,e2,l1,l2,Fn,_⟩:=hM _ (gu hv)
    have ei:i=n:=by have:=afQ e1;omega
    subst ei
    cases(show _=V.int (m:Int) from e2)
    exact kk m S MD H hO oT hM (by omega) (.of gg) (.refl S) (hB.up (adV ..)) rfl rfl l2 Fn
   cases hv:aI MD (.inl (n:Int)) with
   | some v=>
    refine de rfl ⟨_,rfl,_,rfl,md,v,rfl,?_,iJ hv⟩
    have:=br.k (k:=.inl (n:Int)) oT
    rw[hv]at this
    exact this
   | none=>
    refine df rfl ?_
    obtain⟨a1,a2,a3,a4,a5,a6,a7⟩:=hO.fs.nd n (by omega) hn
    have wk:low S.N n<S.N.length:=by omega
    have Ah:cS S.N n<S.N.length:=by omega
    have hwc:wc (au S.TS n)=wc (au S.TS (low S.N n))+wc (au S.TS (cS S.N n))+1100:=by rw[a7];rfl
    have Ed:(au S.TS n).dep=max (au S.TS (low S.N n)).dep (au S.TS (cS S.N n)).dep+1:=by rw[a7];rfl
    obtain⟨t,h1,qu⟩:=hO.node hn
    have rm:∀m∈["replaced", "chosen", "leaf_of"],(cY nm sp nd kn ch im ex).lookup (m:Str)=none:=λm hm=>by
     simp only[adq,adI,aec]at hm
     rcases hm with rfl|rfl|rfl <;> exact j3 _ _ _ _ _ _ _ (by decide+kernel) (by decide+kernel) (by decide+kernel) (by decide+kernel) (by decide+kernel) (by decide+kernel) (by decide+kernel)
    have nW:=rm "replaced" (by decide)
    have nC:=rm "chosen" (by decide)
    have nL:=rm "leaf_of" (by decide)
    refine⟨_,rfl,y,C,dy,_,_,rfl,hO.hy,T.cl,T.n3,n9 ..,_,rfl,nd,_,_,.ref t,rfl,rfl,aw.of hO.hd,aG (by rw[ado,h1];rfl),?_⟩
    refine⟨_,rfl,y,dy,_,rfl,hO.hy,nW,_,rfl,t,_,1,_,rfl,rfl,aS.of qu,aG (j:=1) rfl,_,rfl,_,rfl,?_⟩
    refine⟨y,dy,nm,sp,nd,kn,ch,im,ex,g,md,names,R,S,gk,MD,low S.N n,b,rfl,hO,wk,by omega,(λz hz=>wI z (by rw[a7];exact .inr (.inl hz))),hg,oT,m1,m2,g1,g2,hG,hM,Qr,hB,by omega,λn1 S1 Qs H1 aW Jy lI Jz k1 vF B1 Qt Qu l1 e1=>?_⟩
    have gl1:=vF.le
    have hlen:=hO.fs.len
    have kd:∀{Hx:Hp}{b:Addr}{M:List (Key×V)},qt H Hx nd kn ch im ex md->H b=some (.dK M)->b≠ex->b≠md->Hx b=some (.dK M):=λk hb n1 n2=>k _ _ hb (aL hb hO.hd (by intro z;cases z)) (aL hb hO.hk (by intro z;cases z)) (aL hb hO.hc (by intro z;cases z)) (aL hb hO.hi (by intro z;cases z)) n1 n2
    have kt:∀{Hx:Hp}{b:Addr}{xs:List V},qt H Hx nd kn ch im ex md->H b=some (.tup xs)->Hx b=some (.tup xs):=λk hb=>k _ _ hb (aL hb hO.hd (by intro z;cases z)) (aL hb hO.hk (by intro z;cases z)) (aL hb hO.hc (by intro z;cases z)) (aL hb hO.hi (by intro z;cases z)) (aL hb hO.he (by intro z;cases z)) (aL hb oT (by intro z;cases z))
    have th:au S1.TS (cS S.N n)=au S.TS (cS S.N n):=vF.au (by omega)
    refine⟨_,rfl,y,dy,_,rfl,aW.hy,nW,_,rfl,t,_,2,_,rfl,rfl,aS.of (kt k1 qu),aG (j:=2) rfl,_,rfl,_,rfl,?_⟩
    refine⟨y,dy,nm,sp,nd,kn,ch,im,ex,g,md,names,R,S1,gk,Qs,cS S.N n,b+wc (au S.TS (low S.N n)),rfl,aW,by omega,by rw[th];omega,(λz hz=>wI z (by rw[th]at hz;rw[a7];exact .inr (.inr hz))),kd k1 hg g1 g2,Jy,m1,m2,g1,g2,hG.grow vF hlen,lI,Jz,B1,by rw[th];omega,λn2 S2 AU H2 cZ JA nG JB k2 xX B2 Qv vG l2 e2=>?_⟩
    rw[th]at JB B2 e2
    have rF:=k1.trans k2
    have Ew:=vF.trans xX
    have Xy:=xX.le
    have xK:n1<S2.N.length:=by omega
    have xM:au S2.TS n1=au S1.TS n1:=xX.au (by rw[← aW.fs.len];exact l1)
    have tj:=hG.grow Ew hlen
    have gU:(names.map V.str)[az S.N n]?=some (.str (names.getD (az S.N n) "")):=by rw[ado,adA,adj a1];rfl
    have Qw:names[az S.N n]?=some (names.getD (az S.N n) ""):=by rw[adA,adj a1];rfl
    have AJ:=kd rF hg g1 g2
    refine⟨_,rfl,y,C,dy,_,_,rfl,cZ.hy,T.cl,T.n1,D7 ..,_,rfl,t,_,0,_,rfl,rfl,aS.of (kt rF qu),aG (j:=0) rfl,nm,_,_,.str (names.getD (az S.N n) ""),rfl,rfl,aw.of cZ.hn,aG gU,?_⟩
    have fin:∀(m:Nat) (S3:bq) (H3:Hp),FO P w C H3 y dy nm sp nd kn ch im ex names S3->Kp H2 H3 nd kn ch im ex->cz S2 S3->Bd S3 (b+wc (au S.TS n))->S3.IM=S2.IM->S3.EX=S2.EX->m<S3.N.length->(∀e,ev e (au S3.TS m)=ev (nr R e) (au S.TS n))->
     ∃a H4,V.ref md=.ref a/\eP H3 a (.int (n:Int)) (.int (m:Int)) H4/\(HY (Dy (iL 3) (iL 1))) {nx:=λ_ H'=>Q .aY H',rt:=Q} ([some (.ref y),some (.int (n:Int)),some (.ref g),some (.ref md),some (.ref t),some (.int (n1:Int)),some (.int (n2:Int)),some (.str (names.getD (az S.N n) ""))]:St) H4:=by
     intro m S3 H3 fG k3 oU B3 rG nM l3 HG
     have AV:=cZ.dk JA m2 k3
     have pT:=Ew.trans oU
     have gl3:=pT.le
     have jG:=fG.putD (M':=putK AU (.inl (n:Int)) (.int (m:Int))) AV m1 m2
     refine⟨md,_,rfl,eP.k (k:=.inl (n:Int)) AV (big (by omega)),?_⟩
     refine⟨_,rfl,_,rfl,md,.int (m:Int),rfl,?_,?_⟩
     . have:=br.k (k:=.inl (n:Int)) (show (upd H3 md (.dK (putK AU (.inl (n:Int)) (.int (m:Int))))) md=some (.dK (putK AU (.inl (n:Int)) (.int (m:Int)))) from af)
       rw[eO,adM rfl]at this
       exact this
     refine kk m S3 _ _ jG af (λkv bb=>?_) (ady (d5 _ _ _) (by omega)) ((rF.trans (.of k3)).trans λc o hc _ _ _ _ _ n6=>by rw[ah n6];exact hc) pT B3 (rG.trans (Qv.trans Qt)) (nM.trans (vG.trans Qu)) l3 HG
     rcases pN bb with bb|bb
     . exact(nG.grow oU cZ.fs.len) kv bb
     . subst bb
       exact⟨n,m,rfl,rfl,by omega,l3,λe=>by rw[pT.au (i:=n) (by omega)];exact HG e,λz hz=>wI z (by rw[pT.au (i:=n) (by omega)]at hz;exact hz)⟩
    have hc9:cst 9=1022:=rfl
    have n8:=hO.n8
    refine⟨_,rfl,y,dy,_,rfl,cZ.hy,nC,_,rfl,_,rfl,g,_,rfl,br.k (k:=.inr (names.getD (az S.N n) "")) AJ,_,rfl,?_⟩
    have XZ:∀e,ev (nr R e) (au S.TS n)=if nr R e (names.getD (az S.N n) "")=true then ev e (au S2.TS n2) else ev e (au S2.TS n1):=λe=>by
     rw[a7,e2 e,xM,e1 e]
     rfl
    have hz:=tj (names.getD (az S.N n) "")
    cases hR:R (names.getD (az S.N n) "") with
    | some tr=>
     rw[hR]at hz
     obtain⟨i,X0,xB,KJ⟩:=hz
     refine df (by rw[X0];rfl) ⟨_,rfl,_,rfl,g,.int (i:Int),rfl,?_,?_⟩
     . have:=br.k (k:=.inr (names.getD (az S.N n) "")) AJ
       rw[X0]at this
       exact this
     refine⟨_,rfl,_,rfl,y,dy,nm,sp,nd,kn,ch,im,ex,names,S2,i,n2,n1,b+wc (au S.TS (low S.N n))+wc (au S.TS (cS S.N n)),rfl,cZ,xB,l2,xK,by omega,B2,by omega,λm S3 H3 fG k3 oU B3 rG nM l3 e3 p3=>⟨_,rfl,_,rfl,fin m S3 H3 fG k3 oU (B3.up (by omega)) rG nM l3 (λe=>?_)⟩⟩
     rw[e3 e,KJ,XZ e,show nr R e (names.getD (az S.N n) "")=ev e tr by unfold nr;rw[hR]]
    | none=>
     rw[hR]at hz
     refine de (by rw[show aI gk (.inr (names.getD (az S.N n) ""))=none from hz];rfl) ?_
     refine⟨_,rfl,y,dy,_,rfl,cZ.hy,nL,_,rfl,y,dy,nm,sp,nd,kn,ch,im,ex,names,S2,names.getD (az S.N n) "",az S.N n,b+wc (au S.TS (low S.N n))+wc (au S.TS (cS S.N n)),rfl,cZ,Qw,B2,by omega,λi S5 H5 jE k5 Le B5 im5 ex5 l5 t5=>?_⟩
     have gl5:=Le.le
     have tn2:au S5.TS n2=au S2.TS n2:=Le.au (by rw[← cZ.fs.len];exact l2)
     have tn1:au S5.TS n1=au S2.TS n1:=Le.au (by rw[← cZ.fs.len];exact xK)
     refine⟨_,rfl,_,rfl,y,dy,nm,sp,nd,kn,ch,im,ex,names,S5,i,n2,n1,b+wc (au S.TS (low S.N n))+wc (au S.TS (cS S.N n))+1,rfl,jE,l5,by omega,by omega,by omega,B5,by omega,λm S3 H3 fG k3 oU B3 rG nM l3 e3 p3=>⟨_,rfl,_,rfl,fin m S3 H3 fG (k5.trans k3) (Le.trans oU) (B3.up (by omega)) (rG.trans im5) (nM.trans ex5) l3 (λe=>?_)⟩⟩
     rw[e3 e,t5,tn2,tn1,XZ e,show nr R e (names.getD (az S.N n) "")=e (names.getD (az S.N n) "") by unfold nr;rw[hR]]
     show (if (if e _=true then true else false)=true then _ else _)=_
     cases e (names.getD (az S.N n) "") <;> rfl
end
abbrev kq:Stmt:=inClass (top 7) 10
theorem AY{t:Tr}{e e':Str->Bool}(h:∀z,iT z t->e z=e' z):ev e t=ev e' t:=by
 induction t with
 | leaf b=>rfl
 | node n l r G6 G7=>
  unfold ev
  rw[h n (.inl rfl),G6 λz hz=>h z (.inr (.inl hz)),G7 λz hz=>h z (.inr (.inr hz))]
theorem Nm{ns:List Str}{t:Tr}(h:cV ns t):∀z,iT z t->z∈ns:=by
 induction h with
 | leaf=>exact λz hz=>hz.elim
 | node _ _ _ G6 G7=>
  rintro z (rfl|h|h)
  . exact adB
  . exact adx _ (G6 z h)
  . exact adx _ (G7 z h)
 | skip _ ih=>exact λz hz=>adx _ (ih z hz)
theorem uf:∀(m:Nat) (l:List Nat),l.Nodup->(∀x∈l,x<m)->l.length<=m
 | 0,l,_,h=>by
  cases l with
  | nil=>exact adn _
  | cons x r=>exact absurd (h x adB) (aev _)
 | m+1,l,nd,h=>by
  have h1:=uf m (l.erase m) (nd.erase m) λx hx=>by
   have hm:=(nd.mem_erase_iff).mp hx
   have:=h x hm.2
   have:=hm.1
   omega
  rw[List.length_erase]at h1
  split at h1 <;> omega
def iV(i:Nat):V:=.int (i:Int)
def lx(i:Nat):Key×V:=(.inl (i:Int),.bl true)
theorem JC{se:List Nat}{i:Nat}(h:aI (se.map lx) (.inl (i:Int))=none):i∉se:=λhm=>j5 h (lx i) (ads.mpr ⟨i,hm,rfl⟩) rfl
theorem JD{se:List Nat}{i:Nat}{v:V}(h:aI (se.map lx) (.inl (i:Int))=some v):i∈se:=by
 obtain⟨j,hj,e⟩:=ads.mp (gu h)
 have:(j:Int)=(i:Int):=afQ (agT e).1
 have:j=i:=by omega
 exact this ▸ hj
inductive vI(P:Program) (w:World) (C:Addr) (vs:List V) (H:Hp) (Q:VK):Prop
 | mk (y dy nm sp nd kn ch im ex:Addr) (names:List Str) (S:bq) (n:Nat) (h1:vs=[.ref y,.int (n:Int)]) (h2:FO P w C H y dy nm sp nd kn ch im ex names S) (h3:n<S.N.length) (h4:S.N.length<3000000) (h5:∀(d:Addr) (F:List (Key×V)) (H':Hp),ak H H'->H d=none->H' d=some (.dK F)->(∀z,bo F z ↔ iT z (au S.TS n))->(∀kv∈F,∃z,kv.1=.inr z)->(F.map (·.1)).Nodup->Q (.ref d) H'):vI P w C vs H Q
def xY(P:Program)(w:World)(C:Addr):Sp:=λvs H Q _=>vI P w C vs H Q
abbrev nNi:List Str:=["self", "number", "found", "seen", "waiting", "node"]
def Qx(H3:Hp)(y fd sd wd:Addr)(names:List Str)(S:bq)(n:Nat)(k:Nat)(σ:St)(Hx:Hp):Prop:=∃(F:List (Key×V)) (se W:List Nat) (v1 v5:Option V),k=3*(S.N.length-se.length)+W.length/\σ=[some (.ref y),v1,some (.ref fd),some (.ref sd),some (.ref wd),v5]/\
 (∀b u,H3 b=some u->b≠fd->b≠sd->b≠wd->Hx b=some u)/\Hx fd=some (.dK F)/\Hx sd=some (.dK (se.map lx))/\Hx wd=some (.lst (W.map iV))/\se.Nodup/\W.length<=1+se.length/\F.length<=se.length/\
 (∀i∈W,i<S.N.length/\∀z,iT z (au S.TS i)->iT z (au S.TS n))/\
 (∀i∈se,2<=i/\i<S.N.length/\(∀z,iT z (au S.TS i)->iT z (au S.TS n))/\bo F (names.getD (az S.N i) "")/\(low S.N i<2\/low S.N i∈se\/low S.N i∈W)/\(cS S.N i<2\/cS S.N i∈se\/cS S.N i∈W))/\
 (n<2\/n∈se\/n∈W)/\(∀z,bo F z->iT z (au S.TS n))/\(∀kv∈F,∃z,kv.1=.inr z)/\(F.map (·.1)).Nodup
theorem Ey{F:List (Key×V)}{k:Key}{v:V}(h:(F.map (·.1)).Nodup):((putK F k v).map (·.1)).Nodup:=by
 cases e:aI F k with
 | none=>
  rw[gw v e,adp,adK]
  refine⟨h,by simp,λa ha b hb q=>?_⟩
  obtain⟨kv,hk,rfl⟩:=ads.mp ha
  have:b=k:=by simpa using hb
  exact j5 e kv hk (q.trans this)
 | some x=>
  unfold putK
  rw[adM (by rw[jS,e];rfl),aeC]
  have:((λx:Key×V=>x.1)∘λkv=>if kv.1=k then (kv.1,v) else kv)=(·.1):=by
   funext kv
   show (if kv.1=k then (kv.1,v) else kv).1=kv.1
   split <;> rfl
  rw[this]
  exact h
section
variable {P:Program}{w:World}{K:W.Frag}{mg:Str->Option Value}{base:Heap}{C:Addr}
theorem wB:aQ nNi ["self", "number"] (ar kq):=⟨rfl,rfl,rfl,by decide+kernel,rfl,by decide+kernel,by decide+kernel⟩
theorem BE{f:Addr}{fd:FuncData}(F:b0 K "names_in" "Forest.names_in" kq f fd)(T:eY K mg C)(O2:gf mg):ay P w K mg base aC 1 f fd ["self", "number"] (xY P w C):=by
 refine F.ok wB (λvs H Q E h=>?_) (λcdv A outer s H vs Q E hr h=>?_)
 . obtain⟨y,dy,nm,sp,nd,kn,ch,im,ex,names,S,n,rfl,_⟩:=h
   rfl
 . obtain⟨y,dy,nm,sp,nd,kn,ch,im,ex,names,S,n,rfl,hO,hn,hN,kk⟩:=h
   have hu:=d6 hr
   refine⟨_,ai (aD (i:=2) wB.nd rfl (Or.inl rfl) jT)
    (ai (aD (i:=3) wB.nd rfl (Or.inl rfl) jT)
    (ai (aD (i:=4) wB.nd rfl (Or.inl rfl) (cK (aa (pv 1) ag)))
    (ai (Ib ad6 (cF yg (bz cc (by rfl) O2.len aem (aa (pv 4) ag)) ao (cU _))
     (ai (aD (i:=1) wB.nd rfl (Or.inl rfl) (Od adZ PySem.F.slot_list_pop PySem.F.type_list_pop Og (pv 4)))
     (av (cw (PW.pt (E9 (cF yg (pv 1) ao (cU _)) (BJ (eD (kQ hu (pv 1) (pv 3)) (by with_unfolding_all rfl)))))
      (ai (dQ hu (pv 3) (pv 1) jk rfl)
      (ai (aD (i:=5) wB.nd rfl (Or.inl rfl) (aK (r:=eS K) a0 (aM (pv 0) rfl) (pv 1) (λ_ _=>rfl)))
      (ai (dQ hu (pv 2) (aK (r:=eS K) a0 (aM (pv 0) rfl) (aK (r:=cN K) bx (pv 5) ao (λ_ _=>rfl)) (λ_ _=>rfl)) jk rfl)
      (av (eu (eV adZ PySem.F.slot_list_extend PySem.F.type_list_extend FD (pv 4) (aa (cK (aa (aK (r:=cN K) bx (pv 5) ao (λ_ _=>rfl)) (aa (aK (r:=cN K) bx (pv 5) ao (λ_ _=>rfl)) ag))) ag))))))) bf))))
    (av (aN (pv 2)))))),?_⟩
   refine λfd Lf=>?_
   have s1:ak H (upd H fd (.dK [])):=ak.ax Lf
   have q1:(upd H fd (.dK [])) fd=some (.dK []):=af
   show eF _ _ _ _ (upd H fd (.dK []))
   generalize upd H fd (.dK [])=H1 at s1 q1 ⊢
   refine λsd Qy=>?_
   have s2:ak H1 (upd H1 sd (.dK [])):=ak.ax Qy
   have q2:(upd H1 sd (.dK [])) sd=some (.dK []):=af
   have fs:fd≠sd:=ae q1 Qy
   show eF _ _ _ _ (upd H1 sd (.dK []))
   generalize upd H1 sd (.dK [])=H2 at s2 q2 ⊢
   refine⟨_,rfl,(by show 1<=sizeLine;decide),λwd Lg=>?_⟩
   have s3:ak H2 (upd H2 wd (.lst [.int (n:Int)])):=ak.ax Lg
   have q3:(upd H2 wd (.lst [.int (n:Int)])) wd=some (.lst [.int (n:Int)]):=af
   have fw:fd≠wd:=ae (s2 _ _ q1) Lg
   have sw:sd≠wd:=ae q2 Lg
   show eF _ _ _ _ (upd H2 wd (.lst [.int (n:Int)]))
   generalize upd H2 wd (.lst [.int (n:Int)])=H3 at s3 q3 ⊢
   have lH:=s1.trans (s2.trans s3)
   have back:∀{Hy:Hp}{b:Addr},ak H Hy->Hy b=none->H b=none:=λ{Hy} {b} s h=>by
    cases e:H b with
    | none=>rfl
    | some o=>rw[s _ _ e]at h;cases h
   have X1:H sd=none:=back s1 Qy
   have fwd:H wd=none:=back (s1.trans s2) Lg
   have fG:=hO.same lH
   refine⟨λk σ Hx=>Qx H3 y fd sd wd names S n k σ Hx,⟨_,[],[],[n],some (.int (n:Int)),none,rfl,rfl,λ_ _ h _ _ _=>h,s3 _ _ (s2 _ _ q1),s3 _ _ q2,q3,aex,adn _,adn _,(λi hi=>by rw[adJ.mp hi];exact⟨hn,λ_ h=>h⟩),(λi hi=>nomatch hi),.inr (.inr (agU _)),(λz hz=>by cases hz),(λkv hk=>nomatch hk),aex⟩,?_⟩
   rintro k σ Hx ⟨F,se,W,v1,v5,rfl,rfl,kx,hF,hS,hW,C1,wl,fl,iW,iS,iR,iF,iK,iN⟩
   refine⟨_,rfl,wd,_,rfl,.inl (aw.of hW),_,_,rfl,rfl,_,rfl,?_⟩
   have lse:se.length<=S.N.length:=uf _ _ C1 λi hi=>(iS i hi).2.1
   have Qz:∀{b:Addr}{u:HO},H b=some u->Hx b=some u:=λhb=>kx _ _ (lH _ _ hb) (ae hb Lf) (ae hb X1) (ae hb fwd)
   refine iZ (λhgt=>?_) (λhle=>?_)
   . have QA:0<W.length:=by
      have:=aef hgt
      rw[abc]at this
      omega
     have Ez:W[W.length-1]?=some (W[W.length-1]'(by omega)):=adj _
     refine⟨λbY H'=>∃m',m'<3*(S.N.length-se.length)+W.length/\Qx H3 y fd sd wd names S n m' bY H',λ_ _ h=>h,?_⟩
     refine⟨_,rfl,.inl ⟨rfl,_,aw.of hW⟩,wd,_,.int ((W[W.length-1]'(by omega):Nat):Int),rfl,rfl,hW,by rw[abc,ado,Ez];rfl,?_⟩
     have vJ:=iW _ (adX Ez)
     have jM:W=W.dropLast++[W[W.length-1]'(by omega)]:=by
      have hne:W≠[]:=by intro e;rw[e]at QA;exact aey _ QA
      rw[← List.getLast_eq_getElem hne,List.dropLast_concat_getLast]
     generalize W[W.length-1]'(by omega)=i at Ez vJ jM
     have hin:∀j,j∈W->j=i\/j∈W.dropLast:=λj hj=>by
      rw[jM]at hj
      rcases adu.mp hj with h|h
      . exact .inr h
      . exact .inl (adJ.mp h)
     have kw:∀b u,H3 b=some u->b≠fd->b≠sd->b≠wd->(upd Hx wd (.lst (W.map iV).dropLast)) b=some u:=λb u hb n1 n2 n3=>by rw[ah n3];exact kx b u hb n1 n2 n3
     have QB:(upd Hx wd (.lst (W.map iV).dropLast)) fd=some (.dK F):=by rw[ah fw];exact hF
     have Lh:(upd Hx wd (.lst (W.map iV).dropLast)) sd=some (.dK (se.map lx)):=by rw[ah sw];exact hS
     have QC:(upd Hx wd (.lst (W.map iV).dropLast)) wd=some (.lst (W.dropLast.map iV)):=by rw[af,List.map_dropLast]
     have X2:∀{b:Addr}{u:HO},H b=some u->(upd Hx wd (.lst (W.map iV).dropLast)) b=some u:=λhb=>by rw[ah (ae hb fwd)];exact Qz hb
     have ldl:W.dropLast.length+1=W.length:=by rw[ahm];omega
     have skip:(i<2\/i∈se)->∃m',m'<3*(S.N.length-se.length)+W.length/\Qx H3 y fd sd wd names S n m' [some (.ref y),some (.int (i:Int)),some (.ref fd),some (.ref sd),some (.ref wd),v5] (upd Hx wd (.lst (W.map iV).dropLast)):=λhi=>by
      have mv:∀j,(j<2\/j∈se\/j∈W)->(j<2\/j∈se\/j∈W.dropLast):=λj hj=>by
       rcases hj with h|h|h
       . exact .inl h
       . exact .inr (.inl h)
       . rcases hin j h with rfl|h
         . exact hi.imp id λh=>.inl h
         . exact .inr (.inr h)
      exact⟨_,by omega,F,se,W.dropLast,_,_,rfl,rfl,kw,QB,Lh,QC,C1,by omega,fl,λj hj=>iW j (ahq W hj),λj hj=>⟨(iS j hj).1,(iS j hj).2.1,(iS j hj).2.2.1,(iS j hj).2.2.2.1,mv _ (iS j hj).2.2.2.2.1,mv _ (iS j hj).2.2.2.2.2⟩,mv n iR,iF,iK,iN⟩
     refine⟨_,rfl,_,_,rfl,rfl,_,rfl,iZ (λh1=>?_) (λh1=>jU ?_)⟩
     . have xB:2<=i:=by
        have:=aef h1
        omega
       refine⟨_,rfl,_,rfl,sd,_,rfl,br.k (k:=.inl (i:Int)) Lh,_,rfl,?_⟩
       cases hv:aI (se.map lx) (.inl (i:Int)) with
       | some v=>exact de rfl (skip (.inr (JD hv)))
       | none=>
        refine df rfl ?_
        have QD:=JC hv
        obtain⟨b1,b2,b3,b4,b5,b6,b7⟩:=hO.fs.nd i xB vJ.1
        obtain⟨t,PY,Am⟩:=hO.node vJ.1
        have aih:se.length+1<=S.N.length:=by
         have:=uf S.N.length (se++[i]) (by
          rw[adK]
          refine⟨C1,by simp,λa ha b hb e=>?_⟩
          have:b=i:=by simpa using hb
          exact QD (by rw[← this,← e];exact ha)) λx hx=>by
          rcases adu.mp hx with h|h
          . exact(iS x h).2.1
          . rw[adJ.mp h];exact vJ.1
         rw[adm]at this
         exact this
        refine⟨_,rfl,_,rfl,sd,_,rfl,eP.k (k:=.inl (i:Int)) Lh (by rw[abc];exact big (by omega)),?_⟩
        rw[gw _ hv]
        have e1:(se.map lx)++[((.inl (i:Int):Key),V.bl true)]=(se++[i]).map lx:=by rw[adp];rfl
        rw[e1]
        generalize upd Hx wd (.lst (W.map iV).dropLast)=Hy at kw QB Lh QC X2 ⊢
        have k1:∀b u,H3 b=some u->b≠fd->b≠sd->b≠wd->(upd Hy sd (.dK ((se++[i]).map lx))) b=some u:=λb u hb n1 n2 n3=>by rw[ah n2];exact kw b u hb n1 n2 n3
        have X3:(upd Hy sd (.dK ((se++[i]).map lx))) fd=some (.dK F):=by rw[ah fs];exact QB
        have X4:(upd Hy sd (.dK ((se++[i]).map lx))) sd=some (.dK ((se++[i]).map lx)):=af
        have X5:(upd Hy sd (.dK ((se++[i]).map lx))) wd=some (.lst (W.dropLast.map iV)):=by rw[ah (adG sw)];exact QC
        have aW:∀{b:Addr}{u:HO},H b=some u->(upd Hy sd (.dK ((se++[i]).map lx))) b=some u:=λhb=>by rw[ah (ae hb X1)];exact X2 hb
        show eF _ _ _ _ (upd Hy sd (.dK ((se++[i]).map lx)))
        generalize upd Hy sd (.dK ((se++[i]).map lx))=Hz at k1 X3 X4 X5 aW ⊢
        refine⟨_,rfl,y,C,dy,_,_,rfl,aW hO.hy,T.cl,T.n3,n9 ..,_,rfl,nd,_,_,.ref t,rfl,rfl,aw.of (aW hO.hd),aG (by rw[ado,PY];rfl),?_⟩
        have Qw:names[az S.N i]?=some (names.getD (az S.N i) ""):=by rw[adA,adj b1];rfl
        refine⟨_,rfl,_,rfl,y,C,dy,_,_,rfl,aW hO.hy,T.cl,T.n1,D7 ..,_,rfl,t,_,0,_,rfl,rfl,aS.of (aW Am),aG (j:=0) rfl,nm,_,_,.str (names.getD (az S.N i) ""),rfl,rfl,aw.of (aW hO.hn),?_,?_⟩
        . exact aG (j:=az S.N i) (by rw[ado,Qw];rfl)
        refine⟨fd,_,rfl,eP.k (k:=.inr (names.getD (az S.N i) "")) X3 (big (by omega)),?_⟩
        have k2:∀b u,H3 b=some u->b≠fd->b≠sd->b≠wd->(upd Hz fd (.dK (putK F (.inr (names.getD (az S.N i) "")) (.bl true)))) b=some u:=λb u hb n1 n2 n3=>by rw[ah n1];exact k1 b u hb n1 n2 n3
        have QE:(upd Hz fd (.dK (putK F (.inr (names.getD (az S.N i) "")) (.bl true)))) fd=some (.dK (putK F (.inr (names.getD (az S.N i) "")) (.bl true))):=af
        have xg:(upd Hz fd (.dK (putK F (.inr (names.getD (az S.N i) "")) (.bl true)))) sd=some (.dK ((se++[i]).map lx)):=by rw[ah (adG fs)];exact X4
        have Li:(upd Hz fd (.dK (putK F (.inr (names.getD (az S.N i) "")) (.bl true)))) wd=some (.lst (W.dropLast.map iV)):=by rw[ah (adG fw)];exact X5
        have JE:∀{b:Addr}{u:HO},H b=some u->(upd Hz fd (.dK (putK F (.inr (names.getD (az S.N i) "")) (.bl true)))) b=some u:=λhb=>by rw[ah (ae hb Lf)];exact aW hb
        generalize upd Hz fd (.dK (putK F (.inr (names.getD (az S.N i) "")) (.bl true)))=Hv at k2 QE xg Li JE ⊢
        refine⟨_,rfl,.inl ⟨rfl,_,aw.of Li⟩,_,rfl,t,_,1,.int ((low S.N i:Nat):Int),rfl,rfl,aS.of (JE Am),aG (j:=1) rfl,_,rfl,t,_,2,.int ((cS S.N i:Nat):Int),rfl,rfl,aS.of (JE Am),aG (j:=2) rfl,(by show 2<=sizeLine;decide),λel Lj=>?_⟩
        have nel:wd≠el:=ae Li Lj
        refine⟨wd,el,_,_,rfl,rfl,(ah nel).trans Li,af,(by rw[abc];exact ae5 (big (by show W.dropLast.length+2<=_;omega))),?_⟩
        have jG:∀z,bo (putK F (.inr (names.getD (az S.N i) "")) (.bl true)) z ↔ (z=names.getD (az S.N i) "" \/ bo F z):=λz=>by
         unfold bo
         rw[eO]
         by_cases e:(.inr z:Key)=.inr (names.getD (az S.N i) "")
         . rw[adM e]
           exact⟨λ_=>.inl (aer e),λ_=>rfl⟩
         . rw[adw e]
           exact⟨λh=>.inr h,λh=>h.elim (λq=>absurd (congrArg Sum.inr q) e) id⟩
        have mv:∀j,(j<2\/j∈se\/j∈W)->(j<2\/j∈se++[i]\/j∈W.dropLast++[low S.N i,cS S.N i]):=λj hj=>by
         rcases hj with h|h|h
         . exact .inl h
         . exact .inr (.inl (adT _ h))
         . rcases hin j h with rfl|h
           . exact .inr (.inl (adF _ (agU _)))
           . exact .inr (.inr (adT _ h))
        have aag:∀z,iT z (au S.TS (low S.N i))->iT z (au S.TS n):=λz hz=>vJ.2 z (by rw[b7];exact .inr (.inl hz))
        have aah:∀z,iT z (au S.TS (cS S.N i))->iT z (au S.TS n):=λz hz=>vJ.2 z (by rw[b7];exact .inr (.inr hz))
        refine⟨_,?_,putK F (.inr (names.getD (az S.N i) "")) (.bl true),se++[i],W.dropLast++[low S.N i,cS S.N i],_,_,rfl,rfl,λb u hb n1 n2 n3=>?_,?_,?_,?_,?_,?_,?_,?_,?_,mv n iR,?_,?_,Ey iN⟩
        . rw[adm,adm]
          show 3*(S.N.length-(se.length+1))+(W.dropLast.length+2)<_
          omega
        . have OR:b≠el:=λe=>by
           have:=k2 b u hb n1 n2 n3
           rw[e,Lj]at this
           cases this
          rw[ah n3,ah OR]
          exact k2 b u hb n1 n2 n3
        . rw[ah fw,ah (ae QE Lj)]
          exact QE
        . rw[ah sw,ah (ae xg Lj)]
          exact xg
        . rw[af,adp]
          rfl
        . rw[adK]
          refine⟨C1,by simp,λa ha b hb e=>?_⟩
          have:b=i:=by simpa using hb
          exact QD (by rw[← this,← e];exact ha)
        . rw[adm,adm]
          show W.dropLast.length+2<=1+(se.length+1)
          omega
        . rw[adm]
          exact ady (d5 _ _ _) (aeP fl)
        . intro j hj
          rcases adu.mp hj with h|h
          . exact iW j (ahq W h)
          . rcases adq.mp h with rfl|h
            . exact⟨by omega,aag⟩
            . rw[adJ.mp h]
              exact⟨by omega,aah⟩
        . intro j hj
          rcases adu.mp hj with h|h
          . obtain⟨c1,c2,c3,c4,c5,c6⟩:=iS j h
            exact⟨c1,c2,c3,(jG _).mpr (.inr c4),mv _ c5,mv _ c6⟩
          . rw[adJ.mp h]
            exact⟨xB,vJ.1,vJ.2,(jG _).mpr (.inl rfl),.inr (.inr (adF _ adB)),.inr (.inr (adF _ (adx _ adB)))⟩
        . intro z hz
          rcases (jG z).mp hz with rfl|h
          . exact vJ.2 _ (by rw[b7];exact .inl rfl)
          . exact iF z h
        . intro kv bb
          rcases pN bb with h|h
          . exact iK kv h
          . rw[h]
            exact⟨_,rfl⟩
     . exact skip (.inl (by
        have h2:¬ (1:Int)<(i:Int):=λq=>h1 (ad3 q)
        omega))
   . have hW0:W=[]:=by
      cases W with
      | nil=>rfl
      | cons a r=>exact absurd (ad3 (by rw[abc,adL];omega)) hle
     subst hW0
     refine⟨_,rfl,kk fd F Hx (λb u hb=>Qz hb) Lf hF (λz=>⟨iF z,λhz=>?_⟩) iK iN⟩
     have key:∀i,(i<2\/i∈se)->iT z (au S.TS i)->bo F z:=by
      intro i
      induction i using Nat.strongRecOn with
      | ind i ih=>
       intro hi ho
       rcases hi with hi|hi
       . rcases (show i=0\/i=1 by omega) with rfl|rfl
         . rw[hO.fs.t0]at ho;exact ho.elim
         . rw[hO.fs.t1]at ho;exact ho.elim
       . obtain⟨i2,il,_,iF2,ic1,ic2⟩:=iS i hi
         obtain⟨b1,b2,b3,b4,b5,b6,b7⟩:=hO.fs.nd i i2 il
         rw[b7]at ho
         rcases ho with rfl|ho|ho
         . exact iF2
         . exact ih _ b2 (ic1.imp id λh=>h.elim id λh=>nomatch h) ho
         . exact ih _ b3 (ic2.imp id λh=>h.elim id λh=>nomatch h) ho
     exact key n (iR.imp id λh=>h.elim id λh=>nomatch h) hz
end
abbrev sD:Stmt:=top 29
structure MZ(M:aR) (all:List Str):Prop where
 ok:dj M all
 n60:M.gates.length<=60
 n8:(ba M).length<=8
theorem pU(M:aR):(ba M).length=M.keepers.length+M.switches.length:=by unfold ba;rw[adm,abc]
theorem MZ.fm{M:aR}{all:List Str}(h:MZ M all):Fm M all:=by
 have:=h.n8
 rw[pU]at this
 exact⟨h.ok,by omega,by omega,h.n60⟩
theorem MZ.wn{M:aR}{all:List Str}(h:MZ M all):(M.nevers.map (·.1)).Nodup/\(M.somes.map (·.1)).Nodup/\(M.keepers.map (·.1)).Nodup:=by
 refine⟨h.ok.nvw.nd,h.ok.smw.nd,?_⟩
 have:=(adK.mp (adK.mp (lr h.ok)).1).2.1
 exact this
def Tx(K:W.Frag):List V->Hp->VK->Prop:=λxs H Q=>∃a ys,xs=[.ref a]/\aS K H a ys/\Q (.ref a) H
inductive C3(CM:Addr) (vs:List V) (H:Hp) (Q:VK):Prop
 | mk (m:Addr) (M:aR) (all:List Str) (a1 a2 a3 a4 a5 a6:Addr) (h1:vs=[.ref m]) (h2:ir H m M a1 a2 a3 a4 a5 a6) (h3:MZ M all) (h4:∀(x dx f1 f2 f3 f4 f5 f6:Addr) (ts:List Addr) (H':Hp),ak H H'->MG CM H' x dx f1 f2 f3 f4 f5 f6 ts M->Q (.ref x) H'):C3 CM vs H Q
def AZ(CM:Addr):Sp:=λvs H Q _=>C3 CM vs H Q
abbrev Tz:List Str:=["_law_m", "_law_gates", "_law_wishes_here"]
theorem aai:(["_law_gate"]:List Str).Nodup:=by decide+kernel
section
variable {P:Program}{w:World}{K:W.Frag}{mg:Str->Option Value}{base:Heap}{CF CM CG:Addr}
theorem A0:aQ Tz ["_law_m"] (ar sD):=⟨rfl,rfl,rfl,by decide+kernel,rfl,by decide+kernel,by decide+kernel⟩
theorem Nn{f fI:Addr}{fd dI:FuncData}(F:b0 K "_law_made" "_law_made" sD f fd)(T:tV K mg CM)(O:gf mg)
 (mI:Mk K CM fI) (gI:ay P w K mg base aC 1 fI dI rY (GI CM)) (bI:Binds K dI rY []):ay P w K mg base aC 3 f fd ["_law_m"] (AZ CM):=by
 refine F.ok A0 (λvs H Q E h=>?_) (λcdv A outer s H vs Q E hr h=>?_)
 . obtain⟨m,M,all,a1,a2,a3,a4,a5,a6,rfl,_⟩:=h
   rfl
 . obtain⟨m,M,all,a1,a2,a3,a4,a5,a6,rfl,hM,mz,kk⟩:=h
   have hu:=d6 hr
   obtain⟨nd5,nd6,Aj⟩:=mz.wn
   have nd4:=mz.ok.nxd
   have n60:=mz.n60
   refine⟨_,ai (uK (i:=1) (N:=["_law_gate"]) (js:=[none]) A0.nd rfl rfl (by kernel_rfl) rfl (c8 (cG hu (pv 0) bp (λ_ _=>rfl))) (λ_ _ _ _ _ _=>aH (i:=0) aai rfl (Or.inl rfl) (.inr rfl)) (λ_ _ _ _ _ _=>bQ) (λ_ _ _ _ _ _=>bw (r:=Tx K) Bv (by rfl) O.tuple afN (aa (pv 0) ag)))
    (ai (aD (i:=2) A0.nd rfl (Or.inl rfl) (cK (aa (bw (dq rfl) (by rfl) O.dict ad9 (aa (cG hu (pv 0) bp (λ_ _=>rfl)) ag)) (aa (bw (dq rfl) (by rfl) O.dict ad9 (aa (cG hu (pv 0) bp (λ_ _=>rfl)) ag)) ag))))
    (av (aN (vS mI gI hr rfl T.mgC bI .nil aA (aa (bw ig (by rfl) O.list aeu (aa (cG hu (pv 0) bp (λ_ _=>rfl)) ag))
     (aa (bw (dq rfl) (by rfl) O.dict ad9 (aa (cG hu (pv 0) bp (λ_ _=>rfl)) ag))
     (aa (pv 1)
     (aa (bw (dq rfl) (by rfl) O.dict ad9 (aa (cG hu (pv 0) bp (λ_ _=>rfl)) ag))
     (aa (aK (r:=eS K) a0 (pv 2) ao (λ_ _=>rfl))
     (aa (aK (r:=eS K) a0 (pv 2) ao (λ_ _=>rfl)) ag)))))))))),?_⟩
   obtain⟨us,h3,ij⟩:=id hM.gt
   have X6:=ij.length
   rw[abc]at X6
   refine⟨_,rfl,m,.ref a3,rfl,br.k (k:=.inr "gates") hM.top,a3,rfl,⟨_,aw.of h3⟩,λD hD=>?_⟩
   refine fQ us.length (λi acc σ H9=>acc=(us.take i).map V.ref/\(∃u,σ=[u])/\ak H H9) ⟨rfl,⟨none,rfl⟩,ak.ax hD⟩ af ?fin ?step
   case step=>
    rintro i acc σ H9 hi cQ ⟨rfl,⟨u,rfl⟩,s9⟩
    have hx:(us.map V.ref)[i]?=some (.ref us[i]):=by rw[ado,adj hi];rfl
    refine⟨⟨_,_,aw.of (s9 _ _ h3),hx⟩,?_⟩
    rintro xv H' ⟨rfl,hv⟩
    have ex:=hv _ (aw.of (s9 _ _ h3))
    rw[hx]at ex
    cases ex
    have hg:(M.gates.map mQ)[i]?=some (mQ (M.gates[i]'(by omega))):=by rw[ado,adj (by omega)];rfl
    obtain⟨t,ht,hT⟩:=cH ij hg
    rw[adj hi]at ht
    cases ht
    refine dv ⟨_,rfl,us[i],_,rfl,aS.of (s9 _ _ hT),_,cQ,by rw[abc,adU];exact small (by omega),cP hi af ⟨?_,⟨_,rfl⟩,λb o hb=>?_⟩⟩
    . rw[aen,adj hi,adp]
      rfl
    . rw[ah (ae hb hD)]
      exact s9 _ _ hb
   case fin=>
   rintro acc σ H1 cQ ⟨rfl,_,s1⟩
   rw[ad5]at cQ
   refine⟨⟨_,aw.of (s1 _ _ h3),by rw[abc];exact adn _⟩,?_⟩
   obtain⟨t5,u5,v5⟩:=sr (h:=λr:Str×Str=>((.inr r.1:Key),V.str r.2)) (λ_=>rfl) (hM.same s1).nv
   refine⟨_,rfl,m,.ref a5,rfl,br.k (k:=.inr "nevers") (hM.same s1).top,a5,t5,cR M.nevers,rfl,u5,v5,λf5 e5=>?_⟩
   rw[rq nd5]
   have s2:ak H1 (upd H1 f5 (.dK (cR M.nevers))):=ak.ax e5
   have q5:(upd H1 f5 (.dK (cR M.nevers))) f5=_:=af
   generalize upd H1 f5 (.dK (cR M.nevers))=H2 at s2 q5 ⊢
   have jy:=s1.trans s2
   obtain⟨t6,u6,v6⟩:=sr (h:=λr:Str×Str=>((.inr r.1:Key),V.str r.2)) (λ_=>rfl) (hM.same jy).sm
   refine⟨_,rfl,m,.ref a6,rfl,br.k (k:=.inr "somes") (hM.same jy).top,a6,t6,cR M.somes,rfl,u6,v6,λf6 e6=>?_⟩
   rw[rq nd6]
   have s3:ak H2 (upd H2 f6 (.dK (cR M.somes))):=ak.ax e6
   have q6:(upd H2 f6 (.dK (cR M.somes))) f6=_:=af
   generalize upd H2 f6 (.dK (cR M.somes))=H3 at s3 q6 ⊢
   have lH:=jy.trans s3
   refine⟨(by show 2<=sizeLine;decide),λwl sM=>?_⟩
   have s4:ak H3 (upd H3 wl (.lst [.ref f5,.ref f6])):=ak.ax sM
   have qw:(upd H3 wl (.lst [.ref f5,.ref f6])) wl=some (.lst [.ref f5,.ref f6]):=af
   generalize upd H3 wl (.lst [.ref f5,.ref f6])=H4 at s4 qw ⊢
   have Av:=lH.trans s4
   refine⟨_,rfl,m,.ref a1,rfl,br.k (k:=.inr "switches") (hM.same Av).top,a1,_,rfl,.inl (aw.of (hM.same Av).sw),λf1 e1=>?_⟩
   have s5:ak H4 (upd H4 f1 (.lst (M.switches.map V.str))):=ak.ax e1
   have q1:(upd H4 f1 (.lst (M.switches.map V.str))) f1=_:=af
   generalize upd H4 f1 (.lst (M.switches.map V.str))=H5 at s5 q1 ⊢
   have xu:=Av.trans s5
   obtain⟨t2,u2,v2⟩:=sr (h:=λr:Str×V=>((.inr r.1:Key),r.2)) (λ_=>rfl) (hM.same xu).kp
   refine⟨_,rfl,m,.ref a2,rfl,br.k (k:=.inr "keepers") (hM.same xu).top,a2,t2,gq M.keepers,rfl,u2,v2,λf2 e2=>?_⟩
   rw[show bG [] (gq M.keepers)=gq M.keepers from rp M.keepers [] Aj]
   have s6:ak H5 (upd H5 f2 (.dK (gq M.keepers))):=ak.ax e2
   have q2:(upd H5 f2 (.dK (gq M.keepers))) f2=_:=af
   generalize upd H5 f2 (.dK (gq M.keepers))=H6 at s6 q2 ⊢
   have QF:=xu.trans s6
   obtain⟨t4,u4,v4⟩:=sr (h:=λr:Str×Str=>((.inr r.1:Key),V.str r.2)) (λ_=>rfl) (hM.same QF).nx
   refine⟨_,rfl,_,rfl,m,.ref a4,rfl,br.k (k:=.inr "nexts") (hM.same QF).top,a4,t4,cR M.nexts,rfl,u4,v4,λf4 e4=>?_⟩
   rw[rq nd4]
   have s7:ak H6 (upd H6 f4 (.dK (cR M.nexts))):=ak.ax e4
   have q4:(upd H6 f4 (.dK (cR M.nexts))) f4=_:=af
   generalize upd H6 f4 (.dK (cR M.nexts))=H7 at s7 q4 ⊢
   have xZ:=s5.trans (s6.trans s7)
   refine⟨_,rfl,wl,_,_,_,rfl,rfl,aw.of (xZ _ _ qw),aG (j:=0) rfl,_,rfl,wl,_,_,_,rfl,rfl,aw.of (xZ _ _ qw),aG (j:=1) rfl,?_⟩
   intro y dy hy CZ hne
   have t7:ak H7 (upd (upd H7 dy (.own y)) y (.ins CM dy [])):=λb o hb=>by
    rw[ah (ae hb hy),ah (ae hb CZ)]
    exact hb
   have q7:(upd (upd H7 dy (.own y)) y (.ins CM dy [])) y=some (.ins CM dy []):=af
   generalize upd (upd H7 dy (.own y)) y (.ins CM dy [])=H8 at t7 q7 ⊢
   have CO:=QF.trans s7
   have s18:=s2.trans (s3.trans (s4.trans (xZ.trans t7)))
   refine⟨y,dy,f1,f2,D,f4,f5,f6,⟨M.switches,gq M.keepers,us,cR M.nexts,cR M.nevers,cR M.somes⟩,rfl,q7,⟨t7 _ _ (s7 _ _ (s6 _ _ q1)),t7 _ _ (s7 _ _ q2),s18 _ _ cQ,t7 _ _ q4,t7 _ _ (xZ _ _ (s4 _ _ (s3 _ _ q5))),t7 _ _ (xZ _ _ (s4 _ _ q6))⟩,λk1 k2 k3 k4 k5 k6 H9 hg oG hp8 HH kp8=>⟨rfl,?_⟩⟩
   have X7:ak H H9:=λb o hb=>kp8 b o (t7 _ _ (CO _ _ hb)) (ae (CO _ _ hb) hy)
   simp only[ad1,adq,adI,aec,af6]at oG
   exact kk y dy k1 k2 k3 k4 k5 k6 us H9 X7 ⟨⟨hp8,HH.h1,HH.h2,HH.h3,Paired.cM (nh ij) λt r e=>X7 _ _ e⟩,HH.h4,HH.h5,⟨all,mz.ok⟩,mz.n60,mz.n8,oG.2.1.2.1,oG.2.1.2.2.1,oG.2.2.2.1.1⟩
end
abbrev me:Stmt:=top 3
abbrev oV:Stmt:=inClass (top 9) 7
abbrev mh:Stmt:=inClass (top 9) 8
abbrev kr:Stmt:=inClass (top 9) 9
abbrev ez(M:aR):List Str:=M.keepers.map (·.1)
def nO(M:aR)(e:Str->Bool):Str->Bool:=λn=>if n∈ez M then dz M e (eX M.nexts n) else e n
def rH(M:aR)(S:bq) (NX:List (Key×V)):Prop:=∀z v,aI NX (.inr z)=some v->z∈ez M/\∃i:Nat,v=.int (i:Int)/\i<S.N.length/\∀e,ev e (au S.TS i)=dz M e (eX M.nexts z)
def EA(M:aR)(S:bq) (NX MI:List (Key×V)):Prop:=∀kv∈MI,∃i m:Nat,kv.1=.inl (i:Int)/\kv.2=.int (m:Int)/\i<S.N.length/\m<S.N.length/\(∀e,ev e (au S.TS m)=ev (nO M e) (au S.TS i))/\∀z,iT z (au S.TS i)->bo NX z
structure GX(M:aR) (s:GS):Prop where
 nx:rH M s.S s.NX
 mi:EA M s.S s.NX s.MI
 mw:wy s.S (nJ M.switches) s.MW
 nk:∀kv∈s.NX,∃z∈ez M,kv.1=.inr z
 nn:(s.NX.map (·.1)).Nodup
theorem rH.grow{M:aR}{S S':bq}{NX:List (Key×V)}(h:rH M S NX) (g:cz S S') (hl:S.N.length=S.TS.length):rH M S' NX:=λz v hv=>by
 obtain⟨hz,i,e1,l,e2⟩:=h z v hv
 have:=g.le
 exact⟨hz,i,e1,by omega,λe=>by rw[g.au (by omega)];exact e2 e⟩
theorem EA.grow{M:aR}{S S':bq}{NX cL MI:List (Key×V)}(h:EA M S NX MI) (g:cz S S') (hl:S.N.length=S.TS.length) (hn:∀z,bo NX z->bo cL z):EA M S' cL MI:=λkv bb=>by
 obtain⟨i,m,e1,e2,l1,l2,hv,ho⟩:=h kv bb
 have:=g.le
 refine⟨i,m,e1,e2,by omega,by omega,λe=>?_,λz hz=>hn z (ho z (by rw[g.au (by omega)]at hz;exact hz))⟩
 rw[g.au (by omega),g.au (by omega)]
 exact hv e
theorem GX.grow{M:aR}{s:GS}{S':bq}{PL':List (Key×V)}(h:GX M s) (g:cz s.S S') (hl:s.S.N.length=s.S.TS.length):GX M ⟨S',PL',s.NX,s.MI,s.MW⟩:=⟨h.nx.grow g hl,h.mi.grow g hl λ_ h=>h,h.mw.grow g hl,h.nk,h.nn⟩
def vK(S:bq) (NX:List (Key×V)):Str->Option Tr:=λz=>match aI NX (.inr z) with|some (.int i)=>some (au S.TS i.toNat)|_=>none
theorem ug{M:aR}{S:bq}{NX:List (Key×V)}(h:rH M S NX){z:Str}(hz:bo NX z):∃i:Nat,aI NX (.inr z)=some (.int (i:Int))/\i<S.N.length/\vK S NX z=some (au S.TS i)/\z∈ez M/\∀e,ev e (au S.TS i)=dz M e (eX M.nexts z):=by
 unfold bo at hz
 cases e:aI NX (.inr z) with
 | none=>rw[e]at hz;cases hz
 | some v=>
  obtain⟨hk,i,rfl,l,he⟩:=h z v e
  refine⟨i,rfl,l,?_,hk,he⟩
  unfold vK
  rw[e]
  rfl
theorem A8{S:bq}{NX:List (Key×V)}{z:Str}(hz:¬ bo NX z):aI NX (.inr z)=none/\vK S NX z=none:=by
 have e:aI NX (.inr z)=none:=by
  cases e:aI NX (.inr z) with
  | none=>rfl
  | some v=>exact absurd (by unfold bo;rw[e];rfl) hz
 refine⟨e,?_⟩
 unfold vK
 rw[e]
theorem QG{M:aR}{S:bq}{NX:List (Key×V)}(h:rH M S NX):AW S (vK S NX) NX:=λz=>by
 by_cases hz:bo NX z
 . obtain⟨i,e1,l,e2,_⟩:=ug h hz
   rw[e2]
   exact⟨i,e1,l,rfl⟩
 . obtain⟨e1,e2⟩:=A8 (S:=S) hz
   rw[e2]
   exact e1
theorem vL{M:aR}{S:bq}{NX:List (Key×V)}(h:rH M S NX) (z:Str):(vK S NX z).isSome=true ↔ bo NX z:=by
 constructor
 . intro hz
   by_cases hh:bo NX z
   . exact hh
   . rw[(A8 (S:=S) hh).2]at hz
     cases hz
 . intro hz
   obtain⟨i,_,_,e2,_⟩:=ug h hz
   rw[e2]
   rfl
theorem wC{M:aR}{S:bq}{NX:List (Key×V)}(h:rH M S NX){z:Str}(hz:bo NX z) (e:Str->Bool):nr (vK S NX) e z=nO M e z:=by
 obtain⟨i,_,_,e2,hk,he⟩:=ug h hz
 unfold nr nO
 rw[e2,adM hk]
 exact he e
theorem rJ:∀{α:Type}[DecidableEq α] {l m:List α},l.Nodup->(∀x∈l,x∈m)->l.length<=m.length
 | _,_,[],_,_,_=>adW _
 | _,_,x::l,m,nd,h=>by
  rw[ad1]at nd
  have hx:=h x adB
  have:=rJ (l:=l) (m:=m.erase x) nd.2 λy hy=>(ahn λe=>nd.1 (by rw[← e];exact hy)).mpr (h y (adx _ hy))
  rw[agB hx]at this
  have:=ag5 hx
  rw[adL]
  omega
theorem GX.len{M:aR}{s:GS}(h:GX M s):s.NX.length<=M.keepers.length:=by
 have:=rJ (m:=(ez M).map (Sum.inr:Str->Key)) h.nn λx hx=>by
  obtain⟨kv,hk,rfl⟩:=ads.mp hx
  obtain⟨z,hz,e⟩:=h.nk kv hk
  rw[e]
  exact ads.mpr ⟨z,hz,rfl⟩
 rw[abc,abc,abc]at this
 exact this
theorem JF{M:aR}{all:List Str}(ok:dj M all){k:Str}(hk:k∈ez M):Lit all (eX M.nexts k):=by
 unfold eX
 cases e:M.nexts.find? λq=>decide (q.1=k) with
 | none=>exact .inr (.inr ⟨k,by rw[ok.all];exact adT _ (adF _ hk),.inl rfl⟩)
 | some q=>exact ok.nxl q (ae1 e)
section
variable {P:Program}{w:World}{CF CM CG:Addr}{H H':Hp}{a:GA}{M:aR}{s:GS}
theorem GO.TB(h:GO P w CF CM CG H a M s){cL:List (Key×V)} : GO P w CF CM CG (upd H a.nx (.dK cL)) a M ⟨s.S,s.PL,cL,s.MI,s.MW⟩:=by
 refine h.keep (h.fo.putD h.hnx (h.ne (i:=5) (j:=8) rfl rfl (by decide)) (h.ne (i:=5) (j:=9) rfl rfl (by decide))) (λb o hb nb=>?_) ?_ af ?_ ?_ h.pk h.p0
 . rw[ah λe=>nb (by rw[e];simp[GA.own])]
   exact hb
 . rw[ah (h.ne (i:=3) (j:=5) rfl rfl (by decide))];exact h.hp
 . rw[ah (h.ne (i:=6) (j:=5) rfl rfl (by decide))];exact h.hmi
 . rw[ah (h.ne (i:=7) (j:=5) rfl rfl (by decide))];exact h.hmw
end
inductive x8(CM:Addr) (vs:List V) (H:Hp) (Q:VK):Prop
 | mk (x dx f1 f2 f3 f4 f5 f6:Addr) (l:List (Str×Str)) (k:Str) (h1:vs=[.ref x,.str k]) (h2:H x=some (.ins CM dx (lA f1 f2 f3 f4 f5 f6))) (h3:H f4=some (.dK (cR l))) (h4:Q (.str (eX l k)) H):x8 CM vs H Q
def A9(CM:Addr):Sp:=λvs H Q _=>x8 CM vs H Q
inductive Be(P:Program) (w:World) (CF CM CG:Addr) (vs:List V) (H:Hp) (Q:VK):Prop
 | mk (a:GA) (M:aR) (s:GS) (k:Str) (b:Nat) (h1:vs=[.ref a.g,.str k]) (h2:GO P w CF CM CG H a M s) (h3:k∈ez M) (h4:GB s b) (h5:b+190000<2895000) (h6:∀(n:Nat) (S':bq) (PL':List (Key×V)) (H':Hp),GO P w CF CM CG H' a M ⟨S',PL',s.NX,s.MI,s.MW⟩->KG H H' a->cz s.S S'->GB ⟨S',PL',s.NX,s.MI,s.MW⟩ (b+191022)->n<S'.N.length->(∀e,ev e (au S'.TS n)=dz M e (eX M.nexts k))->Q (.int (n:Int)) H'):Be P w CF CM CG vs H Q
def C4(P:Program)(w:World)(CF CM CG:Addr):Sp:=λvs H Q _=>Be P w CF CM CG vs H Q
inductive vM(P:Program) (w:World) (CF CM CG:Addr) (vs:List V) (H:Hp) (Q:VK):Prop
 | mk (a:GA) (M:aR) (s:GS) (n b:Nat) (h1:vs=[.ref a.g,.int (n:Int)]) (h2:GO P w CF CM CG H a M s) (h3:GX M s) (h4:n<s.S.N.length) (h5:GB s b) (h6:b+wc (au s.S.TS n)<3000000) (h7:∀(m:Nat) (S':bq) (vy:List (Key×V)) (H':Hp),GO P w CF CM CG H' a M ⟨S',s.PL,s.NX,s.MI,vy⟩->GX M ⟨S',s.PL,s.NX,s.MI,vy⟩->KG H H' a->cz s.S S'->GB ⟨S',s.PL,s.NX,s.MI,vy⟩ (b+wc (au s.S.TS n))->m<S'.N.length->(∀e,ev e (au S'.TS m)=true ↔ nJ M.switches e (au s.S.TS n))->Q (.int (m:Int)) H'):vM P w CF CM CG vs H Q
def x9(P:Program)(w:World)(CF CM CG:Addr):Sp:=λvs H Q _=>vM P w CF CM CG vs H Q
section
variable {P:Program}{w:World}{K:W.Frag}{mg:Str->Option Value}{base:Heap}{CF CM CG:Addr}
theorem aaj:aQ ["machine", "keeper"] ["machine", "keeper"] (ar me):=⟨rfl,rfl,rfl,by decide+kernel,rfl,by decide+kernel,by decide+kernel⟩
theorem EB{f:Addr}{fd:FuncData}(F:b0 K "next_of" "next_of" me f fd)(TM:tV K mg CM):ay P w K mg base aC 1 f fd ["machine", "keeper"] (A9 CM):=by
 refine F.ok aaj (λvs H Q E h=>?_) (λcdv A outer s H vs Q E hr h=>?_)
 . obtain⟨x,dx,f1,f2,f3,f4,f5,f6,l,k,rfl,_⟩:=h
   rfl
 . obtain⟨x,dx,f1,f2,f3,f4,f5,f6,l,k,rfl,hx,h4,kk⟩:=h
   have hu:=d6 hr
   refine⟨_,av (aN (yP hu (aM (pv 0) rfl) (pv 1) (pv 1) ⟨rfl,rfl,rfl,rfl⟩)),?_⟩
   refine⟨_,rfl,x,CM,dx,_,_,rfl,hx,TM.cl,TM.n4,Pk ..,f4,rfl,.inl ⟨_,.inl h4⟩,_,rfl,_,rfl,_,br.k (k:=.inr k) h4,?_⟩
   show Q ((aI (cR l) (.inr k)).getD (.str k)) H
   rw[AD]
   exact kk
theorem TC:aQ ["self", "keeper"] ["self", "keeper"] (ar oV):=⟨rfl,rfl,rfl,by decide+kernel,rfl,by decide+kernel,by decide+kernel⟩
theorem JG{f fN fO:Addr}{fd dN dO:FuncData}(F:b0 K "next_number" "Grove.next_number" oV f fd)(TG:ni K mg CG)
 (gN:ay P w K mg base aC 14 fN dN ["self", "literal"] (Em P w CF CM CG 1)) (mN:Meth K CG "number_of" fN) (bN:Binds K dN ["self", "literal"] [])
 (gO:ay P w K mg base aC 1 fO dO ["machine", "keeper"] (A9 CM)) (mO:mg "next_of" = some (.ref fO)) (kO:W.keepIn K (.ref fO)=true) (bO:Binds K dO ["machine", "keeper"] []):ay P w K mg base aC 15 f fd ["self", "keeper"] (C4 P w CF CM CG):=by
 refine F.ok TC (λvs H Q E h=>?_) (λcdv A outer s H vs Q E hr h=>?_)
 . obtain⟨a,M,s,k,b,rfl,_⟩:=h
   rfl
 . obtain⟨a,M,s,k,b,rfl,hG,hk,hB,hb,kk⟩:=h
   obtain⟨all,ok⟩:=hG.ok
   have cC:aZ 1 _:=hr.mono (by decide)
   refine⟨_,av (aN (aV (pv 0) TG.cl mN gN hr bN .nil aA (aa (aE gO cC rfl mO kO bO .nil aA (aa (aM (pv 0) rfl) (aa (pv 1) ag))) ag))),?_⟩
   refine⟨_,rfl,a.g,a.dg,_,rfl,hG.hg,pS _ (by simp),_,rfl,a.g,CG,a.dg,_,_,rfl,hG.hg,TG.cl,TG.n1,Jp ..,_,rfl,a.x,a.dx,a.f1,a.f2,a.f3,a.f4,a.f5,a.f6,M.nexts,k,rfl,hG.mf.hx,hG.h4,?_⟩
   exact⟨a,M,s,eX M.nexts k,all,b,rfl,hG,ok,JF ok hk,(λe=>absurd e (by decide)),hB,by omega,λn S' PL' H' QH k' g' B' m' l' e'=>kk n S' PL' H' QH k' g' (B'.up (by omega)) l' e'⟩
theorem TH:aQ ["self", "number"] ["self", "number"] (ar kr):=⟨rfl,rfl,rfl,by decide+kernel,rfl,by decide+kernel,by decide+kernel⟩
theorem Np(l:List Str)(z:Str):(aI (AG l) (.inr z)).isSome=true ↔ z∈l:=by
 constructor
 . intro h
   obtain⟨kv,hk,e⟩:=sC h
   obtain⟨x,hx,rfl⟩:=ads.mp hk
   cases aer e
   exact hx
 . intro h
   exact l8 ⟨_,ads.mpr ⟨z,h,rfl⟩,rfl⟩
theorem yo(nm sp nd kn ch im ex:Addr):∀m∈["without", "replaced", "names_in", "taken"],(cY nm sp nd kn ch im ex).lookup (m:Str)=none:=λm hm=>by
 simp only[adq,adI,aec]at hm
 rcases hm with rfl|rfl|rfl|rfl <;> exact j3 _ _ _ _ _ _ _ (by decide+kernel) (by decide+kernel) (by decide+kernel) (by decide+kernel) (by decide+kernel) (by decide+kernel) (by decide+kernel)
theorem EC{f fW:Addr}{fd dW:FuncData}(F:b0 K "stands_of" "Grove.stands_of" kr f fd)(TG:ni K mg CG)(TF:eY K mg CF)
 (gW:ay P w K mg base aC 19 fW dW vD (Es P w CF 9)) (mW:Meth K CF "without" fW) (bW:Binds K dW vD []):ay P w K mg base aC 20 f fd ["self", "number"] (x9 P w CF CM CG):=by
 refine F.ok TH (λvs H Q E h=>?_) (λcdv A outer s H vs Q E hr h=>?_)
 . obtain⟨a,M,s,n,b,rfl,_⟩:=h
   rfl
 . obtain⟨a,M,s,n,b,rfl,hG,hX,hn,hB,hb,kk⟩:=h
   obtain⟨all,ok⟩:=hG.ok
   refine⟨_,av (aN (aV (aM (pv 0) rfl) TF.cl mW gW hr bW .nil aA (aa (pv 1) (aa (aM (pv 0) rfl) (aa (aM (pv 0) rfl) ag))))),?_⟩
   have n8:=hG.fo.n8
   have cn:cV (ba M) (au s.S.TS n):=ft (i:=0) (ns:=ba M) (hG.fo.fs.Cy (kh ok) n hn) (adW _)
   have y6:=ady (ji cn) n8
   refine⟨_,rfl,a.g,CG,a.dg,_,_,rfl,hG.hg,TG.cl,TG.n2,ud ..,a.y,a.dy,_,rfl,hG.fo.hy,yo _ _ _ _ _ _ _ _ (by simp),_,rfl,_,rfl,a.g,CG,a.dg,_,_,rfl,hG.hg,TG.cl,TG.n4,Z4 ..,_,rfl,a.g,CG,a.dg,_,_,rfl,hG.hg,TG.cl,TG.n7,Z6 ..,?_⟩
   refine⟨a.y,a.dy,a.nm,a.sp,a.nd,a.kn,a.ch,a.im,a.ex,a.cJ,a.mw,ba M,M.switches,s.S,AG M.switches,s.MW,n,b,rfl,hG.fo,hn,by omega,hG.hin,hG.hmw,hG.ne (i:=7) (j:=8) rfl rfl (by decide),hG.ne (i:=7) (j:=9) rfl rfl (by decide),hG.ne (i:=4) (j:=9) rfl rfl (by decide),hG.ne (i:=4) (j:=7) rfl rfl (by decide),Np _,hX.mw,hB.b4,hB.bd,hb,λm S' vy H' fo aak hM' lM k2 g2 B2 _ _ l2 e2 _=>?_⟩
   have kg:KG H H' a:=λb o hb nb=>by
    simp only[GA.own,adq,adI,aec,af6]at nb
    exact k2 b o hb nb.1 nb.2.1 nb.2.2.1 nb.2.2.2.1 nb.2.2.2.2.1 nb.2.2.2.2.2.2.2.2
   have kd:∀{b:Addr}{M':List (Key×V)},H b=some (.dK M')->b≠a.ex->b≠a.mw->H' b=some (.dK M'):=λhb n1 n2=>k2 _ _ hb (aL hb hG.fo.hd (by intro z;cases z)) (aL hb hG.fo.hk (by intro z;cases z)) (aL hb hG.fo.hc (by intro z;cases z)) (aL hb hG.fo.hi (by intro z;cases z)) n1 n2
   have QH:GO P w CF CM CG H' a M ⟨S',s.PL,s.NX,s.MI,vy⟩:=hG.keep fo kg (kd hG.hp (hG.ne (i:=3) (j:=9) rfl rfl (by decide)) (hG.ne (i:=3) (j:=7) rfl rfl (by decide))) (kd hG.hnx (hG.ne (i:=5) (j:=9) rfl rfl (by decide)) (hG.ne (i:=5) (j:=7) rfl rfl (by decide))) (kd hG.hmi (hG.ne (i:=6) (j:=9) rfl rfl (by decide)) (hG.ne (i:=6) (j:=7) rfl rfl (by decide))) aak (hG.pk.grow g2 hG.fo.fs.len) hG.p0
   exact kk m S' vy H' QH ⟨hX.nx.grow g2 hG.fo.fs.len,hX.mi.grow g2 hG.fo.fs.len λ_ h=>h,hM',hX.nk,hX.nn⟩ kg g2 ⟨B2,ady hB.b1 (adV ..),ady hB.b2 (adV ..),ady hB.b3 (adV ..),lM⟩ l2 e2
end
section
variable {P:Program}{w:World}{K:W.Frag}{mg:Str->Option Value}{base:Heap}{C:Addr}
theorem ya{f fN:Addr}{fd dN:FuncData}(F:b0 K "taken" "Forest.taken" m7 f fd)(T:eY K mg C)(mT:Meth K C "taken" f)(bT:Binds K fd ["self", "tree"] []) (gN:ay P w K mg base aC 1 fN dN jO (jC P w C)) (mN:Meth K C "node" fN) (bN:Binds K dN jO []) :
 ∀d,ay P w K mg base aC (d+1) f fd ["self", "tree"] (sj P w C d)
 | 0=>ko λvs H Q E q=>by first|(obtain⟨_,_,_,_,_,_,_,_,_,_,_,_,_,_,_,_,_,_,h,_⟩:=q;exact aev _ h)|(cases q;omega)
 | d+1=>Jg F T (ya F T mT bT gN mN bN d) mT bT gN mN bN
theorem HI{f fN fC:Addr}{fd dN dC:FuncData}(F:b0 K "without" "Forest.without" i8 f fd)(T:eY K mg C)(mW:Meth K C "without" f)(bW:Binds K fd vD []) (gN:ay P w K mg base aC 1 fN dN jO (jC P w C)) (mN:Meth K C "node" fN) (bN:Binds K dN jO [])
 (gC:ay P w K mg base aC 10 fC dC jD (gJ P w C 9)) (mC:Meth K C "chosen" fC) (bC:Binds K dC jD []):∀d,ay P w K mg base aC (d+10) f fd vD (Es P w C d)
 | 0=>ko λvs H Q E q=>by first|(obtain⟨_,_,_,_,_,_,_,_,_,_,_,_,_,_,_,_,_,_,_,_,_,h,_⟩:=q;exact aev _ h)|(cases q;omega)
 | d+1=>(show d+10+1=d+1+10 by omega) ▸ Et F T (HI F T mW bW gN mN bN gC mC bC d) mW bW gN mN bN gC mC bC
theorem HJ{f fL fC:Addr}{fd dL dC:FuncData}(F:b0 K "replaced" "Forest.replaced" iz f fd)(T:eY K mg C)(mW:Meth K C "replaced" f)(bW:Binds K fd vH []) (gL:ay P w K mg base aC 2 fL dL ["self", "name"] (vp P w C)) (mL:Meth K C "leaf_of" fL) (bL:Binds K dL ["self", "name"] [])
 (gC:ay P w K mg base aC 10 fC dC jD (gJ P w C 9)) (mC:Meth K C "chosen" fC) (bC:Binds K dC jD []):∀d,ay P w K mg base aC (d+10) f fd vH (Ex P w C d)
 | 0=>ko λvs H Q E q=>by first|(obtain⟨_,_,_,_,_,_,_,_,_,_,_,_,_,_,_,_,_,_,_,_,_,h,_⟩:=q;exact aev _ h)|(cases q;omega)
 | d+1=>(show d+10+1=d+1+10 by omega) ▸ BD F T (HJ F T mW bW gL mL bL gC mC bC d) mW bW gL mL bL gC mC bC
end
theorem Nq{H:Hp}{g dg CG:Addr}(hg:H g=none)(QI:H dg=none):ak H (upd (upd H dg (.own g)) g (.ins CG dg [])):=λb o hb=>by
 rw[ah (ae hb hg),ah (ae hb QI)]
 exact hb
theorem ED(nm sp nd kn ch im ex:Addr):(cY nm sp nd kn ch im ex).lookup ("tree_at" : Str)=none:=j3 _ _ _ _ _ _ _ (by decide+kernel) (by decide+kernel) (by decide+kernel) (by decide+kernel) (by decide+kernel) (by decide+kernel) (by decide+kernel)
theorem QJ{K:W.Frag}{D a:Addr}{us:List Addr}{ns:List Str}{Q:Hp->Prop}{H:Hp}(hD:H D=none) (ha:H a=some (.lst (us.map V.ref))) (hp:Paired (λt n=>∃r,H t=some (.tup (.str n::r))) us ns) (hl:ns.length<=600)
 (fin:∀H',ak H H'->H' D=some (.lst (ns.map V.str))->Q H'):∃W:Nat->Nat->St->Hp->Prop,(∃m,W 0 m [none] (upd H D (.lst [])))/\wX D (fg 0) nY (wJ (cN K) (iL 0) (tC (.int 0))) (uv K a) W Q:=by
 have X6:=hp.length
 refine fQ ns.length (λi acc σ H9=>acc=(ns.take i).map V.str/\(∃u,σ=[u])/\ak H H9) ⟨rfl,⟨none,rfl⟩,ak.ax hD⟩ af ?_ ?_
 . rintro acc σ H9 cQ ⟨rfl,_,s9⟩
   rw[ad5]at cQ
   exact⟨⟨_,aw.of (s9 _ _ ha),by rw[abc];omega⟩,fin H9 s9 cQ⟩
 . rintro i acc σ H9 hi cQ ⟨rfl,⟨u,rfl⟩,s9⟩
   have xU:ns[i]?=some ns[i]:=adj hi
   obtain⟨t,ht,r,hT⟩:=cH hp xU
   have hx:(us.map V.ref)[i]?=some (.ref t):=by rw[ado,ht];rfl
   refine⟨⟨_,_,aw.of (s9 _ _ ha),hx⟩,?_⟩
   rintro xv H' ⟨rfl,hv⟩
   have ex:=hv _ (aw.of (s9 _ _ ha))
   rw[hx]at ex
   cases ex
   refine dv ⟨_,rfl,t,_,0,.str ns[i],rfl,rfl,aS.of (s9 _ _ hT),Xg,_,cQ,by rw[abc,adU];exact small (by omega),cP hi af ⟨?_,⟨_,rfl⟩,λb o hb=>?_⟩⟩
   . rw[aen,xU,adp]
     rfl
   . rw[ah (ae hb hD)]
     exact s9 _ _ hb
theorem QK{H:Hp}{ts:List Addr}{l:List (Str×V)}(h:Paired (λt r=>H t=some (.tup r)) ts (l.map lz)):Paired (λt n=>∃r,H t=some (.tup (.str n::r))) ts (l.map (·.1)):=pP h λt x e=>⟨_,e⟩
inductive yb(P:Program) (w:World) (CF CM CG:Addr) (vs:List V) (H:Hp) (Q:VK):Prop
 | mk (a:GA) (M:aR) (s:GS) (n c:Nat) (h1:vs=[.ref a.g,.int (n:Int)]) (h2:GO P w CF CM CG H a M s) (h3:GX M s) (h4:n<s.S.N.length) (h5:(∀z,iT z (au s.S.TS n)->z∈ez M)) (h6:GB s (c+192000*s.NX.length)) (h7:c+192000*M.keepers.length+wc (au s.S.TS n)<2700000) (h8:∀(m:Nat) (S':bq) (PL' cL CS:List (Key×V)) (H':Hp),GO P w CF CM CG H' a M ⟨S',PL',cL,CS,s.MW⟩->GX M ⟨S',PL',cL,CS,s.MW⟩->KG H H' a->cz s.S S'->GB ⟨S',PL',cL,CS,s.MW⟩ (c+wc (au s.S.TS n)+192000*cL.length)->m<S'.N.length->(∀e,ev e (au S'.TS m)=ev (nO M e) (au s.S.TS n))->Q (.int (m:Int)) H'):yb P w CF CM CG vs H Q
def Bf(P:Program)(w:World)(CF CM CG:Addr):Sp:=λvs H Q _=>yb P w CF CM CG vs H Q
section
variable {P:Program}{w:World}{K:W.Frag}{mg:Str->Option Value}{base:Heap}{CF CM CG:Addr}
theorem Lk:aQ ["self", "number", "keeper"] ["self", "number"] (ar mh):=⟨rfl,rfl,rfl,by decide+kernel,rfl,by decide+kernel,by decide+kernel⟩
theorem GO.JH{H:Hp}{a:GA}{M:aR}{s:GS}(h:GO P w CF CM CG H a M s):∀b∈a.own,H b≠none:=λb hb e=>by
 simp only[GA.own,adq,adI,aec]at hb
 rcases hb with q|q|q|q|q|q|q|q|q <;> rw[q]at e
 . rw[h.fo.hd]at e;cases e
 . rw[h.fo.hk]at e;cases e
 . rw[h.fo.hc]at e;cases e
 . rw[h.fo.hi]at e;cases e
 . rw[h.fo.he]at e;cases e
 . rw[h.hp]at e;cases e
 . rw[h.hnx]at e;cases e
 . rw[h.hmi]at e;cases e
 . rw[h.hmw]at e;cases e
theorem HK{f fI fX fR:Addr}{fd dI dX dR:FuncData}(F:b0 K "moves_into" "Grove.moves_into" mh f fd)(TG:ni K mg CG)(TF:eY K mg CF)
 (gI:ay P w K mg base aC 1 fI dI ["self", "number"] (xY P w CF)) (mI:Meth K CF "names_in" fI) (bI:Binds K dI ["self", "number"] [])
 (gX:ay P w K mg base aC 15 fX dX ["self", "keeper"] (C4 P w CF CM CG)) (mX:Meth K CG "next_number" fX) (bX:Binds K dX ["self", "keeper"] [])
 (gR:ay P w K mg base aC 19 fR dR vH (Ex P w CF 9)) (mR:Meth K CF "replaced" fR) (bR:Binds K dR vH []):ay P w K mg base aC 20 f fd ["self", "number"] (Bf P w CF CM CG):=by
 refine F.ok Lk (λvs H Q E h=>?_) (λcdv A outer s H vs Q E hr h=>?_)
 . obtain⟨a,M,s,n,c,rfl,_⟩:=h
   rfl
 . obtain⟨a,M,s,n,c,rfl,hG,hX,hn,wI,hB,hb,kk⟩:=h
   obtain⟨all,ok⟩:=hG.ok
   have hu:=d6 hr
   have cC:aZ 1 _:=hr.mono (by decide)
   have aal:aZ 15 _:=hr.mono (by decide)
   refine⟨_,ai (dJ ad6 rfl (MK (aV (aM (pv 0) rfl) TF.cl mI gI cC bI .nil aA (aa (pv 1) ag))) (aH (i:=2) Lk.nd rfl (Or.inl rfl))
    (av (cw (eD (kQ hu (pv 2) (aM (pv 0) rfl)) (by with_unfolding_all rfl)) (av (dQ hu (aM (pv 0) rfl) (pv 2) (aV (pv 0) TG.cl mX gX aal bX .nil aA (aa (pv 2) ag)) rfl)) bf)))
    (av (aN (aV (aM (pv 0) rfl) TF.cl mR gR hr bR .nil aA (aa (pv 1) (aa (aM (pv 0) rfl) (aa (aM (pv 0) rfl) ag)))))),?_⟩
   have n8:=hG.fo.n8
   have nxl:=hX.len
   have hN:s.S.N.length<3000000:=by have:=hB.bd.b1;have:192000*s.NX.length<=192000*M.keepers.length:=afz _ nxl;omega
   refine⟨_,rfl,a.g,CG,a.dg,_,_,rfl,hG.hg,TG.cl,TG.n2,ud ..,a.y,a.dy,_,rfl,hG.fo.hy,yo _ _ _ _ _ _ _ _ (by simp),_,rfl,a.y,a.dy,a.nm,a.sp,a.nd,a.kn,a.ch,a.im,a.ex,ba M,s.S,n,rfl,hG.fo,hn,hN,λd Fd H1 s1 X8 Gp hF hFk hFn=>?_⟩
   refine⟨d,Fd,rfl,Gp,λob=>?_⟩
   have s2:ak H (upd H1 d (.gh ob (.dK Fd))):=λb u hb=>by
    rw[ah (ae hb X8)]
    exact s1 _ _ hb
   have q2:(upd H1 d (.gh ob (.dK Fd))) d=some (.gh ob (.dK Fd)):=af
   generalize upd H1 d (.gh ob (.dK Fd))=H2 at s2 q2 ⊢
   have tj:=hG.same s2
   have dn:d∉a.own:=λhm=>hG.JH d hm X8
   refine IW (λi σ Hi=>∃(S':bq) (PL' cL:List (Key×V)) (v2:Option V),σ=[some (.ref a.g),some (.int (n:Int)),v2]/\GO P w CF CM CG Hi a M ⟨S',PL',cL,s.MI,s.MW⟩/\GX M ⟨S',PL',cL,s.MI,s.MW⟩/\KG H2 Hi a/\cz s.S S'/\GB ⟨S',PL',cL,s.MI,s.MW⟩ (c+192000*cL.length)/\∀kv∈Fd.take i,∀z,kv.1=.inr z->bo cL z) ?_ ?_ ?_ ?_
   . exact⟨s.S,s.PL,s.NX,none,rfl,tj,hX,KG.refl,.refl _,hB,(λkv bb=>by cases bb)⟩
   . rintro i σ Hi _ ⟨S',PL',cL,v2,rfl,_,_,ki,_⟩
     exact ki _ _ q2 dn
   . rintro i kv σ Hi bb ⟨S',PL',cL,v2,rfl,cE,iI,ki,gi,Bi,pi⟩
     obtain⟨z,hz⟩:=hFk kv (adX bb)
     have Ll:z∈ez M:=wI z ((hF z).mp (l8 ⟨kv,adX bb,hz⟩))
     rw[hz]
     have JI:=iI.len
     have nxm:192000*cL.length<=192000*M.keepers.length:=afz _ JI
     have keep:∀{JJ:List (Key×V)},(∀z,bo cL z->bo JJ z)->bo JJ z->∀qv∈Fd.take (i+1),∀z',qv.1=.inr z'->bo JJ z':=λh1 h2 qv DV z' e=>by
      rw[aen,bb]at DV
      rcases adu.mp DV with h|h
      . exact h1 _ (pi qv h z' e)
      . have:qv=kv:=by simpa using h
        rw[this,hz]at e
        cases aer e
        exact h2
     refine⟨_,rfl,_,rfl,a.g,CG,a.dg,_,_,rfl,cE.hg,TG.cl,TG.n5,Jq ..,a.nx,_,rfl,br.k (k:=.inr z) cE.hnx,_,rfl,?_⟩
     cases hv:aI cL (.inr z) with
     | some v=>exact de rfl ⟨S',PL',cL,_,rfl,cE,iI,ki,gi,Bi,keep (λ_ h=>h) (by unfold bo;rw[hv];rfl)⟩
     | none=>
      have eN:cL.length+1<=M.keepers.length:=by
       have:=rJ (l:=(.inr z:Key)::cL.map (·.1)) (m:=(ez M).map (Sum.inr:Str->Key)) (by
        rw[ad1]
        refine⟨λhm=>?_,iI.nn⟩
        obtain⟨qv,lF,e⟩:=ads.mp hm
        exact j5 hv qv lF e) λx hx=>by
        rcases adq.mp hx with rfl|hx
        . exact ads.mpr ⟨z,Ll,rfl⟩
        . obtain⟨qv,lF,rfl⟩:=ads.mp hx
          obtain⟨z',wU,e⟩:=iI.nk qv lF
          rw[e]
          exact ads.mpr ⟨z',wU,rfl⟩
       rw[adL,abc,abc,abc]at this
       exact this
      have aii:192000*(cL.length+1)<=192000*M.keepers.length:=afz _ eN
      refine df rfl ?_
      refine⟨_,rfl,a.g,a.dg,_,rfl,cE.hg,pS _ (by simp),_,rfl,a,M,_,z,_,rfl,cE,Ll,Bi,by omega,λn1 S1 tf Ha xR ka ga Ba la ea=>?_⟩
      refine⟨_,rfl,a.g,CG,a.dg,_,_,rfl,xR.hg,TG.cl,TG.n5,Jq ..,_,rfl,a.nx,_,rfl,eP.k (k:=.inr z) xR.hnx (small (by show cL.length<=1000;rw[pU]at n8;omega)),?_⟩
      rw[show putK (GS.NX ⟨S1,tf,cL,s.MI,s.MW⟩) (.inr z) (.int (n1:Int))=cL++[(.inr z,.int (n1:Int))] from gw _ hv]
      have JK:∀x,bo (cL++[((.inr z:Key),V.int (n1:Int))]) x ↔ (x=z\/bo cL x):=λx=>by
       unfold bo
       rw[kG _ _ _ _ hv]
       by_cases e:(.inr x:Key)=.inr z
       . rw[adM e]
         exact⟨λ_=>.inl (aer e),λ_=>rfl⟩
       . rw[adw e]
         exact⟨λh=>.inr h,λh=>h.elim (λq=>absurd (congrArg Sum.inr q) e) id⟩
      have QL:=iI.grow (PL':=tf) ga cE.fo.fs.len
      refine⟨S1,tf,_,_,rfl,xR.TB,⟨λx v hx=>?_,QL.mi.grow (.refl _) xR.fo.fs.len λx h=>(JK x).mpr (.inr h),QL.mw,λqv lF=>?_,?_⟩,(ki.trans ka).trans (λx o hx nx=>by rw[ah λe=>nx (by rw[e];simp[GA.own])];exact hx),gi.trans ga,?_,keep (λx h=>(JK x).mpr (.inr h)) ((JK z).mpr (.inl rfl))⟩
      . have qk:aI (cL++[((.inr z:Key),V.int (n1:Int))]) (.inr x)=some v:=hx
        rw[kG _ _ _ _ hv]at qk
        by_cases e:(.inr x:Key)=.inr z
        . rw[adM e]at qk
          cases qk
          cases aer e
          exact⟨Ll,n1,rfl,la,ea⟩
        . rw[adw e]at qk
          exact QL.nx x v qk
      . rcases adu.mp lF with h|h
        . exact iI.nk qv h
        . rw[adJ.mp h]
          exact⟨z,Ll,rfl⟩
      . show ((cL++[((.inr z:Key),V.int (n1:Int))]).map (·.1)).Nodup
        rw[adp,adK]
        refine⟨iI.nn,by simp,λx hx y hy e=>?_⟩
        obtain⟨qv,lF,rfl⟩:=ads.mp hx
        have:y=.inr z:=by simpa using hy
        exact j5 hv qv lF (e.trans this)
      . have hl:(cL++[((.inr z:Key),V.int (n1:Int))]).length=cL.length+1:=by rw[adm];rfl
        have:=Ba.b2
        have h2:cL.length<=c+192000*cL.length+191022:=this
        refine⟨Ba.bd.up (by rw[hl];omega),ady Ba.b1 (by rw[hl];omega),?_,ady Ba.b3 (by rw[hl];omega),ady Ba.b4 (by rw[hl];omega)⟩
        show (cL++[((.inr z:Key),V.int (n1:Int))]).length<=_
        rw[hl]
        omega
   . rintro σ Hi ⟨S',PL',cL,v2,rfl,cE,iI,ki,gi,Bi,pi⟩
     rw[ad5]at pi
     have JI:=iI.len
     have nxm:192000*cL.length<=192000*M.keepers.length:=afz _ JI
     have tn:au S'.TS n=au s.S.TS n:=gi.au (by rw[← hG.fo.fs.len];exact hn)
     have gl:=gi.le
     have QM:∀z,iT z (au S'.TS n)->bo cL z:=λz hz=>by
      rw[tn]at hz
      obtain⟨kv,hk,e⟩:=sC ((hF z).mpr hz)
      exact pi kv hk z e
     have cn:cV (ba M) (au S'.TS n):=ft (i:=0) (ns:=ba M) (cE.fo.fs.Cy (kh ok) n (by show n<S'.N.length;omega)) (adW _)
     have y6:=ady (ji cn) n8
     have hmr:wA S' (vK S' cL) s.MI:=λkv bb=>by
      obtain⟨i,m,e1,e2,l1,l2,hv,ho⟩:=iI.mi kv bb
      refine⟨i,m,e1,e2,l1,l2,λe=>?_,λz hz=>(vL iI.nx z).mpr (ho z hz)⟩
      rw[show ev e (au S'.TS m)=ev (nO M e) (au S'.TS i) from hv e]
      exact AY λz hz=>(wC iI.nx (ho z hz) e).symm
     refine⟨_,rfl,a.g,CG,a.dg,_,_,rfl,cE.hg,TG.cl,TG.n2,ud ..,a.y,a.dy,_,rfl,cE.fo.hy,yo _ _ _ _ _ _ _ _ (by simp),_,rfl,_,rfl,a.g,CG,a.dg,_,_,rfl,cE.hg,TG.cl,TG.n5,Jq ..,_,rfl,a.g,CG,a.dg,_,_,rfl,cE.hg,TG.cl,TG.n6,Z5 ..,?_⟩
     refine⟨a.y,a.dy,a.nm,a.sp,a.nd,a.kn,a.ch,a.im,a.ex,a.nx,a.mi,ba M,vK S' cL,S',cL,s.MI,n,_,rfl,cE.fo,by omega,by omega,λz hz=>(vL iI.nx z).mpr (QM z hz),cE.hnx,cE.hmi,cE.ne (i:=6) (j:=8) rfl rfl (by decide),cE.ne (i:=6) (j:=9) rfl rfl (by decide),cE.ne (i:=5) (j:=9) rfl rfl (by decide),cE.ne (i:=5) (j:=6) rfl rfl (by decide),QG iI.nx,hmr,Bi.b3,Bi.bd,by rw[tn];omega,λm S2 C5 H3 fo aam nG lM k2 g2 B2 _ _ l2 e2=>?_⟩
     rw[tn]at lM B2
     have kg:KG Hi H3 a:=λb o hb nb=>by
      simp only[GA.own,adq,adI,aec,af6]at nb
      exact k2 b o hb nb.1 nb.2.1 nb.2.2.1 nb.2.2.2.1 nb.2.2.2.2.1 nb.2.2.2.2.2.2.2.1
     have kd:∀{b:Addr}{M':List (Key×V)},Hi b=some (.dK M')->b≠a.ex->b≠a.mi->H3 b=some (.dK M'):=λhb n1 n2=>k2 _ _ hb (aL hb cE.fo.hd (by intro z;cases z)) (aL hb cE.fo.hk (by intro z;cases z)) (aL hb cE.fo.hc (by intro z;cases z)) (aL hb cE.fo.hi (by intro z;cases z)) n1 n2
     have xS:GO P w CF CM CG H3 a M ⟨S2,PL',cL,C5,s.MW⟩:=cE.keep fo kg (kd cE.hp (cE.ne (i:=3) (j:=9) rfl rfl (by decide)) (cE.ne (i:=3) (j:=6) rfl rfl (by decide))) (kd cE.hnx (cE.ne (i:=5) (j:=9) rfl rfl (by decide)) (cE.ne (i:=5) (j:=6) rfl rfl (by decide))) aam (kd cE.hmw (cE.ne (i:=7) (j:=9) rfl rfl (by decide)) (cE.ne (i:=7) (j:=6) rfl rfl (by decide))) (cE.pk.grow g2 cE.fo.fs.len) cE.p0
     have QN:GX M ⟨S2,PL',cL,C5,s.MW⟩:=by
      refine⟨iI.nx.grow g2 cE.fo.fs.len,λkv bb=>?_,iI.mw.grow g2 cE.fo.fs.len,iI.nk,iI.nn⟩
      obtain⟨i,m',e1,uI,l1,PQ,hv,ho⟩:=nG kv bb
      refine⟨i,m',e1,uI,l1,PQ,λe=>?_,λz hz=>(vL iI.nx z).mp (ho z hz)⟩
      show ev e (au S2.TS m')=ev (nO M e) (au S2.TS i)
      rw[hv e]
      exact AY λz hz=>wC iI.nx ((vL iI.nx z).mp (ho z hz)) e
     refine kk m S2 PL' cL C5 H3 xS QN (λb o hb nb=>kg b o (ki _ _ (s2 _ _ hb) nb) nb) (gi.trans g2) ⟨B2.up (by omega),ady Bi.b1 (by omega),ady Bi.b2 (by omega),?_,ady Bi.b4 (by omega)⟩ l2 λe=>?_
     . show C5.length<=_
       omega
     . rw[e2 e,← tn]
       exact AY λz hz=>wC iI.nx (QM z hz) e
end
abbrev oW:Stmt:=top 12
def EE(M:aR)(e:Str->Bool)(t:Tr):Prop:=∃e':Str->Bool,(∀z,z∉M.switches->e' z=e z)/\ev (nO M e') t=true
theorem oX:∀{a b:List Str}{t:Tr},cV a t->cV (a++b) t
 | [],b,_,.leaf _ c=>.leaf _ c
 | x::a,b,_,.leaf _ c=>.leaf _ c
 | x::a,b,_,.node h l r=>.node h (oX l) (oX r)
 | x::a,b,_,.skip h=>.skip (oX h)
inductive Bg(CM:Addr) (vs:List V) (H:Hp) (Q:VK):Prop
 | mk (x dx f1 f2 f3 f4 f5 f6:Addr) (ts:List Addr) (M:aR) (v:V) (t:Tr) (h1:vs=[.ref x,v]) (h2:MG CM H x dx f1 f2 f3 f4 f5 f6 ts M) (h3:eL H t v) (h4:cV (ez M) t) (h5:∀(u:V) (t':Tr) (H':Hp),ak H H'->eL H' t' u->cV (ba M) t'->(∀e,ev e t'=true ↔ EE M e t)->Q u H'):Bg CM vs H Q
def C6(CM:Addr):Sp:=λvs H Q _=>Bg CM vs H Q
theorem EF:∀t:Tr,wc t+1100<=1100*2 ^ t.dep
 | .leaf _=>adn _
 | .node _ l r=>by
  have h1:=EF l
  have h2:=EF r
  have e1:2 ^ l.dep<=2 ^ max l.dep r.dep:=aeo (by decide) (by omega)
  have e2:2 ^ r.dep<=2 ^ max l.dep r.dep:=aeo (by decide) (by omega)
  show wc l+wc r+1100+1100<=1100*2 ^ (max l.dep r.dep+1)
  rw[afr]
  omega
theorem QO{t:Tr}(h:t.dep<=8):wc t<=281600:=by
 have h1:=EF t
 have h2:2 ^ t.dep<=2 ^ 8:=aeo (by decide) h
 omega
section
variable (P:Program) (w:World) (K:W.Frag) (mg:Str->Option Value) (base:Heap) (CF CM CG:Addr)
structure QP(fI fO fM fS fT fA:Addr) (dI dO dM dS dT dA:FuncData):Prop where
 gI:ay P w K mg base aC 3 fI dI ["self", "machine", "order"] (CY P w CF CM CG)
 mI:Mk K CG fI
 bI:Binds K dI ["self", "machine", "order"] []
 gO:ay P w K mg base aC 1 fO dO ["machine"] (xT CM)
 mO:mg "order_of" = some (.ref fO)
 kO:W.keepIn K (.ref fO)=true
 bO:Binds K dO ["machine"] []
 gM:ay P w K mg base aC 20 fM dM ["self", "number"] (Bf P w CF CM CG)
 mM:Meth K CG "moves_into" fM
 bM:Binds K dM ["self", "number"] []
 gS:ay P w K mg base aC 20 fS dS ["self", "number"] (x9 P w CF CM CG)
 mS:Meth K CG "stands_of" fS
 bS:Binds K dS ["self", "number"] []
 gT:ay P w K mg base aC 10 fT dT ["self", "tree"] (sj P w CF 9)
 mT:Meth K CF "taken" fT
 bT:Binds K dT ["self", "tree"] []
 gA:ay P w K mg base aC 10 fA dA ["self", "number"] (pO P w CF 9)
 mA:Meth K CF "tree_at" fA
 bA:Binds K dA ["self", "number"] []
end
theorem gx0{M:aR}{S:bq}{PL:List (Key×V)} : GX M ⟨S,PL,[],[],[]⟩:=⟨(λz v h=>by cases h),(λkv h=>nomatch h),(λkv h=>nomatch h),(λkv h=>nomatch h),aex⟩
section
variable {P:Program}{w:World}{K:W.Frag}{mg:Str->Option Value}{base:Heap}{CF CM CG:Addr}
theorem JL:aQ ["machine", "tree", "grove", "moves"] ["machine", "tree"] (ar oW):=⟨rfl,rfl,rfl,by decide+kernel,rfl,by decide+kernel,by decide+kernel⟩
theorem JM{f fI fO fM fS fT fA:Addr}{fd dI dO dM dS dT dA:FuncData}(F:b0 K "ahead_of" "ahead_of" oW f fd)(TG:ni K mg CG)(TF:eY K mg CF)(G:QP P w K mg base CF CM CG fI fO fM fS fT fA dI dO dM dS dT dA):ay P w K mg base aC 21 f fd ["machine", "tree"] (C6 CM):=by
 refine F.ok JL (λvs H Q E h=>?_) (λcdv A outer s H vs Q E hr h=>?_)
 . obtain⟨x,dx,f1,f2,f3,f4,f5,f6,ts,M,v,t,rfl,_⟩:=h
   rfl
 . obtain⟨x,dx,f1,f2,f3,f4,f5,f6,ts,M,v,t,rfl,hM,hv,hc,kk⟩:=h
   obtain⟨all,ok⟩:=hM.ok
   have cC:aZ 1 _:=hr.mono (by decide)
   have hr4:aZ 4 _:=hr.mono (by decide)
   have wz:aZ 10 _:=hr.mono (by decide)
   refine⟨_,ai (aD (i:=2) JL.nd rfl (Or.inl rfl) (vS G.mI G.gI hr4 rfl TG.mgC G.bI .nil aA (aa (pv 0) (aa (aE G.gO cC rfl G.mO G.kO G.bO .nil aA (aa (pv 0) ag)) ag))))
    (ai (aD (i:=3) JL.nd rfl (Or.inl rfl) (aV (pv 2) TG.cl G.mM G.gM hr G.bM .nil aA (aa (aV (aM (pv 2) rfl) TF.cl G.mT G.gT wz G.bT .nil aA (aa (pv 1) ag)) ag)))
    (av (aN (aV (aM (pv 2) rfl) TF.cl G.mA G.gA wz G.bA .nil aA (aa (aV (pv 2) TG.cl G.mS G.gS hr G.bS .nil aA (aa (pv 3) ag)) ag))))),?_⟩
   have n8:=hM.n8
   have WJ:(ba M).length=M.keepers.length+M.switches.length:=by unfold ba;rw[adm,abc]
   refine⟨_,rfl,_,rfl,x,dx,f1,f2,f3,f4,f5,f6,ts,M,rfl,hM.mf,by omega,λo H1 ho0 s1 lJ=>?_⟩
   intro g dg hg QI hne
   have s2:=Nq (CG:=CG) hg QI
   have lI:=hM.same s1
   refine⟨g,dg,o,x,dx,f1,f2,f3,f4,f5,f6,ts,M,rfl,af,(ae lI.mf.hx hg).symm,lI.same s2,s2 _ _ lJ,λy dy nm sp nd kn ch im ex pl cJ nx mi mw S PL H2 hG k2 fr B=>⟨rfl,?_⟩⟩
   have X9:ak H1 H2:=λb u hb=>k2 _ _ (s2 _ _ hb) (ae hb hg)
   have jy:=s1.trans X9
   have fr1:∀b∈[nd,kn,ch,im,ex,pl,nx,mi,mw],H1 b=none:=λb hb=>by
    have:=fr b hb
    cases e:H1 b with
    | none=>rfl
    | some u=>rw[s2 _ _ e]at this;cases this
   have Lm:∀{Hx Hy:Hp},ak H1 Hx->KG Hx Hy ⟨g,dg,x,dx,f1,f2,f3,f4,f5,f6,y,dy,nm,sp,nd,kn,ch,im,ex,pl,cJ,nx,mi,mw,ts⟩->ak H1 Hy:=λs k b u hb=>k _ _ (s _ _ hb) λhm=>by
    have:=fr1 b hm
    rw[hb]at this
    cases this
   have Ya:cV (ba M) t:=oX hc
   have yt:=ady (ji Ya) n8
   have zt:=K4 yt
   have wt:=QO yt
   refine⟨_,rfl,g,dg,_,rfl,hG.hg,pS _ (by simp),?_⟩
   refine⟨_,rfl,g,CG,dg,_,_,rfl,hG.hg,TG.cl,TG.n2,ud ..,y,dy,_,rfl,hG.fo.hy,yo _ _ _ _ _ _ _ _ (by simp),_,rfl,y,dy,nm,sp,nd,kn,ch,im,ex,ba M,S,t,v,20,rfl,hG.fo,hv.keep (vo jy),Ya,by omega,B.bd,by omega,λn1 S1 H3 fo3 k3 g3 B3 _ _ _ l3 e3=>?_⟩
   have xS:=hG.grown fo3 k3 g3
   have zx:ak H1 H3:=Lm X9 (KG.of k3)
   have QN:GX M ⟨S1,PL,[],[],[]⟩:=gx0
   refine⟨_,M,_,n1,20+gr t,rfl,xS,QN,l3,λz hz=>?_,⟨B3.up (by show _<=20+gr t+192000*0;omega),ady B.b1 (by omega),adW _,adW _,adW _⟩,?_,λm S2 CW QQ C5 H4 HL Yb k4 g4 B4 l4 e4=>?_⟩
   . have wU:iT z t:=by
      have:au S1.TS n1=t:=e3
      rw[← this]
      exact hz
     exact Nm hc z wU
   . show 20+gr t+192000*M.keepers.length+wc (au S1.TS n1)<2700000
     rw[show au S1.TS n1=t from e3]
     omega
   have Yc:∀e,ev e (au S2.TS m)=ev (nO M e) t:=λe=>by rw[e4 e];show ev _ (au S1.TS n1)=_;rw[e3]
   have B4':GB ⟨S2,CW,QQ,C5,[]⟩ (20+gr t+wc t+192000*8):=B4.up (by
    show 20+gr t+wc (au S1.TS n1)+192000*QQ.length<=_
    rw[show au S1.TS n1=t from e3]
    have:=Yb.len
    have h2:QQ.length<=M.keepers.length:=this
    omega)
   have HM:=Lm zx k4
   have cm:cV (ba M) (au S2.TS m):=ft (i:=0) (ns:=ba M) (HL.fo.fs.Cy (kh ok) m l4) (adW _)
   have ym:=ady (ji cm) n8
   have wm:=QO ym
   refine⟨_,rfl,g,CG,dg,_,_,rfl,HL.hg,TG.cl,TG.n2,ud ..,y,dy,_,rfl,HL.fo.hy,ED ..,?_⟩
   refine⟨_,rfl,g,dg,_,rfl,HL.hg,pS _ (by simp),_,rfl,_,M,_,m,_,rfl,HL,Yb,l4,B4',by show _+wc (au S2.TS m)<3000000;omega,λr S3 MW3 H5 Ca hX5 k5 g5 B5 l5 e5=>?_⟩
   have Yd:=Lm HM k5
   have cr:cV (ba M) (au S3.TS r):=ft (i:=0) (ns:=ba M) (Ca.fo.fs.Cy (kh ok) r l5) (adW _)
   have yr:=ady (ji cr) n8
   have zr:=K4 yr
   have B5':Bd S3 (20+gr t+wc t+192000*8+wc (au S2.TS m)):=B5.bd
   refine⟨y,dy,nm,sp,nd,kn,ch,im,ex,ba M,S3,r,_,rfl,Ca.fo,l5,by omega,B5',by omega,λu S4 H6 K9 k6 _ _ _ _ r6=>?_⟩
   refine kk u _ H6 (s1.trans (Lm Yd (KG.of k6))) r6 cr λe=>?_
   rw[e5 e]
   unfold nJ EE
   constructor
   . rintro⟨e',h1,h2⟩
     exact⟨e',h1,by rw[← Yc e'];exact h2⟩
   . rintro⟨e',h1,h2⟩
     exact⟨e',h1,by show ev e' (au S2.TS m)=true;rw[Yc e'];exact h2⟩
end
abbrev sE:Stmt:=top 25
def lB(H:Hp)(t:Addr)(bs:List Int):Prop:=H t=some (.tup (bs.map V.int))
inductive C7(K:W.Frag) (vs:List V) (H:Hp) (Q:VK):Prop
 | mk (m a1 a2 a3 a4 a5 a6 st tl:Addr) (M:aR) (names:List Str) (bs cs:List Int) (h1:vs=[.ref m,.ref st,.ref tl]) (h2:ir H m M a1 a2 a3 a4 a5 a6) (h3:kZ M names bs cs) (h4:tX K H st cs) (h5:tX K H tl bs) (h6:∀t H',H t=none->ak H H'->lB H' t (fZ M bs cs)->Q (.ref t) H'):C7 K vs H Q
def vN(K:W.Frag):Sp:=λvs H Q _=>C7 K vs H Q
abbrev nNx:List Str:=["_law_m", "_law_stand", "_law_told", "_law_values_here", "_law_nexts"]
theorem QR:(["_law_name", "_law_first", "_law_values_here", "_law_nexts"]:List Str).Nodup:=by decide+kernel
theorem tF{α β γ:Type} {F:α->β->Prop}{g:γ->β} : ∀{us:List α}{l:List γ},Paired (λt r=>F t (g r)) us l->Paired F us (l.map g)
 | _,_,.nil=>.nil
 | _,_,.cons h t=>.cons h (tF t)
theorem yc:∀(l:List (Str×Str)) (acc:List (Str×Str)),((acc++l).map (·.1)).Nodup->bG (cR acc) (cR l)=cR (acc++l)
 | [],acc,_=>by rw[afk];rfl
 | r::l,acc,h=>by
  have e:acc++r::l=(acc++[r])++l:=by simp
  have hn:r.1∉acc.map (·.1):=λhm=>by
   rw[adp]at h
   exact(adK.mp h).2.2 _ hm _ (by simp) rfl
  have h1:putK (cR acc) (.inr r.1) (.str r.2)=cR (acc++[r]):=by
   rw[gw _ (IX hn)]
   unfold cR
   rw[adp]
   rfl
  show bG (putK (cR acc) (.inr r.1) (.str r.2)) (cR l)=_
  rw[h1,e]
  exact yc l (acc++[r]) (by rw[← e];exact h)
section
variable {P:Program}{w:World}{K:W.Frag}{mg:Str->Option Value}{base:Heap}
theorem JN:aQ nNx qo (ar sE):=⟨rfl,rfl,rfl,by decide+kernel,rfl,by decide+kernel,by decide+kernel⟩
theorem JO{f fV fB:Addr}{fd dV dB:FuncData}(F:b0 K "_law_next" "_law_next" sE f fd)(O2:gf mg)
 (GV:ay P w K mg base aC 2 fV dV qo (tY K)) (mV:mg "_law_values" = some (.ref fV)) (kV':W.keepIn K (.ref fV)=true) (bV:Binds K dV qo [])
 (GB:ay P w K mg base aC 1 fB dB ["_law_values_here", "_law_literal_here"] vg) (mB:mg "_law_bit" = some (.ref fB)) (kB:W.keepIn K (.ref fB)=true) (bB:Binds K dB ["_law_values_here", "_law_literal_here"] []):ay P w K mg base aC 3 f fd qo (vN K):=by
 refine F.ok JN (λvs H Q E h=>?_) (λcdv A outer s H vs Q E hr h=>?_)
 . obtain⟨m,a1,a2,a3,a4,a5,a6,st,tl,M,names,bs,cs,rfl,_⟩:=h
   rfl
 . obtain⟨m,a1,a2,a3,a4,a5,a6,st,tl,M,names,bs,cs,rfl,hM,hf,nu,qe,kk⟩:=h
   have hu:=d6 hr
   have cC:aZ 1 _:=hr.mono (by decide)
   refine⟨_,ai (aD (i:=3) JN.nd rfl (Or.inr rfl) (aE GV hr rfl mV kV' bV .nil aA (aa (pv 0) (aa (pv 1) (aa (pv 2) ag)))))
    (ai (aD (i:=4) JN.nd rfl (Or.inr rfl) (bw (dq rfl) (by rfl) O2.dict ad9 (aa (cG hu (pv 0) bp (λ_ _=>rfl)) ag)))
    (av (aN (bw ye (by rfl) O2.tuple afN (aa (eG (N:=["_law_name", "_law_first", "_law_values_here", "_law_nexts"]) (js:=[none,none,some 3,some 4]) (g:=Dn K 2 (o7 (fg 0) (o7 (fg 1) Dm))) (by kernel_rfl) rfl (c8 (cG hu (pv 0) bp (λ_ _=>rfl)))
     (λ_ _ _ _ _ _=>jm rfl (cg (aH (i:=0) QR rfl (Or.inl rfl) (.inr rfl)) (cg (aH (i:=1) QR rfl (Or.inl rfl) (.inr rfl)) iA))) (λ_ _ _ _ _ _=>bQ)
     (λ_ _ _ _ _ _=>aE GB cC rfl mB kB bB .nil aA (aa (pv 2) (aa (yP hu (pv 3) (pv 0) (pv 0) ⟨rfl,rfl,rfl,rfl⟩) ag)))) ag))))),?_⟩
   refine⟨_,rfl,_,rfl,_,rfl,m,a1,a2,a3,a4,a5,a6,st,tl,M,names,bs,cs,rfl,hM,hf,nu,qe,λd H1 hd s1 Gp=>?_⟩
   have lI:=hM.same s1
   obtain⟨us,ha,ij⟩:=id lI.nx
   have EG:Paired (λt kv=>H1 t=some (.tup [kV kv.1,kv.2])) us (cR M.nexts):=tF (g:=λr:Str×Str=>((.inr r.1:Key),V.str r.2)) (nh (g:=jV) ij)
   refine⟨_,rfl,m,.ref a4,rfl,br.k (k:=.inr "nexts") lI.top,a4,us,cR M.nexts,rfl,ha,EG,λe he=>?_⟩
   rw[show bG [] (cR M.nexts)=cR M.nexts from yc M.nexts [] hf.ok.nxd]
   have s2:ak H1 (upd H1 e (.dK (cR M.nexts))):=ak.ax he
   have q2:(upd H1 e (.dK (cR M.nexts))) e=some (.dK (cR M.nexts)):=af
   generalize upd H1 e (.dK (cR M.nexts))=H2 at s2 q2 ⊢
   have nG:=lI.same s2
   have hd2:=s2 _ _ Gp
   obtain⟨ws,hb,Ay⟩:=id nG.kp
   have sM:=Ay.length
   rw[abc]at sM
   have n2:=hf.n2
   have jy:=s1.trans s2
   refine⟨_,rfl,m,.ref a2,rfl,br.k (k:=.inr "keepers") nG.top,a2,rfl,⟨_,aw.of hb⟩,λD hD=>?_⟩
   refine fQ M.keepers.length (λi acc σ H3=>acc=((fZ M bs cs).take i).map V.int/\(∃u v,σ=[u,v,some (.ref d),some (.ref e)])/\ak H2 H3) ⟨rfl,⟨none,none,rfl⟩,ak.ax hD⟩ af ?_ ?_
   . rintro acc σ H3 cQ ⟨rfl,_,s3⟩
     rw[aed (by rw[rn];exact adn _)]at cQ
     refine⟨⟨_,aw.of (s3 _ _ hb),by rw[abc,sM];exact adn _⟩,D,_,rfl,.inl ⟨aw.of cQ,λt ht=>?_⟩⟩
     exact kk t _ (jy.free (s3.free ht)) ((jy.trans s3).trans (ak.ax ht)) af
   . rintro i acc σ H3 hi cQ ⟨rfl,⟨u,v,rfl⟩,s3⟩
     obtain⟨t,ht,hT⟩:=cH Ay (i:=i) (b:=lz M.keepers[i]) (by rw[ado,adj hi];rfl)
     have ei:(ws.map V.ref)[i]?=some (.ref t):=by rw[ado,ht];rfl
     refine⟨⟨_,_,aw.of (s3 _ _ hb),ei⟩,?_⟩
     rintro x' H' ⟨rfl,ib⟩
     have ex:=ib _ (aw.of (s3 _ _ hb))
     rw[ei]at ex
     cases ex
     refine⟨t,_,rfl,aS.of (s3 _ _ hT),rfl,_,_,rfl,_,_,rfl,rfl,zw ?_⟩
     have q3:=s3 _ _ q2
     refine⟨_,rfl,_,rfl,e,rfl,.inl ⟨_,.inl q3⟩,_,rfl,_,rfl,_,br.k (k:=.inr M.keepers[i].1) q3,?_⟩
     rw[AD]
     refine⟨d,_,_,rfl,.inl (s3 _ _ hd2),hf.next (aee hi),λH4 s4=>?_⟩
     refine⟨_,s4 _ _ cQ,?_,cP hi af ⟨?_,⟨_,_,rfl⟩,?_⟩⟩
     . rw[abc,adU]
       exact small (by omega)
     . have e:(fZ M bs cs)[i]?=some (dZ (cX M bs cs M.gates.length) (eX M.nexts M.keepers[i].1)):=by
        unfold fZ
        rw[ado,adj hi]
        rfl
       rw[aen,e,adp]
       rfl
     . intro y o hy
       rw[ah (ae hy hD)]
       exact s4 y o (s3 y o hy)
end
end Gen
namespace L2
open PySem PySem.Spec PyProof.Rows
theorem C8:∀{ns:List Int}{us:List Value},Vals (ns.map V.int) us->∃ys:List (Int×Tok),us=ys.map (λp=>Value.int p.1 p.2)/\ys.map (·.1)=ns
 | [],_,.nil=>⟨[],rfl,rfl⟩
 | n::ns,_,.cons r t=>by
  obtain⟨k,rfl⟩:=r
  obtain⟨ys,rfl,e⟩:=C8 t
  exact⟨(n,k)::ys,rfl,by rw[adQ,e]⟩
section
variable {X:Cx}
def Ln(K:W.Frag):List V->Hp->VK->Prop:=λxs H Q=>∃(p:Addr) (ns:List Int),xs=[.ref p]/\aw K H p (ns.map V.int)/\0<ns.length/\∀M,M∈ns->(∀a∈ns,a<=M)->Q (.int M) H
theorem HN(hc:X.calm=true):fJ X (.builtin "max") (Ln X.K):=by
 intro pins s σ H xs us Q I r h
 obtain⟨p,ns,rfl,hp,hne,q⟩:=h
 obtain⟨u,rfl,rx⟩:=vals1 r
 cases(show u=Value.ref p from rx)
 obtain⟨its,rv,pl,hz⟩:=I.list hp
 obtain⟨ys,rfl,rfl⟩:=C8 rv
 have hl:=pl.isList
 have e:(ys.map λp=>Value.int p.1 p.2).toArray=intItems ys.toArray:=by simp[intItems]
 rw[e]at hl
 have hsz:0<ys.toArray.size:=by simpa using hne
 refine max_intList (I.ok.hd hc) hl hsz λv h' tk hv hk=>?_
 obtain⟨t,rfl⟩:=intItems_at hv
 obtain⟨h1,h2⟩:=argBest_gt (numAt ys.toArray) (ys.toArray.size-1)
 have na:∀i,i<ys.length->numAt ys.toArray i∈ys.map (·.1):=λi hi=>by
  unfold numAt
  rw[ahj,adj hi]
  exact ads.mpr ⟨ys[i],aee hi,rfl⟩
 refine⟨.int _,H,I.kept hk,⟨t,rfl⟩,q _ (na _ ?_) λa ha=>?_⟩
 . rw[adz]at hsz h1 ⊢
   omega
 . obtain⟨y,hy,rfl⟩:=ads.mp ha
   obtain⟨j,hj⟩:=ahp hy
   have hjl:=(adt.mp hj).1
   have:=h2 j (by rw[adz];omega)
   have e2:numAt ys.toArray j=y.1:=by unfold numAt;rw[ahj,hj];rfl
   rw[e2]at this
   exact this
end
section
variable {X:Cx}
def QS(t:TS):TS:=λD σ H=>∃P:St->Hp->Prop,t {D with nx:=P} σ H/\∀bY H',P bY H'->D.nx bY H'
theorem SP.meet{pins:List (Addr×Obj)}{D:Ends}{P:St->Hp->Prop}(k:∀bY H',P bY H'->D.nx bY H'){f:Flow}{s:Shared}(h:SP X pins {D with nx:=P} f s):SP X pins D f s:=by
 cases f with
 | next=>obtain⟨bY,H',I,q⟩:=h;exact⟨bY,H',I,k _ _ q⟩
 | brk=>exact h
 | cont=>exact h
 | ret u=>exact h
theorem Nr{st:Stmt}{t:TS}(h:PS X st t):PS X st (QS t):=by
 rintro pins s σ H D I ⟨P,h1,h2⟩
 exact aP (h pins s σ H _ I h1) λf s1 h3=>SP.meet h2 h3
end
end L2
namespace Gen
open PySem L2
abbrev sF:Stmt:=top 30
theorem aan(i:Int):∃b:Bool,V.int (Builtin.bitAnd i 1)=bV b:=by
 by_cases h:0<=i
 . refine⟨decide (i.toNat % 2=1),?_⟩
   rw[PyProof.Rows.bitAnd_pp h (by decide),show (1:Int).toNat=1 from rfl,ahI]
   unfold bV
   rcases agm i.toNat with e|e <;> rw[e] <;> rfl
 . refine⟨decide ((Builtin.bitNot i).toNat % 2=0),?_⟩
   rw[PyProof.Rows.bitAnd_np h (by decide),show (1:Int).toNat=1 from rfl,Nat.and_comm,ahI]
   unfold bV
   rcases agm (Builtin.bitNot i).toNat with e|e <;> rw[e] <;> rfl
theorem TJ(i:Int):V.int (Builtin.bitAnd i 1)=bV (decide (Builtin.bitAnd i 1=1)):=by
 obtain⟨b,h⟩:=aan i
 have e:=V.int.inj h
 rw[h,e]
 cases b <;> rfl
theorem vO{D:Addr}{n:Nat}{f:Nat->Bool}{te:TE}{rest:St}{Q:Hp->Prop}{H:Hp}(he:∀(i:Nat) (H:Hp) (R:VK),i<n->R (bV (f i)) H->te (some (.int (0+(i:Int)))::rest) H R) (hD:H D=none) (hn:n<=600)
 (fin:∀H',ak H H'->H' D=some (.lst (((List.range n).map f).map bV))->Q H'):∃W:Nat->Nat->St->Hp->Prop,(∃m,W 0 m (none::rest) (upd H D (.lst [])))/\wX D (fg 0) nY te (yG 0 n) W Q:=by
 refine fQ n (λi acc σ H9=>acc=((List.range i).map f).map bV/\(∃u,σ=u::rest)/\ak H H9) ⟨rfl,⟨none,rfl⟩,ak.ax hD⟩ af ?_ ?_
 . rintro acc σ H9 cQ ⟨rfl,_,s9⟩
   exact⟨adn _,fin H9 s9 cQ⟩
 . rintro i acc σ H9 hi cQ ⟨rfl,⟨u,rfl⟩,s9⟩
   refine⟨hi,?_⟩
   rintro x H' ⟨rfl,rfl⟩
   refine dv (he i _ _ hi ⟨_,cQ,by rw[abc,abc,afY];exact small (by omega),cP hi af ⟨?_,⟨_,rfl⟩,λb o hb=>?_⟩⟩)
   . rw[List.range_succ,adp,adp]
     rfl
   . rw[ah (ae hb hD)]
     exact s9 _ _ hb
abbrev C9(H:Hp)(n:Nat):List Addr->List (List Bool)->Prop:=Paired λp b=>H p=some (.lst (b.map bV))/\b.length=n
theorem Dc{H H5:Hp}{n:Nat}{as:List Addr}{rows:List (List Bool)}{L D:Addr}{xs:List V}{r:List Bool}(b:C9 H n as rows) (nL:∀p∈as,p≠L) (s5:ak H H5) (uW:L≠D) (q5:H5 D=some (.lst (r.map bV))) (hr:r.length=n):C9 (upd H5 L (.lst xs)) n (as++[D]) (rows++[r]):=by
 refine dc ?_ (.cons ⟨by rw[ah (adG uW)];exact q5,hr⟩ .nil)
 induction b with
 | nil=>exact .nil
 | @cons p r0 as rows e t ih=>exact .cons ⟨by rw[ah (nL p adB)];exact s5 _ _ e.1,e.2⟩ (ih λq hq=>nL q (adx _ hq))
inductive De(K:W.Frag) (vs:List V) (H:Hp) (Q:VK):Prop
 | mk (a:Addr) (ns:List Int) (n:Nat) (h1:vs=[.ref a,.int (n:Int)]) (h2:aw K H a (ns.map V.int)) (h3:n<=256) (h4:∀(L:Addr) (as:List Addr) (rows:List (List Bool)) (H':Hp),ak H H'->H' L=some (.lst (as.map V.ref))->C9 H' n as rows->Q (.ref L) H'):De K vs H Q
def Bh(K:W.Frag):Sp:=λvs H Q _=>De K vs H Q
abbrev nSe:List Str:=["_law_script", "_law_many", "_law_sets_here", "_law_k", "_law_number", "_law_spot"]
theorem QT:(["_law_place"]:List Str).Nodup:=by decide+kernel
theorem TK:(["_law_place", "_law_number"]:List Str).Nodup:=by decide+kernel
theorem TL:(["_law_place", "_law_spot"]:List Str).Nodup:=by decide+kernel
section
variable {P:Program}{w:World}{K:W.Frag}{mg:Str->Option Value}{base:Heap}{fC fR:Addr}{dC dR:FuncData}
theorem wD:aQ nSe ["_law_script", "_law_many"] (ar sF):=⟨rfl,rfl,rfl,by decide+kernel,rfl,by decide+kernel,by decide+kernel⟩
theorem Nt{f:Addr}{fd:FuncData}(F:b0 K "_law_sets" "_law_sets" sF f fd)(O:Own mg)(O2:gf mg)
 (gC:ay P w K mg base aC 1 fC dC ["_law_script", "_law_k"] (qH K)) (mC:mg "_law_cell_at" = some (.ref fC)) (kC:W.keepIn K (.ref fC)=true) (bC:Binds K dC ["_law_script", "_law_k"] [])
 (gR:ay P w K mg base aC 2 fR dR ["_law_cell", "_law_k"] qI) (mR:mg "_law_rich" = some (.ref fR)) (kR:W.keepIn K (.ref fR)=true) (bR:Binds K dR ["_law_cell", "_law_k"] []):ay P w K mg base aC 3 f fd ["_law_script", "_law_many"] (Bh K):=by
 refine F.ok wD (λvs H Q E h=>?_) (λcdv A outer s H vs Q E hr h=>?_)
 . obtain⟨a,ns,n,rfl,_⟩:=h
   rfl
 . obtain⟨a,ns,n,rfl,ha,hn,kk⟩:=h
   have cC:aZ 1 _:=hr.mono (by decide)
   refine⟨_,ai (aD (i:=2) wD.nd rfl (Or.inl rfl) (cK (aa (eG (N:=["_law_place"]) (js:=[none]) (by kernel_rfl) rfl (cW rfl O.range (aa (pv 1) ag)) (λ_ _ _ _ _ _=>aH (i:=0) QT rfl (Or.inl rfl) (.inr rfl)) (λ_ _ _ _ _ _=>bQ) (λ_ _ _ _ _ _=>ao)) (aa (eG (N:=["_law_place"]) (js:=[none]) (by kernel_rfl) rfl (cW rfl O.range (aa (pv 1) ag)) (λ_ _ _ _ _ _=>aH (i:=0) QT rfl (Or.inl rfl) (.inr rfl)) (λ_ _ _ _ _ _=>bQ) (λ_ _ _ _ _ _=>ao)) ag))))
    (ai (dJ ad6 rfl (cW rfl O.range (aa (bz (Fi rfl) (by rfl) O2.min ahh (aa ao (aa (bz cc (by rfl) O2.len aem (aa (eR oy (pv 0) (ff ao) (ff ao)) ag)) ag))) ag)) (aH (i:=3) wD.nd rfl (Or.inl rfl))
     (ai (aD (i:=4) wD.nd rfl (Or.inr rfl) (aE gC cC rfl mC kC bC .nil aA (aa (pv 0) (aa (aT fh ao (pv 3)) ag))))
     (ai (Nr (cw (cF jr (aT jq (aE gC cC rfl mC kC bC .nil aA (aa (pv 0) (aa ao ag))) ao) ao (cU _)) (av (aD (i:=4) wD.nd rfl (Or.inr rfl) (aE gR hr rfl mR kR bR .nil aA (aa (pv 4) (aa (aT fh (pv 3) ao) ag))))) bf))
     (av (eu (eV adZ ad7 ad8 d7 (pv 2) (aa (eG (N:=["_law_place", "_law_number"]) (js:=[none,some 4]) (by kernel_rfl) rfl (cW rfl O.range (aa (pv 1) ag)) (λ_ _ _ _ _ _=>aH (i:=0) TK rfl (Or.inl rfl) (.inr rfl)) (λ_ _ _ _ _ _=>bQ) (λ_ _ _ _ _ _=>aT NU (aT NT (pv 1) (pv 0)) ao)) ag)))))))
    (ai (dJ ad6 rfl (cW rfl O.range (aa (pv 1) ag)) (aH (i:=5) wD.nd rfl (Or.inr rfl))
     (av (eu (eV adZ ad7 ad8 d7 (pv 2) (aa (eG (N:=["_law_place", "_law_spot"]) (js:=[none,some 5]) (by kernel_rfl) rfl (cW rfl O.range (aa (pv 1) ag)) (λ_ _ _ _ _ _=>aH (i:=0) TL rfl (Or.inl rfl) (.inr rfl)) (λ_ _ _ _ _ _=>bQ) (λ_ _ _ _ _ _=>bw Fj (by rfl) O2.int ahe (aa (vQ jr (pv 0) (pv 1) (cU _)) ag))) ag)))))
    (av (aN (pv 2))))),?_⟩
   have r0 : -(2 ^ 62)<=((n:Nat):Int):=ahO (by decide : -(2 ^ 62)<=(0:Int)) (by omega)
   have r1:((n:Nat):Int)<2 ^ 62:=agq (by omega:((n:Nat):Int)<=256) (by decide)
   have len:∀f:Nat->Bool,((List.range n).map f).length=n:=λf=>by rw[abc,afY]
   refine⟨_,rfl,_,rfl,r0,r1,λD1 F9=>?_⟩
   rw[ael]
   refine vO (f:=λ_=>true) (λi H R _ h=>h) F9 (by omega) λH1 s1 q1=>?_
   refine⟨_,rfl,_,rfl,r0,r1,λD2 qL=>?_⟩
   rw[ael]
   refine vO (f:=λ_=>false) (λi H R _ h=>h) qL (by omega) λH2 s2 q2=>?_
   refine⟨(by show 2<=sizeLine;decide),λL hL=>?_⟩
   have s3:ak H2 (upd H2 L (.lst [.ref D1,.ref D2])):=ak.ax hL
   have q3:(upd H2 L (.lst [.ref D1,.ref D2])) L=some (.lst ([D1,D2].map V.ref)):=af
   show eF _ _ _ _ (upd H2 L (.lst [.ref D1,.ref D2]))
   generalize upd H2 L (.lst [.ref D1,.ref D2])=H3 at s3 q3 ⊢
   have back:∀{Hy:Hp}{b:Addr},ak H Hy->Hy b=none->H b=none:=λ{Hy} {b} s h=>by
    cases e:H b with
    | none=>rfl
    | some o=>rw[s _ _ e]at h;cases h
   have fL:H L=none:=back (s1.trans s2) hL
   have lH:=s1.trans (s2.trans s3)
   have a3:∀{Hx:Hp},(∀b u,H3 b=some u->b≠L->Hx b=some u)->aw K Hx a (ns.map V.int):=λk=>by
    rcases ak.seq lH ha with (h|⟨o,h⟩)|h
    . rcases ha with (h'|⟨o',h'⟩)|h'
      . exact .inl (.inl (k _ _ h (ae h' fL)))
      . rw[lH _ _ h']at h;cases h
      . exact .inr h'
    . rcases ha with (h'|⟨o',h'⟩)|h'
      . rw[lH _ _ h']at h;cases h
      . exact .inl (.inr ⟨_,k _ _ h (ae h' fL)⟩)
      . exact .inr h'
    . exact .inr h
   have b3:C9 H3 n [D1,D2] [(List.range n).map λ_=>true,(List.range n).map λ_=>false]:=.cons ⟨s3 _ _ (s2 _ _ q1),len _⟩ (.cons ⟨s3 _ _ q2,len _⟩ .nil)
   have pL:∀p∈[D1,D2],p≠L:=λp hp=>by
    rcases adq.mp hp with rfl|hp
    . exact ae (s2 _ _ q1) hL
    . rw[adJ.mp hp]
      exact ae q2 hL
   refine⟨_,rfl,_,rfl,_,rfl,a,_,rfl,a3 (λ_ _ h _=>h),λc hc=>?_⟩
   have s4:ak H3 (upd H3 c (.lst (ie (ns.map V.int) (some 3) (some 63)))):=ak.ax hc
   have q4:(upd H3 c (.lst (ie (ns.map V.int) (some 3) (some 63)))) c=some (.lst (ie (ns.map V.int) (some 3) (some 63))):=af
   generalize upd H3 c (.lst (ie (ns.map V.int) (some 3) (some 63)))=H4 at s4 q4 ⊢
   refine⟨c,_,rfl,.inl (aw.of q4),_,_,rfl,?_⟩
   have h6:(if (((ie (ns.map V.int) (some 3) (some 63)).length:Nat):Int)<6 then (((ie (ns.map V.int) (some 3) (some 63)).length:Nat):Int) else 6)<=6:=by split <;> omega
   have h0 : -(2 ^ 62)<=(if (((ie (ns.map V.int) (some 3) (some 63)).length:Nat):Int)<6 then (((ie (ns.map V.int) (some 3) (some 63)).length:Nat):Int) else 6):=ahO (by decide : -(2 ^ 62)<=(0:Int)) (by split <;> omega)
   have k3:∀{Hx:Hp},(∀b u,H4 b=some u->b≠L->Hx b=some u)->∀b u,H3 b=some u->b≠L->Hx b=some u:=λk b u hb nb=>k _ _ (s4 _ _ hb) nb
   refine⟨_,rfl,h0,agq h6 (by decide),gj (λi σ Hi=>∃(as:List Addr) (rows:List (List Bool)) (v3 v4:Option V),σ=[some (.ref a),some (.int (n:Int)),some (.ref L),v3,v4,none]/\(∀b u,H4 b=some u->b≠L->Hi b=some u)/\Hi L=some (.lst (as.map V.ref))/\C9 Hi n as rows/\as.length=2+i/\∀p∈as,p≠L) ?_ ?_ ?_⟩
   . exact⟨_,_,none,none,rfl,λ_ _ h _=>h,s4 _ _ q3,Paired.cM b3 λ_ _ e=>⟨s4 _ _ e.1,e.2⟩,rfl,pL⟩
   . rintro i σ Hi hi ⟨as,rows,v3,v4,rfl,ki,HP,bi,li,nL⟩
     have hi6:(i:Int)<6:=by omega
     clear h0 h6 hi
     have Ye:=a3 (k3 ki)
     refine⟨_,rfl,_,rfl,_,_,rfl,rfl,a,ns,_,rfl,Ye,by omega,λx=>?_⟩
     refine⟨λbY H'=>∃z:Int,bY=[some (.ref a),some (.int (n:Int)),some (.ref L),some (.int (0+(i:Int))),some (.int z),none]/\H'=Hi,?_,?_⟩
     . refine⟨_,rfl,a,ns,2,rfl,Ye,by decide,λy=>⟨_,_,rfl,rfl,(by show (0:Int)<2;decide),rfl,_,rfl,?_⟩⟩
       exact iZ (λ_=>⟨_,rfl,_,rfl,_,_,rfl,rfl,_,_,rfl,by omega,by omega,λz=>⟨z,rfl,rfl⟩⟩) (λ_=>⟨x,rfl,rfl⟩)
     . rintro bY H' ⟨z,rfl,rfl⟩
       refine⟨_,rfl,.inl ⟨rfl,_,aw.of HP⟩,_,rfl,_,rfl,r0,r1,λD hD=>?_⟩
       rw[ael]
       refine vO (f:=λj=>decide (Builtin.bitAnd (z / 2 ^ (0+(j:Int)).toNat) 1=1)) (rest:=[some (.int z)]) (λj H R _ h=>⟨_,rfl,_,rfl,_,_,rfl,rfl,(by show (0:Int)<=0+(j:Int);omega),_,_,rfl,rfl,by show R (V.int (Builtin.bitAnd _ 1)) H;rw[TJ];exact h⟩) hD (by omega) λH5 s5 q5=>?_
       have uW:L≠D:=ae HP hD
       refine⟨L,_,_,rfl,rfl,s5 _ _ HP,(by rw[abc,li];exact small (by omega)),as++[D],rows++[_],_,_,rfl,λb u hb nb=>by rw[ah nb];exact s5 _ _ (ki b u hb nb),by rw[af,adp];rfl,Dc bi nL s5 uW q5 (len _),by rw[adm,li];rfl,λp hp=>?_⟩
       rcases adu.mp hp with h|h
       . exact nL p h
       . rw[adJ.mp h];exact adG uW
   . rintro σ Hi ⟨as,rows,v3,v4,rfl,ki,HP,bi,li,nL⟩
     have li':as.length<=8:=by omega
     clear h0 h6 li
     refine⟨_,rfl,_,rfl,r0,r1,gj (λi σ Hj=>∃(as:List Addr) (rows:List (List Bool)) (v5:Option V),σ=[some (.ref a),some (.int (n:Int)),some (.ref L),v3,v4,v5]/\(∀b u,H4 b=some u->b≠L->Hj b=some u)/\Hj L=some (.lst (as.map V.ref))/\C9 Hj n as rows/\as.length<=8+i/\∀p∈as,p≠L) ⟨as,rows,none,rfl,ki,HP,bi,li',nL⟩ ?_ ?_⟩
     . rintro i σ Hj hi ⟨as,rows,v5,rfl,kj,HQ,bj,lj,nj⟩
       have Ke:i<n:=by omega
       refine⟨_,rfl,.inl ⟨rfl,_,aw.of HQ⟩,_,rfl,_,rfl,r0,r1,λD hD=>?_⟩
       rw[ael]
       refine vO (f:=λj=>decide (V.int (0+(j:Int))=V.int (0+(i:Int)))) (rest:=[some (.int (0+(i:Int)))]) (λj H R _ h=>⟨_,rfl,_,rfl,rfl,.inr ⟨_,rfl,h⟩⟩) hD (by omega) λH5 s5 q5=>?_
       have uW:L≠D:=ae HQ hD
       refine⟨L,_,_,rfl,rfl,s5 _ _ HQ,(by rw[abc];exact small (by omega)),as++[D],rows++[_],_,rfl,λb u hb nb=>by rw[ah nb];exact s5 _ _ (kj b u hb nb),by rw[af,adp];rfl,Dc bj nj s5 uW q5 (len _),by rw[adm];exact aeP lj,λp hp=>?_⟩
       rcases adu.mp hp with h|h
       . exact nj p h
       . rw[adJ.mp h];exact adG uW
     . rintro σ Hj ⟨as,rows,v5,rfl,kj,HQ,bj,lj,nj⟩
       exact⟨_,rfl,kk L as rows Hj (λb u hb=>kj _ _ (s4 _ _ (lH _ _ hb)) (ae hb fL)) HQ bj⟩
end
theorem rK:∀k,(bU k).Nodup
 | 0=>by show ([[]]:List (List Int)).Nodup;simp
 | k+1=>by
  rw[j9,adK]
  refine⟨afZ.mpr (af0 (λh e=>h (afK e).2) (rK k)),afZ.mpr (af0 (λh e=>h (afK e).2) (rK k)),λa ha b hb e=>?_⟩
  obtain⟨x,_,rfl⟩:=ads.mp ha
  obtain⟨y,_,rfl⟩:=ads.mp hb
  exact absurd (afK e).1 (by decide)
theorem sG:∀{k:Nat}{r:List Int},r.length=k->(∀b∈r,b=0\/b=1)->r∈bU k
 | 0,r,h,_=>by
  have:r=[]:=afb.mp h
  subst this
  show []∈([[]]:List (List Int))
  simp
 | k+1,[],h,_=>by cases h
 | k+1,x::r,h,hb=>by
  rw[j9]
  have ih:=sG (k:=k) (r:=r) (by simpa using h) λb nA=>hb b (adx _ nA)
  rcases hb x adB with rfl|rfl
  . exact adT _ (ads.mpr ⟨r,ih,rfl⟩)
  . exact adF _ (ads.mpr ⟨r,ih,rfl⟩)
def uh(k:Nat)(r:List Int):Nat:=(bU k).idxOf r
theorem mj{k:Nat}{r:List Int}(h:r∈bU k):uh k r<(bU k).length:=List.idxOf_lt_length_of_mem h
theorem Df{k:Nat}{r:List Int}(h:r∈bU k):(bU k)[uh k r]?=some r:=by
 rw[adj (mj h)]
 exact congrArg some (List.getElem_idxOf (mj h))
theorem Dg{k t:Nat}{r:List Int}(h:(bU k)[t]?=some r):uh k r=t:=by
 have hm:=adX h
 exact(agF (mj hm) (rK k)).mp ((Df hm).trans h.symm)
def bh(M:aR)(c:List Int):List Nat:=(bU M.switches.length).map λd=>uh M.keepers.length (fZ M d c)
def oa(M:aR)(bs:List Bool):List Bool:=(bU M.keepers.length).map λc=>(bh M c).any λj=>bs.getD j false
theorem ui(M:aR)(bs:List Bool):(oa M bs).length=2 ^ M.keepers.length:=by unfold oa;rw[abc,cO]
theorem Dh(e:Str->Bool):∀{ns:List Str}{d:List Int},ns.Nodup->d.length=ns.length->(∀b∈d,b=0\/b=1)->∃e':Str->Bool,(∀z,z∉ns->e' z=e z)/\rowOf e' ns=d
 | [],d,_,h,_=>⟨e,λ_ _=>rfl,by rw[afb.mp h];rfl⟩
 | n::ns,[],_,h,_=>by cases h
 | n::ns,x::d,nd,h,hb=>by
  rw[ad1]at nd
  obtain⟨e',h1,h2⟩:=Dh e (ns:=ns) (d:=d) nd.2 (by simpa using h) λb nA=>hb b (adx _ nA)
  refine⟨put e' n (decide (x=1)),λz hz=>?_,?_⟩
  . rw[adq,af6]at hz
    rw[show put e' n (decide (x=1)) z=e' z from adw hz.1]
    exact h1 z hz.2
  . show bI (put e' n (decide (x=1)) n)::rowOf (put e' n (decide (x=1))) ns=x::d
    rw[show put e' n (decide (x=1)) n=decide (x=1) from adM rfl]
    congr 1
    . rcases hb x adB with rfl|rfl <;> rfl
    . rw[← h2]
      unfold rowOf
      refine aeT λz hz=>?_
      rw[show put e' n (decide (x=1)) z=e' z from adw λq=>nd.1 (by rw[← q];exact hz)]
theorem JP{M:aR}{all:List Str}(ok:dj M all)(e:Str->Bool):rowOf (nO M e) (ez M)=fZ M (rowOf e M.switches) (rowOf e (ez M)):=by
 unfold rowOf fZ
 rw[aeC]
 refine aeT λr hr=>?_
 have hk:r.1∈ez M:=ads.mpr ⟨r,hr,rfl⟩
 show bI (nO M e r.1)=dZ (vE M e) (eX M.nexts r.1)
 unfold nO
 rw[adM hk]
 unfold dz
 rcases i6 (su M e) (eX M.nexts r.1) with h|h <;> rw[h] <;> rfl
theorem QU{M:aR}{all:List Str}(ok:dj M all){bs:List Bool}(hb:bs.length=2 ^ M.keepers.length)(e:Str->Bool):ev e (cn (ez M) (oa M bs))=true ↔ EE M e (cn (ez M) bs):=by
 have lk:(ez M).length=M.keepers.length:=abc ..
 have nd:=lr ok
 have Ql:M.switches.Nodup:=(adK.mp (adK.mp nd).1).1
 have dis:∀z,z∈ez M->z∉M.switches:=λz hz hw=>(adK.mp (adK.mp nd).1).2.2 z hw z hz rfl
 obtain⟨t,h1,h2⟩:=AB e (ez M)
 rw[vq e (ez M) (oa M bs) t (by rw[ui,lk]) h2,adA]
 unfold oa
 rw[ado,← lk,h2,aeK,Option.getD_some,afe]
 have key:∀e':Str->Bool,(∀z,z∉M.switches->e' z=e z)->ev (nO M e') (cn (ez M) bs)=bs.getD (uh M.keepers.length (fZ M (rowOf e' M.switches) (rowOf e (ez M)))) false:=λe' h=>by
  have re:rowOf e' (ez M)=rowOf e (ez M):=by
   unfold rowOf
   exact aeT λz hz=>by rw[h z (dis z hz)]
  obtain⟨t',h1',qu⟩:=AB (nO M e') (ez M)
  rw[vq (nO M e') (ez M) bs t' (by rw[hb,lk]) qu,JP ok e',re]at *
  rw[lk]at qu
  rw[Dg qu]
 constructor
 . rintro⟨j,hj,hv⟩
   unfold bh at hj
   obtain⟨d,hd,rfl⟩:=ads.mp hj
   obtain⟨dl,db⟩:=i9 _ _ hd
   obtain⟨e',c1,c2⟩:=Dh e Ql dl db
   exact⟨e',c1,by rw[key e' c1,c2];exact hv⟩
 . rintro⟨e',c1,c2⟩
   rw[key e' c1]at c2
   refine⟨_,?_,c2⟩
   unfold bh
   refine ads.mpr ⟨rowOf e' M.switches,sG (by unfold rowOf;rw[abc]) (pQ e' _),rfl⟩
abbrev pV:Stmt:=top 31
def yp(K:W.Frag):Sp:=λvs H Q _=>∃(a:Addr) (ns:List Int),vs=[.ref a]/\aw K H a (ns.map V.int)/\∀H',Q (.bl true) H'
abbrev aao:List Str:=["_law_script", "_law_m", "_law_machine_here", "_law_names", "_law_stands", "_law_behind", "_law_stand", "_law_bits", "_law_due"]
theorem HR{K:W.Frag}{H:Hp}{us:List Addr}{bs:List (List Int)}(h:nK K H us bs):jN K H (us.map V.ref) (bs.map dT):=by
 induction h with
 | nil=>exact .nil
 | cons e _ ih=>exact .cons (.tup e (t8 _)) ih
theorem Nu{l:List Nat}{bs:List Bool}{m:Int}(h1:m∈l.map λj=>bI (bs.getD j false)) (h2:∀a∈l.map (λj=>bI (bs.getD j false)),a<=m):V.int m=bV (l.any λj=>bs.getD j false):=by
 obtain⟨j,hj,rfl⟩:=ads.mp h1
 cases e:l.any λj=>bs.getD j false with
 | true=>
  obtain⟨i,hi,hv⟩:=afe.mp e
  have:=h2 _ (ads.mpr ⟨i,hi,rfl⟩)
  rw[show bs.getD i false=true from hv]at this
  cases ej:bs.getD j false with
  | true=>rfl
  | false=>rw[ej]at this;exact absurd this (by decide)
 | false=>
  cases ej:bs.getD j false with
  | false=>rfl
  | true=>exact absurd (afe.mpr ⟨j,hj,ej⟩) (by rw[e];decide)
section
variable (P:Program) (w:World) (K:W.Frag) (mg:Str->Option Value) (base:Heap) (CM:Addr)
structure QV(fM fC fD fA fN fE fS fK fH:Addr) (dM dC dD dA dN dE dS dK dH:FuncData):Prop where
 gM:ay P w K mg base aC 5 fM dM vZ (qS K)
 mM:mg "_law_machine" = some (.ref fM)
 kM:W.keepIn K (.ref fM)=true
 bM:Binds K dM vZ []
 gC:ay P w K mg base aC 1 fC dC ["_law_script", "_law_k"] (qH K)
 mC:mg "_law_cell_at" = some (.ref fC)
 kC:W.keepIn K (.ref fC)=true
 bC:Binds K dC ["_law_script", "_law_k"] []
 gD:ay P w K mg base aC 3 fD dD ["_law_m"] (AZ CM)
 mD:mg "_law_made" = some (.ref fD)
 kD:W.keepIn K (.ref fD)=true
 bD:Binds K dD ["_law_m"] []
 gA:ay P w K mg base aC 1 fA dA ["_law_many"] (Ax K)
 mA:mg "_law_all_bits" = some (.ref fA)
 kA:W.keepIn K (.ref fA)=true
 bA:Binds K dA ["_law_many"] []
 gN:ay P w K mg base aC 3 fN dN qo (vN K)
 mN:mg "_law_next" = some (.ref fN)
 kN:W.keepIn K (.ref fN)=true
 bN:Binds K dN qo []
 gE:ay P w K mg base aC 3 fE dE ["_law_script", "_law_many"] (Bh K)
 mE:mg "_law_sets" = some (.ref fE)
 kE:W.keepIn K (.ref fE)=true
 bE:Binds K dE ["_law_script", "_law_many"] []
 gS:ay P w K mg base aC 9 fS dS ng (j7 9)
 mS:mg "_law_same_tree" = some (.ref fS)
 kS:W.keepIn K (.ref fS)=true
 bS:Binds K dS ng []
 gK:ay P w K mg base aC 18 fK dK sY (oP 9)
 mK:mg "_law_canon" = some (.ref fK)
 kK:W.keepIn K (.ref fK)=true
 bK:Binds K dK sY []
 gH:ay P w K mg base aC 21 fH dH ["machine", "tree"] (C6 CM)
 mH:mg "ahead_of" = some (.ref fH)
 kH:W.keepIn K (.ref fH)=true
 bH:Binds K dH ["machine", "tree"] []
end
theorem TN:(["_law_keeper"]:List Str).Nodup:=by decide+kernel
theorem QW:(["_law_told", "_law_stands", "_law_m", "_law_stand"]:List Str).Nodup:=by decide+kernel
theorem aap:(["_law_some", "_law_bits"]:List Str).Nodup:=by decide+kernel
theorem aaq:(["_law_place", "_law_bits"]:List Str).Nodup:=by decide+kernel
section
variable {P:Program}{w:World}{K:W.Frag}{mg:Str->Option Value}{base:Heap}{CM:Addr}{fM fC fD fA fN fE fS fK fH:Addr}{dM dC dD dA dN dE dS dK dH:FuncData}
theorem lU:aQ aao ["_law_script"] (ar pV):=⟨rfl,rfl,rfl,by decide+kernel,rfl,by decide+kernel,by decide+kernel⟩
theorem QX{f:Addr}{fd:FuncData}(F:b0 K "law" "law" pV f fd)(O2:gf mg)(G:QV P w K mg base CM fM fC fD fA fN fE fS fK fH dM dC dD dA dN dE dS dK dH):ay P w K mg base aC 22 f fd ["_law_script"] (yp K):=by
 refine F.ok lU (λvs H Q E h=>?_) (λcdv A outer s H vs Q E hr h=>?_)
 . obtain⟨a,ns,rfl,_⟩:=h
   rfl
 . obtain⟨a,ns,rfl,ha,kk⟩:=h
   have hu:=d6 hr
   have hu2:=aeL (ahv (by decide:2<=64) _) hr.units
   have cC:aZ 1 _:=hr.mono (by decide)
   have QY:aZ 3 _:=hr.mono (by decide)
   have hr5:aZ 5 _:=hr.mono (by decide)
   have P6:aZ 9 _:=hr.mono (by decide)
   have QZ:aZ 18 _:=hr.mono (by decide)
   refine⟨_,ai (aD (i:=1) lU.nd rfl (Or.inr rfl) (aE G.gM hr5 rfl G.mM G.kM G.bM .nil aA (aa (pv 0) (aa (aK (r:=eS K) a0 (cK (aa (cK (aa ao (aa ao (aa ao (aa ao ag))))) (aa (cK (aa ao (aa ao (aa ao (aa ao ag))))) ag))) (aT jq (aE G.gC cC rfl G.mC G.kC G.bC .nil aA (aa (pv 0) (aa ao ag))) ao) (λ_ _=>rfl)) ag))))
    (ai (aD (i:=2) lU.nd rfl (Or.inl rfl) (aE G.gD QY rfl G.mD G.kD G.bD .nil aA (aa (pv 1) ag)))
    (ai (uK (i:=3) (N:=["_law_keeper"]) (js:=[none]) (te:=wJ (cN K) (iL 0) (tC (.int 0))) lU.nd rfl rfl (by kernel_rfl) rfl (c8 (cG hu (pv 1) bp (λ_ _=>rfl))) (λ_ _ _ _ _ _=>aH (i:=0) TN rfl (Or.inl rfl) (.inr rfl)) (λ_ _ _ _ _ _=>bQ) (λ_ _ _ _ _ _=>aK (r:=cN K) bx (pv 0) ao (λ_ _=>rfl)))
    (ai (aD (i:=4) lU.nd rfl (Or.inr rfl) (aE G.gA cC rfl G.mA G.kA G.bA .nil aA (aa (bz cc (by rfl) O2.len aem (aa (pv 3) ag)) ag)))
    (ai (aD (i:=5) lU.nd rfl (Or.inl rfl) (cK ag))
    (ai (dJ ad6 rfl (c8 (pv 4)) (aH (i:=6) lU.nd rfl (Or.inr rfl))
     (av (eu (eV adZ ad7 ad8 d7 (pv 5) (aa (eG (N:=["_law_told", "_law_stands", "_law_m", "_law_stand"]) (js:=[none,some 4,some 1,some 6]) (te:=WE K "list" (wg K 1) (iL 1) (ju (J6 (vN K) [] E0 (ju (iL 2) (ju (iL 3) (ju (iL 0) vR)))) vR)) (by kernel_rfl) rfl (c8 (aE G.gA cC rfl G.mA G.kA G.bA .nil aA (aa (bz cc (by rfl) O2.len aem (aa (cG hu (pv 1) bp (λ_ _=>rfl)) ag)) ag))) (λ_ _ _ _ _ _=>aH (i:=0) QW rfl (Or.inl rfl) (.inr rfl)) (λ_ _ _ _ _ _=>bQ)
      (λ_ _ _ _ _ _=>eV (r:=wg K 1) adZ PySem.F.slot_list_index PySem.F.type_list_index (GZ (n:=1) hu2) (pv 1) (aa (aE G.gN QY rfl G.mN G.kN G.bN .nil aA (aa (pv 2) (aa (pv 3) (aa (pv 0) ag)))) ag))) ag)))))
    (ai (dJ ad6 rfl (c8 (aE G.gE QY rfl G.mE G.kE G.bE .nil aA (aa (pv 0) (aa (bz cc (by rfl) O2.len aem (aa (pv 4) ag)) ag)))) (aH (i:=7) lU.nd rfl (Or.inr rfl))
     (ai (uK (i:=8) (N:=["_law_some", "_law_bits"]) (js:=[none,some 7]) lU.nd rfl rfl (by kernel_rfl) rfl (c8 (pv 5)) (λ_ _ _ _ _ _=>aH (i:=0) aap rfl (Or.inl rfl) (.inr rfl)) (λ_ _ _ _ _ _=>bQ)
      (λ_ _ _ _ _ _=>bz (r:=Ln K) (HN rfl) (by rfl) O2.max PyProof.Rows.boot_max (aa (eG (N:=["_law_place", "_law_bits"]) (js:=[none,some 1]) (wi:=J1 K (iL 0)) (by kernel_rfl) rfl (c8 (pv 0)) (λ_ _ _ _ _ _=>aH (i:=0) aaq rfl (Or.inl rfl) (.inr rfl)) (λ_ _ _ _ _ _=>bQ) (λ_ _ _ _ _ _=>aK (r:=eS K) a0 (pv 1) (pv 0) (λ_ _=>rfl))) ag)))
     (av (cw (yB (jl (aE G.gS P6 rfl G.mS G.kS G.bS .nil aA (aa (aE G.gH hr rfl G.mH G.kH G.bH .nil aA (aa (pv 2) (aa (aE G.gK QZ rfl G.mK G.kK G.bK .nil aA (aa (pv 3) (aa (pv 7) ag))) ag))) (aa (aE G.gK QZ rfl G.mK G.kK G.bK .nil aA (aa (pv 3) (aa (pv 8) ag))) ag))))) (av (aN jk)) bf))))
    (av (aN jk)))))))),?_⟩
   refine⟨_,rfl,(by show 4<=sizeLine;decide),λz1 zm=>?_⟩
   have t1:ak H (upd H z1 (.lst [.int 3,.int 3,.int 10,.int 2])):=ak.ax zm
   have y1:(upd H z1 (.lst [.int 3,.int 3,.int 10,.int 2])) z1=some (.lst [.int 3,.int 3,.int 10,.int 2]):=af
   generalize upd H z1 (.lst [.int 3,.int 3,.int 10,.int 2])=G1 at t1 y1 ⊢
   refine⟨(by show 4<=sizeLine;decide),λz2 zP=>?_⟩
   have t2:ak G1 (upd G1 z2 (.lst [.int 1,.int 4,.int 8,.int 2])):=ak.ax zP
   have y2:(upd G1 z2 (.lst [.int 1,.int 4,.int 8,.int 2])) z2=some (.lst [.int 1,.int 4,.int 8,.int 2]):=af
   generalize upd G1 z2 (.lst [.int 1,.int 4,.int 8,.int 2])=G2 at t2 y2 ⊢
   refine⟨(by show 2<=sizeLine;decide),λzl Kq=>?_⟩
   have t3:ak G2 (upd G2 zl (.lst [.ref z1,.ref z2])):=ak.ax Kq
   have y3:(upd G2 zl (.lst [.ref z1,.ref z2])) zl=some (.lst [.ref z1,.ref z2]):=af
   generalize upd G2 zl (.lst [.ref z1,.ref z2])=G3 at t3 y3 ⊢
   have Q0:=t1.trans (t2.trans t3)
   refine⟨_,rfl,a,ns,3,rfl,ak.seq Q0 ha,by decide,λcv=>⟨_,_,rfl,rfl,(by show (0:Int)<2;decide),?_⟩⟩
   obtain⟨z,s0,s1,s2,s3,w4,hsz,sV,aar⟩:∃(z:Addr) (s0 s1 s2 s3:Int),jJ [V.ref z1,.ref z2] (cv % 2)=some (.ref z)/\gG K G3 z s0 s1 s2 s3/\(∃o,G3 z=some o)/\s0+s1<=6/\s0<=3/\s1<=4:=by
    rcases Int.emod_two_eq cv with e|e <;> rw[e]
    . exact⟨z1,3,3,10,2,aG (j:=0) rfl,⟨.inl (aw.of (t3 _ _ (t2 _ _ y1))),by decide,by decide,by decide,by decide,by decide⟩,⟨_,t3 _ _ (t2 _ _ y1)⟩,by decide,by decide,by decide⟩
    . exact⟨z2,1,4,8,2,aG (j:=1) rfl,⟨.inl (aw.of (t3 _ _ y2)),by decide,by decide,by decide,by decide,by decide⟩,⟨_,t3 _ _ y2⟩,by decide,by decide,by decide⟩
   refine⟨zl,_,_,.ref z,rfl,rfl,aw.of y3,w4,?_⟩
   refine⟨a,z,ns,s0,s1,s2,s3,rfl,ak.seq Q0 ha,hsz,sV,λm M all a1 a2 a3 a4 a5 a6 H1 ok l1 l0 l2 l3 l4 l5 l6 l7 hM qU=>?_⟩
   have n6:(ba M).length<=6:=by rw[pU];omega
   have mz:MZ M all:=⟨ok,l3,by omega⟩
   have WJ:(ba M).length=M.keepers.length+M.switches.length:=pU M
   have u0:=ak.seq qU (ak.seq Q0 ha)
   have k5:M.keepers.length<=4/\M.switches.length<=3:=by omega
   clear hsz sV aar l0 l1 l2 l4 l5 l6 l7 w4
   refine⟨_,rfl,m,M,all,a1,a2,a3,a4,a5,a6,rfl,hM,mz,λx dx f1 f2 f3 f4 f5 f6 ts H2 Q1 hX=>?_⟩
   have nG:=hM.same Q1
   obtain⟨tk,KI,pk2⟩:=id nG.kp
   refine⟨_,rfl,m,.ref a2,rfl,br.k (k:=.inr "keepers") nG.top,a2,rfl,⟨_,aw.of KI⟩,λnl pZ=>QJ pZ KI (QK pk2) (by rw[abc];omega) λH3 Q2 zv=>?_⟩
   have aas:H3 nl=some (.lst ((ez M).map V.str)):=zv
   have lk:(ez M).length=M.keepers.length:=abc ..
   refine⟨_,rfl,nl,_,rfl,.inl (aw.of zv),M.keepers.length,(by rw[abc,lk];rfl),by omega,λst us H4 Lo aij nu ij=>?_⟩
   have Q3:=ij.length
   rw[cO]at Q3
   have jL:2 ^ M.keepers.length<=256:=Ej (by omega)
   refine⟨(by show 0<=sizeLine;decide),λbe lD=>?_⟩
   have Lp:ak H4 (upd H4 be (.lst [])):=ak.ax lD
   have q5:(upd H4 be (.lst [])) be=some (.lst (([]:List Addr).map V.ref)):=af
   show eF _ _ _ _ (upd H4 be (.lst []))
   generalize upd H4 be (.lst [])=H5 at Lp q5 ⊢
   have Yd:ak H1 H5:=Q1.trans (Q2.trans (Lo.trans Lp))
   have nbe:∀{b:Addr}{u:HO},H4 b=some u->b≠be:=λhb=>ae hb lD
   have HM:ak H1 H4:=Q1.trans (Q2.trans Lo)
   have k4:∀{Hx:Hp},(∀b u,H5 b=some u->b≠be->Hx b=some u)->ak H4 Hx:=λk b u hb=>k _ _ (Lp _ _ hb) (nbe hb)
   have Q4:∀{Hx:Hp},ak H4 Hx->nK K Hx us (bU M.keepers.length):=λs=>ij.same s
   refine⟨_,rfl,st,rfl,⟨_,aw.of (Lp _ _ nu)⟩,jQ (K:=K) (a:=st) (xs:=us.map V.ref) (λi σ Hi=>∃(ls:List Addr) (v6:Option V),σ=[some (.ref a),some (.ref m),some (.ref x),some (.ref nl),some (.ref st),some (.ref be),v6,none,none]/\(∀b u,H5 b=some u->b≠be->Hi b=some u)/\Hi be=some (.lst (ls.map V.ref))/\Paired (λl c=>l≠be/\Hi l=some (.lst ((bh M c).map iV))) ls ((bU M.keepers.length).take i)) ?_ ?_ ?_ ?_⟩
   . exact⟨[],none,rfl,λ_ _ h _=>h,q5,.nil⟩
   . rintro i σ Hi _ ⟨ls,v6,rfl,ki,_⟩
     exact aw.of (k4 ki _ _ nu)
   . rintro i xv σ Hi hx ⟨ls,v6,rfl,ki,Dj,Yf⟩
     have hi:i<us.length:=by
      have:=(adt.mp hx).1
      rwa[abc]at this
     have qM:(bU M.keepers.length)[i]?=some ((bU M.keepers.length)[i]'(by rw[cO];omega)):=adj _
     have Q5:=k4 ki
     obtain⟨ca,hca,Yg⟩:=cH (Q4 Q5) qM
     have ex:xv=.ref ca:=by
      rw[ado,hca]at hx
      exact(adN hx).symm
     subst ex
     obtain⟨gQ,HS⟩:=i9 _ _ (adX qM)
     generalize (bU M.keepers.length)[i]'(by rw[cO];omega)=c at qM Yg gQ HS
     have Yh:=hM.same (HM.trans Q5)
     have lsw:(M.switches.map V.str).length=M.switches.length:=abc ..
     refine⟨_,rfl,.inl ⟨rfl,_,aw.of Dj⟩,_,rfl,m,.ref a1,rfl,br.k (k:=.inr "switches") Yh.top,a1,_,rfl,.inl (aw.of Yh.sw),M.switches.length,(by rw[lsw];rfl),by omega,λR2 us2 H6 s6 aik Lq EG=>?_⟩
     have JQ:=EG.length
     rw[cO]at JQ
     refine⟨R2,rfl,⟨_,aw.of Lq⟩,λD hD=>?_⟩
     refine fQ us2.length (λj acc σ H9=>acc=((bh M c).take j).map iV/\(∃u,σ=[u,some (.ref st),some (.ref m),some (.ref ca)])/\ak H6 H9) ⟨rfl,⟨none,rfl⟩,ak.ax hD⟩ af ?_ ?_
     . rintro acc σ H9 cQ ⟨rfl,_,s9⟩
       have Lr:us2.length=(bh M c).length:=by unfold bh;rw[abc,cO];exact JQ
       rw[Lr,ad5]at cQ
       refine⟨⟨_,aw.of (s9 _ _ Lq),by rw[abc];omega⟩,?_⟩
       have hb9:=s9 _ _ (s6 _ _ Dj)
       have Yi:be≠D:=ae (s6 _ _ Dj) hD
       have Ls:=Yf.length
       rw[adU]at Ls
       refine⟨be,_,_,rfl,rfl,hb9,(by rw[abc];exact small (by omega)),ls++[D],_,rfl,λb u hb nb=>by rw[ah nb];exact s9 _ _ (s6 _ _ (ki b u hb nb)),by rw[af,adp];rfl,?_⟩
       rw[aen,qM,ago]
       refine dc (Paired.cM Yf λl c e=>⟨e.1,?_⟩) (.cons ⟨adG Yi,?_⟩ .nil)
       . rw[ah e.1]
         exact s9 _ _ (s6 _ _ e.2)
       . rw[ah (adG Yi)]
         exact cQ
     . rintro j acc σ H9 hj cQ ⟨rfl,⟨u,rfl⟩,s9⟩
       have Bj:(bU M.switches.length)[j]?=some ((bU M.switches.length)[j]'(by rw[cO];omega)):=adj _
       obtain⟨da,hda,Yj⟩:=cH EG Bj
       have HU:(us2.map V.ref)[j]?=some (.ref da):=by rw[ado,hda];rfl
       refine⟨⟨_,_,aw.of (s9 _ _ Lq),HU⟩,?_⟩
       rintro xv2 H' ⟨rfl,hv⟩
       have vG:=hv _ (aw.of (s9 _ _ Lq))
       rw[HU]at vG
       cases vG
       obtain⟨jM,pX⟩:=i9 _ _ (adX Bj)
       generalize (bU M.switches.length)[j]'(by rw[cO];omega)=d at Bj Yj jM pX
       have Q6:ak H4 H':=Q5.trans (s6.trans s9)
       have fit:=mz.fm.fit ⟨jM.symm,pX⟩ ⟨gQ.symm,HS⟩
       refine dv ⟨_,rfl,.inl ⟨rfl,_,aw.of (Q6 _ _ nu)⟩,_,rfl,_,rfl,_,rfl,m,a1,a2,a3,a4,a5,a6,ca,da,M,all,d,c,rfl,hM.same (HM.trans Q6),fit,ak.jW (s6.trans s9) Yg,ak.jW s9 Yj,λt H7 Cc s7 hT=>?_⟩
       have hin:fZ M d c∈bU M.keepers.length:=sG rn fit.xP
       have xZ:=Q6.trans s7
       have dl:((bU M.keepers.length).map dT).length=(bU M.keepers.length).length:=abc ..
       refine⟨st,.ref t,_,dT (fZ M d c),(bU M.keepers.length).map dT,rfl,rfl,aw.of (xZ _ _ nu),HR (Q4 xZ),.tup (aS.of hT) (t8 _),KQ _,λe he=>?_,?_,uh M.keepers.length (fZ M d c),by rw[dl];exact mj hin,?_,λq hq eN=>?_,?_⟩
       . obtain⟨r,_,rfl⟩:=ads.mp he
         exact KQ r
       . exact ag7 (Te _)
       . rw[afx,KR]
         have:=Df hin
         rw[adj (mj hin)]at this
         exact ad3 (adN this)
       . rw[afx,KR]
         refine adS λe=>?_
         have yJ:q<(bU M.keepers.length).length:=by rw[dl]at hq;exact hq
         have:=Dg (k:=M.keepers.length) (t:=q) (r:=fZ M d c) (by rw[adj yJ,e])
         omega
       . have hbj:(bh M c)[j]?=some (uh M.keepers.length (fZ M d c)):=by unfold bh;rw[ado,Bj];rfl
         refine⟨_,s7 _ _ cQ,by rw[abc,adU];exact small (ady (Nat.min_le_left _ _) (by have h2:us2.length<=256:=JQ ▸ Ej (by omega);omega)),cP hj af ⟨?_,⟨_,rfl⟩,λb o hb=>?_⟩⟩
         . rw[aen,hbj,adp]
           rfl
         . rw[ah (ae hb hD)]
           exact s7 _ _ (s9 _ _ hb)
   . rintro σ H6 ⟨ls,v6,rfl,k6,Hn,Q7⟩
     rw[abc,Q3,← cO M.keepers.length,ad5]at Q7
     have Lu:=k4 k6
     have s16:=HM.trans Lu
     have Ge:=ak.seq s16 u0
     have aat:=Lu _ _ nu
     have Ls:=Q7.length
     rw[cO]at Ls
     refine⟨_,rfl,_,rfl,st,_,rfl,.inl (aw.of aat),a,ns,2 ^ M.keepers.length,(by rw[abc,Q3];rfl),Ge,jL,λL as rows H7 s7 hL Yk=>?_⟩
     have lbl:=Yk.length
     have Yl:=s7 _ _ (Lu _ _ (Lo _ _ aas))
     have Lv:=s7 _ _ Hn
     have pb7:Paired (λl c=>H7 l=some (.lst ((bh M c).map iV))) ls (bU M.keepers.length):=Paired.cM Q7 λl c e=>s7 _ _ e.2
     have hX7:=hX.same (Q2.trans (Lo.trans (Lu.trans s7)))
     refine⟨L,rfl,⟨_,aw.of hL⟩,jQ (K:=K) (a:=L) (xs:=as.map V.ref) (λi σ Hi=>∃(v7 v8:Option V),σ=[some (.ref a),some (.ref m),some (.ref x),some (.ref nl),some (.ref st),some (.ref be),v6,v7,v8]/\ak H7 Hi) ?_ ?_ ?_ ?_⟩
     . exact⟨none,none,rfl,λ_ _ h=>h⟩
     . rintro i σ Hi _ ⟨v7,v8,rfl,si⟩
       exact aw.of (si _ _ hL)
     . rintro i xv σ Hi hx ⟨v7,v8,rfl,si⟩
       have hi:i<as.length:=by
        have:=(adt.mp hx).1
        rwa[abc]at this
       have xj:rows[i]?=some (rows[i]'(by omega)):=adj _
       obtain⟨bl,sQ,Ym,Lw⟩:=cH Yk xj
       have ex:xv=.ref bl:=by
        rw[ado,sQ]at hx
        exact(adN hx).symm
       subst ex
       generalize rows[i]'(by omega)=bs at xj Ym Lw
       have Dj:=si _ _ Ym
       refine⟨_,rfl,be,rfl,⟨_,aw.of (si _ _ Lv)⟩,λDu Yn=>?_⟩
       refine fQ ls.length (λj acc σ H9=>acc=((oa M bs).take j).map bV/\(∃u,σ=[u,some (.ref bl)])/\ak Hi H9) ⟨rfl,⟨none,rfl⟩,ak.ax Yn⟩ af ?_ ?_
       . rintro acc σ H9 cQ ⟨rfl,_,s9⟩
         rw[Ls,← ui M bs,ad5]at cQ
         refine⟨⟨_,aw.of (s9 _ _ (si _ _ Lv)),by rw[abc];omega⟩,?_⟩
         have Yo:=si.trans s9
         have Yp:(ez M).length<9:=by rw[lk];omega
         have Yq:(ez M).length<=8:=by omega
         refine⟨_,rfl,_,rfl,_,rfl,nl,bl,ez M,bs,rfl,Yo _ _ Yl,s9 _ _ Dj,Yp,Yq,by rw[Lw,lk],λv1 Ha sa r1=>?_⟩
         have Q8:=Yo.trans sa
         refine⟨x,dx,f1,f2,f3,f4,f5,f6,ts,M,v1,cn (ez M) bs,rfl,hX7.same Q8,r1,oO _ _,λu t Hb sb rb cb eb=>?_⟩
         refine⟨_,rfl,_,rfl,nl,Du,ez M,oa M bs,rfl,sb _ _ (Q8 _ _ Yl),sb _ _ (sa _ _ cQ),Yp,Yq,by rw[ui,lk],λv2 Hc sc r2=>?_⟩
         have eq:t=cn (ez M) (oa M bs):=jh (kh ok) cb (oX (oO _ _)) λe=>aea.mpr ((eb e).trans (QU ok Lw e).symm)
         refine⟨_,_,_,_,rfl,rb.keep (vo sc),r2,aeL (ji cb) (by omega),_,rfl,de (by rw[ad3 eq];rfl) ?_⟩
         exact⟨_,_,rfl,Q8.trans (sb.trans sc)⟩
       . rintro j acc σ H9 hj cQ ⟨rfl,⟨u,rfl⟩,s9⟩
         have Lx:(bU M.keepers.length)[j]?=some ((bU M.keepers.length)[j]'(by rw[cO];omega)):=adj _
         obtain⟨l,hl,Yr⟩:=cH pb7 Lx
         have HU:(ls.map V.ref)[j]?=some (.ref l):=by rw[ado,hl];rfl
         refine⟨⟨_,_,aw.of (s9 _ _ (si _ _ Lv)),HU⟩,?_⟩
         rintro xv2 H' ⟨rfl,hv⟩
         have vG:=hv _ (aw.of (s9 _ _ (si _ _ Lv)))
         rw[HU]at vG
         cases vG
         have Bj:(oa M bs)[j]?=some ((bh M ((bU M.keepers.length)[j]'(by rw[cO];omega))).any λj=>bs.getD j false):=by unfold oa;rw[ado,Lx];rfl
         obtain⟨gQ,HS⟩:=i9 _ _ (adX Lx)
         generalize (bU M.keepers.length)[j]'(by rw[cO];omega)=c at Lx Yr Bj gQ HS
         have Ly:=s9 _ _ (si _ _ Yr)
         have Lr:(bh M c).length=2 ^ M.switches.length:=by unfold bh;rw[abc,cO]
         have lb2:(bh M c).length<=256:=by rw[Lr];exact Ej (by omega)
         have jb:∀q∈bh M c,q<bs.length:=λq hq=>by
          unfold bh at hq
          obtain⟨d,hd,rfl⟩:=ads.mp hq
          obtain⟨jM,pX⟩:=i9 _ _ hd
          have fit:=mz.fm.fit ⟨jM.symm,pX⟩ ⟨gQ.symm,HS⟩
          have:=mj (sG (k:=M.keepers.length) rn fit.xP)
          rw[cO]at this
          rw[Lw]
          exact this
         refine dv ⟨_,rfl,l,rfl,⟨_,aw.of Ly⟩,λDi Ys=>?_⟩
         refine fQ (bh M c).length (λq acc σ H8=>acc=((bh M c).take q).map (λj=>bV (bs.getD j false))/\(∃u,σ=[u,some (.ref bl)])/\ak H' H8) ⟨rfl,⟨none,rfl⟩,ak.ax Ys⟩ af ?_ ?_
         . rintro acc σ H8 Lz ⟨rfl,_,s8⟩
           rw[ad5]at Lz
           refine⟨⟨_,aw.of (s8 _ _ Ly),by rw[abc];exact adn _⟩,?_⟩
           refine⟨Di,(bh M c).map λj=>bI (bs.getD j false),rfl,aw.of (by rw[Lz,aeC];rfl),?_,λmx h1 h2=>?_⟩
           . rw[abc,Lr]
             exact Nat.two_pow_pos _
           rw[Nu h1 h2]
           refine⟨_,s8 _ _ cQ,by rw[abc,adU];exact small (by omega),cP hj af ⟨?_,⟨_,rfl⟩,λb o hb=>?_⟩⟩
           . rw[aen,Bj,adp]
             rfl
           . rw[ah (ae hb Yn)]
             exact s8 _ _ (s9 _ _ hb)
         . rintro q acc σ H8 hq Lz ⟨rfl,⟨u,rfl⟩,s8⟩
           have Yt:(bh M c)[q]?=some (bh M c)[q]:=adj hq
           have Yu:((bh M c).map iV)[q]?=some (iV (bh M c)[q]):=by rw[ado,Yt];rfl
           refine⟨⟨_,_,aw.of (s8 _ _ Ly),Yu⟩,?_⟩
           rintro xv3 H'' ⟨rfl,hv3⟩
           have nM:=hv3 _ (aw.of (s8 _ _ Ly))
           rw[Yu]at nM
           cases nM
           have hjb:=jb _ (aee hq)
           refine dv ⟨_,rfl,_,rfl,bl,_,_,bV (bs.getD (bh M c)[q] false),rfl,rfl,aw.of (s8 _ _ (s9 _ _ Dj)),?_,?_⟩
           . exact aG (by rw[ado,adA,adj hjb];rfl)
           refine⟨_,Lz,by rw[abc,adU];exact small (by omega),cP hq af ⟨?_,⟨_,rfl⟩,λb o hb=>?_⟩⟩
           . rw[aen,Yt,adp]
             rfl
           . rw[ah (ae hb Ys)]
             exact s8 _ _ hb
     . rintro σ Hi ⟨v7,v8,rfl,si⟩
       exact kk Hi
end
end Gen
namespace L2
open PySem PySem.Spec PyProof.Rows
theorem Bk{α:Type} : ∀{us:List α},us.length=1->∃a,us=[a]
 | [a],_=>⟨a,rfl⟩
theorem wF{α:Type} : ∀{us:List α}{n:Nat},us.length=n+1->∃a r,us=a::r/\r.length=n
 | a::r,_,h=>⟨a,r,rfl,Nat.succ.inj h⟩
theorem ef{α:Type}{us:List α}(h:us.length=2):∃a b,us=[a,b]:=by
 obtain⟨a,r,rfl,h1⟩:=wF h
 obtain⟨b,rfl⟩:=Bk h1
 exact⟨a,b,rfl⟩
theorem Bl{α:Type}{us:List α}(h:us.length=3):∃a b c,us=[a,b,c]:=by
 obtain⟨a,r,rfl,h1⟩:=wF h
 obtain⟨b,c,rfl⟩:=ef h1
 exact⟨a,b,c,rfl⟩
theorem uk{α:Type}{us:List α}(h:us.length=4):∃a b c d,us=[a,b,c,d]:=by
 obtain⟨a,r,rfl,h1⟩:=wF h
 obtain⟨b,c,d,rfl⟩:=Bl h1
 exact⟨a,b,c,d,rfl⟩
theorem aau{α:Type}{us:List α}(h:us.length=7):∃a b c d e f g,us=[a,b,c,d,e,f,g]:=by
 obtain⟨a,r,rfl,h1⟩:=wF h
 obtain⟨b,r2,rfl,h2⟩:=wF h1
 obtain⟨c,r3,rfl,h3⟩:=wF h2
 obtain⟨d,e,f,g,rfl⟩:=uk h3
 exact⟨a,b,c,d,e,f,g,rfl⟩
end L2
namespace Gen
open PySem L2
section
theorem all_mk{l:W.OpenLaw}{w:World}{K:W.Frag}{h:Heap}{mg:Str->Option Value}{fa CM CF CG EH Bm Bn EI EJ Bo EK EL EM EN EO ER ES ET EU EV EW EY EZ f3 f5 Q9 Ra LA Rb LB LC LD LF LG LH LI LJ LK LL LM LN LO LP LQ Rc:Addr}(X:K.In h)(G:h.Ns mainGlobals mg) (hfa:mg "law" = some (.ref fa))
 {TQ TR TU TV TX TY TZ T2 T3 T4 T6 T7 T8 T9 Ua Ub Uc Ud Ue Ug Uh Ui Uj Uk Ul Um Uo Up Uq Ur Us Ut Uu Uv Uw Ux Uy Uz od3 an3 od5 an5 aav aaw aax aay aaz aaA aaB aaC aaD aaE aaF aaG aaH aaI aaJ aaK aaL aaM aaN aaO aaP aaQ aaR aaS aaT aaU aaV aaW aaX aaY aaZ aa0 aa2 aa3 aa4 aa5 aa6 aa7 aa8 Rf:Option Addr}{UA UB UC UD UE UG UH UI UJ UK UL UM UN UO UP UQ UR US UT sl3 sl5 aa9 aba abb abd abe abf abg abh abi abj abk abl abm abn abo abp abq abr abt abu:Array (Option Value)}{UU UW UX UY LR UZ U0 U1 U2 U3 LS U4 U5 U6 U7 U8 LU U9 Va Vb Vc Vd LV Ve Vf Vg Vh Vi LW Vj Vk Vl Vm Vn LX Vo Vp Vq Vr Vs LY Vt Vu Vv Vw Vx LZ Vy Vz VA VB VC L0 VD VE VF VG VH L1 VI VJ VL VM VN L3 VO VP VQ VR VS L4 VT VU VW VX VY L5 VZ V0 V1 V2 V3 L6 V4 V5 V6 V7 V8 L7 V9 Wa Wb Wc Wd L8 We Wf Wg Wh Wi L9 Wj Wk Wl Wm Wn Ma Wo Wq Wr Ws Wt Mb Wu oc3 kV3 dc3 pm3 Yv ct3 oc5 kV5 dc5 pm5 Yw ct5 abv abw abx aby Rg abz abA abB abC abD Rh abE abF abG abH abI Ri abJ abK abL abM abN Rj abO abP abQ abR abS Rk abT abU abV abW abX Rl abY abZ ab0 ab1 ab2 Rm ab3 ab4 ab5 ab6 ab7 Rn ab8 ab9 aca acb acd Ro ace acf acg ach aci Rp acj ack acm acn aco Rq acp acq acr acs acu Rr acv acw acx acy acz Rt acA acB acC acD acE Ru acF acG acH acI acJ Rv acK acL acM acN acO Rw acP acQ acR acS acT Rx acU acV acW acX acY Ry acZ ac0 ac1 ac2 ac3 Rz ac4 ac5 RA RB RC JR RD:Value}
 (aCM:W.nsIn K mainGlobals "Machine" = some (some (.ref CM))) (aCF:W.nsIn K mainGlobals "Forest" = some (some (.ref CF))) (aCG:W.nsIn K mainGlobals "Grove" = some (some (.ref CG)))
 (a200:W.findIn K (.ref CM) "__init__" = some (some (.ref EH))) (i200:W.isFn K (.ref EH)=true) (l200:K.lookup EH=some ⟨UU,TQ,.func (W.fnOf "__init__" "Machine.__init__" (aO rX) (aJ rX) (ar rX) .none UW UX UY TR LR UZ),UA⟩) (c200:W.codeIn K LR "Machine.__init__" = true) (k200:W.keepIn K (.ref EH)=true)
 (a100:W.findIn K (.ref CF) "__init__" = some (some (.ref Bm))) (i100:W.isFn K (.ref Bm)=true) (l100:K.lookup Bm=some ⟨U0,TU,.func (W.fnOf "__init__" "Forest.__init__" (aO oN) (aJ oN) (ar oN) .none U1 U2 U3 TV LS U4),UB⟩) (c100:W.codeIn K LS "Forest.__init__" = true) (k100:W.keepIn K (.ref Bm)=true)
 (a101:W.findIn K (.ref CF) "node" = some (some (.ref Bn))) (i101:W.isFn K (.ref Bn)=true) (l101:K.lookup Bn=some ⟨U5,TX,.func (W.fnOf "node" "Forest.node" (aO sf) (aJ sf) (ar sf) .none U6 U7 U8 TY LU U9),UC⟩) (c101:W.codeIn K LU "Forest.node" = true) (k101:W.keepIn K (.ref Bn)=true)
 (a103:W.findIn K (.ref CF) "tree_at" = some (some (.ref EI))) (i103:W.isFn K (.ref EI)=true) (l103:K.lookup EI=some ⟨Va,TZ,.func (W.fnOf "tree_at" "Forest.tree_at" (aO j4) (aJ j4) (ar j4) .none Vb Vc Vd T2 LV Ve),UD⟩) (c103:W.codeIn K LV "Forest.tree_at" = true) (k103:W.keepIn K (.ref EI)=true)
 (a104:W.findIn K (.ref CF) "chosen" = some (some (.ref EJ))) (i104:W.isFn K (.ref EJ)=true) (l104:K.lookup EJ=some ⟨Vf,T3,.func (W.fnOf "chosen" "Forest.chosen" (aO j6) (aJ j6) (ar j6) .none Vg Vh Vi T4 LW Vj),UE⟩) (c104:W.codeIn K LW "Forest.chosen" = true) (k104:W.keepIn K (.ref EJ)=true)
 (a105:W.findIn K (.ref CF) "half" = some (some (.ref Bo))) (i105:W.isFn K (.ref Bo)=true) (l105:K.lookup Bo=some ⟨Vk,T6,.func (W.fnOf "half" "Forest.half" (aO sg) (aJ sg) (ar sg) .none Vl Vm Vn T7 LX Vo),UG⟩) (c105:W.codeIn K LX "Forest.half" = true) (k105:W.keepIn K (.ref Bo)=true)
 (a106:W.findIn K (.ref CF) "leaf_of" = some (some (.ref EK))) (i106:W.isFn K (.ref EK)=true) (l106:K.lookup EK=some ⟨Vp,T8,.func (W.fnOf "leaf_of" "Forest.leaf_of" (aO so) (aJ so) (ar so) .none Vq Vr Vs T9 LY Vt),UH⟩) (c106:W.codeIn K LY "Forest.leaf_of" = true) (k106:W.keepIn K (.ref EK)=true)
 (a102:W.findIn K (.ref CF) "taken" = some (some (.ref EL))) (i102:W.isFn K (.ref EL)=true) (l102:K.lookup EL=some ⟨Vu,Ua,.func (W.fnOf "taken" "Forest.taken" (aO m7) (aJ m7) (ar m7) .none Vv Vw Vx Ub LZ Vy),UI⟩) (c102:W.codeIn K LZ "Forest.taken" = true) (k102:W.keepIn K (.ref EL)=true)
 (a107:W.findIn K (.ref CF) "without" = some (some (.ref EM))) (i107:W.isFn K (.ref EM)=true) (l107:K.lookup EM=some ⟨Vz,Uc,.func (W.fnOf "without" "Forest.without" (aO i8) (aJ i8) (ar i8) .none VA VB VC Ud L0 VD),UJ⟩) (c107:W.codeIn K L0 "Forest.without" = true) (k107:W.keepIn K (.ref EM)=true)
 (a108:W.findIn K (.ref CF) "replaced" = some (some (.ref EN))) (i108:W.isFn K (.ref EN)=true) (l108:K.lookup EN=some ⟨VE,Ue,.func (W.fnOf "replaced" "Forest.replaced" (aO iz) (aJ iz) (ar iz) .none VF VG VH Ug L1 VI),UK⟩) (c108:W.codeIn K L1 "Forest.replaced" = true) (k108:W.keepIn K (.ref EN)=true)
 (a110:W.findIn K (.ref CF) "names_in" = some (some (.ref EO))) (i110:W.isFn K (.ref EO)=true) (l110:K.lookup EO=some ⟨VJ,Uh,.func (W.fnOf "names_in" "Forest.names_in" (aO kq) (aJ kq) (ar kq) .none VL VM VN Ui L3 VO),UL⟩) (c110:W.codeIn K L3 "Forest.names_in" = true) (k110:W.keepIn K (.ref EO)=true)
 (a300:W.findIn K (.ref CG) "__init__" = some (some (.ref ER))) (i300:W.isFn K (.ref ER)=true) (l300:K.lookup ER=some ⟨VP,Uj,.func (W.fnOf "__init__" "Grove.__init__" (aO oS) (aJ oS) (ar oS) .none VQ VR VS Uk L4 VT),UM⟩) (c300:W.codeIn K L4 "Grove.__init__" = true) (k300:W.keepIn K (.ref ER)=true)
 (a301:W.findIn K (.ref CG) "number_of" = some (some (.ref ES))) (i301:W.isFn K (.ref ES)=true) (l301:K.lookup ES=some ⟨VU,Ul,.func (W.fnOf "number_of" "Grove.number_of" (aO sA) (aJ sA) (ar sA) .none VW VX VY Um L5 VZ),UN⟩) (c301:W.codeIn K L5 "Grove.number_of" = true) (k301:W.keepIn K (.ref ES)=true)
 (a302:W.findIn K (.ref CG) "plant" = some (some (.ref ET))) (i302:W.isFn K (.ref ET)=true) (l302:K.lookup ET=some ⟨V0,Uo,.func (W.fnOf "plant" "Grove.plant" (aO ke) (aJ ke) (ar ke) .none V1 V2 V3 Up L6 V4),UO⟩) (c302:W.codeIn K L6 "Grove.plant" = true) (k302:W.keepIn K (.ref ET)=true)
 (a303:W.findIn K (.ref CG) "opposite_of" = some (some (.ref EU))) (i303:W.isFn K (.ref EU)=true) (l303:K.lookup EU=some ⟨V5,Uq,.func (W.fnOf "opposite_of" "Grove.opposite_of" (aO sy) (aJ sy) (ar sy) .none V6 V7 V8 Ur L7 V9),UP⟩) (c303:W.codeIn K L7 "Grove.opposite_of" = true) (k303:W.keepIn K (.ref EU)=true)
 (a304:W.findIn K (.ref CG) "both_of" = some (some (.ref EV))) (i304:W.isFn K (.ref EV)=true) (l304:K.lookup EV=some ⟨Wa,Us,.func (W.fnOf "both_of" "Grove.both_of" (aO oQ) (aJ oQ) (ar oQ) .none Wb Wc Wd Ut L8 We),UQ⟩) (c304:W.codeIn K L8 "Grove.both_of" = true) (k304:W.keepIn K (.ref EV)=true)
 (a307:W.findIn K (.ref CG) "next_number" = some (some (.ref EW))) (i307:W.isFn K (.ref EW)=true) (l307:K.lookup EW=some ⟨Wf,Uu,.func (W.fnOf "next_number" "Grove.next_number" (aO oV) (aJ oV) (ar oV) .none Wg Wh Wi Uv L9 Wj),UR⟩) (c307:W.codeIn K L9 "Grove.next_number" = true) (k307:W.keepIn K (.ref EW)=true)
 (a308:W.findIn K (.ref CG) "moves_into" = some (some (.ref EY))) (i308:W.isFn K (.ref EY)=true) (l308:K.lookup EY=some ⟨Wk,Uw,.func (W.fnOf "moves_into" "Grove.moves_into" (aO mh) (aJ mh) (ar mh) .none Wl Wm Wn Ux Ma Wo),US⟩) (c308:W.codeIn K Ma "Grove.moves_into" = true) (k308:W.keepIn K (.ref EY)=true)
 (a309:W.findIn K (.ref CG) "stands_of" = some (some (.ref EZ))) (i309:W.isFn K (.ref EZ)=true) (l309:K.lookup EZ=some ⟨Wq,Uy,.func (W.fnOf "stands_of" "Grove.stands_of" (aO kr) (aJ kr) (ar kr) .none Wr Ws Wt Uz Mb Wu),UT⟩) (c309:W.codeIn K Mb "Grove.stands_of" = true) (k309:W.keepIn K (.ref EZ)=true)
 (a3:W.nsIn K mainGlobals "next_of" = some (some (.ref f3))) (l3:K.lookup f3=some ⟨oc3,od3,.func (W.fnOf "next_of" "next_of" (aO me) (aJ me) (ar me) .none kV3 dc3 pm3 an3 Yv ct3),sl3⟩) (c3:W.codeIn K Yv "next_of" = true) (k3:W.keepIn K (.ref f3)=true)
 (a5:W.nsIn K mainGlobals "bare_name" = some (some (.ref f5))) (l5:K.lookup f5=some ⟨oc5,od5,.func (W.fnOf "bare_name" "bare_name" (aO sv) (aJ sv) (ar sv) .none kV5 dc5 pm5 an5 Yw ct5),sl5⟩) (c5:W.codeIn K Yw "bare_name" = true) (k5:W.keepIn K (.ref f5)=true)
 (a11:W.nsIn K mainGlobals "order_of" = some (some (.ref Q9))) (l11:K.lookup Q9=some ⟨abv,aav,.func (W.fnOf "order_of" "order_of" (aO kf) (aJ kf) (ar kf) .none abw abx aby aaw Rg abz),aa9⟩) (c11:W.codeIn K Rg "order_of" = true) (k11:W.keepIn K (.ref Q9)=true)
 (a12:W.nsIn K mainGlobals "ahead_of" = some (some (.ref Ra))) (l12:K.lookup Ra=some ⟨abA,aax,.func (W.fnOf "ahead_of" "ahead_of" (aO oW) (aJ oW) (ar oW) .none abB abC abD aay Rh abE),aba⟩) (c12:W.codeIn K Rh "ahead_of" = true) (k12:W.keepIn K (.ref Ra)=true)
 (a14:W.nsIn K mainGlobals "_law_cell_at" = some (some (.ref LA))) (l14:K.lookup LA=some ⟨abF,aaz,.func (W.fnOf "_law_cell_at" "_law_cell_at" (aO rQ) (aJ rQ) (ar rQ) .none abG abH abI aaA Ri abJ),abb⟩) (c14:W.codeIn K Ri "_law_cell_at" = true) (k14:W.keepIn K (.ref LA)=true)
 (a15:W.nsIn K mainGlobals "_law_mix" = some (some (.ref Rb))) (l15:K.lookup Rb=some ⟨abK,aaB,.func (W.fnOf "_law_mix" "_law_mix" (aO tP) (aJ tP) (ar tP) .none abL abM abN aaC Rj abO),abd⟩) (c15:W.codeIn K Rj "_law_mix" = true) (k15:W.keepIn K (.ref Rb)=true)
 (a16:W.nsIn K mainGlobals "_law_rich" = some (some (.ref LB))) (l16:K.lookup LB=some ⟨abP,aaD,.func (W.fnOf "_law_rich" "_law_rich" (aO rS) (aJ rS) (ar rS) .none abQ abR abS aaE Rk abT),abe⟩) (c16:W.codeIn K Rk "_law_rich" = true) (k16:W.keepIn K (.ref LB)=true)
 (a17:W.nsIn K mainGlobals "_law_pick" = some (some (.ref LC))) (l17:K.lookup LC=some ⟨abU,aaF,.func (W.fnOf "_law_pick" "_law_pick" (aO lP) (aJ lP) (ar lP) .none abV abW abX aaG Rl abY),abf⟩) (c17:W.codeIn K Rl "_law_pick" = true) (k17:W.keepIn K (.ref LC)=true)
 (a18:W.nsIn K mainGlobals "_law_spelt" = some (some (.ref LD))) (l18:K.lookup LD=some ⟨abZ,aaH,.func (W.fnOf "_law_spelt" "_law_spelt" (aO jx) (aJ jx) (ar jx) .none ab0 ab1 ab2 aaI Rm ab3),abg⟩) (c18:W.codeIn K Rm "_law_spelt" = true) (k18:W.keepIn K (.ref LD)=true)
 (a19:W.nsIn K mainGlobals "_law_literal" = some (some (.ref LF))) (l19:K.lookup LF=some ⟨ab4,aaJ,.func (W.fnOf "_law_literal" "_law_literal" (aO i0) (aJ i0) (ar i0) .none ab5 ab6 ab7 aaK Rn ab8),abh⟩) (c19:W.codeIn K Rn "_law_literal" = true) (k19:W.keepIn K (.ref LF)=true)
 (a20:W.nsIn K mainGlobals "_law_wishes" = some (some (.ref LG))) (l20:K.lookup LG=some ⟨ab9,aaL,.func (W.fnOf "_law_wishes" "_law_wishes" (aO lW) (aJ lW) (ar lW) .none aca acb acd aaM Ro ace),abi⟩) (c20:W.codeIn K Ro "_law_wishes" = true) (k20:W.keepIn K (.ref LG)=true)
 (a21:W.nsIn K mainGlobals "_law_machine_digits" = some (some (.ref LH))) (l21:K.lookup LH=some ⟨acf,aaN,.func (W.fnOf "_law_machine_digits" "_law_machine_digits" (aO dY) (aJ dY) (ar dY) .none acg ach aci aaO Rp acj),abj⟩) (c21:W.codeIn K Rp "_law_machine_digits" = true) (k21:W.keepIn K (.ref LH)=true)
 (a22:W.nsIn K mainGlobals "_law_machine" = some (some (.ref LI))) (l22:K.lookup LI=some ⟨ack,aaP,.func (W.fnOf "_law_machine" "_law_machine" (aO gz) (aJ gz) (ar gz) .none acm acn aco aaQ Rq acp),abk⟩) (c22:W.codeIn K Rq "_law_machine" = true) (k22:W.keepIn K (.ref LI)=true)
 (a23:W.nsIn K mainGlobals "_law_values" = some (some (.ref LJ))) (l23:K.lookup LJ=some ⟨acq,aaR,.func (W.fnOf "_law_values" "_law_values" (aO lY) (aJ lY) (ar lY) .none acr acs acu aaS Rr acv),abl⟩) (c23:W.codeIn K Rr "_law_values" = true) (k23:W.keepIn K (.ref LJ)=true)
 (a24:W.nsIn K mainGlobals "_law_bit" = some (some (.ref LK))) (l24:K.lookup LK=some ⟨acw,aaT,.func (W.fnOf "_law_bit" "_law_bit" (aO we) (aJ we) (ar we) .none acx acy acz aaU Rt acA),abm⟩) (c24:W.codeIn K Rt "_law_bit" = true) (k24:W.keepIn K (.ref LK)=true)
 (a25:W.nsIn K mainGlobals "_law_next" = some (some (.ref LL))) (l25:K.lookup LL=some ⟨acB,aaV,.func (W.fnOf "_law_next" "_law_next" (aO sE) (aJ sE) (ar sE) .none acC acD acE aaW Ru acF),abn⟩) (c25:W.codeIn K Ru "_law_next" = true) (k25:W.keepIn K (.ref LL)=true)
 (a26:W.nsIn K mainGlobals "_law_all_bits" = some (some (.ref LM))) (l26:K.lookup LM=some ⟨acG,aaX,.func (W.fnOf "_law_all_bits" "_law_all_bits" (aO sq) (aJ sq) (ar sq) .none acH acI acJ aaY Rv acK),abo⟩) (c26:W.codeIn K Rv "_law_all_bits" = true) (k26:W.keepIn K (.ref LM)=true)
 (a27:W.nsIn K mainGlobals "_law_canon" = some (some (.ref LN))) (l27:K.lookup LN=some ⟨acL,aaZ,.func (W.fnOf "_law_canon" "_law_canon" (aO m8) (aJ m8) (ar m8) .none acM acN acO aa0 Rw acP),abp⟩) (c27:W.codeIn K Rw "_law_canon" = true) (k27:W.keepIn K (.ref LN)=true)
 (a28:W.nsIn K mainGlobals "_law_same_tree" = some (some (.ref LO))) (l28:K.lookup LO=some ⟨acQ,aa2,.func (W.fnOf "_law_same_tree" "_law_same_tree" (aO m9) (aJ m9) (ar m9) .none acR acS acT aa3 Rx acU),abq⟩) (c28:W.codeIn K Rx "_law_same_tree" = true) (k28:W.keepIn K (.ref LO)=true)
 (a29:W.nsIn K mainGlobals "_law_made" = some (some (.ref LP))) (l29:K.lookup LP=some ⟨acV,aa4,.func (W.fnOf "_law_made" "_law_made" (aO sD) (aJ sD) (ar sD) .none acW acX acY aa5 Ry acZ),abr⟩) (c29:W.codeIn K Ry "_law_made" = true) (k29:W.keepIn K (.ref LP)=true)
 (a30:W.nsIn K mainGlobals "_law_sets" = some (some (.ref LQ))) (l30:K.lookup LQ=some ⟨ac0,aa6,.func (W.fnOf "_law_sets" "_law_sets" (aO sF) (aJ sF) (ar sF) .none ac1 ac2 ac3 aa7 Rz ac4),abt⟩) (c30:W.codeIn K Rz "_law_sets" = true) (k30:W.keepIn K (.ref LQ)=true)
 (a31:W.nsIn K mainGlobals "law" = some (some (.ref Rc))) (l31:K.lookup Rc=some ⟨ac5,aa8,.func (W.fnOf "law" "law" (aO pV) (aJ pV) (ar pV) .none RA RB RC Rf JR RD),abu⟩) (c31:W.codeIn K JR "law" = true) (k31:W.keepIn K (.ref Rc)=true)
 (pgM:W.plainGet K CM Str.empty=true) (hdM:W.hasDictIn K CM=true) (poM:W.plainOver K CM=true) (saM:W.findIn K (.ref CM) "__setattr__" = some (some (.builtin "object.__setattr__"))) (mkM:W.makesIn K CM=true) (kcM:W.keepIn K (.ref CM)=true)
 (n1:W.findIn K (.ref CM) "switches" = some none) (n2:W.findIn K (.ref CM) "keepers" = some none) (n3:W.findIn K (.ref CM) "gates" = some none) (n4:W.findIn K (.ref CM) "nexts" = some none) (n5:W.findIn K (.ref CM) "nevers" = some none) (n6:W.findIn K (.ref CM) "somes" = some none)
 (pgF:W.plainGet K CF Str.empty=true) (hdF:W.hasDictIn K CF=true) (poF:W.plainOver K CF=true) (saF:W.findIn K (.ref CF) "__setattr__" = some (some (.builtin "object.__setattr__"))) (mkF:W.makesIn K CF=true) (kcF:W.keepIn K (.ref CF)=true)
 (q1:W.findIn K (.ref CF) "names" = some none) (q2:W.findIn K (.ref CF) "spots" = some none) (q3:W.findIn K (.ref CF) "nodes" = some none) (q4:W.findIn K (.ref CF) "known" = some none) (q5:W.findIn K (.ref CF) "choices" = some none) (q6:W.findIn K (.ref CF) "imported" = some none) (q7:W.findIn K (.ref CF) "exported" = some none)
 (pgG:W.plainGet K CG Str.empty=true) (hdG:W.hasDictIn K CG=true) (poG:W.plainOver K CG=true) (saG:W.findIn K (.ref CG) "__setattr__" = some (some (.builtin "object.__setattr__"))) (mkG:W.makesIn K CG=true) (kcG:W.keepIn K (.ref CG)=true)
 (g1:W.findIn K (.ref CG) "machine" = some none) (g2:W.findIn K (.ref CG) "forest" = some none) (g3:W.findIn K (.ref CG) "planted" = some none) (g4:W.findIn K (.ref CG) "inputs" = some none) (g5:W.findIn K (.ref CG) "nexts" = some none) (g6:W.findIn K (.ref CG) "made_into" = some none) (g7:W.findIn K (.ref CG) "made_without" = some none)
 (z0:W.nsIn K mainGlobals "len" = some none) (z1:W.nsIn K mainGlobals "range" = some none) (z2:W.nsIn K mainGlobals "enumerate" = some none) (z3:W.nsIn K mainGlobals "list" = some none) (z4:W.nsIn K mainGlobals "dict" = some none) (z5:W.nsIn K mainGlobals "tuple" = some none) (z6:W.nsIn K mainGlobals "str" = some none) (z7:W.nsIn K mainGlobals "int" = some none) (z8:W.nsIn K mainGlobals "bool" = some none) (z9:W.nsIn K mainGlobals "zip" = some none) (z10:W.nsIn K mainGlobals "all" = some none) (z11:W.nsIn K mainGlobals "isinstance" = some none) (z12:W.nsIn K mainGlobals "min" = some none) (z13:W.nsIn K mainGlobals "reversed" = some none) (z14:W.nsIn K mainGlobals "max" = some none) (z15:W.nsIn K mainGlobals "sorted" = some none)
 :
 ∃fd:FuncData,(∀(s:Shared) (v:Value),BindsTo s fd ⟨[v],[]⟩ [("_law_script",v)])/\∀base:Heap,K.In base->base.Ns mainGlobals mg->ay l.prog w K mg base aC 22 fa fd ["_law_script"] (yp K):=by
 have e:=hfa.symm.trans (aeQ X G a31)
 cases e
 have TM:tV K mg CM:=⟨⟨pgM,hdM,poM,saM⟩,n1,n2,n3,n4,n5,n6,aeQ X G aCM⟩
 have TF:eY K mg CF:=⟨⟨pgF,hdF,poF,saF⟩,q1,q2,q3,q4,q5,q6,q7,aeQ X G aCF⟩
 have TG:ni K mg CG:=⟨⟨pgG,hdG,poG,saG⟩,g1,g2,g3,g4,g5,g6,g7,aeQ X G aCG⟩
 have O:Own mg:=⟨aei X G z0,aei X G z1,aei X G z2,aei X G z3⟩
 have O2:gf mg:=⟨aei X G z0,aei X G z3,aei X G z4,aei X G z5,aei X G z6,aei X G z7,aei X G z8,aei X G z9,aei X G z10,aei X G z11,aei X G z12,aei X G z13,aei X G z14⟩
 have Nv:mg "sorted" = none:=aei X G z15
 have RE:=a9 (st:=rX) l200 c200 k200
 have ac6:=RE.binds (ps:=rY) λ_ _ _ _ _ _ us hl=>by obtain⟨_,_,_,_,_,_,_,rfl⟩:=aau hl;rfl
 have RF:=a9 (st:=oN) l100 c100 k100
 have ac7:=RF.binds (ps:=["self", "order"]) λ_ _ _ _ _ _ us hl=>by obtain⟨_,_,rfl⟩:=ef hl;rfl
 have RG:=a9 (st:=sf) l101 c101 k101
 have E1:=RG.binds (ps:=jO) λ_ _ _ _ _ _ us hl=>by obtain⟨_,_,_,_,rfl⟩:=uk hl;rfl
 have RH:=a9 (st:=j4) l103 c103 k103
 have RI:=RH.binds (ps:=["self", "number"]) λ_ _ _ _ _ _ us hl=>by obtain⟨_,_,rfl⟩:=ef hl;rfl
 have RJ:=a9 (st:=j6) l104 c104 k104
 have Bp:=RJ.binds (ps:=jD) λ_ _ _ _ _ _ us hl=>by obtain⟨_,_,_,_,rfl⟩:=uk hl;rfl
 have RK:=a9 (st:=sg) l105 c105 k105
 have ac8:=RK.binds (ps:=["self", "number", "spot", "side"]) λ_ _ _ _ _ _ us hl=>by obtain⟨_,_,_,_,rfl⟩:=uk hl;rfl
 have RL:=a9 (st:=so) l106 c106 k106
 have RM:=RL.binds (ps:=["self", "name"]) λ_ _ _ _ _ _ us hl=>by obtain⟨_,_,rfl⟩:=ef hl;rfl
 have RN:=a9 (st:=m7) l102 c102 k102
 have RO:=RN.binds (ps:=["self", "tree"]) λ_ _ _ _ _ _ us hl=>by obtain⟨_,_,rfl⟩:=ef hl;rfl
 have RP:=a9 (st:=i8) l107 c107 k107
 have RQ:=RP.binds (ps:=vD) λ_ _ _ _ _ _ us hl=>by obtain⟨_,_,_,_,rfl⟩:=uk hl;rfl
 have RR:=a9 (st:=iz) l108 c108 k108
 have RS:=RR.binds (ps:=vH) λ_ _ _ _ _ _ us hl=>by obtain⟨_,_,_,_,rfl⟩:=uk hl;rfl
 have RT:=a9 (st:=kq) l110 c110 k110
 have ac9:=RT.binds (ps:=["self", "number"]) λ_ _ _ _ _ _ us hl=>by obtain⟨_,_,rfl⟩:=ef hl;rfl
 have RU:=a9 (st:=oS) l300 c300 k300
 have ada:=RU.binds (ps:=["self", "machine", "order"]) λ_ _ _ _ _ _ us hl=>by obtain⟨_,_,_,rfl⟩:=Bl hl;rfl
 have JS:=a9 (st:=sA) l301 c301 k301
 have RV:=JS.binds (ps:=["self", "literal"]) λ_ _ _ _ _ _ us hl=>by obtain⟨_,_,rfl⟩:=ef hl;rfl
 have JT:=a9 (st:=ke) l302 c302 k302
 have RW:=JT.binds (ps:=["self", "literal"]) λ_ _ _ _ _ _ us hl=>by obtain⟨_,_,rfl⟩:=ef hl;rfl
 have RX:=a9 (st:=sy) l303 c303 k303
 have RY:=RX.binds (ps:=["self", "number"]) λ_ _ _ _ _ _ us hl=>by obtain⟨_,_,rfl⟩:=ef hl;rfl
 have RZ:=a9 (st:=oQ) l304 c304 k304
 have adb:=RZ.binds (ps:=["self", "one", "other"]) λ_ _ _ _ _ _ us hl=>by obtain⟨_,_,_,rfl⟩:=Bl hl;rfl
 have R0:=a9 (st:=oV) l307 c307 k307
 have ade:=R0.binds (ps:=["self", "keeper"]) λ_ _ _ _ _ _ us hl=>by obtain⟨_,_,rfl⟩:=ef hl;rfl
 have R1:=a9 (st:=mh) l308 c308 k308
 have adf:=R1.binds (ps:=["self", "number"]) λ_ _ _ _ _ _ us hl=>by obtain⟨_,_,rfl⟩:=ef hl;rfl
 have R3:=a9 (st:=kr) l309 c309 k309
 have adg:=R3.binds (ps:=["self", "number"]) λ_ _ _ _ _ _ us hl=>by obtain⟨_,_,rfl⟩:=ef hl;rfl
 have F3:=a9 (st:=me) l3 c3 k3
 have m3:=aeQ X G a3
 have b3:=F3.binds (ps:=["machine", "keeper"]) λ_ _ _ _ _ _ us hl=>by obtain⟨_,_,rfl⟩:=ef hl;rfl
 have F5:=a9 (st:=sv) l5 c5 k5
 have m5:=aeQ X G a5
 have b5:=F5.binds (ps:=["literal"]) λ_ _ _ _ _ _ us hl=>by obtain⟨_,rfl⟩:=Bk hl;rfl
 have Yx:=a9 (st:=kf) l11 c11 k11
 have m11:=aeQ X G a11
 have b11:=Yx.binds (ps:=["machine"]) λ_ _ _ _ _ _ us hl=>by obtain⟨_,rfl⟩:=Bk hl;rfl
 have Yy:=a9 (st:=oW) l12 c12 k12
 have m12:=aeQ X G a12
 have b12:=Yy.binds (ps:=["machine", "tree"]) λ_ _ _ _ _ _ us hl=>by obtain⟨_,_,rfl⟩:=ef hl;rfl
 have Yz:=a9 (st:=rQ) l14 c14 k14
 have R4:=aeQ X G a14
 have R5:=Yz.binds (ps:=["_law_script", "_law_k"]) λ_ _ _ _ _ _ us hl=>by obtain⟨_,_,rfl⟩:=ef hl;rfl
 have YA:=a9 (st:=tP) l15 c15 k15
 have m15:=aeQ X G a15
 have b15:=YA.binds (ps:=["_law_cell", "_law_k"]) λ_ _ _ _ _ _ us hl=>by obtain⟨_,_,rfl⟩:=ef hl;rfl
 have YB:=a9 (st:=rS) l16 c16 k16
 have R6:=aeQ X G a16
 have R7:=YB.binds (ps:=["_law_cell", "_law_k"]) λ_ _ _ _ _ _ us hl=>by obtain⟨_,_,rfl⟩:=ef hl;rfl
 have HV:=a9 (st:=lP) l17 c17 k17
 have Mc:=aeQ X G a17
 have Md:=HV.binds (ps:=["_law_left", "_law_many"]) λ_ _ _ _ _ _ us hl=>by obtain⟨_,_,rfl⟩:=ef hl;rfl
 have R8:=a9 (st:=jx) l18 c18 k18
 have YC:=aeQ X G a18
 have YD:=R8.binds (ps:=["_law_left", "_law_told"]) λ_ _ _ _ _ _ us hl=>by obtain⟨_,_,rfl⟩:=ef hl;rfl
 have R9:=a9 (st:=i0) l19 c19 k19
 have YE:=aeQ X G a19
 have YF:=R9.binds (ps:=["_law_left", "_law_names"]) λ_ _ _ _ _ _ us hl=>by obtain⟨_,_,rfl⟩:=ef hl;rfl
 have YG:=a9 (st:=lW) l20 c20 k20
 have m20:=aeQ X G a20
 have b20:=YG.binds (ps:=lX) λ_ _ _ _ _ _ us hl=>by obtain⟨_,_,_,_,rfl⟩:=uk hl;rfl
 have YH:=a9 (st:=dY) l21 c21 k21
 have m21:=aeQ X G a21
 have b21:=YH.binds (ps:=qO) λ_ _ _ _ _ _ us hl=>by obtain⟨_,_,rfl⟩:=ef hl;rfl
 have YI:=a9 (st:=gz) l22 c22 k22
 have m22:=aeQ X G a22
 have b22:=YI.binds (ps:=vZ) λ_ _ _ _ _ _ us hl=>by obtain⟨_,_,rfl⟩:=ef hl;rfl
 have YJ:=a9 (st:=lY) l23 c23 k23
 have m23:=aeQ X G a23
 have b23:=YJ.binds (ps:=qo) λ_ _ _ _ _ _ us hl=>by obtain⟨_,_,_,rfl⟩:=Bl hl;rfl
 have YK:=a9 (st:=we) l24 c24 k24
 have Lb:=aeQ X G a24
 have YL:=YK.binds (ps:=["_law_values_here", "_law_literal_here"]) λ_ _ _ _ _ _ us hl=>by obtain⟨_,_,rfl⟩:=ef hl;rfl
 have YM:=a9 (st:=sE) l25 c25 k25
 have Qq:=aeQ X G a25
 have b25:=YM.binds (ps:=qo) λ_ _ _ _ _ _ us hl=>by obtain⟨_,_,_,rfl⟩:=Bl hl;rfl
 have YN:=a9 (st:=sq) l26 c26 k26
 have m26:=aeQ X G a26
 have b26:=YN.binds (ps:=["_law_many"]) λ_ _ _ _ _ _ us hl=>by obtain⟨_,rfl⟩:=Bk hl;rfl
 have YO:=a9 (st:=m8) l27 c27 k27
 have YQ:=aeQ X G a27
 have YR:=YO.binds (ps:=sY) λ_ _ _ _ _ _ us hl=>by obtain⟨_,_,rfl⟩:=ef hl;rfl
 have YS:=a9 (st:=m9) l28 c28 k28
 have Sa:=aeQ X G a28
 have Sb:=YS.binds (ps:=ng) λ_ _ _ _ _ _ us hl=>by obtain⟨_,_,rfl⟩:=ef hl;rfl
 have YT:=a9 (st:=sD) l29 c29 k29
 have m29:=aeQ X G a29
 have b29:=YT.binds (ps:=["_law_m"]) λ_ _ _ _ _ _ us hl=>by obtain⟨_,rfl⟩:=Bk hl;rfl
 have YU:=a9 (st:=sF) l30 c30 k30
 have m30:=aeQ X G a30
 have b30:=YU.binds (ps:=["_law_script", "_law_many"]) λ_ _ _ _ _ _ us hl=>by obtain⟨_,_,rfl⟩:=ef hl;rfl
 have F31:=a9 (st:=pV) l31 c31 k31
 have m31:=aeQ X G a31
 refine⟨W.fnOf "law" "law" (aO pV) (aJ pV) (ar pV) .none RA RB RC Rf JR RD,λs v=>.of_eq rfl,λbase _ _=>?_⟩
 have gP:ay l.prog w K mg base aC 1 LC _ ["_law_left", "_law_many"] qJ:=vW HV O
 have gS:ay l.prog w K mg base aC 2 LD _ ["_law_left", "_law_told"] (rT K):=zd R8 O HV Md Mc
 have gL:ay l.prog w K mg base aC 2 LF _ ["_law_left", "_law_names"] (nE K):=uV R9 O HV Md Mc
 have gW:ay l.prog w K mg base aC 3 LG _ lX (tS K):=Ga YG O HV Md Mc R8 YD YC R9 YF YE
 have gR:ay l.prog w K mg base aC 2 LB _ ["_law_cell", "_law_k"] qI:=MC YB O YA b15 m15
 have gD:ay l.prog w K mg base aC 4 LH _ qO (pB K):=Gj YH ⟨O,gP,Mc,k17,Md,gS,YC,k18,YD,gL,YE,k19,YF,gW,m20,k20,b20,gR,R6,k16,R7⟩
 have gC:ay l.prog w K mg base aC 1 LA _ ["_law_script", "_law_k"] (qH K):=MB Yz O
 have gM:ay l.prog w K mg base aC 5 LI _ vZ (qS K):=DT YI O gD m21 k21 b21 gC R4 k14 R5 gR R6 k16 R7
 have gMd:ay l.prog w K mg base aC 3 LP _ ["_law_m"] (AZ CM):=Nn YT TM O2 ⟨mkM,a200,i200,kcM⟩ (MR RE TM O2) ac6
 have Sd:ay l.prog w K mg base aC 1 LK _ ["_law_values_here", "_law_literal_here"] vg:=Pn YK O2
 have gVs:ay l.prog w K mg base aC 2 LJ _ qo (tY K):=GJ YJ O2 Sd Lb k24 YL
 have gAB:ay l.prog w K mg base aC 1 LM _ ["_law_many"] (Ax K):=BB YN O Nv
 have Me:ay l.prog w K mg base aC 1 Bn _ jO (jC l.prog w CF):=M8 RG TF O2
 have gHa:ay l.prog w K mg base aC 1 Bo _ ["self", "number", "spot", "side"] (vm l.prog w CF):=M7 RK TF
 have Mf:=vC RJ TF O2 ⟨a104,i104,k104⟩ Bp Me ⟨a101,i101,k101⟩ E1 gHa ⟨a105,i105,k105⟩ ac8 9
 have gA:=tE (P:=l.prog) (w:=w) (base:=base) RH TF ⟨a103,i103,k103⟩ RI 9
 have gFI:ay l.prog w K mg base aC 1 Bm _ ["self", "order"] (wo l.prog w CF):=Jh RF TF O2 O
 have YV:=Na RL TF Me ⟨a101,i101,k101⟩ E1
 have YW:ay l.prog w K mg base aC 9 LO _ ng (j7 9):=AQ YS O2 Sa Sb 9
 have gK:ay l.prog w K mg base aC 18 LN _ sY (oP 9):=xW YO O2 YQ YR YW Sa k28 Sb 9
 have CB:yn l.prog w K mg base f5 _:=⟨Nh F5,m5,k5,b5⟩
 have gGI:=Jv RU TG TF TM O2 ⟨mkF,a100,i100,kcF⟩ gFI ac7 YV ⟨a106,i106,k106⟩ RM
 have gGB:=Jr (CM:=CM) RZ TG TF Mf ⟨a104,i104,k104⟩ Bp
 have YX:=Ni (CM:=CM) RX TG TF Mf ⟨a104,i104,k104⟩ Bp
 have gP0:=En (CF:=CF) (CM:=CM) JT TG CB
 have gN0:=CV (k:=0) JS TG CB gP0 ⟨a302,i302,k302⟩ RW YX ⟨a303,i303,k303⟩ RY
 have gP1:=Eo JT TG TM O2 CB gN0 ⟨a301,i301,k301⟩ RV gGB ⟨a304,i304,k304⟩ adb
 have gN1:=CV (k:=2) JS TG CB gP1 ⟨a302,i302,k302⟩ RW YX ⟨a303,i303,k303⟩ RY
 have gOr:=BC (P:=l.prog) (w:=w) (base:=base) Yx TM O2
 have gTk:=ya RN TF ⟨a102,i102,k102⟩ RO Me ⟨a101,i101,k101⟩ E1 9
 have gWo:=HI RP TF ⟨a107,i107,k107⟩ RQ Me ⟨a101,i101,k101⟩ E1 Mf ⟨a104,i104,k104⟩ Bp 9
 have gRe:=HJ RR TF ⟨a108,i108,k108⟩ RS YV ⟨a106,i106,k106⟩ RM Mf ⟨a104,i104,k104⟩ Bp 9
 have gNi:=BE (P:=l.prog) (w:=w) (base:=base) RT TF O2
 have gXo:=EB (P:=l.prog) (w:=w) (base:=base) F3 TM
 have gGX:=JG R0 TG gN1 ⟨a301,i301,k301⟩ RV gXo m3 k3 b3
 have gMv:=HK R1 TG TF gNi ⟨a110,i110,k110⟩ ac9 gGX ⟨a307,i307,k307⟩ ade gRe ⟨a108,i108,k108⟩ RS
 have gSt:=EC (CM:=CM) R3 TG TF gWo ⟨a107,i107,k107⟩ RQ
 have gAh:=JM Yy TG TF ⟨gGI,⟨mkG,a300,i300,kcG⟩,ada,gOr,m11,k11,b11,gMv,⟨a308,i308,k308⟩,adf,gSt,⟨a309,i309,k309⟩,adg,gTk,⟨a102,i102,k102⟩,RO,gA,⟨a103,i103,k103⟩,RI⟩
 have gNx:ay l.prog w K mg base aC 3 LL _ qo (vN K):=JO YM O2 gVs m23 k23 b23 Sd Lb k24 YL
 have gSe:ay l.prog w K mg base aC 3 LQ _ ["_law_script", "_law_many"] (Bh K):=Nt YU O O2 gC R4 k14 R5 gR R6 k16 R7
 exact QX F31 O2 ⟨gM,m22,k22,b22,gC,R4,k14,R5,gMd,m29,k29,b29,gAB,m26,k26,b26,gNx,Qq,k25,b25,gSe,m30,k30,b30,YW,Sa,k28,Sb,gK,YQ,k27,YR,gAh,m12,k12,b12⟩
theorem walk{l:W.OpenLaw}{q:Program}{loose:List Str}{XP:(Str->Option Value)->Heap->Prop}{YP:World->Heap->Prop}{d:DefRec}{K:Params->W.Frag}(hn:l.most=some 63) (FG:d.params.defaults=[])
 (hY:∀(w:World) (h:Heap),YP w h->(K w.params).In h)
 (F:∀(w:World) (mg:Str->Option Value) (fa:Addr) (h:Heap),(K w.params).In h->h.Ns mainGlobals mg->mg d.name=some (.ref fa)->
  ∃fd:FuncData,(∀(s:Shared) (u:Value),BindsTo s fd ⟨[u],[]⟩ [("_law_script",u)])/\∀base:Heap,(K w.params).In base->base.Ns mainGlobals mg->ay l.prog w (K w.params) mg base aC 22 fa fd ["_law_script"] (yp (K w.params))) :
 W.WalkO q loose XP YP l.row.toRowW d [] (λf vs=>PySem.call f vs):=
 L2.Mw (n:=63) (k:=22) (x:="_law_script") (CX:=λ_=>aC) (sp:=λw=>yp (K w.params)) hn (by decide) FG ⟨rfl,by decide,by decide⟩ hY F (λ_ _ a ns hl _ hS=>⟨a,ns,rfl,hS,λ_=>rfl⟩) λ_ _ _ _ _ z=>z
end
end Gen
open PySem PySem.W PyProof.Rows
inductive PySem.W.Fast : Prop
|tw16180883000770183472
|tw10050189421724818485
|tw16488353491287513913
|tw13107985679390040636
|tw12138629764661532770
|tw5571174502608691403
|tw9315992934519610253
|tw16549719325919685230
|tw13881847423550029532
|tw268748049366764405
|tw16016229927406742153
|tw10519953942356033630
|tw11584329162041775240
|tw1974735100521110919
|tw14012169497797378651
|tw17401673204433462752
|tw16874008347317665984
|tw7028751865908437212
|tw8676892802587085049
|tw14093406996964477163
|tw2571576130795141973
|tw1307583653607666738
|tw8516218547460186985
|tw11502710795976475226
|tw11271364616583747134
|tw10569396381013701460
|tw4310087176095375185
|tw4500871308753133251
|tw121960324344139453
|tw16739590658842589381
|tw9464714259926359215
|tw8976690023221817027
|tw7655460111280409714
|tw13359007224370761007
|tw1539319568262708110
|tw2742654387037372163
|tw14180341130615682651
|tw12933281639863777042
|tw10464615979983341916
|tw6944777040013741160
|tw14553488377216091949
|tw14785145271234455850
|tw17119865606272028643
|tw16627609478367518625
|tw9562514713886405234
|tw4499893172928490992
|tw3309472466502646001
|tw15625113004489408421
|tw12399351984203065602
|tw4975678577148493520
|tw13889827397763659742
|tw6724590222922087018
|tw13805344954375773992
|tw15217401658808065870
|tw12834489548342901862
|tw12927497583405613521
|tw6504488266000939072
|tw12915663182243203509
|tw3919418140014171661
|tw15005602265281826568
|tw3762065746870690767
|tw10180570718672062210
|tw16335447861312768850
|tw14654196303624493310
|tw13345792430041501251
|tw1263409951069526615
|tw4273309640145475551
|tw12100057799706644169
|tw5139739925674532132
|tw17160662555812787704
|tw1059894780334847611
|tw642896720688272076
|tw17699557564196167499
|tw13083380965451901103
|tw324783082829307730
|tw18217469126827750276
|tw15885544757101548720
|tw6359114127850228332
|tw8277680306537843273
|tw7432720263475434870
|tw6466242441576529688
|tw3958588024622572683
|tw2604495960775705036
|tw17365566798201107081
|tw18390169274648506378
|tw10784315816541423431
|tw8828629855993743414
|tw15704238543874724171
|tw17021965032683495357
|tw4438970046907598085
|tw4720565345248324027
|tw12745720279069582769
|tw123392869402380743
|tw11257373171295650358
|tw4943390824432374019
|tw888750220612996291
|tw13880588603011196838
|tw11275739507598143501
|tw214031052176102922
|tw3194858706929055084
|tw11736049308814491449
|tw5434340795336341648
|tw2591502264515933308
|tw17249809496101966394
|tw4545864979209474241
|tw8079007075095246570
|tw8999464795192500394
|tw12822591179437793571
|tw17624231580097102344
|tw17076546955798803457
|tw1118214076017761628
|tw9888310982350701764
|tw15479705538607485655
|tw15467079380127115403
|tw9592231488528648550
|tw13233570530031653185
|tw18162361211948776576
|tw9011971531214561648
|tw3876275909793199000
|tw13461004364920218737
|tw1000366209705315817
|tw13154054313826793848
|tw2508951439192204076
|tw9665103352018529971
|tw16543858191896650613
|tw733395091433431255
|tw16218870529970598262
|tw7256212464526627567
|tw13403822470690333402
|tw7338599069220402309
|tw5455361826309330653
|tw1868560897500598170
|tw7026634003668907120
|tw5510154862350361683
|tw15907503227153228277
|tw8425001245144689207
|tw16661756228278755954
|tw2144156002578845195
|tw15813169253558996106
|tw10047148864486042144
|tw13997465033815609544
|tw11782161194428735604
|tw6018330547464465129
|tw17179372909384476668
|tw1390671973558009581
|tw15021355608333670457
|tw8625216655355961350
|tw13503587707176527943
|tw18367384805811358775
|tw13987461605710527323
|tw5051856979352439534
|tw7814936892597683288
|tw17349076091816545579
|tw18234599981907897718
|tw9479262092933552276
|tw4500022530736389265
|tw4846166892277166496
|tw4251743180144075181
|tw7431409866708127399
|tw406308106509215423
|tw6000761089178414186
|tw8706060644924656152
|tw8554786712873489387
|tw5490224649168163334
|tw16868780844636908971
|tw1542272578271079470
|tw2954166763082583593
|tw12002187930412047376
|tw14798131297731436028
|tw5122970151819336640
|tw9287052012614002335
|tw10543970661050909558
|tw16627392780215402471
|tw16595243406695368938
|tw11212755864960432019
|tw6519238696004413940
|te6519238696004413940
|tw18057404969497903172
|tw8577413536963791880
|tw14939161629007937424
|tw2227371016849677673
|tw3954028279979888240
|tw4442204479845290903
|tw9870727913371386106
|tw7645729404065187179
|tw10244660991977684020
|tw10356467399002592330
|tw11508510590218566907
|tw8758109845019850945
|tw11896079808677889431
set_option maxRecDepth 100000 in
set_option maxHeartbeats 0 in
theorem PySem.Challenge.cw_everguard_k44_stands_ahead_holds : PySem.Challenge.rw_everguard_k44_stands_ahead.Holds := by
 w_on; o_law; k_head; (case hw=>w_witness2)
 k_fill
 refine Gen.walk (l:=PySem.Challenge.rw_everguard_k44_stands_ahead) rfl rfl (λw h Y=>W.kIn_of Y) ?F
 case F=>
  intro w mg fa h KX G FH
  refine' Gen.all_mk KX G FH ?aCM ?aCF ?aCG ?a200 ?i200 ?l200 ?c200 ?k200 ?a100 ?i100 ?l100 ?c100 ?k100 ?a101 ?i101 ?l101 ?c101 ?k101 ?a103 ?i103 ?l103 ?c103 ?k103 ?a104 ?i104 ?l104 ?c104 ?k104 ?a105 ?i105 ?l105 ?c105 ?k105 ?a106 ?i106 ?l106 ?c106 ?k106 ?a102 ?i102 ?l102 ?c102 ?k102 ?a107 ?i107 ?l107 ?c107 ?k107 ?a108 ?i108 ?l108 ?c108 ?k108 ?a110 ?i110 ?l110 ?c110 ?k110 ?a300 ?i300 ?l300 ?c300 ?k300 ?a301 ?i301 ?l301 ?c301 ?k301 ?a302 ?i302 ?l302 ?c302 ?k302 ?a303 ?i303 ?l303 ?c303 ?k303 ?a304 ?i304 ?l304 ?c304 ?k304 ?a307 ?i307 ?l307 ?c307 ?k307 ?a308 ?i308 ?l308 ?c308 ?k308 ?a309 ?i309 ?l309 ?c309 ?k309 ?a3 ?l3 ?c3 ?k3 ?a5 ?l5 ?c5 ?k5 ?a11 ?l11 ?c11 ?k11 ?a12 ?l12 ?c12 ?k12 ?a14 ?l14 ?c14 ?k14 ?a15 ?l15 ?c15 ?k15 ?a16 ?l16 ?c16 ?k16 ?a17 ?l17 ?c17 ?k17 ?a18 ?l18 ?c18 ?k18 ?a19 ?l19 ?c19 ?k19 ?a20 ?l20 ?c20 ?k20 ?a21 ?l21 ?c21 ?k21 ?a22 ?l22 ?c22 ?k22 ?a23 ?l23 ?c23 ?k23 ?a24 ?l24 ?c24 ?k24 ?a25 ?l25 ?c25 ?k25 ?a26 ?l26 ?c26 ?k26 ?a27 ?l27 ?c27 ?k27 ?a28 ?l28 ?c28 ?k28 ?a29 ?l29 ?c29 ?k29 ?a30 ?l30 ?c30 ?k30 ?a31 ?l31 ?c31 ?k31 ?pgM ?hdM ?poM ?saM ?mkM ?kcM ?n1 ?n2 ?n3 ?n4 ?n5 ?n6 ?pgF ?hdF ?poF ?saF ?mkF ?kcF ?q1 ?q2 ?q3 ?q4 ?q5 ?q6 ?q7 ?pgG ?hdG ?poG ?saG ?mkG ?kcG ?g1 ?g2 ?g3 ?g4 ?g5 ?g6 ?g7 ?z0 ?z1 ?z2 ?z3 ?z4 ?z5 ?z6 ?z7 ?z8 ?z9 ?z10 ?z11 ?z12 ?z13 ?z14 ?z15
  (case aCM=>k_is); (case aCF=>k_is); (case aCG=>k_is); (case a200=>k_is); (case i200=>k_is); (case l200=>k_is)
  (case c200=>k_is); (case k200=>k_is); (case a100=>k_is); (case i100=>k_is); (case l100=>k_is); (case c100=>k_is)
  (case k100=>k_is); (case a101=>k_is); (case i101=>k_is); (case l101=>k_is); (case c101=>k_is); (case k101=>k_is)
  (case a103=>k_is); (case i103=>k_is); (case l103=>k_is); (case c103=>k_is); (case k103=>k_is); (case a104=>k_is)
  (case i104=>k_is); (case l104=>k_is); (case c104=>k_is); (case k104=>k_is); (case a105=>k_is); (case i105=>k_is)
  (case l105=>k_is); (case c105=>k_is); (case k105=>k_is); (case a106=>k_is); (case i106=>k_is); (case l106=>k_is)
  (case c106=>k_is); (case k106=>k_is); (case a102=>k_is); (case i102=>k_is); (case l102=>k_is); (case c102=>k_is)
  (case k102=>k_is); (case a107=>k_is); (case i107=>k_is); (case l107=>k_is); (case c107=>k_is); (case k107=>k_is)
  (case a108=>k_is); (case i108=>k_is); (case l108=>k_is); (case c108=>k_is); (case k108=>k_is); (case a110=>k_is)
  (case i110=>k_is); (case l110=>k_is); (case c110=>k_is); (case k110=>k_is); (case a300=>k_is); (case i300=>k_is)
  (case l300=>k_is); (case c300=>k_is); (case k300=>k_is); (case a301=>k_is); (case i301=>k_is); (case l301=>k_is)
  (case c301=>k_is); (case k301=>k_is); (case a302=>k_is); (case i302=>k_is); (case l302=>k_is); (case c302=>k_is)
  (case k302=>k_is); (case a303=>k_is); (case i303=>k_is); (case l303=>k_is); (case c303=>k_is); (case k303=>k_is)
  (case a304=>k_is); (case i304=>k_is); (case l304=>k_is); (case c304=>k_is); (case k304=>k_is); (case a307=>k_is)
  (case i307=>k_is); (case l307=>k_is); (case c307=>k_is); (case k307=>k_is); (case a308=>k_is); (case i308=>k_is)
  (case l308=>k_is); (case c308=>k_is); (case k308=>k_is); (case a309=>k_is); (case i309=>k_is); (case l309=>k_is)
  (case c309=>k_is); (case k309=>k_is); (case a3=>k_is); (case l3=>k_is); (case c3=>k_is); (case k3=>k_is)
  (case a5=>k_is); (case l5=>k_is); (case c5=>k_is); (case k5=>k_is); (case a11=>k_is); (case l11=>k_is)
  (case c11=>k_is); (case k11=>k_is); (case a12=>k_is); (case l12=>k_is); (case c12=>k_is); (case k12=>k_is)
  (case a14=>k_is); (case l14=>k_is); (case c14=>k_is); (case k14=>k_is); (case a15=>k_is); (case l15=>k_is)
  (case c15=>k_is); (case k15=>k_is); (case a16=>k_is); (case l16=>k_is); (case c16=>k_is); (case k16=>k_is)
  (case a17=>k_is); (case l17=>k_is); (case c17=>k_is); (case k17=>k_is); (case a18=>k_is); (case l18=>k_is)
  (case c18=>k_is); (case k18=>k_is); (case a19=>k_is); (case l19=>k_is); (case c19=>k_is); (case k19=>k_is)
  (case a20=>k_is); (case l20=>k_is); (case c20=>k_is); (case k20=>k_is); (case a21=>k_is); (case l21=>k_is)
  (case c21=>k_is); (case k21=>k_is); (case a22=>k_is); (case l22=>k_is); (case c22=>k_is); (case k22=>k_is)
  (case a23=>k_is); (case l23=>k_is); (case c23=>k_is); (case k23=>k_is); (case a24=>k_is); (case l24=>k_is)
  (case c24=>k_is); (case k24=>k_is); (case a25=>k_is); (case l25=>k_is); (case c25=>k_is); (case k25=>k_is)
  (case a26=>k_is); (case l26=>k_is); (case c26=>k_is); (case k26=>k_is); (case a27=>k_is); (case l27=>k_is)
  (case c27=>k_is); (case k27=>k_is); (case a28=>k_is); (case l28=>k_is); (case c28=>k_is); (case k28=>k_is)
  (case a29=>k_is); (case l29=>k_is); (case c29=>k_is); (case k29=>k_is); (case a30=>k_is); (case l30=>k_is)
  (case c30=>k_is); (case k30=>k_is); (case a31=>k_is); (case l31=>k_is); (case c31=>k_is); (case k31=>k_is)
  (case pgM=>k_is); (case hdM=>k_is); (case poM=>k_is); (case saM=>k_is); (case mkM=>k_is); (case kcM=>k_is)
  (case n1=>k_is); (case n2=>k_is); (case n3=>k_is); (case n4=>k_is); (case n5=>k_is); (case n6=>k_is)
  (case pgF=>k_is); (case hdF=>k_is); (case poF=>k_is); (case saF=>k_is); (case mkF=>k_is); (case kcF=>k_is)
  (case q1=>k_is); (case q2=>k_is); (case q3=>k_is); (case q4=>k_is); (case q5=>k_is); (case q6=>k_is)
  (case q7=>k_is); (case pgG=>k_is); (case hdG=>k_is); (case poG=>k_is); (case saG=>k_is); (case mkG=>k_is)
  (case kcG=>k_is); (case g1=>k_is); (case g2=>k_is); (case g3=>k_is); (case g4=>k_is); (case g5=>k_is)
  (case g6=>k_is); (case g7=>k_is); (case z0=>k_is); (case z1=>k_is); (case z2=>k_is); (case z3=>k_is)
  (case z4=>k_is); (case z5=>k_is); (case z6=>k_is); (case z7=>k_is); (case z8=>k_is); (case z9=>k_is)
  (case z10=>k_is); (case z11=>k_is); (case z12=>k_is); (case z13=>k_is); (case z14=>k_is); (case z15=>k_is)
#print axioms PySem.Challenge.cw_everguard_k44_stands_ahead_holds
