import PyProof.Rows.All
import Wide.All
import OpenK.AllK
import Wide.FinOn
import Lean
import PyProof.EqAt
import PyProof.EqKinds
import PyProof.TupleCall
import PyProof.AutoSeq1
import PyProof.NeKinds
import PySem.SetOps
import PyProof.SetKind
import PyProof.DictKinds
import PyProof.DictStraight
import PyProof.FactsAll.set_1
import PyProof.FactsAll.set_2
import PyProof.FactsAll.set_0
import PyProof.FactsAll.set_3
import PyProof.Slots
import PyProof.Rows.SetFrom
import PyProof.TupleIter
import PyProof.Walks
import PyProof.CollectWalk
import PyProof.Rows.SortShell
import PyProof.IsiH_list
import PyProof.AttrMiss
import KE.KDictOf
import PyProof.DictRoadsH
import KE.KDictList
import PyProof.CollectIter
import PyProof.TupleOfGen
import KE.KRevIter
import PyProof.ListNew
import PyProof.IsiH_tuple
import PyProof.Rows.SortRuns
import PyProof.ListRange
import PySem.Challenge.RW_oftentogether_k33_whole_sayings
set_option maxRecDepth 100000
set_option maxHeartbeats 4000000
set_option Elab.async false
set_option linter.all false
abbrev g0:=@PySem.wpAny_bind
abbrev g9:=@PySem.wpAny_pure
abbrev gb:=@Option.bind_eq_some_iff
abbrev gc:=@PySem.Heap.get?_push_of_some
abbrev gd:=@Option.bind_some
abbrev gf:=@List.map_cons
abbrev gh:=@List.length_map
abbrev gi:=@List.mem_cons_self
abbrev gj:=@List.mem_cons_of_mem
abbrev gm:=@List.size_toArray
abbrev gq:=@decide_eq_true
abbrev gr:=@PySem.Heap.get?_push_size
abbrev gu:=@List.getElem?_set_ne
abbrev gv:=@Option.map_eq_some_iff
abbrev gw:=@Nat.le_refl
abbrev gz:=@decide_eq_false
abbrev m4:=@PySem.Heap.lt_size
abbrev m5:=@Nat.lt_of_lt_of_le
abbrev m6:=@Bool.false_eq_true
abbrev m8:=@if_pos
abbrev m9:=@Bool.false_ne_true
abbrev ma:=@if_neg
abbrev md:=@Nat.ne_of_lt
abbrev mf:=@Bool.and_eq_true
abbrev mh:=@List.mem_cons
abbrev mi:=@List.mem_map
abbrev mj:=@List.getElem?_map
abbrev ml:=@List.getElem?_eq_getElem
abbrev mm:=@Nat.le_trans
abbrev mn:=@List.mem_filter
abbrev mq:=@Option.some.inj
abbrev mv:=@List.getElem?_eq_some_iff
abbrev mw:=@List.length_append
abbrev mx:=@Option.map_some
abbrev my:=@Ne.symm
abbrev n8:=@List.length_cons
abbrev n9:=@List.filter_cons
abbrev nc:=@List.length_filter_le
abbrev ng:=@PySem.wpAny_call_entry
abbrev nh:=@List.mem_append_right
abbrev ni:=@List.map_map
abbrev nj:=@Int.toNat_natCast
abbrev nk:=@decide_eq_true_eq
abbrev nt:=@PySem.wpAny_holding
abbrev nu:=@decide_eq_false_iff_not
abbrev nv:=@Nat.not_lt_zero
abbrev ny:=@Nat.testBit_or
abbrev nz:=@congrArg
abbrev p5:=@List.map_append
abbrev p6:=@List.flatMap_cons
abbrev p7:=@Bool.eq_iff_iff
abbrev p8:=@PySem.wpAny_ite_split
abbrev p9:=@PyProof.Rows.wpS_bind
abbrev pd:=@PySem.PassesOwn.never
abbrev pf:=@PySem.wpAny_callSpecial?_slot
abbrev ph:=@Nat.lt_succ_self
abbrev pj:=@List.length_take
abbrev pk:=@List.lookup_cons
abbrev pq:=@List.all_eq_true
abbrev pz:=@if_true
abbrev t5:=@PySem.Heap.SameBut.update
abbrev t6:=@if_false
abbrev t7:=@PySem.wpAny_askSetting
abbrev t8:=@PySem.wpAny_newObj_type
abbrev t9:=@PySem.Heap.size_push
abbrev td:=@List.mem_map_of_mem
abbrev tf:=@of_decide_eq_true
abbrev tq:=@List.pairwise_map
abbrev tu:=@PyProof.Rows.slot_tuple_getitem
abbrev tw:=@List.mem_range
abbrev tx:=@Bool.not_true
abbrev u6:=@List.mem_append
abbrev u9:=@Nat.ne_of_gt
abbrev uc:=@List.length_set
abbrev ud:=@PySem.Around.under_plainId
abbrev ue:=@decide_eq_true_iff
abbrev uf:=@List.getElem?_append_left
abbrev ug:=@PySem.wpAny_mono
abbrev uh:=@List.append_assoc
abbrev ui:=@PySem.wpAny_seqItems
abbrev uj:=@PySem.AutoSeq1.wpAny_loadPart'
abbrev uk:=@List.nodup_cons
abbrev um:=@PySem.wpAny_field
abbrev uo:=@PySem.codeAny_builtin
abbrev uq:=@PyProof.Rows.callWith_type1
abbrev ur:=@List.mem_singleton
abbrev uw:=@List.mem_of_getElem?
abbrev ux:=@List.not_mem_nil
abbrev uy:=@List.Pairwise.filter
abbrev uz:=@PyProof.Rows.wpS_pure
abbrev g00:=@decide_eq_decide
abbrev g01:=@List.getElem?_append_right
abbrev g02:=@List.take_of_length_le
abbrev g03:=@Array.length_toList
abbrev g04:=@PySem.wpAny_rule
abbrev g05:=@List.nil_append
abbrev g06:=@PySem.wpAny_typeNameOfWhole_keyiter
abbrev g07:=@Nat.lt_of_le_of_lt
abbrev g08:=@Nat.zero_le
abbrev g09:=@PySem.F.slot_dict_keyiterator_next
abbrev g0a:=@List.getElem?_replicate
abbrev g0b:=@List.length_range
abbrev g0c:=@Int.emod_nonneg
abbrev g0d:=@Nat.testBit_two_pow
abbrev g0e:=@List.map_nil
abbrev g0f:=@Bool.true_and
abbrev g0g:=@PySem.wpAny_isInstance
abbrev g0h:=@PySem.Heap.get?_update_self
abbrev g0i:=@PySem.builtinLookup_eq_fast
abbrev g0j:=@Classical.byContradiction
abbrev g0k:=@Option.isSome_iff_exists
abbrev g0l:=@List.Pairwise.imp_of_mem
abbrev g0m:=@PySem.wpAny_typeNameOf_keyiter
abbrev g0n:=@Nat.pow_le_pow_right
abbrev g0o:=@Nat.eq_of_testBit_eq
abbrev g0p:=@PySem.wpAny_truthy_bool
abbrev g0q:=@List.filter_congr
abbrev g0r:=@Nat.lt_irrefl
abbrev g0s:=@PySem.wpAny_attempt
abbrev g0t:=@Int.eq_ofNat_of_zero_le
abbrev g0u:=@List.filterMap_cons
abbrev g0v:=@List.replicate_succ
abbrev g0w:=@List.length_drop
abbrev g0x:=@PySem.Heap.size_update
abbrev g0y:=@List.range'_succ
abbrev g0z:=@List.getElem?_set_self
abbrev g10:=@PySem.Heap.get?_update_other
abbrev g11:=@Nat.le_of_lt
abbrev g12:=@PySem.wpAny_typeOf
abbrev g13:=@PySem.wpAny_setField_rec
abbrev g14:=@PyProof.Rows.F.plain_set_update_loop
abbrev g15:=@PySem.wpAny_passesOwn
abbrev g16:=@List.take_append_drop
abbrev g17:=@PySem.wpAny_isOneOf_keyiter
abbrev g18:=@PySem.F.slot_tuple_iterator_next
abbrev g19:=@PySem.plainId_quiet
abbrev g1a:=@PySem.Heap.get?_push_ne
abbrev g1b:=@List.range_eq_range'
abbrev g1c:=@List.getElem?_take_of_lt
abbrev g1d:=@PySem.AutoSeq1.sub_tuple_tuple
abbrev g1e:=@PySem.F.called_set
abbrev g1f:=@Nat.gcd_pos_of_pos_right
abbrev g1g:=@beq_eq_false_iff_ne
abbrev g1h:=@PySem.mem_of_lookup
abbrev g1i:=@Int.toNat_of_nonneg
abbrev g1j:=@List.map_congr_left
abbrev g1k:=@List.getElem?_cons_zero
abbrev g1l:=@Int.natCast_nonneg
abbrev g1m:=@beq_iff_eq
abbrev g1n:=@Bool.or_eq_true
abbrev g1o:=@List.append_nil
abbrev g1p:=@List.pairwise_cons
abbrev g1q:=@PySem.typeLookup_type
abbrev g1r:=@PySem.tupleKind_room_in1
abbrev g1s:=@Int.emod_lt_of_pos
abbrev g1t:=@List.filter_map
abbrev g1u:=@Nat.gcd_zero_right
abbrev g1v:=@PySem.sizeLine_eq
abbrev g1w:=@Nat.le_succ
abbrev g1x:=@List.range_succ_eq_map
abbrev g1y:=@Option.some.injEq
abbrev g1z:=@PySem.Heap.SameBut.refl
abbrev g20:=@PySem.wpAny_pyIter_list
abbrev g21:=@List.flatten_cons
abbrev g22:=@PySem.wpAny_storeSet_of
abbrev g23:=@Nat.lt_succ_of_lt
abbrev g24:=@Nat.or_lt_two_pow
abbrev g25:=@List.cons.sizeOf_spec
abbrev g26:=@Nat.lt_trans
abbrev g27:=@Bool.not_false
abbrev g28:=@PySem.isSubtype_type
abbrev g29:=@Array.getElem?_toList
abbrev g2a:=@List.idxOf_lt_length_of_mem
abbrev g2b:=@PySem.codeAny_call_builtin
abbrev g2c:=@or_false
abbrev g2d:=@PySem.F.slot_tuple_mul
abbrev g2e:=@List.getElem_mem
abbrev g2f:=@List.pairwise_append
abbrev g2g:=@PySem.wpAny_forIn_list
abbrev g2h:=@Int.fdiv_eq_ediv_of_nonneg
abbrev g2i:=@Array.perm_iff_toList_perm
abbrev g2j:=@Nat.mul_le_mul_left
abbrev g2k:=@Nat.mul_div_cancel'
abbrev g2l:=@PySem.wpAny_loadPart'
abbrev g2m:=@List.forIn_cons
abbrev g2n:=@List.drop_eq_getElem_cons
abbrev g2o:=@PySem.wpAny_specialOf
abbrev g2p:=@PySem.F.slot_tuple_getattribute
abbrev g2q:=@List.pairwise_iff_getElem
abbrev g2r:=@Nat.testBit_and
abbrev g2s:=@PySem.wpAny_Call_Name_kw
abbrev g2t:=@PySem.F.args_tuple_add_2
abbrev g2u:=@List.filterMap_map
abbrev g2v:=@PySem.wpAny_pyIter_tuple
abbrev g2w:=@PySem.Obj.data_mapFields
abbrev g2x:=@Array.forIn_toList
abbrev g2y:=@PyProof.Rows.F.entry_set_update_loop
abbrev g2z:=@PySem.F.slot_list_getattribute
abbrev g30:=@ite_congr
abbrev g31:=@PyProof.Rows.wpS_forRange
abbrev g32:=@Nat.zero_add
abbrev g33:=@List.filter_filter
abbrev g34:=@Nat.pos_of_ne_zero
abbrev g35:=@Nat.gcd_comm
abbrev g36:=@PySem.wpAny_setField
abbrev g37:=@PyProof.Rows.size_push'
abbrev g38:=@List.take_succ
abbrev g39:=@PySem.F.entry_tuple_add
abbrev g3a:=@PySem.wpAny_setState_of
abbrev g3b:=@PySem.atKey_none_of_get
abbrev g3c:=@PySem.F.slot_tuple_hash
abbrev g3d:=@Bool.not_eq_true'
abbrev g3e:=@PySem.F.slot_tuple_add
abbrev g3f:=@decide_true
abbrev g3g:=@Nat.pow_pos
abbrev g3h:=@List.all_cons
abbrev g3i:=@List.sum_cons
abbrev g3j:=@Nat.mul_assoc
abbrev g3k:=@Option.join_some
abbrev g3l:=@List.nodup_range
abbrev g3m:=@List.mem_flatMap
abbrev g3n:=@List.length_singleton
abbrev g3o:=@PySem.wpAny_notOrdered_dict
abbrev g3p:=@List.mem_iff_getElem?
abbrev g3q:=@PySem.F.slot_dict_get
abbrev g3r:=@PySem.isSubtype_tuple_tuple
abbrev g3s:=@List.mem_append_left
abbrev g3t:=@PySem.wpAny_execs_nil
abbrev g3u:=@PySem.codeAny_mono
abbrev g3v:=@PySem.call_meets
abbrev g3w:=@PySem.wpAny_updateSeq_pair
abbrev g3x:=@PySem.F.slot_zip_next
abbrev g3y:=@PySem.wpAny_ite_false
abbrev g3z:=@Nat.mod_lt
abbrev g40:=@PySem.intKind_is
abbrev g41:=@List.length_nil
abbrev g42:=@PySem.F.args_dict_keyiterator_next_1
abbrev g43:=@Bool.or_eq_false_iff
abbrev g44:=@PySem.F.slot_tuple_eq
abbrev g45:=@List.eq_nil_of_length_eq_zero
abbrev g46:=@PySem.F.entry_dict_keyiterator_next
abbrev g47:=@PySem.Heap.get?_update_ne
abbrev g48:=@Bool.false_and
abbrev g49:=@PySem.F.args_tuple_iterator_next_1
abbrev g4a:=@PySem.wpAny_fieldsOf
abbrev g4b:=@List.mem_filterMap
abbrev g4c:=@PySem.F.attrBase_ValueError
abbrev g4d:=@PySem.IsiPair.dict_tuple
abbrev g4e:=@PySem.F.entry_tuple_iterator_next
abbrev g4f:=@PySem.F.args_tuple_mul_2
abbrev g4g:=@List.getElem_idxOf
abbrev g4h:=@PySem.wpAny_tupleItemsOf
abbrev g4i:=@Int.lt_of_le_of_lt
abbrev g4j:=@PySem.Paired.length
abbrev g4k:=@Bool.false_or
abbrev g4l:=@PySem.wpAny_handled
abbrev g4m:=@PySem.wpAny_onRaise
abbrev g4n:=@List.map_take
abbrev g4o:=@List.map_drop
abbrev g4p:=@List.perm_ext_iff_of_nodup
abbrev g4q:=@Bool.and_true
abbrev g4r:=@Nat.add_assoc
abbrev g4s:=@List.getElem?_set
abbrev g4t:=@PySem.IsiPair.dict_bool
abbrev g4u:=@PySem.IsiPair.dict_list
abbrev g4v:=@PySem.IsiPair.dict_dict
abbrev g4w:=@PySem.F.entry_tuple_mul
abbrev g4x:=@bne_self_eq_false
abbrev g4y:=@PySem.wpAny_pyIter_slot
abbrev g4z:=@PySem.wpAny_dictEntries
abbrev g50:=@Nat.mul_left_comm
abbrev g51:=@List.mem_range'_1
abbrev g52:=@PySem.wpAny_call
abbrev g53:=@Decidable.byContradiction
abbrev g54:=@List.getElem_append_right
abbrev g55:=@Array.getElem?_eq_getElem
abbrev g56:=@List.findIdx?_eq_none_iff
abbrev g57:=@List.mem_of_find?_eq_some
abbrev g58:=@List.getLast?_eq_getElem?
abbrev g59:=@List.getElem_inj
abbrev g5a:=@PySem.concat_meets
abbrev g5b:=@PySem.noFill_tuple_add
abbrev g5c:=@List.drop_length
abbrev g5d:=@PySem.IsiPair.dict_int
abbrev g5e:=@PySem.IsiPair.dict_str
abbrev g5f:=@PySem.AutoSeq1.idx_int
abbrev g5g:=@List.getElem_append_left
abbrev g5h:=@Nat.add_zero
abbrev g5i:=@List.cons_append
abbrev g5j:=@Nat.le_add_right
abbrev g5k:=@PySem.atKey_of_get
abbrev g5l:=@getElem?_pos
abbrev g5m:=@Int.zero_add
abbrev g5n:=@decide_false
abbrev g5o:=@Int.le_trans
abbrev g5p:=@Nat.zero_testBit
abbrev g5q:=@Bool.not_eq_true
abbrev g5r:=@PySem.F.plainAttrs_list
abbrev g5s:=@List.length_eq_zero_iff
abbrev g5t:=@List.getElem?_cons_succ
abbrev g5u:=@List.of_mem_zip
abbrev g5v:=@PySem.SeqAt.EqAt.same
abbrev g5w:=@PySem.W.kia_one
abbrev g5x:=@PySem.wpAny_updateSeq
abbrev g5y:=@PySem.wpAny_dictEpoch
abbrev g5z:=@List.cons.injEq
abbrev g60:=@Nat.and_le_left
abbrev g61:=@PySem.W.cellsFrom_some
abbrev g62:=@PySem.wpAny_of_eq
abbrev g63:=@List.sum_replicate_nat
abbrev g64:=@List.pairwise_lt_range
abbrev g65:=@PySem.F.entry_dict_get
abbrev g66:=@List.map_id
abbrev g67:=@List.filter_eq_nil_iff
abbrev g68:=@Nat.gcd_rec
abbrev g69:=@Nat.mul_pos
abbrev g6a:=@List.length_replicate
abbrev g6b:=@List.drop_zero
abbrev g6c:=@List.forIn_nil
abbrev g6d:=@not_or
abbrev g6e:=@List.Perm.refl
abbrev g6f:=@List.getElem?_eq_none
abbrev g6g:=@Bool.and_eq_false_iff
abbrev g6h:=@Option.some_or
abbrev g6i:=@Option.none_or
abbrev g6j:=@List.any_cons
abbrev g6k:=@List.all_map
abbrev g6l:=@Nat.mul_comm
abbrev g6m:=@Bool.true_or
namespace L2
open PySem PySem.Spec PyProof.Rows
abbrev Key:=Sum Int Str
def qq4:Key->Value->Bool
 | .inl k,v=>Value.isInt k v
 | .inr x,v=>Value.isStrOf x v
def qwq(w:World): Key->Int
 | .inl k=>hashInt k
 | .inr x=>hashStr w x
theorem xt:∀ {k:Key} {v:Value},qq4 k v=true->(∃i t,k=Sum.inl i/\v=Value.int i t)\/(∃x t,k=Sum.inr x/\v=Value.str x t)
 | .inl i,v,h=>by
  obtain⟨t,e⟩:=Value.isInt_shape (k:=i) (v:=v) h;exact .inl ⟨i,t,rfl,e⟩
 | .inr x,v,h=>by
  obtain⟨t,e⟩:=Value.isStrOf_shape (x:=x) (v:=v) h;exact .inr ⟨x,t,rfl,e⟩
theorem qsi(a b:Int): decide ((Sum.inl a:Key)=Sum.inl b)=(a==b):=by
 by_cases e:a=b
 ·subst e;simp
 ·have h:¬(Sum.inl a:Key)=Sum.inl b:=fun q=>e (Sum.inl.inj q)
  rw [gz h];exact(g1g.mpr e).symm
theorem qsj(a b:Str): decide ((Sum.inr a:Key)=Sum.inr b)=decide (a=b):=by
 by_cases e:a=b
 ·subst e;simp
 ·have h:¬(Sum.inr a:Key)=Sum.inr b:=fun q=>e (Sum.inr.inj q)
  rw [gz h,gz e]
theorem qsk(a:Int)(b:Str): decide ((Sum.inl a:Key)=Sum.inr b)=false:=gz (fun q=>nomatch q)
theorem qsl(a:Str)(b:Int): decide ((Sum.inr a:Key)=Sum.inl b)=false:=gz (fun q=>nomatch q)
def mixKind(prog:Program)(w:World): PySem.KeyKind prog w Key where
 is:=qq4
 hash:=qwq w
 inj:=fun v a b ha hb=>by
  rcases xt ha with⟨i,t,rfl,rfl⟩|⟨x,t,rfl,rfl⟩
  ·rcases xt hb with⟨j,u,rfl,e⟩|⟨y,u,rfl,e⟩
   ·injection e with e1 _;rw [e1]
   ·exact nomatch e
  ·rcases xt hb with⟨j,u,rfl,e⟩|⟨y,u,rfl,e⟩
   ·exact nomatch e
   ·injection e with e1 _;rw [e1]
 byValue:=fun k v h=>by
  rcases xt h with⟨i,t,rfl,rfl⟩|⟨x,t,rfl,rfl⟩ <;> rfl
 pyHash:=fun hv h=>by
  rcases xt hv with⟨i,t,rfl,rfl⟩|⟨x,t,rfl,rfl⟩
  ·exact wpAny_pyHash_int h
  ·exact wpAny_pyHash_str h
 eqBool:=fun hu hv h=>by
  rcases xt hu with⟨i,t,rfl,rfl⟩|⟨x,t,rfl,rfl⟩
  ·rcases xt hv with⟨j,u,rfl,rfl⟩|⟨y,u,rfl,rfl⟩
   ·rw [qsi] at h;exact wpAny_eqBool_int h
   ·rw [qsk] at h;exact SeqAt.EqAt.int_str i t y u _ _ _ _ h
  ·rcases xt hv with⟨j,u,rfl,rfl⟩|⟨y,u,rfl,rfl⟩
   ·rw [qsl] at h;exact SeqAt.EqAt.str_int x t j u _ _ _ _ h
   ·rw [qsj] at h;exact wpAny_eqBool_str h
 «strs» :=fun k x t v h=>by
  rcases xt h with⟨i,u,rfl,e⟩|⟨y,u,rfl,e⟩
  ·exact nomatch e
  ·injection e with e1 _
   subst e1;cases v <;> rfl
inductive V where
 | non|bl (b:Bool)|int (i:Int)|str (x:Str)|byt (b:Array UInt8)|flt (b:UInt64)|ref (a:Addr)|ty (n:String)
 deriving DecidableEq
def RelV:V->Value->Prop
 | .non,u=>u=Value.none
 | .bl b,u=>u=Value.bool b
 | .int i,u=>∃t,u=Value.int i t
 | .str x,u=>∃t,u=Value.str x t
 | .byt b,u=>∃t,u=Value.bytes b t
 | .flt b,u=>∃t,u=Value.float b t
 | .ref a,u=>u=Value.ref a
 | .ty n,u=>u=Value.type n
abbrev Vals:List V->List Value->Prop:=Paired RelV
theorem Vals.length{xs:List V}{us:List Value}(r:Vals xs us): xs.length=us.length:=g4j r
theorem Vals.get:∀ {xs:List V} {us:List Value} {i:Nat} {x:V},Vals xs us->xs[i]? = some x->∃u,us[i]? = some u/\RelV x u
 | _,_,_,_,.nil,e=>by simp at e
 | _,_,0,_,.cons r _,e=>by simp at e;subst e;exact⟨_,rfl,r⟩
 | _,_,i+1,x,.cons _ t,e=>by
  obtain⟨u,h1,h2⟩:=Vals.get (i:=i) (x:=x) t (by simpa using e);exact⟨u,by simpa using h1,h2⟩
theorem Vals.append:∀ {xs ys:List V} {us ws:List Value},Vals xs us->Vals ys ws->Vals (xs++ys) (us++ws)
 | _,_,_,_,.nil,s=>s
 | _,_,_,_,.cons r t,s=>.cons r (Vals.append t s)
theorem Vals.take:∀ {xs:List V} {us:List Value} (n:Nat),Vals xs us->Vals (xs.take n) (us.take n)
 | _,_,0,_=>.nil
 | _,_,_+1,.nil=>.nil
 | _,_,n+1,.cons r t=>.cons r (Vals.take n t)
theorem Vals.drop:∀ {xs:List V} {us:List Value} (n:Nat),Vals xs us->Vals (xs.drop n) (us.drop n)
 | _,_,0,r=>r
 | _,_,_+1,.nil=>.nil
 | _,_,n+1,.cons _ t=>Vals.drop n t
def RelO:Option V->Option Value->Prop
 | some v,some u=>RelV v u
 | none,none=>True
 | _,_=>False
def KV{κ : Type}: List (κ × V)->List (κ × Value)->Prop:=Paired fun(p : κ × V) (q : κ × Value)=>p.1=q.1/\RelV p.2 q.2
def kV:Key->V
 | .inl i=>.int i
 | .inr x=>.str x
inductive HO where
 /-- a list -/
 | lst (xs:List V)
 /-- a tuple (never changes) -/
 | tup (xs:List V)
 /-- a dict whose keys are ints and texts; one whose keys are tuples of ints and texts (the empty one is both) -/
 | dK (kvs:List (Key×V))|dT (kvs:List (List Key×V))
 /-- a set of ints: its members, its size -/
 | set (S:Int->Bool) (n:Nat)
 /-- an instance of the class at C, its dict at dx, its attributes -/
 | ins (C dx:Addr) (fs:List (Str×V))
 /-- the dict of the instance at x -/
 | own (x:Addr)
 /-- the dict of an exception -/
 | xd (fs:List (Str×V))
 /-- a bound method, f of x -/
 | met (f x:Addr)
 /-- a range object lo, lo + 1, .. below hi -/
 | rng (lo hi:Int)
 /-- a thing that is known to the object (the script; a dict while a loop walks it): read, never written while it is so -/
 | frz (o:Obj) (u:HO)
 /-- a code object's table -/
 | tbl (ps:Array Value)
 /-- any other thing, by what is true of its one object (a def of one's own: SetO a S n := HO.ext fun h => ..) -/
 | ext (φ : Heap->Prop)
abbrev Hp:=Addr->Option HO
def upd(H:Hp)(a:Addr)(o:HO): Hp:=fun b=>if b=a then some o else H b
theorem zg{H:Hp}{a:Addr}{o:HO}: upd H a o a=some o:=by unfold upd;rw [m8 rfl]
theorem z6{H:Hp}{a b:Addr}{o:HO}(h:b≠a): upd H a o b=H b:=by unfold upd;rw [ma h]
theorem xf{H:Hp}{a b:Addr}{o:HO}(h:H a=some o)(h':H b=none): a≠b:=by
 intro e;subst e;rw [h] at h';cases h'
def TupX(h:Heap)(a:Addr)(items:Array Value): Prop:=∃o,h.get? a=some o/\o.cls=.type "tuple" /\ o.dict=none/\∃n,o.data=.seq items n
theorem TupX.up{h:Heap}{a:Addr}{items:Array Value}(p:TupX h a items): IsTup h a items:=let⟨o,x,y,_,z⟩:=p; ⟨o,x,y,z⟩
theorem TupX.new(h:Heap)(items:Array Value): TupX (h.push {cls:=.type "tuple",data:=.seq items}) h.objs.size items:=⟨_,gr _ rfl,rfl,rfl,_,rfl⟩
section
variable(P:Program)(w:World)
def ObjOk(H:Hp)(h:Heap)(a:Addr): HO->Prop
 | .lst xs=>xs.length<=sizeLine/\∃(its:List Value) (n:Nat),Vals xs its/\h.get? a=some {cls:=.type "list",data:=.seq its.toArray n}
 | .tup xs=>xs.length<=sizeLine/\∃its:List Value,Vals xs its/\TupX h a its.toArray
 | .dK kvs=>kvs.length<=sizeLine/\(a==sysModules)=false/\∃vs,KV kvs vs/\h.DictOf (mixKind P w) a vs
 | .dT kvs=>kvs.length<=sizeLine/\(a==sysModules)=false/\∃xs:List (List Key×Addr×Value),
   Paired (fun(p:List Key×V) (q:List Key×Addr×Value)=>p.1=q.1/\H q.2.1=some (.tup (p.1.map kV))/\RelV p.2 q.2.2) kvs xs /\
   ∃o es ep,h.get? a=some o/\o.ExactDict/\o.data=.dict es ep/\es.toList=xs.map (entryOfKey (tupleKind (mixKind P w)))/\(xs.map (·.1)).Nodup
 | .set S n=>h.SetOf (intKind P w) a S n
 | .ins C dx fs=>H dx=some (.own a)/\fs.length<=1000/\dx≠a/\h.get? a=some (PySem.W.instObj C dx) /\
   ∃mA,h.Ns1 dx mA/\(∀f,RelO (fs.lookup f) (mA f))/\PySem.Within mA (fs.map (·.1))
 | .own _=>∃o,h.get? a=some o
 | .xd fs=>∃mA,h.Ns1 a mA/\∀f,RelO (fs.lookup f) (mA f)
 | .rng lo hi=>∃t u v,h.get? a=some {cls:=.type "range",data:=.fields #[.int lo t,.int hi u,.int 1 v]}
 | .frz o u=>h.get? a=some o/\ObjOk H h a u
 | .tbl ps=>h.get? a=some {cls:=.none,data:=.fields ps}
 | .met f x=>h.get? a=some (PySem.W.methodObj (.ref f) (.ref x))
 | .ext φ => φ h/\(∃o,h.get? a=some o)/\∀h1 h2:Heap, φ h1->(∀o,h1.get? a=some o->h2.get? a=some o) -> φ h2
def HOk(H:Hp)(h:Heap): Prop:=∀a o,H a=some o->ObjOk P w H h a o
end
section
variable{P:Program}{w:World}{H H':Hp}{h h':Heap}{a:Addr}{o:HO}
theorem ObjOk.lt(x:ObjOk P w H h a o): a<h.objs.size:=by
 cases o with
 | lst xs=>obtain⟨_,_,_,_,e⟩:=x;exact m4 e
 | tup xs=>obtain⟨_,_,_,p⟩:=x;exact p.up.lt
 | dK kvs=>obtain⟨_,_,_,_,o,_,_,e,_⟩:=x;exact m4 e
 | dT kvs=>obtain⟨_,_,_,_,o,_,_,e,_⟩:=x;exact m4 e
 | set S n=>obtain⟨o,_,_,_,e,_⟩:=x;exact m4 e
 | ins C dx fs=>obtain⟨_,_,_,e,_⟩:=x;exact m4 e
 | own y=>obtain⟨_,e⟩:=x;exact m4 e
 | xd fs=>obtain⟨_,⟨_,_,_,e,_⟩,_⟩:=x;exact m4 e
 | rng lo hi=>obtain⟨_,_,_,e⟩:=x;exact m4 e
 | frz ob u=>obtain⟨e,_⟩:=x;exact m4 e
 | tbl ps=>exact m4 (show h.get? a=some _ from x)
 | met f y=>exact m4 (show h.get? a=some _ from x)
 | ext φ =>obtain⟨_,⟨_,e⟩,_⟩:=x;exact m4 e
theorem Paired.mapP{α β : Type}{F G : α -> β -> Prop}: ∀ {l₁:List α} {l₂:List β},Paired F l₁ l₂->(∀a b,F a b->G a b)->Paired G l₁ l₂
 | _,_,.nil,_=>.nil
 | _,_,.cons r t,f=>.cons (f _ _ r) (Paired.mapP t f)
theorem ObjOk.stay(x:ObjOk P w H h a o)(k:∀b u,(b=a\/H b=some (.own a))->h.get? b=some u->h'.get? b=some u)
  (ho:∀b,H b=some (.own a)->H' b=some (.own a)) (ht:∀b xs,H b=some (.tup xs)->H' b=some (.tup xs)):ObjOk P w H' h' a o:=by
 induction o with
 | lst xs=>obtain⟨z,its,n,r,e⟩:=x;exact⟨z,its,n,r,k _ _ (.inl rfl) e⟩
 | tup xs=>obtain⟨z,its,r,ob,e,c⟩:=x;exact⟨z,its,r,ob,k _ _ (.inl rfl) e,c⟩
 | dK kvs=>obtain⟨z,y,vs,r,ob,es,ep,e,c⟩:=x;exact⟨z,y,vs,r,ob,es,ep,k _ _ (.inl rfl) e,c⟩
 | dT kvs=>
  obtain⟨z,y,xs,r,ob,es,ep,e,c⟩:=x;exact⟨z,y,xs,Paired.mapP r fun p q z=>⟨z.1,ht _ _ z.2.1,z.2.2⟩,ob,es,ep,k _ _ (.inl rfl) e,c⟩
 | set S n=>obtain⟨ob,es,ep,t,e,c⟩:=x;exact⟨ob,es,ep,t,k _ _ (.inl rfl) e,c⟩
 | ins C dx fs=>
  obtain⟨d,z,ne,e,mA,⟨od,es,ep,e2,c⟩,r⟩:=x;exact⟨ho _ d,z,ne,k _ _ (.inl rfl) e,mA,⟨od,es,ep,k _ _ (.inr d) e2,c⟩,r⟩
 | own y=>obtain⟨ob,e⟩:=x;exact⟨ob,k _ _ (.inl rfl) e⟩
 | xd fs=>obtain⟨mA,⟨od,es,ep,e,c⟩,r⟩:=x;exact⟨mA,⟨od,es,ep,k _ _ (.inl rfl) e,c⟩,r⟩
 | rng lo hi=>obtain⟨t,u,v,e⟩:=x;exact⟨t,u,v,k _ _ (.inl rfl) e⟩
 | frz ob u ih=>obtain⟨e,q⟩:=x;exact⟨k _ _ (.inl rfl) e,ih q⟩
 | tbl ps=>
  have e:h.get? a=some {cls:=.none,data:=.fields ps}:=x;show h'.get? a=some {cls:=.none,data:=.fields ps};exact k a _ (.inl rfl) e
 | met f y=>
  have e:h.get? a=some (PySem.W.methodObj (.ref f) (.ref y)):=x;show h'.get? a=some (PySem.W.methodObj (.ref f) (.ref y));exact k a _ (.inl rfl) e
 | ext φ =>obtain⟨p,⟨o,e⟩,st⟩:=x;exact⟨st _ _ p fun o q=>k _ _ (.inl rfl) q,⟨o,k _ _ (.inl rfl) e⟩,st⟩
theorem HOk.lt(x:HOk P w H h)(e:H a=some o): a<h.objs.size:=(x a o e).lt
theorem HOk.fresh(x:HOk P w H h)(e:h.objs.size<=a): H a=none:=by
 cases q:H a with
 | none=>rfl
 | some u=>exact absurd (m5 (x.lt q) e) (g0r _)
theorem HOk.kept(x:HOk P w H h)(k:∀b u,h.get? b=some u->h'.get? b=some u): HOk P w H h':=fun a o e=>
 (x a o e).stay (fun b u _ q=>k b u q) (fun _ q=>q) fun _ _ q=>q
theorem HOk.laid(x:HOk P w H h)(k:∀b u,h.get? b=some u->h'.get? b=some u)(hp:h.objs.size<=a)(new:ObjOk P w (upd H a o) h' a o): HOk P w (upd H a o) h':=fun b u e=>by
 have hn:=x.fresh hp
 by_cases hb:b=a
 ·subst hb;rw [zg] at e;cases e;exact new
 ·rw [z6 hb] at e
  exact(x b u e).stay (fun c v _ q=>k c v q) (fun c q=>by rw [z6 (xf q hn)];exact q) fun c xs q=>by rw [z6 (xf q hn)];exact q
end
def Rd(H:Hp)(a:Addr)(u:HO): Prop:=H a=some u\/∃o,H a=some (.frz o u)
theorem Rd.ok{P:Program}{w:World}{H:Hp}{h:Heap}{a:Addr}{u:HO}(r:Rd H a u)(x:HOk P w H h): ObjOk P w H h a u:=by
 rcases r with r|⟨o,r⟩
 ·exact x a u r
 ·obtain⟨_,q⟩:=x a _ r
  exact q
def Mut:Option HO->Prop
 | some (.lst _)=>True
 | some (.dK _)=>True
 | some (.dT _)=>True
 | some (.set _ _)=>True
 | some (.ins _ _ _)=>True
 | some (.ext _)=>True
 | _=>False
section
variable{P:Program}{w:World}{H:Hp}{h h':Heap}{x e:Addr}{o':HO}
theorem HOk.write(ok:HOk P w H h)(mu:Mut (H x))(he:e=x\/H e=some (.own x))(k:∀b u,b≠e->h.get? b=some u->h'.get? b=some u)(heo:∃u,h'.get? e=some u)
  (new:ObjOk P w (upd H x o') h' x o'):HOk P w (upd H x o') h':=fun b u q=>by
 have nown:∀c y,H c=some (.own y)->c≠x:=fun c y r z=>by subst z;rw [r] at mu;exact mu
 have ntup:∀c xs,H c=some (.tup xs)->c≠x:=fun c xs r z=>by subst z;rw [r] at mu;exact mu
 by_cases hb:b=x
 ·subst hb;rw [zg] at q;cases q;exact new
 ·rw [z6 hb] at q
  by_cases hbe:b=e
  ·have q':H b=some (.own x):=by
    rcases he with z|z
    ·exact absurd (hbe.trans z) hb
    ·rw [hbe];exact z
   rw [q] at q';cases q';obtain⟨v,hv⟩:=heo;exact⟨v,by rw [hbe];exact hv⟩
  ·refine(ok b u q).stay (fun c v hc r=>k c v ?_ r) (fun c r=>by rw [z6 (nown c b r)];exact r) fun c xs r=>by rw [z6 (ntup c xs r)];exact r
   rcases hc with rfl|hc
   ·exact hbe
   ·rintro rfl
    rcases he with z|z
    ·exact nown c b hc z
    ·rw [hc] at z;cases z;exact hb rfl
end
structure Un(fs ex:List Addr)(H H':Hp)(h h':Heap): Prop where
 keep:∀b o,h.get? b=some o->H b=none->b∉fs->b∉ex->h'.get? b=some o
 slot:∀b o,h.get? b=some o->H b=none->b∈fs->b∉ex->∃sl,h'.get? b=some {o with slots:=sl}
 free:∀b o,h.get? b=some o->H b=none->b∉ex->H' b=none
 there:∀b o,h.get? b=some o->b∉ex->∃o',h'.get? b=some o'
 tups:∀b xs,H b=some (.tup xs)->H' b=some (.tup xs)
 frzs:∀b o u,H b=some (.frz o u)->H' b=some (.frz o u)
 tbls:∀b ps,H b=some (.tbl ps)->∃more,H' b=some (.tbl (ps++more))
section
variable{fs fs' ex ex':List Addr}{H H1 H2:Hp}{h h1 h2 h':Heap}{a x e:Addr}{o:HO}
theorem Un.any(u:Un fs ex H H1 h h1){b:Addr}{ob:Obj}(q:h.get? b=some ob)(n:H b=none)(hx:b∉ex): ∃sl,h1.get? b=some {ob with slots:=sl}:=by
 by_cases hb:b∈fs
 ·exact u.slot b ob q n hb hx
 ·exact⟨ob.slots,u.keep b ob q n hb hx⟩
theorem Un.trans(a:Un fs ex H H1 h h1)(b:Un fs ex H1 H2 h1 h2): Un fs ex H H2 h h2 where
 keep:=fun c ob q n hc hx=>b.keep c ob (a.keep c ob q n hc hx) (a.free c ob q n hx) hc hx
 slot:=fun c ob q n hc hx=>by
  obtain⟨sl,e1⟩:=a.slot c ob q n hc hx;obtain⟨sl',e2⟩:=b.slot c _ e1 (a.free c ob q n hx) hc hx;exact⟨sl',e2⟩
 free:=fun c ob q n hx=>by
  obtain⟨o',e1⟩:=a.there c ob q hx;exact b.free c o' e1 (a.free c ob q n hx) hx
 there:=fun c ob q hx=>by
  obtain⟨o',e1⟩:=a.there c ob q hx;exact b.there c o' e1 hx
 tups:=fun c xs q=>b.tups c xs (a.tups c xs q)
 frzs:=fun c ob xs q=>b.frzs c ob xs (a.frzs c ob xs q)
 tbls:=fun c ps q=>by
  obtain⟨m1,e1⟩:=a.tbls c ps q;obtain⟨m2,e2⟩:=b.tbls c _ e1;exact⟨m1++m2,by rw [e2,Array.append_assoc]⟩
theorem Un.kept(k:∀b u,h.get? b=some u->h'.get? b=some u): Un fs ex H H h h':=
 ⟨fun b ob q _ _ _=>k b ob q,fun b ob q _ _ _=>⟨ob.slots,k b ob q⟩,fun _ _ _ n _=>n,fun b ob q _=>⟨ob,k b ob q⟩,fun _ _ q=>q,fun _ _ _ q=>q,fun _ ps q=>⟨#[],by rw [q];simp⟩⟩
theorem Un.refl:Un fs ex H H h h:=Un.kept fun _ _ q=>q
theorem Un.laid(k:∀b u,h.get? b=some u->h'.get? b=some u)(hp:h.objs.size<=a)(hn:H a=none): Un fs ex H (upd H a o) h h' where
 keep:=fun b u q _ _ _=>k b u q
 slot:=fun b u q _ _ _=>⟨u.slots,k b u q⟩
 free:=fun b u q n _=>by rw [z6 (md (m5 (m4 q) hp))];exact n
 there:=fun b u q _=>⟨u,k b u q⟩
 tups:=fun b xs q=>by rw [z6 (xf q hn)];exact q
 frzs:=fun b u xs q=>by rw [z6 (xf q hn)];exact q
 tbls:=fun b ps q=>⟨#[],by rw [z6 (xf q hn),q];simp⟩
theorem Un.write(mu:Mut (H x))(he:e=x\/H e=some (.own x))(k:∀b u,b≠e->h.get? b=some u->h'.get? b=some u)(heo:∃u,h'.get? e=some u): Un fs ex H (upd H x o) h h':=by
 have hx:∀b,H b=none->b≠x:=fun b n z=>by subst z;rw [n] at mu;exact mu
 have hb:∀b,H b=none->b≠e:=fun b n z=>by
  subst z;rcases he with r|r
  ·exact hx b n r
  ·rw [n] at r;cases r
 have hm:∀b u,H b=some u->¬Mut (some u)->b≠x:=fun b u q nm z=>by subst z;rw [q] at mu;exact nm mu
 refine⟨fun b u q n _ _=>k b u (hb b n) q,fun b u q n _ _=>⟨u.slots,k b u (hb b n) q⟩,fun b u q n _=>by rw [z6 (hx b n)];exact n,fun b u q _=>?_,
  fun b xs q=>by rw [z6 (hm b _ q fun z=>z)];exact q,fun b u xs q=>by rw [z6 (hm b _ q fun z=>z)];exact q,fun b ps q=>⟨#[],by rw [z6 (hm b _ q fun z=>z),q];simp⟩⟩
 by_cases hbe:b=e
 ·subst hbe;exact heo
 ·exact⟨u,k b u hbe q⟩
end
def trk(h:Heap)(H:Hp): List Addr:=(List.range h.objs.size).filter fun a=>(H a).isSome
def q6o(h:Heap)(H:Hp): Heap:=PySem.W.hideAll h (trk h H)
theorem qkt(h:Heap)(H:Hp): (q6o h H).objs.size=h.objs.size:=PySem.W.hideAll_size _ _
theorem qnf{h:Heap}{H:Hp}{b:Addr}{o:Obj}(e:h.get? b=some o)(n:H b=none): (q6o h H).get? b=some o:=
 PySem.W.hideAll_get _ e fun hm=>by
  have q:(H b).isSome=true:=(mn.mp hm).2;rw [n] at q;simp at q
theorem qqk{h:Heap}{H:Hp}{b:Addr}{o:Obj}(e:(q6o h H).get? b=some o): h.get? b=some o/\H b=none:=by
 have e':h.get? b=some o:=PySem.W.of_hideAll (trk h H) e;refine⟨e',?_⟩;cases q:H b with
 | none=>rfl
 | some x=>
  have hm:b∈trk h H:=mn.mpr ⟨tw.mpr (m4 e'),by simp [q]⟩;have z:(q6o h H).get? b=none:=PySem.W.hideAll_none (trk h H) hm;rw [z] at e;cases e
def qql(g h:Heap)(L:Addr): List (Addr×Obj):=(List.range h.objs.size).filterMap fun a=>if a=L\/(g.get? a).isSome=true then none else(h.get? a).map fun o=>(a,o)
def rest(g h:Heap)(L d:Addr): List (Addr×Obj):=(qql g h L).filter fun p=>decide (p.1≠d)
structure Mod(K:PySem.W.Frag)(mg:Str->Option Value)(base:Heap): Prop where
 kin:K.In base
 glob:base.Ns mainGlobals mg
 blt:∃mb,base.Ns builtinsNs mb/\∀x:Str,x≠"__name__" -> mb x=bootBuiltins x
 nolimit:base.NoLimit
structure Cx where
 prog:Program
 w:World
 K:PySem.W.Frag
 mg:Str->Option Value
 base:Heap
 A:Around
 N:List Str
 s₀:Shared
 H₀:Hp
 env:Env
 outer:List Env
 stack:List Env
 ex:List Addr
 fn:Str->Bool
 calm:Bool
 pn:List (Addr×Obj)
 xe:Value->Shared->Prop
def frs(l:List Env): List Addr:=l.filterMap (·.frame)
abbrev Cx.fs(X:Cx): List Addr:=frs X.outer
def Vis(sc:Scope)(x:Str): Prop:=sc.names.lookup x=some .local\/sc.names.lookup x=some .cell\/sc.names.lookup x=some .free
def Loc(sc:Scope)(x:Str): Prop:=sc.names.lookup x=some .local\/sc.names.lookup x=some .cell
def Look(env:Env)(h:Heap)(m:Str->Option Value)(x:Str)(u:Value): Prop:=
 (env.kindOf x=some .local/\m x=some u)\/((env.kindOf x=some .cell\/env.kindOf x=some .free)/\∃c,env.cells.lookup x=some c/\h.IsCell c (some u))
structure Cx.Ok(X:Cx): Prop where
 mod:Mod X.K X.mg X.base
 kind:X.env.scope.kind=.function
 glob:X.env.globals=mainGlobals
 blt:X.env.builtins=builtinsNs
 above:X.s₀.heap.objs.size<=X.env.locals
 inj:∀x y c,X.env.cells.lookup x=some c->X.env.cells.lookup y=some c->x=y
 has:∀x,(X.env.kindOf x=some .cell\/X.env.kindOf x=some .free)->∃c,X.env.cells.lookup x=some c
 cab:∀x c,X.fn x=true->X.env.cells.lookup x=some c->X.s₀.heap.objs.size<=c
 hd:X.calm=true->X.A.handled=none
 frames:X.A.frames=some X.stack
 stk:X.stack=X.outer\/(X.stack=X.env :: X.outer/\X.env.frame=some X.env.locals)
 exf:∀b∈X.ex,b≠X.env.locals/\∀x c,X.env.cells.lookup x=some c->c≠b
 bs:∀b o,X.base.get? b=some o->X.s₀.heap.get? b=some o/\X.H₀ b=none
 bsz:X.base.objs.size<=X.s₀.heap.objs.size
 noex:∀b o,X.base.get? b=some o->b∉X.ex
 exfs:∀b∈X.ex,b∉X.fs
 funs:X.s₀.heap.FunFrames X.base X.outer
 frf:∀b∈X.fs,X.H₀ b=none
structure Inv(X:Cx)(pins:List (Addr×Obj))(σ : List (Option V))(H:Hp)(s:Shared): Prop where
 ok:X.Ok
 os:s.os=X.s₀.os
 bare:AllBare s.gens
 base:Un X.fs X.ex X.H₀ H X.s₀.heap s.heap
 loc:∃m,s.heap.Ns X.env.locals m/\∀(i:Nat) (x:Str) (v:V),X.N[i]? = some x -> σ[i]? = some (some v)->Vis X.env.scope x->∃u,RelV v u/\Look X.env s.heap m x u
 cell:∀x c,X.env.cells.lookup x=some c->∃v,s.heap.IsCell c v
 free:H X.env.locals=none
 freeC:∀x c,X.env.cells.lookup x=some c->H c=none
 pin:∀p∈X.pn++pins,s.heap.get? p.1=some p.2/\H p.1=none/\p.1≠X.env.locals/\p.1∉X.fs/\∀v,p.2.data ≠ .cell v
 hok:HOk X.prog X.w H s.heap
 len : σ.length=X.N.length
section
variable{X:Cx}{pins:List (Addr×Obj)}{σ : List (Option V)}{H H':Hp}{s:Shared}{h':Heap}
theorem Cx.Ok.nofr(ok:X.Ok){b:Addr}{o:Obj}(e:X.base.get? b=some o): b∉X.fs:=fun hb=>by
 have:=(ok.funs.mem hb).1;rw [e] at this;cases this
theorem Inv.bs(I:Inv X pins σ H s): ∀b o,X.base.get? b=some o->s.heap.get? b=some o/\H b=none:=fun b o e=>
 ⟨I.base.keep b o (I.ok.bs b o e).1 (I.ok.bs b o e).2 (I.ok.nofr e) (I.ok.noex b o e),I.base.free b o (I.ok.bs b o e).1 (I.ok.bs b o e).2 (I.ok.noex b o e)⟩
theorem Inv.bk(I:Inv X pins σ H s): ∀b o,X.base.get? b=some o->s.heap.get? b=some o:=fun b o e=>(I.bs b o e).1
theorem Inv.mod(I:Inv X pins σ H s): Mod X.K X.mg X.base:=I.ok.mod
theorem Inv.kIn(I:Inv X pins σ H s): X.K.In s.heap:=I.ok.mod.kin.keeps I.bk
theorem Inv.lt(I:Inv X pins σ H s): X.env.locals<s.heap.objs.size:=let⟨_,hn,_⟩:=I.loc;hn.lt
theorem Inv.sz(I:Inv X pins σ H s): X.s₀.heap.objs.size<=s.heap.objs.size:=mm I.ok.above (g11 I.lt)
theorem Inv.nofs(I:Inv X pins σ H s){a:Addr}(h:s.heap.objs.size<=a): a∉X.fs:=fun hb=>by
 obtain⟨_,o,ho,_⟩:=I.ok.funs.mem hb;exact absurd (m5 (m4 ho) (mm I.sz h)) (g0r _)
theorem Inv.cne(I:Inv X pins σ H s): ∀x c,X.env.cells.lookup x=some c->c≠X.env.locals:=fun x c e z=>by
 obtain⟨v,o,ho,hd⟩:=I.cell x c e;obtain⟨m,⟨o',es,ep,ho',hd',_⟩,_⟩:=I.loc;rw [z,ho'] at ho;cases ho;rw [hd'] at hd;cases hd
theorem Inv.funs(I:Inv X pins σ H s): s.heap.FunFrames X.base X.outer:=by
 have all:∀(l:List Env),(∀b∈frs l,b∈X.fs)->X.s₀.heap.FunFrames X.base l->s.heap.FunFrames X.base l:=by
  intro l
  induction l with
  | nil=>intro _ _;trivial
  | cons env r ih=>
   intro hs hl;obtain⟨hk,⟨L,o,hf,hn,ho,hd⟩,hr⟩:=hl;have hL:L∈X.fs:=hs L (by unfold frs;rw [g0u,hf];exact gi);obtain⟨sl,e⟩:=I.base.slot L o ho (I.ok.frf L hL) hL fun z=>I.ok.exfs L z hL;exact⟨hk,⟨L,_,hf,hn,e,hd⟩,ih (fun b hb=>hs b (by unfold frs;rw [g0u,hf];exact gj _ hb)) hr⟩
 exact all X.outer (fun _ hb=>hb) I.ok.funs
theorem Inv.stack(I:Inv X pins σ H s): s.heap.FunFrames X.base X.stack:=by
 rcases I.ok.stk with e|⟨e,hf⟩
 ·rw [e];exact I.funs
 ·rw [e]
  obtain⟨m,hn,_⟩:=I.loc;refine .cons (by rw [I.ok.kind];decide) hf hn ?_ I.funs;exact Heap.get?_none_of_le (mm I.ok.bsz I.ok.above)
theorem Inv.stkSub(I:Inv X pins σ H s): ∀b∈frs X.stack,b∈X.env.locals :: X.fs:=fun b hb=>by
 rcases I.ok.stk with e|⟨e,hf⟩
 ·rw [e] at hb;exact gj _ hb
 ·rw [e] at hb
  unfold frs at hb;rw [g0u,hf] at hb;exact hb
theorem Inv.stkFree(I:Inv X pins σ H s): ∀b∈frs X.stack,H b=none:=fun b hb=>by
 rcases mh.mp (I.stkSub b hb) with e|hb
 ·rw [e];exact I.free
 ·obtain⟨_,o,ho,_⟩:=I.ok.funs.mem hb
  exact I.base.free b o ho (I.ok.frf b hb) fun z=>I.ok.exfs b z hb
theorem Inv.step{g':Array GenState}{t':Nat}{d':Drawn}{ch:List Addr}(I:Inv X pins σ H s)
  (hch:∀b∈ch,(b∈X.ex\/X.s₀.heap.objs.size<=b)/\b≠X.env.locals/\(∀x c,X.env.cells.lookup x=some c->c≠b)/\∀p∈X.pn++pins,p.1≠b)
  (keep:∀b o,b≠X.env.locals->b∉X.fs->b∉ch->s.heap.get? b=some o->H b=none->h'.get? b=some o)
  (slot:∀b o,b≠X.env.locals->b∈X.fs->b∉ch->s.heap.get? b=some o->H b=none->∃sl,h'.get? b=some {o with slots:=sl}) (free:∀b o,b∉ch->s.heap.get? b=some o->H b=none->H' b=none)
  (there:∀b o,b∉ch->s.heap.get? b=some o->∃o',h'.get? b=some o')
  (tups:∀b xs,H b=some (.tup xs)->H' b=some (.tup xs)) (frzs:∀b o u,H b=some (.frz o u)->H' b=some (.frz o u)) (tbls:∀b ps,H b=some (.tbl ps)->∃more,H' b=some (.tbl (ps++more)))
  (ns:∀m,s.heap.Ns X.env.locals m->h'.Ns X.env.locals m) (hok:HOk X.prog X.w H' h') (hg:AllBare g') :
  Inv X pins σ H' {s with heap:=h',gens:=g',drawn:=d',toks:=t'}:=by
 have neL:∀b o,X.s₀.heap.get? b=some o->b≠X.env.locals:=fun b o e=>md (m5 (m4 e) I.ok.above);have neC:∀b o,X.s₀.heap.get? b=some o->b∉X.ex->b∉ch:=fun b o e hx hb=>by
  rcases(hch b hb).1 with z|z
  ·exact hx z
  ·exact absurd (m5 (m4 e) z) (g0r _)
 have cellK:∀x c,X.env.cells.lookup x=some c->∀v,s.heap.IsCell c v->h'.IsCell c v:=fun x c e v ⟨o,ho,hd⟩=>by
  have nch:c∉ch:=fun z=>(hch c z).2.2.1 x c e rfl
  by_cases hc:c∈X.fs
  ·obtain⟨sl,q⟩:=slot c o (I.cne x c e) hc nch ho (I.freeC x c e)
   exact⟨_,q,hd⟩
  ·exact⟨o,keep c o (I.cne x c e) hc nch ho (I.freeC x c e),hd⟩
 refine⟨I.ok,I.os,hg,⟨fun b o e n hb hx=>?_,fun b o e n hb hx=>?_,fun b o e n hx=>?_,fun b o e hx=>?_,fun b xs e=>tups b xs (I.base.tups b xs e),fun b o xs e=>frzs b o xs (I.base.frzs b o xs e),fun b ps e=>?_⟩,?_,fun x c e=>?_,?_,fun x c e=>?_,fun p hp=>?_,hok,I.len⟩
 ·exact keep b o (neL b o e) hb (neC b o e hx) (I.base.keep b o e n hb hx) (I.base.free b o e n hx)
 ·obtain⟨sl,e1⟩:=I.base.slot b o e n hb hx
  obtain⟨sl',e2⟩:=slot b _ (neL b o e) hb (neC b o e hx) e1 (I.base.free b o e n hx);exact⟨sl',e2⟩
 ·obtain⟨o',e1⟩:=I.base.there b o e hx
  exact free b o' (neC b o e hx) e1 (I.base.free b o e n hx)
 ·obtain⟨o',e1⟩:=I.base.there b o e hx
  exact there b o' (neC b o e hx) e1
 ·obtain⟨m1,e1⟩:=I.base.tbls b ps e
  obtain⟨m2,e2⟩:=tbls b _ e1;exact⟨m1++m2,by rw [e2,Array.append_assoc]⟩
 ·obtain⟨m,hn,hl⟩:=I.loc
  refine⟨m,ns m hn,fun i x v e1 e2 e3=>?_⟩;obtain⟨u,r,l⟩:=hl i x v e1 e2 e3;refine⟨u,r,?_⟩;rcases l with l|⟨k,c,e,z⟩
  ·exact .inl l
  ·exact .inr ⟨k,c,e,cellK x c e _ z⟩
 ·obtain⟨v,z⟩:=I.cell x c e
  exact⟨v,cellK x c e v z⟩
 ·obtain⟨m,⟨o,_,_,ho,_⟩,_⟩:=I.loc
  exact free _ o (fun z=>(hch _ z).2.1 rfl) ho I.free
 ·obtain⟨v,o,ho,hd⟩:=I.cell x c e
  exact free c o (fun z=>(hch c z).2.2.1 x c e rfl) ho (I.freeC x c e)
 ·obtain⟨e,n,ne,nf,d⟩:=I.pin p hp
  have nch:p.1∉ch:=fun z=>(hch p.1 z).2.2.2 p hp rfl;exact⟨keep p.1 p.2 ne nf nch e n,free p.1 p.2 nch e n,ne,nf,d⟩
theorem Inv.un{t':Nat}(I:Inv X pins σ H s)(u:Un X.fs [] H H' s.heap h')(hok:HOk X.prog X.w H' h'): Inv X pins σ H' {s with heap:=h',toks:=t'}:=by
 obtain⟨m,⟨o,es,ep,ho,r⟩,_⟩:=id I.loc;obtain⟨sl,hL⟩:=u.any ho I.free (by simp);exact I.step (g':=s.gens) (d':=s.drawn) (ch:=[]) (fun _ z=>nomatch z) (fun b o _ hb _ e n=>u.keep b o e n hb (by simp)) (fun b o _ hb _ e n=>u.slot b o e n hb (by simp)) (fun b o _ e n=>u.free b o e n (by simp)) (fun b o _ e=>u.there b o e (by simp)) u.tups u.frzs u.tbls (fun m' hm=>by
  obtain⟨o',es',ep',ho',r'⟩:=hm;rw [ho] at ho';cases ho';exact⟨_,es',ep',hL,r'⟩) hok I.bare
theorem Inv.call{g':Array GenState}{t':Nat}{d':Drawn}{ch:List Addr}(I:Inv X pins σ H s)(u:Un (frs X.stack) ch H H' s.heap h')(hok:HOk X.prog X.w H' h')(hg:AllBare g')
  (hch:∀b∈ch,(b∈X.ex\/X.s₀.heap.objs.size<=b)/\b≠X.env.locals/\(∀x c,X.env.cells.lookup x=some c->c≠b)/\∀p∈X.pn++pins,p.1≠b) :
  Inv X pins σ H' {s with heap:=h',gens:=g',drawn:=d',toks:=t'}:=by
 obtain⟨m,⟨o,es,ep,ho,r⟩,_⟩:=id I.loc;obtain⟨sl,hL⟩:=u.any ho I.free fun z=>(hch _ z).2.1 rfl;exact I.step (ch:=ch) hch (fun b o hL hb hc e n=>u.keep b o e n (fun z=>(mh.mp (I.stkSub b z)).elim hL hb) hc) (fun b o _ _ hc e n=>u.any e n hc) (fun b o hc e n=>u.free b o e n hc) (fun b o hc e=>u.there b o e hc) u.tups u.frzs u.tbls (fun m' hm=>by
  obtain⟨o',es',ep',ho',r'⟩:=hm;rw [ho] at ho';cases ho';exact⟨_,es',ep',hL,r'⟩) hok hg
theorem Inv.turned{t':Nat}{it:Addr}(I:Inv X pins σ H s)(k:∀b o,b≠it->s.heap.get? b=some o->h'.get? b=some o)(hn:H it=none)(hL:it≠X.env.locals)
  (h1:it∈X.ex\/X.s₀.heap.objs.size<=it) (h2:∀x c,X.env.cells.lookup x=some c->c≠it) (h3:∀p∈X.pn++pins,p.1≠it):Inv X pins σ H {s with heap:=h',toks:=t'}:=by
 have nit:∀b u,H b=some u->b≠it:=fun b u e z=>by rw [z,hn] at e;cases e
 refine I.step (g':=s.gens) (d':=s.drawn) (ch:=[it]) (fun b hb=>?_) (fun b o _ _ hc e _=>k b o (fun z=>hc (by simp [z])) e) (fun b o _ _ hc e _=>⟨o.slots,k b o (fun z=>hc (by simp [z])) e⟩) (fun _ _ _ _ n=>n)
  (fun b o hc e=>⟨o,k b o (fun z=>hc (by simp [z])) e⟩) (fun _ _ e=>e) (fun _ _ _ e=>e) (fun b ps e=>⟨#[],by rw [e];simp⟩) (fun m hm=>?_) (fun b u e=>?_) I.bare
 ·have e:b=it:=by simpa using hb
  subst e;exact⟨h1,hL,h2,h3⟩
 ·obtain⟨o,es,ep,ho,r⟩:=hm
  exact⟨o,es,ep,k _ o (my hL) ho,r⟩
 ·refine(I.hok b u e).stay (fun c v hc q=>k c v ?_ q) (fun _ q=>q) fun _ _ q=>q
  rcases hc with z|z
  ·rw [z];exact nit b u e
  ·exact nit c _ z
theorem Inv.tok(I:Inv X pins σ H s)(t:Nat): Inv X pins σ H {s with toks:=t}:=I.un (h':=s.heap) (t':=t) Un.refl I.hok
theorem Inv.kept{t':Nat}(I:Inv X pins σ H s)(k:∀b u,s.heap.get? b=some u->h'.get? b=some u): Inv X pins σ H {s with heap:=h',toks:=t'}:=I.un (Un.kept k) (I.hok.kept k)
theorem Inv.laid{a:Addr}{o:HO}{t':Nat}(I:Inv X pins σ H s)(k:∀b u,s.heap.get? b=some u->h'.get? b=some u)(hp:s.heap.objs.size<=a)(new:ObjOk X.prog X.w (upd H a o) h' a o):
  Inv X pins σ (upd H a o) {s with heap:=h',toks:=t'}:=I.un (Un.laid k hp (I.hok.fresh hp)) (I.hok.laid k hp new)
theorem Inv.write{x e:Addr}{o:HO}{t':Nat}(I:Inv X pins σ H s)(mu:Mut (H x))(he:e=x\/H e=some (.own x))(k:∀b u,b≠e->s.heap.get? b=some u->h'.get? b=some u)(heo:∃u,h'.get? e=some u)
  (new:ObjOk X.prog X.w (upd H x o) h' x o):Inv X pins σ (upd H x o) {s with heap:=h',toks:=t'}:=I.un (Un.write mu he k heo) (I.hok.write mu he k heo new)
theorem Inv.pins_of{pins':List (Addr×Obj)}(I:Inv X pins σ H s)(h:∀p∈pins',s.heap.get? p.1=some p.2/\H p.1=none/\p.1≠X.env.locals/\p.1∉X.fs/\∀v,p.2.data ≠ .cell v): Inv X pins' σ H s:=
 ⟨I.ok,I.os,I.bare,I.base,I.loc,I.cell,I.free,I.freeC,fun p hp=>(u6.mp hp).elim (fun z=>I.pin p (g3s _ z)) (h p),I.hok,I.len⟩
theorem qe6{N:List Str}(hN:N.Nodup){i j:Nat}{x:Str}(a:N[i]? = some x)(b:N[j]? = some x): i=j:=by
 obtain⟨h1,e1⟩:=mv.mp a;obtain⟨h2,e2⟩:=mv.mp b;exact(g59 hN).mp (e1.trans e2.symm)
theorem qku{M:Model}{A:Around}{E:Value->Shared->Prop}{i:Nat}{x:Str}{v:V}{u:Value}{Q:Unit->Shared->Prop}(I:Inv X pins σ H s)(hN:X.N.Nodup)(hi:X.N[i]? = some x)(hx:Loc X.env.scope x)(r:RelV v u)
  (h:∀s',Inv X pins (σ.set i (some v)) H s'->(∃a,Heap.SameBut a s.heap s'.heap/\(a=X.env.locals\/X.env.cells.lookup x=some a))->Q () s') (hf:X.fn x=true\/X.env.scope.names.lookup x=some .local:=by first|exact .inl rfl|exact .inr rfl|assumption):wpAny M A (storeName X.env x u) Q E s:=by
 obtain⟨m,hn,hl⟩:=id I.loc;have hcls:(X.env.scope.kind == .class || (X.env.scope.kind == .module&&X.env.locals != X.env.globals))=false:=by rw [I.ok.kind];rfl
 have hiσ : i < σ.length:=by rw [I.len];exact(mv.mp hi).1
 have cne:=I.cne;have tracked:∀ {a:Addr} {h':Heap},(∃o,s.heap.get? a=some o/\H a=none)->Heap.SameBut a s.heap h'->HOk X.prog X.w H h':=fun {a h'} ha hs b ob e=>by
  obtain⟨_,_,hfree⟩:=ha;refine(I.hok b ob e).stay (fun c w' hc q=>(hs.2 c ?_).trans q) (fun _ q=>q) fun _ _ q=>q
  rintro rfl
  rcases hc with rfl|hc
  ·rw [hfree] at e;cases e
  ·rw [hfree] at hc;cases hc
 rcases hx with hk|hk
 ·refine wpAny_storeName_local hk hn (fun h' hn' hs=>?_) hcls
  obtain⟨oL,_,_,hoL,_⟩:=id hn;refine h _ ⟨I.ok,I.os,I.bare,⟨fun b o e n hb hx=>?_,fun b o e n hb hx=>?_,I.base.free,fun b o e hx=>?_,I.base.tups,I.base.frzs,I.base.tbls⟩,⟨_,hn',fun j y v' e1 e2 e3=>?_⟩,fun y c e=>?_,I.free,I.freeC,fun p hp=>?_,tracked ⟨oL,hoL,I.free⟩ hs,by simpa using I.len⟩ ⟨_,hs,.inl rfl⟩
  ·exact(hs.2 b (md (m5 (m4 e) I.ok.above))).trans (I.base.keep b o e n hb hx)
  ·obtain⟨sl,e1⟩:=I.base.slot b o e n hb hx
   exact⟨sl,(hs.2 b (md (m5 (m4 e) I.ok.above))).trans e1⟩
  ·obtain⟨o',e1⟩:=I.base.there b o e hx
   exact⟨o',(hs.2 b (md (m5 (m4 e) I.ok.above))).trans e1⟩
  ·by_cases hj:j=i
   ·subst hj
    rw [hi] at e1;cases e1;rw [g0z hiσ] at e2;cases e2;exact⟨u,r,.inl ⟨hk,by simp⟩⟩
   ·rw [gu (my hj)] at e2
    obtain⟨u',r',q⟩:=hl j y v' e1 e2 e3;refine⟨u',r',?_⟩;rcases q with⟨k,e⟩|⟨k,c,e,z⟩
    ·refine .inl ⟨k,?_⟩
     have:y≠x:=fun e=>hj (qe6 hN e1 (e ▸ hi));simp [this,e]
    ·exact .inr ⟨k,c,e,z.sameBut hs (cne y c e)⟩
  ·obtain⟨w',z⟩:=I.cell y c e
   exact⟨w',z.sameBut hs (cne y c e)⟩
  ·obtain⟨e,n,ne,nf,d⟩:=I.pin p hp
   exact⟨(hs.2 p.1 ne).trans e,n,ne,nf,d⟩
 ·have hfn:X.fn x=true:=by
   rcases hf with z|z
   ·exact z
   ·rw [z] at hk;cases hk
  obtain⟨c,hc⟩:=I.ok.has x (.inl hk);obtain⟨w',z⟩:=I.cell x c hc;refine wpAny_storeName_cell I.ok.kind hk hc z (fun h' hc' hs=>?_);obtain⟨oc,hoc,hocd⟩:=id z;refine h {s with heap:=h'} ⟨I.ok,I.os,I.bare,⟨fun b o e n hb hx=>?_,fun b o e n hb hx=>?_,I.base.free,fun b o e hx=>?_,I.base.tups,I.base.frzs,I.base.tbls⟩,⟨m,hn.sameBut hs (my (cne x c hc)),fun j y v' e1 e2 e3=>?_⟩,fun y c' e=>?_,I.free,I.freeC,fun p hp=>?_,tracked ⟨oc,hoc,I.freeC x c hc⟩ hs,by simpa using I.len⟩ ⟨c,hs,.inr hc⟩
  ·exact(hs.2 b (md (m5 (m4 e) (I.ok.cab x c hfn hc)))).trans (I.base.keep b o e n hb hx)
  ·obtain⟨sl,e1⟩:=I.base.slot b o e n hb hx
   exact⟨sl,(hs.2 b (md (m5 (m4 e) (I.ok.cab x c hfn hc)))).trans e1⟩
  ·obtain⟨o',e1⟩:=I.base.there b o e hx
   exact⟨o',(hs.2 b (md (m5 (m4 e) (I.ok.cab x c hfn hc)))).trans e1⟩
  ·by_cases hj:j=i
   ·subst hj
    rw [hi] at e1;cases e1;rw [g0z hiσ] at e2;cases e2;exact⟨u,r,.inr ⟨.inl hk,c,hc,hc'⟩⟩
   ·rw [gu (my hj)] at e2
    obtain⟨u',r',q⟩:=hl j y v' e1 e2 e3;refine⟨u',r',?_⟩;rcases q with q|⟨k,c',e,z'⟩
    ·exact .inl q
    ·refine .inr ⟨k,c',e,z'.sameBut hs ?_⟩
     rintro rfl
     exact hj (qe6 hN e1 (I.ok.inj _ _ _ e hc ▸ hi))
  ·by_cases hcc:c'=c
   ·subst hcc;exact⟨_,hc'⟩
   ·obtain⟨w2,z2⟩:=I.cell y c' e
    exact⟨w2,z2.sameBut hs hcc⟩
  ·obtain⟨e,n,ne,nf,d⟩:=I.pin p hp
   refine⟨(hs.2 p.1 ?_).trans e,n,ne,nf,d⟩;intro q;rw [q,hoc] at e;have q':oc=p.2:=mq e;exact d w' (by rw [<- q'];exact hocd)
theorem q9o{M:Model}{A:Around}{E:Value->Shared->Prop}{i:Nat}{x:Str}{v:V}{u:Value}{Q:Unit->Shared->Prop}(I:Inv X pins σ H s)(hN:X.N.Nodup)(hi:X.N[i]? = some x)(hx:Loc X.env.scope x)(r:RelV v u)
  (h:∀s',Inv X pins (σ.set i (some v)) H s'->Q () s') (hf:X.fn x=true\/X.env.scope.names.lookup x=some .local:=by first|exact .inl rfl|exact .inr rfl|assumption):wpAny M A (storeName X.env x u) Q E s:=
 qku I hN hi hx r (fun s' I' _=>h s' I') hf
theorem Inv.call'{s':Shared}{ch:List Addr}(I:Inv X pins σ H s)(ho:s'.os=s.os)(u:Un (frs X.stack) ch H H' s.heap s'.heap)(hok:HOk X.prog X.w H' s'.heap)(hg:AllBare s'.gens)
  (hch:∀b∈ch,(b∈X.ex\/X.s₀.heap.objs.size<=b)/\b≠X.env.locals/\(∀x c,X.env.cells.lookup x=some c->c≠b)/\∀p∈X.pn++pins,p.1≠b):Inv X pins σ H' s':=by
 obtain⟨h',g',d',t',o'⟩:=s';have e:o'=s.os:=ho;subst e;exact I.call (g':=g') (t':=t') (d':=d') u hok hg hch
end
abbrev XK:=Value->Option Addr->Hp->Prop
abbrev St:=List (Option V)
abbrev VK:=V->Hp->Prop
abbrev TE:=St->Hp->VK->Prop
abbrev TT:=St->Hp->(Bool->Hp->Prop)->Prop
abbrev TA:=St->Hp->(List V->Hp->Prop)->Prop
structure Ends where
 nx:St->Hp->Prop
 rt:VK
 bk:St->Hp->Prop:=fun _ _=>False
 ct:St->Hp->Prop:=fun _ _=>False
abbrev TS:=Ends->St->Hp->Prop
def EP(X:Cx)(pins:List (Addr×Obj))(σ : St)(Q:VK)(u:Value)(s':Shared): Prop:=∃v H',Inv X pins σ H' s'/\RelV v u/\Q v H'
def TP(X:Cx)(pins:List (Addr×Obj))(σ : St)(Q:Bool->Hp->Prop)(b:Bool)(s':Shared): Prop:=∃H',Inv X pins σ H' s'/\Q b H'
def AP(X:Cx)(pins:List (Addr×Obj))(σ : St)(Q:List V->Hp->Prop)(us:List Value)(s':Shared): Prop:=∃vs H',Inv X pins σ H' s'/\Vals vs us/\Q vs H'
def SP(X:Cx)(pins:List (Addr×Obj))(D:Ends)(f:Flow)(s':Shared): Prop:=
 match f with
 | .next=>∃ σ' H',Inv X pins σ' H' s'/\D.nx σ' H'
 | .brk=>∃ σ' H',Inv X pins σ' H' s'/\D.bk σ' H'
 | .cont=>∃ σ' H',Inv X pins σ' H' s'/\D.ct σ' H'
 | .ret u=>∃v σ' H',Inv X pins σ' H' s'/\RelV v u/\D.rt v H'
def PE(X:Cx)(e:Expr)(t:TE): Prop:=
 ∀(pins:List (Addr×Obj)) (s:Shared) (σ : St) (H:Hp) (Q:VK),Inv X pins σ H s->t σ H Q->wpAny (model X.prog X.w) X.A (eval e X.env) (EP X pins σ Q) X.xe s
def PT(X:Cx)(e:Expr)(t:TT): Prop:=
 ∀(pins:List (Addr×Obj)) (s:Shared) (σ : St) (H:Hp) (Q:Bool->Hp->Prop),Inv X pins σ H s->t σ H Q->wpAny (model X.prog X.w) X.A (isTrue e X.env (eval e X.env)) (TP X pins σ Q) X.xe s
def PW(X:Cx)(e:Expr)(t:TT): Prop:=
 ∀(whole:Sem Value) (pins:List (Addr×Obj)) (s:Shared) (σ : St) (H:Hp) (Q:Bool->Hp->Prop),Inv X pins σ H s->t σ H Q->wpAny (model X.prog X.w) X.A (isTrue e X.env whole) (TP X pins σ Q) X.xe s
theorem PW.pt{X:Cx}{e:Expr}{t:TT}(h:PW X e t): PT X e t:=h _
def PA(X:Cx)(es:List Expr)(t:TA): Prop:=
 ∀(pos:Pos) (pins:List (Addr×Obj)) (s:Shared) (σ : St) (H:Hp) (Q:List V->Hp->Prop),Inv X pins σ H s->t σ H Q->wpAny (model X.prog X.w) X.A (spliced (backTo pos (starEach es X.env))) (AP X pins σ Q) X.xe s
def PS(X:Cx)(st:Stmt)(t:TS): Prop:=
 ∀(pins:List (Addr×Obj)) (s:Shared) (σ : St) (H:Hp) (D:Ends),Inv X pins σ H s->t D σ H->wpAny (model X.prog X.w) X.A (exec st X.env) (SP X pins D) X.xe s
def PSs(X:Cx)(st:List Stmt)(t:TS): Prop:=
 ∀(pins:List (Addr×Obj)) (s:Shared) (σ : St) (H:Hp) (D:Ends),Inv X pins σ H s->t D σ H->wpAny (model X.prog X.w) X.A (execs st X.env) (SP X pins D) X.xe s
theorem thn{α : Type}{t:Sem α}{Q Q' : α -> Shared->Prop}{M:Model}{A:Around}{E:Value->Shared->Prop}{s:Shared}(h:wpAny M A t Q E s)(hQ:∀a s,Q a s->Q' a s): wpAny M A t Q' E s:=ug h hQ fun _ _ x=>x
section
variable{X:Cx}
def q9p(i:Nat): TE:=fun σ H Q=>∃v, σ[i]? = some (some v)/\Q v H
def tC(v:V): TE:=fun _ H Q=>Q v H
theorem qsm{i:Nat}{x:Str}{pos:Pos}(hN:X.N[i]? = some x)(hv:Vis X.env.scope x)(hd:(x==("__debug__" : Str))=false:=by decide)(hcd:(x==("__classdict__" : Str))=false:=by decide): PE X (.Name x pos) (q9p i):=by
 intro pins s σ H Q I h;obtain⟨v,e,h⟩:=h;obtain⟨m,hn,hl⟩:=I.loc;obtain⟨u,r,l⟩:=hl i x v hN e hv;have fin:EP X pins σ Q u s:=⟨v,H,I,r,h⟩
 rcases l with⟨hk,hm⟩|⟨hk,c,hc,hcell⟩
 ·exact wpAny_Name (wpAny_loadName_local I.ok.kind hk hn hm fin) hd
 ·rcases hk with hk|hk
  ·exact wpAny_Name (wpAny_loadName_cell I.ok.kind hk hc hcell fin) hd
  ·exact wpAny_Name (wpAny_loadName_free I.ok.kind hk hc hcell fin hcd) hd
theorem qsn{i j pos}: PE X (.Constant (.int i) j pos) (tC (.int i)):=fun _ _ _ H _ I h=>wpAny_Constant_int ⟨.int i,H,I.tok _,⟨_,rfl⟩,h⟩
theorem qvb{b j pos}: PE X (.Constant (.bool b) j pos) (tC (.bl b)):=fun _ _ _ H _ I h=>Constant_bool ⟨.bl b,H,I,rfl,h⟩
theorem qso{j pos}: PE X (.Constant .none j pos) (tC .non):=fun _ _ _ H _ I h=>Constant_none ⟨.non,H,I,rfl,h⟩
def Gl(X:Cx)(x:Str): Prop:=X.env.kindOf x=some .globalImplicit
theorem qbs{E:Value->Shared->Prop}{pins:List (Addr×Obj)}{s:Shared}{σ : St}{H:Hp}{x:Str}{u:Value}{pos:Pos}{Q:Value->Shared->Prop}(I:Inv X pins σ H s)(hg:Gl X x)(hm:X.mg x=some u)(h:Q u s)
  (hd:(x==("__debug__" : Str))=false:=by decide):wpAny (model X.prog X.w) X.A (eval (.Name x pos) X.env) Q E s:=
 Calls.Name_function_global I.ok.kind hg (Calls.loadGlobal_global (by rw [I.ok.glob];exact I.mod.glob.keeps I.bk) hm h) hd
theorem q2y{E:Value->Shared->Prop}{pins:List (Addr×Obj)}{s:Shared}{σ : St}{H:Hp}{x:Str}{u:Value}{pos:Pos}{Q:Value->Shared->Prop}(I:Inv X pins σ H s)(hg:Gl X x)(hm:X.mg x=none)(hv:bootBuiltins x=some u)(h:Q u s)
  (hn:x≠"__name__" :=by decide) (hd:(x==("__debug__" : Str))=false:=by decide):wpAny (model X.prog X.w) X.A (eval (.Name x pos) X.env) Q E s:=by
 obtain⟨mb,h1,h2⟩:=I.mod.blt;exact Calls.Name_function_global I.ok.kind hg (Calls.loadGlobal_builtin (by rw [I.ok.glob];exact I.mod.glob.keeps I.bk) hm (by rw [I.ok.blt];exact h1.keeps I.bk) ((h2 x hn).trans hv) h) hd
theorem qqm{x:Str}{v:V}{u:Value}{pos:Pos}(hg:Gl X x)(hm:X.mg x=some u)(r:RelV v u)(hd:(x==("__debug__" : Str))=false:=by decide): PE X (.Name x pos) (tC v):=
 fun _ _ _ H _ I h=>qbs I hg hm ⟨v,H,I,r,h⟩ hd
theorem qqn{x:Str}{v:V}{u:Value}{pos:Pos}(hg:Gl X x)(hm:X.mg x=none)(hv:bootBuiltins x=some u)(r:RelV v u)(hn:x≠"__name__" :=by decide)(hd:(x==("__debug__" : Str))=false:=by decide): PE X (.Name x pos) (tC v):=
 fun _ _ _ H _ I h=>q2y I hg hm hv ⟨v,H,I,r,h⟩ hn hd
variable{a b:Expr}{ta tb:TE}{pos:Pos}
theorem qe7(b:Expr){op:CmpOp}(h:op ≠ .In)(h2:op ≠ .NotIn): behindInMarks op b=false:=by
 have e1:(op==CmpOp.In)=false:=by cases op <;> first|rfl|exact absurd rfl h
 have e2:(op==CmpOp.NotIn)=false:=by cases op <;> first|rfl|exact absurd rfl h2
 cases b <;> simp [behindInMarks,e1,e2]
variable{tA tB':TT}{rest:List Expr}
def qwr(t u:TT): TT:=fun σ H Q=>t σ H fun c H1=>if c=true then u σ H1 Q else Q false H1
def tOr(t u:TT): TT:=fun σ H Q=>t σ H fun c H1=>if c=true then Q true H1 else u σ H1 Q
def qws(t:TT): TT:=fun σ H Q=>t σ H fun c H1=>Q (!c) H1
theorem qqo(ha:PT X a tA): PW X (.BoolOp .And [a] pos) tA:=by
 intro wh pins s σ H Q I h;refine isTrue_and (thn (ha pins s σ H Q I h) fun c s1 e=>?_);cases c with
 | true=>exact isTrue_and_nil e
 | false=>exact e
theorem qsp(ha:PT X a tA): PW X (.BoolOp .Or [a] pos) tA:=by
 intro wh pins s σ H Q I h;refine isTrue_or (thn (ha pins s σ H Q I h) fun c s1 e=>?_);cases c with
 | false=>exact isTrue_or_nil e
 | true=>exact e
theorem qsq(ha:PT X a tA)(hb:PW X (.BoolOp .And (b :: rest) pos) tB'): PW X (.BoolOp .And (a :: b :: rest) pos) (qwr tA tB'):=by
 intro wh pins s σ H Q I h;refine isTrue_and (thn (ha pins s σ H _ I h) fun c s1 ⟨H1,I1,q1⟩=>?_);cases c with
 | true=>exact hb wh pins s1 σ H1 Q I1 q1
 | false=>exact⟨H1,I1,q1⟩
theorem qvc(ha:PT X a tA)(hb:PW X (.BoolOp .Or (b :: rest) pos) tB'): PW X (.BoolOp .Or (a :: b :: rest) pos) (tOr tA tB'):=by
 intro wh pins s σ H Q I h;refine isTrue_or (thn (ha pins s σ H _ I h) fun c s1 ⟨H1,I1,q1⟩=>?_);cases c with
 | true=>exact⟨H1,I1,q1⟩
 | false=>exact hb wh pins s1 σ H1 Q I1 q1
theorem qsr(ha:PT X a tA): PT X (.UnaryOp .Not a pos) (qws tA):=by
 intro pins s σ H Q I h;exact isTrue_not (ha pins s σ H (fun c H1=>Q (!c) H1) I h)
def qvd(ta tb:TE): TE:=fun σ H Q=>ta σ H fun x H1=>∃c,x=.bl c/\if c=true then tb σ H1 Q else Q (.bl false) H1
def qve(ta:TE): TE:=fun σ H Q=>ta σ H fun x H1=>∃c,x=.bl c/\Q (.bl (!c)) H1
theorem qss{op}{t:TE}(h:PE X a t): PE X (.BoolOp op [a] pos) t:=fun pins s σ H Q I hw=>BoolOp_one (h pins s σ H Q I hw)
theorem qst(ha:PE X a ta)(hb:PE X (.BoolOp .And (b :: rest) pos) tb): PE X (.BoolOp .And (a :: b :: rest) pos) (qvd ta tb):=by
 intro pins s σ H Q I h;refine BoolOp_and (thn (ha pins s σ H _ I h) fun v s1 ⟨x,H1,I1,r1,q1⟩=>?_);obtain⟨c,rfl,q1⟩:=q1;cases r1;refine g0p ?_;cases c with
 | true=>exact hb pins s1 σ H1 Q I1 q1
 | false=>exact⟨.bl false,H1,I1,rfl,q1⟩
theorem qsu(ha:PE X a ta): PE X (.UnaryOp .Not a pos) (qve ta):=by
 intro pins s σ H Q I h;refine UnaryOp_ (thn (ha pins s σ H _ I h) fun v s1 ⟨x,H1,I1,r1,q1⟩=>?_);obtain⟨c,rfl,q1⟩:=q1;cases r1;exact not_of (g0p ⟨.bl (!c),H1,I1,rfl,q1⟩)
def tIf(t:TT)(ta tb:TE): TE:=fun σ H Q=>t σ H fun c H1=>if c=true then ta σ H1 Q else tb σ H1 Q
theorem qng{c:Expr}(hc:PT X c tA)(ha:PE X a ta)(hb:PE X b tb): PE X (.IfExp c a b pos) (tIf tA ta tb):=by
 intro pins s σ H Q I h;refine wpAny_IfExp (thn (hc pins s σ H _ I h) fun d s1 ⟨H1,I1,q1⟩=>?_);cases d with
 | true=>exact ha pins s1 σ H1 Q I1 q1
 | false=>exact hb pins s1 σ H1 Q I1 q1
end
def SqL(K:PySem.W.Frag)(H:Hp)(a:Addr)(xs:List V): Prop:=
 Rd H a (.lst xs) \/
  ∃(o:Obj) (its:Array Value) (n:Nat),K.lookup a=some o/\o.cls=.type "list" /\ o.dict=none/\o.data=.seq its n/\its.size<=sizeLine/\Vals xs its.toList
def SqT(K:PySem.W.Frag)(H:Hp)(a:Addr)(xs:List V): Prop:=
 Rd H a (.tup xs) \/
  ∃(o:Obj) (its:Array Value) (n:Nat),K.lookup a=some o/\o.cls=.type "tuple" /\ o.dict=none/\o.data=.seq its n/\its.size<=sizeLine/\Vals xs its.toList
def qwt:Value->Option V
 | .none=>some .non
 | .bool b=>some (.bl b)
 | .int i _=>some (.int i)
 | .str x _=>some (.str x)
 | .bytes b _=>some (.byt b)
 | .float b _=>some (.flt b)
 | .ref a=>some (.ref a)
 | .type n=>some (.ty n)
 | _=>none
theorem RelV.abs{x:V}{u:Value}(r:RelV x u): qwt u=some x:=by
 cases x with
 | non=>cases r;rfl
 | bl _=>cases r;rfl
 | int _=>obtain⟨t,rfl⟩:=r;rfl
 | str _=>obtain⟨t,rfl⟩:=r;rfl
 | byt _=>obtain⟨t,rfl⟩:=r;rfl
 | flt _=>obtain⟨t,rfl⟩:=r;rfl
 | ref _=>cases r;rfl
 | ty _=>cases r;rfl
theorem RelV.inj{x y:V}{u:Value}(r:RelV x u)(q:RelV y u): x=y:=mq (r.abs.symm.trans q.abs)
theorem Vals.inj:∀ {xs ys:List V} {us:List Value},Vals xs us->Vals ys us->xs=ys
 | _,_,_,.nil,.nil=>rfl
 | _,_,_,.cons r t,.cons r' t'=>by rw [r.inj r',Vals.inj t t']
section
variable{X:Cx}{pins:List (Addr×Obj)}{σ : St}{H:Hp}{s:Shared}{a:Addr}{xs ys:List V}
theorem SqL.of{K:PySem.W.Frag}(h:H a=some (.lst xs)): SqL K H a xs:=.inl (.inl h)
theorem SqT.of{K:PySem.W.Frag}(h:H a=some (.tup xs)): SqT K H a xs:=.inl (.inl h)
theorem Inv.list(I:Inv X pins σ H s)(h:SqL X.K H a xs): ∃its:List Value,Vals xs its/\PlainL s.heap a its.toArray/\xs.length<=sizeLine:=by
 rcases h with h|⟨o,its,n,hk,hc,hd,hs,hz,r⟩
 ·obtain⟨z,its,n,r,e⟩:=h.ok I.hok
  exact⟨its,r,⟨_,n,e,rfl,rfl,rfl⟩,z⟩
 ·refine⟨its.toList,r,⟨o,n,I.kIn a o hk,hc,hd,by simpa using hs⟩,?_⟩
  have e:=r.length;simp only [g03] at e;omega
theorem Inv.tupleX(I:Inv X pins σ H s)(h:SqT X.K H a xs): ∃its:List Value,Vals xs its/\TupX s.heap a its.toArray/\xs.length<=sizeLine:=by
 rcases h with h|⟨o,its,n,hk,hc,hd,hs,hz,r⟩
 ·obtain⟨z,its,r,p⟩:=h.ok I.hok
  exact⟨its,r,p,z⟩
 ·refine⟨its.toList,r,⟨o,I.kIn a o hk,hc,hd,n,by simpa using hs⟩,?_⟩
  have e:=r.length;simp only [g03] at e;omega
theorem Inv.tuple(I:Inv X pins σ H s)(h:SqT X.K H a xs): ∃its:List Value,Vals xs its/\IsTup s.heap a its.toArray/\xs.length<=sizeLine:=let⟨its,r,p,z⟩:=I.tupleX h; ⟨its,r,p.up,z⟩
theorem Inv.list_inj(I:Inv X pins σ H s)(h:SqL X.K H a xs)(h':SqL X.K H a ys): xs=ys:=by
 obtain⟨its,r,⟨o,n,e,_,_,d⟩,_⟩:=I.list h;obtain⟨its',r',⟨o',n',e',_,_,d'⟩,_⟩:=I.list h';rw [e] at e';cases e';rw [d] at d';injection d' with d1 _
 have:its=its':=by simpa using nz Array.toList d1
 subst this;exact r.inj r'
theorem Inv.tuple_inj(I:Inv X pins σ H s)(h:SqT X.K H a xs)(h':SqT X.K H a ys): xs=ys:=by
 obtain⟨its,r,⟨o,e,_,n,d⟩,_⟩:=I.tuple h;obtain⟨its',r',⟨o',e',_,n',d'⟩,_⟩:=I.tuple h';rw [e] at e';cases e';rw [d] at d';injection d' with d1 _
 have:its=its':=by simpa using nz Array.toList d1
 subst this;exact r.inj r'
end
abbrev Cx.wish(X:Cx)(E:Value->Shared->Prop): Cx:={X with xe:=E}
abbrev Cx.nox(X:Cx): Cx:=X.wish fun _ _=>False
theorem Cx.Ok.wish{X:Cx}(ok:X.Ok)(E:Value->Shared->Prop): (X.wish E).Ok:=
 ⟨ok.mod,ok.kind,ok.glob,ok.blt,ok.above,ok.inj,ok.has,ok.cab,ok.hd,ok.frames,ok.stk,ok.exf,ok.bs,ok.bsz,ok.noex,ok.exfs,ok.funs,ok.frf⟩
theorem Cx.Ok.unwish{X:Cx}{E:Value->Shared->Prop}(ok:(X.wish E).Ok): X.Ok:=
 ⟨ok.mod,ok.kind,ok.glob,ok.blt,ok.above,ok.inj,ok.has,ok.cab,ok.hd,ok.frames,ok.stk,ok.exf,ok.bs,ok.bsz,ok.noex,ok.exfs,ok.funs,ok.frf⟩
section
variable{X:Cx}{pins:List (Addr×Obj)}{σ : St}{H:Hp}{s:Shared}{E:Value->Shared->Prop}
theorem Inv.wish(I:Inv X pins σ H s)(E:Value->Shared->Prop): Inv (X.wish E) pins σ H s:=⟨I.ok.wish E,I.os,I.bare,I.base,I.loc,I.cell,I.free,I.freeC,I.pin,I.hok,I.len⟩
theorem Inv.unwish(I:Inv (X.wish E) pins σ H s): Inv X pins σ H s:=⟨I.ok.unwish,I.os,I.bare,I.base,I.loc,I.cell,I.free,I.freeC,I.pin,I.hok,I.len⟩
theorem SP.unwish{D:Ends}{f:Flow}{s':Shared}(h:SP (X.wish E) pins D f s'): SP X pins D f s':=by
 cases f with
 | next=>obtain⟨σ',H',I,q⟩:=h;exact⟨σ',H',I.unwish,q⟩
 | brk=>obtain⟨σ',H',I,q⟩:=h;exact⟨σ',H',I.unwish,q⟩
 | cont=>obtain⟨σ',H',I,q⟩:=h;exact⟨σ',H',I.unwish,q⟩
 | ret u=>obtain⟨v, σ',H',I,r,q⟩:=h;exact⟨v, σ',H',I.unwish,r,q⟩
theorem PSs.nox{st:List Stmt}{t:TS}(h:PSs X.nox st t): PSs X st t:=fun pins s σ H D I hw=>
 ug (h pins s σ H D (I.wish _) hw) (fun _ _ q=>q.unwish) fun _ _ z=>False.elim z
end
section
variable{X:Cx}{st:Stmt}{rest:List Stmt}{t u:TS}{e:Expr}{te:TE}{pos:Pos}
def tNext:TS:=fun D σ H=>D.nx σ H
def qwu(t u:TS): TS:=fun D σ H=>t {D with nx:=u D} σ H
theorem qqp:PSs X [] tNext:=fun _ _ σ H _ I h=>g3t ⟨σ,H,I,h⟩
theorem q9q(h1:PS X st t)(h2:PSs X rest u): PSs X (st :: rest) (qwu t u):=by
 intro pins s σ H D I h;refine wpAny_execs_cons (thn (h1 pins s σ H {D with nx:=u D} I h) fun f s1 q=>?_);cases f with
 | next=>
  obtain⟨σ',H',I',q⟩:=q;exact h2 pins s1 σ' H' D I' q
 | ret v=>exact q
 | brk=>exact q
 | cont=>exact q
theorem qhm(h1:PS X st t): PSs X [st] t:=by
 intro pins s σ H D I h;refine wpAny_execs_cons (thn (h1 pins s σ H D I h) fun f s1 q=>?_);cases f with
 | next=>exact g3t q
 | ret v=>exact q
 | brk=>exact q
 | cont=>exact q
theorem Inv.quiet{pins:List (Addr×Obj)}{σ : St}{H:Hp}{s:Shared}(I:Inv X pins σ H s): interactive X.env=false:=by simp [interactive,I.ok.kind]
def qvf(te:TE): TS:=fun D σ H=>te σ H fun _ H1=>D.nx σ H1
theorem qhn(he:PE X e te)(hs:swapsWith e none pos.line X.env=pure false:=by rfl): PS X (.Expr e pos) (qvf te):=by
 intro pins s σ H D I h;exact wpAny_Expr_any (thn (he pins s σ H _ I h) fun v s1 ⟨x,H1,I1,r1,q1⟩=>⟨σ,H1,I1,q1⟩) I.quiet hs
def qwv(te:TE): TS:=fun D σ H=>te σ H D.rt
theorem qsv(he:PE X e te): PS X (.Return (some e) pos) (qwv te):=by
 intro pins s σ H D I h;exact wpAny_Return_some (thn (he pins s σ H _ I h) fun v s1 ⟨x,H1,I1,r1,q1⟩=>⟨x, σ,H1,I1,r1,q1⟩)
def qww(c:TT)(t u:TS): TS:=fun D σ H=>c σ H fun b H1=>if b=true then t D σ H1 else u D σ H1
theorem qvg{c:Expr}{a b:List Stmt}{tc:TT}(hc:PT X c tc)(ha:PSs X a t)(hb:PSs X b u): PS X (.If c a b pos) (qww tc t u):=by
 intro pins s σ H D I h;refine wpAny_If (thn (hc pins s σ H _ I h) fun d s1 ⟨H1,I1,q1⟩=>?_);cases d with
 | true=>exact ha pins s1 σ H1 D I1 q1
 | false=>exact hb pins s1 σ H1 D I1 q1
end
abbrev TG:=V->St->Hp->(St->Hp->Prop)->Prop
abbrev TGs:=List V->St->Hp->(St->Hp->Prop)->Prop
def PG(X:Cx)(target:Expr)(t:TG): Prop:=
 ∀(pins:List (Addr×Obj)) (s:Shared) (σ : St) (H:Hp) (v:V) (u:Value) (Q:St->Hp->Prop),Inv X pins σ H s->RelV v u->t v σ H Q ->
  wpAny (model X.prog X.w) X.A (assign target X.env u) (fun _ s'=>∃ σ' H',Inv X pins σ' H' s'/\Q σ' H') X.xe s
def PGs(X:Cx)(ts:List Expr)(t:TGs): Prop:=
 ∀(pins:List (Addr×Obj)) (s:Shared) (σ : St) (H:Hp) (vs:List V) (us:List Value) (Q:St->Hp->Prop),Inv X pins σ H s->Vals vs us->t vs σ H Q ->
  wpAny (model X.prog X.w) X.A (assignInOrder ((assignEach ts X.env).map (·.2)) us) (fun _ s'=>∃ σ' H',Inv X pins σ' H' s'/\Q σ' H') X.xe s
abbrev TSet:=V->V->V->Hp->(Hp->Prop)->Prop
def qsw(X:Cx)(t:TSet): Prop:=
 ∀(pins:List (Addr×Obj)) (s:Shared) (σ : St) (H:Hp) (o i v:V) (ov iv u:Value) (Q:Hp->Prop),Inv X pins σ H s->RelV o ov->RelV i iv->RelV v u->t o i v H Q ->
  wpAny (model X.prog X.w) X.A (setItem ov iv u) (fun _ s'=>∃H',Inv X pins σ H' s'/\Q H') X.xe s
section
variable{X:Cx}{pos:Pos}
def q53(i:Nat): TG:=fun v σ H Q=>Q (σ.set i (some v)) H
theorem qho{i:Nat}{x:Str}(hN:X.N.Nodup)(hi:X.N[i]? = some x)(hx:Loc X.env.scope x)(hf:X.fn x=true\/X.env.scope.names.lookup x=some .local:=by first|exact .inl rfl|exact .inr rfl|assumption): PG X (.Name x pos) (q53 i):=by
 intro pins s σ H v u Q I r h;exact wpAny_assign_Name (q9o I hN hi hx r (fun s' I'=>⟨_,H,I',h⟩) hf)
def gNil:TGs:=fun vs σ H Q=>vs=[]/\Q σ H
def qvh(t:TG)(u:TGs): TGs:=fun vs σ H Q=>∃v r,vs=v :: r/\t v σ H fun σ' H'=>u r σ' H' Q
theorem qqq:PGs X [] gNil:=by
 intro pins s σ H vs us Q I r h;obtain⟨e,h⟩:=h;subst e;cases r;exact assignInOrder_nil ⟨σ,H,I,h⟩
theorem qnh{e:Expr}{es:List Expr}{t:TG}{u:TGs}(h1:PG X e t)(h2:PGs X es u)
  (hs:(assignEach (e :: es) X.env).map (·.2)=assign e X.env :: (assignEach es X.env).map (·.2):=by rfl):PGs X (e :: es) (qvh t u):=by
 intro pins s σ H vs us Q I r h;obtain⟨v,vr,e1,h⟩:=h;subst e1;cases r with
 | cons r rr=>
  rw [hs];refine assignInOrder_cons (thn (h1 pins s σ H _ _ _ I r h) fun _ s1 ⟨σ1,H1,I1,q1⟩=>?_);exact h2 pins s1 σ1 H1 _ _ Q I1 rr q1
def qwx(K:PySem.W.Frag)(n:Nat)(t:TGs): TG:=fun v σ H Q=>∃a xs,v=.ref a/\SqT K H a xs/\xs.length=n/\t xs σ H Q
theorem qsx{es:List Expr}{k:Nat}{t:TGs}{n:Nat}(hc:X.calm=true)(h:PGs X es t)
  (hn:(assignEach es X.env).length=n:=by rfl) (hst:(assignEach es X.env).findIdx? (·.1)=none:=by rfl):PG X (.Tuple es k pos) (qwx X.K n t):=by
 intro pins s σ H v u Q I r hw;obtain⟨a,xs,e1,hq,hl,hw⟩:=hw;subst e1;cases r;obtain⟨its,rv,ht,hz⟩:=I.tuple hq;refine assign_Tuple_tuple (I.ok.hd hc) ht (by simp [hn, <- hl,rv.length]) hst fun h' hx=>?_;have I1:Inv X pins σ H {s with heap:=h'}:=I.kept (t':=s.toks) fun b o e=>hx b o (md (m4 e)) e;exact h pins _ σ H xs _ Q I1 (by simpa using rv) hw
def qsy(to ti:TE)(t:TSet): TG:=fun v σ H Q=>to σ H fun o H1=>ti σ H1 fun i H2=>t o i v H2 fun H3=>Q σ H3
theorem qsz{o i:Expr}{to ti:TE}{t:TSet}(ho:PE X o to)(hi:PE X i ti)(hs:qsw X t)
  (ha:∀v,assign (.Subscript o i pos) X.env v=(do
   let ov <- holding [v] (eval o X.env)
   let iv <- holding [v,ov] (eval i X.env)
   standAt pos
   holding [v,ov,iv] (setItem ov iv v)
   release [v,ov,iv] []):=by intro _;rfl):PG X (.Subscript o i pos) (qsy to ti t):=by
 intro pins s σ H v u Q I r h;rw [ha];refine g0 (nt (thn (ho pins s σ H _ I h) fun ov s1 ⟨x,H1,I1,r1,q1⟩=>?_));refine g0 (nt (thn (hi pins s1 σ H1 _ I1 q1) fun iv s2 ⟨y,H2,I2,r2,q2⟩=>?_));refine g0 (wpAny_standAt (g0 (nt (thn (hs pins s2 σ H2 x y v ov iv u _ I2 r1 r2 r q2) fun _ s3 ⟨H3,I3,q3⟩=>?_))));exact wpAny_release ⟨σ,H3,I3,q3⟩
def qe8(te:TE)(g:TG): TS:=fun D σ H=>te σ H fun x H1=>g x σ H1 D.nx
theorem qkv{tg e:Expr}{te:TE}{g:TG}(he:PE X e te)(hg:PG X tg g)(hs:swapsWithSole [tg] e pos.line X.env=pure false:=by rfl)(hw:swappedStores [tg] e X.env=pure none:=by rfl)
  (h1:(assignEach [tg] X.env).map (·.2)=[assign tg X.env]:=by rfl):PS X (.Assign [tg] e pos) (qe8 te g):=by
 intro pins s σ H D I h;refine wpAny_Assign_stores (thn (he pins s σ H _ I h) fun v s1 ⟨x,H1,I1,r1,q1⟩=>?_) hs hw;rw [h1];exact thn (hg pins s1 σ H1 x v _ I1 r1 q1) fun _ s2 q=>q
theorem qe9{i:Nat}{x:Str}{e:Expr}{te:TE}{pos':Pos}(hN:X.N.Nodup)(hi:X.N[i]? = some x)(hx:Loc X.env.scope x)(he:PE X e te)(hs:swapsWith e (some (.Name x pos')) pos.line X.env=pure false:=by rfl)(hf:X.fn x=true\/X.env.scope.names.lookup x=some .local:=by first|exact .inl rfl|exact .inr rfl|assumption):
  PS X (.Assign [.Name x pos'] e pos) (qe8 te (q53 i)):=by
 intro pins s σ H D I h;refine wpAny_Assign_Name (thn (he pins s σ H _ I h) fun v s1 ⟨y,H1,I1,r1,q1⟩=>?_) hs;exact q9o I1 hN hi hx r1 (fun s2 I2=>⟨_,H1,I2,q1⟩) hf
end
section
variable{X:Cx}{pos:Pos}
def qt0(c:TT)(tb:TS): TS:=fun D σ H=>∃W:Nat->St->Hp->Prop,(∃m,W m σ H)/\∀m σ H,W m σ H ->
 c σ H fun b H1=>if b=true then ∃N:St->Hp->Prop,(∀ σ' H',N σ' H'->∃m',m'<m/\W m' σ' H')/\tb {D with nx:=N,ct:=N,bk:=D.nx} σ H1 else D.nx σ H1
theorem qni{c:Expr}{body:List Stmt}{tc:TT}{tb:TS}(hp:PassesOwn (model X.prog X.w) X.A X.env X.xe)(hc:PT X c tc)(hb:PSs X body tb): PS X (.While c body [] pos) (qt0 tc tb):=by
 intro pins s σ H D I h;obtain⟨W,⟨m0,w0⟩,turn⟩:=h;refine wpAny_While (codeAny_whileLoop (fun n s'=>∃ σ' H',Inv X pins σ' H' s'/\W n σ' H') ?_ m0 ⟨σ,H,I,w0⟩)
 rintro n s1 ⟨σ1,H1,I1,w1⟩
 refine g15 hp (thn (hc pins s1 σ1 H1 _ I1 (turn n σ1 H1 w1)) fun b s2 ⟨H2,I2,q2⟩=>?_);cases b with
 | true=>
  obtain⟨N,hN,q2⟩:=q2;rw [m8 rfl];refine g15 hp (thn (hb pins s2 σ1 H2 _ I2 q2) fun f s3 q3=>?_);cases f with
  | next=>
   obtain⟨σ3,H3,I3,n3⟩:=q3;obtain⟨m',hm,w3⟩:=hN σ3 H3 n3;exact⟨m',hm, σ3,H3,I3,w3⟩
  | cont=>
   obtain⟨σ3,H3,I3,n3⟩:=q3;obtain⟨m',hm,w3⟩:=hN σ3 H3 n3;exact⟨m',hm, σ3,H3,I3,w3⟩
  | brk=>exact q3
  | ret v=>exact q3
 | false=>
  rw [ma m9];exact g3t ⟨σ1,H2,I2,q2⟩
end
structure It where
 go:Nat->Hp->Prop
 yld:Nat->Hp->V->Hp->Prop
 stop:Nat->Hp->Prop
def q17(X:Cx)(pins:List (Addr×Obj))(H:Hp)(b:Addr): Prop:=
 H b=none/\b≠X.env.locals/\b∉X.fs/\(b∈X.ex\/X.s₀.heap.objs.size<=b)/\(∀x c,X.env.cells.lookup x=some c->c≠b)/\∀p∈X.pn++pins,p.1≠b
theorem Inv.fpOk{X:Cx}{pins:List (Addr×Obj)}{σ : St}{H H':Hp}{s:Shared}{b:Addr}(I:Inv X pins σ H s)(hb:s.heap.objs.size<=b)(hn:H' b=none): q17 X pins H' b:=by
 refine⟨hn,u9 (m5 I.lt hb),I.nofs hb,.inr (mm I.sz hb),fun x c e z=>?_,fun p hp z=>?_⟩
 ·obtain⟨v,q⟩:=I.cell x c e
  exact absurd (m5 q.lt (by rw [z];exact hb)) (g0r _)
 ·exact absurd (m5 (m4 (I.pin p hp).1) (by rw [z];exact hb)) (g0r _)
structure Turn(P:Program)(w:World)(K:PySem.W.Frag)(tg:Expr)(J:It)(fp:List Addr)(it:Addr)(tn:Nat->Heap->Prop): Prop where
 mem:it∈fp
 obj:∀i h,tn i h->∀b∈fp,∃o,h.get? b=some o/\∀v,o.data ≠ .cell v
 keep:∀i h h',tn i h->(∀b∈fp,∀o,h.get? b=some o->h'.get? b=some o)->tn i h'
 item:∀(X:Cx),X.prog=P->X.w=w->X.K=K->X.calm=true->∀(i:Nat) (pins:List (Addr×Obj)) (s:Shared) (σ : St) (H:Hp) (E:Value->Shared->Prop),Inv X pins σ H s->(∀b∈fp,q17 X pins H b)->tn i s.heap->J.go i H ->
  wpAny (model P w) X.A (pyNext (.ref it)) (fun r s1=>∃u,r=some u /\
   wpAny (model P w) X.A (letOwnedTupleGo tg (.ref it) u) (fun _ s2=>∃x H',Inv X pins σ H' s2/\RelV x u/\J.yld i H x H'/\tn (i+1) s2.heap/\∀b∈fp,H' b=none) E s1) E s
 done:∀(X:Cx),X.prog=P->X.w=w->X.K=K->X.calm=true->∀(i:Nat) (pins:List (Addr×Obj)) (s:Shared) (σ : St) (H:Hp) (E:Value->Shared->Prop),Inv X pins σ H s->(∀b∈fp,q17 X pins H b)->tn i s.heap->J.stop i H ->
  wpAny (model P w) X.A (pyNext (.ref it)) (fun r s1=>r=none/\Inv X pins σ H s1) E s
 self:∀(A:Around) (i:Nat) (s:Shared) (Q:Value->Shared->Prop) (E:Value->Shared->Prop),tn i s.heap->Q (.ref it) s->wpAny (model P w) A (pyIter (.ref it)) Q E s
abbrev TI:=St->Hp->(It->Hp->Prop)->Prop
def PIE(X:Cx)(pins:List (Addr×Obj))(σ : St)(tg:Expr)(R:It->Hp->Prop)(itv:Value)(s2:Shared): Prop:=
 ∃(it:Addr) (fp:List Addr) (tn:Nat->Heap->Prop) (J:It) (H':Hp),itv=.ref it/\Inv X pins σ H' s2/\Turn X.prog X.w X.K tg J fp it tn/\tn 0 s2.heap/\(∀b∈fp,q17 X pins H' b)/\R J H'
def PI(X:Cx)(tg iter:Expr)(wi:TI): Prop:=
 ∀(pins:List (Addr×Obj)) (s:Shared) (σ : St) (H:Hp) (R:It->Hp->Prop),Inv X pins σ H s->wi σ H R ->
  wpAny (model X.prog X.w) X.A (eval iter X.env) (fun v s1=>wpAny (model X.prog X.w) X.A (pyIter v) (PIE X pins σ tg R) X.xe s1) X.xe s
theorem qdw{M:Model}{A:Around}{E:Value->Shared->Prop}{s:Shared}{tg:Expr}{it:Addr}{u:Value}{o:Obj}{n:String}{vs:Array Value}{Q:Unit->Shared->Prop}(ho:s.heap.get? it=some o)(hc:o.cls=.type n)(hd:o.data=.fields vs)
  (hn:["enumerate","zip","dict_itemiterator","dict_reverseitemiterator","odict_iterator","itertools.zip_longest","itertools.pairwise"].contains n=false) (hQ:Q () s):wpAny M A (letOwnedTupleGo tg (.ref it) u) Q E s:=by
 unfold letOwnedTupleGo;cases tg <;> first
  | exact g9 hQ
  | (cases u <;> first
    | exact g9 hQ
    | (refine g0 (wpAny_load ho ?_);rw [hc,hd];show wpAny M A (if(["enumerate","zip","dict_itemiterator","dict_reverseitemiterator","odict_iterator","itertools.zip_longest","itertools.pairwise"].contains n&&vs[0]? == some (rawInt _))=true then _ else _) Q E s;rw [ma (by intro h;rw [hn,g48] at h;cases h)];exact g9 hQ))
def Itl(K:PySem.W.Frag)(a:Addr): It:=
 ⟨fun i H=>∃xs x,SqL K H a xs/\xs[i]? = some x,fun i H x H'=>H'=H/\∀xs,SqL K H a xs->xs[i]? = some x,fun i H=>∃xs,SqL K H a xs/\xs.length<=i⟩
def Itt(K:PySem.W.Frag)(a:Addr): It:=
 ⟨fun i H=>∃xs x,SqT K H a xs/\xs[i]? = some x,fun i H x H'=>H'=H/\∀xs,SqT K H a xs->xs[i]? = some x,fun i H=>∃xs,SqT K H a xs/\xs.length<=i⟩
def Itr(lo:Int)(n:Nat): It:=⟨fun i _=>i<n,fun i H x H'=>H'=H/\x=.int (lo+i),fun i _=>n<=i⟩
theorem qkw{P:Program}{w:World}{K:PySem.W.Frag}{tg:Expr}(a it:Addr): Turn P w K tg (Itl K a) [it] it (fun i h=>h.IsListIter it a i) where
 mem:=by simp
 obj:=fun i h st b hb=>by
  have e:b=it:=by simpa using hb
  subst e;obtain⟨o,e,c,d⟩:=st;exact⟨o,e,fun v z=>by rw [d] at z;cases z⟩
 keep:=fun i h h' st k=>st.at fun o e=>k it (by simp) o e
 item:=by
  intro X hP hw hK hc i pins s σ H E I hf st hg;subst hP hw hK;obtain⟨xs,x,hq,hx⟩:=hg;obtain⟨its,rv,p,hz⟩:=I.list hq;obtain⟨u,hu,ru⟩:=rv.get hx;obtain⟨f0,f1,f2,f3,f4,f5⟩:=hf it (by simp);refine wpAny_pyNext_list_item st p.isList (x:=u) (by simpa using hu) fun h' st' sb=>?_;have I1:Inv X pins σ H {s with heap:=h'}:=I.turned (t':=s.toks) (fun b o hb e=>(sb.2 b hb).trans e) f0 f1 f3 f4 f5;obtain⟨o,e,c,d⟩:=id st';exact⟨u,rfl,qdw (s:={s with heap:=h'}) e c d (by decide) ⟨x,H,I1,ru,⟨rfl,fun ys hy=>by rw [I.list_inj hy hq];exact hx⟩,st',fun b hb=>(hf b hb).1⟩⟩
 done:=by
  intro X hP hw hK hc i pins s σ H E I hf st hg;subst hP hw hK;obtain⟨xs,hq,hx⟩:=hg;obtain⟨its,rv,p,hz⟩:=I.list hq;obtain⟨f0,f1,f2,f3,f4,f5⟩:=hf it (by simp);have hl:=rv.length;exact wpAny_pyNext_list_end (I.ok.hd hc) st p.isList (by simp;omega) fun h' eb=>⟨rfl,I.turned (t':=s.toks) (fun b o hb e=>eb b o hb e) f0 f1 f3 f4 f5⟩
 self:=fun _ _ _ _ _ st h=>wpAny_pyIter_listiter st h
theorem qik{P:Program}{w:World}{K:PySem.W.Frag}{tg:Expr}(a it:Addr): Turn P w K tg (Itt K a) [it] it (fun i h=>h.IsTupleIter it a i) where
 mem:=by simp
 obj:=fun i h st b hb=>by
  have e:b=it:=by simpa using hb
  subst e;obtain⟨o,e,c,d⟩:=st;exact⟨o,e,fun v z=>by rw [d] at z;cases z⟩
 keep:=fun i h h' st k=>st.at fun o e=>k it (by simp) o e
 item:=by
  intro X hP hw hK hc i pins s σ H E I hf st hg;subst hP hw hK;obtain⟨xs,x,hq,hx⟩:=hg;obtain⟨its,rv,p,hz⟩:=I.tuple hq;obtain⟨u,hu,ru⟩:=rv.get hx;obtain⟨f0,f1,f2,f3,f4,f5⟩:=hf it (by simp);refine wpAny_pyNext_tuple_item st (show s.heap.IsTuple a its.toArray from p) (x:=u) (by simpa using hu) fun h' st' sb=>?_;have I1:Inv X pins σ H {s with heap:=h'}:=I.turned (t':=s.toks) (fun b o hb e=>(sb.2 b hb).trans e) f0 f1 f3 f4 f5;obtain⟨o,e,c,d⟩:=id st';exact⟨u,rfl,qdw (s:={s with heap:=h'}) e c d (by decide) ⟨x,H,I1,ru,⟨rfl,fun ys hy=>by rw [I.tuple_inj hy hq];exact hx⟩,st',fun b hb=>(hf b hb).1⟩⟩
 done:=by
  intro X hP hw hK hc i pins s σ H E I hf st hg;subst hP hw hK;obtain⟨xs,hq,hx⟩:=hg;obtain⟨its,rv,p,hz⟩:=I.tuple hq;obtain⟨f0,f1,f2,f3,f4,f5⟩:=hf it (by simp);have hl:=rv.length;exact wpAny_pyNext_tuple_end (I.ok.hd hc) st (show s.heap.IsTuple a its.toArray from p) (by simp;omega) fun h' eb=>⟨rfl,I.turned (t':=s.toks) (fun b o hb e=>eb b o hb e) f0 f1 f3 f4 f5⟩
 self:=fun _ _ _ _ _ st h=>wpAny_pyIter_tupleiter st h
theorem qil{P:Program}{w:World}{K:PySem.W.Frag}{tg:Expr}(it:Addr)(lo:Int)(n:Nat): Turn P w K tg (Itr lo n) [it] it (fun i h=>IsRangeIter h it (lo+(i:Nat)*1) ((n:Int)-(i:Nat)) 1) where
 mem:=by simp
 obj:=fun i h st b hb=>by
  have e:b=it:=by simpa using hb
  subst e;exact⟨_,st,fun v z=>by
   have z':Data.fields _=Data.cell v:=z;cases z'⟩
 keep:=fun i h h' st k=>k it (by simp) _ st
 item:=by
  intro X hP hw hK hc i pins s σ H E I hf st hg;subst hP hw hK;obtain⟨f0,f1,f2,f3,f4,f5⟩:=hf it (by simp);have W:=Walks.range (prog:=X.prog) (w:=X.w) (I.ok.hd hc) it lo 1 n;refine W.item i s _ _ hg st fun v h' tk hv st' kk=>?_;obtain⟨t,rfl⟩:=hv;have I1:Inv X pins σ H {s with heap:=h',toks:=tk}:=I.turned (fun b o hb e=>kk b o (by simpa using hb) e) f0 f1 f3 f4 f5;refine⟨_,rfl,qdw (s:={s with heap:=h',toks:=tk}) (n:="range_iterator") st' rfl rfl (by decide) ⟨.int (lo+i),H,I1,⟨t,?_⟩,⟨rfl,rfl⟩,st',fun b hb=>(hf b hb).1⟩⟩;rw [Int.mul_one]
 done:=by
  intro X hP hw hK hc i pins s σ H E I hf st hg;subst hP hw hK;obtain⟨f0,f1,f2,f3,f4,f5⟩:=hf it (by simp);exact wpAny_pyNext_range_end (I.ok.hd hc) st (by have:n<=i:=hg;omega) fun h' eb=>⟨rfl,I.turned (t':=s.toks) (fun b o hb e=>eb b o hb e) f0 f1 f3 f4 f5⟩
 self:=fun _ _ _ _ _ st h=>wpAny_pyIter_rangeiter st h
section
variable{X:Cx}{tg:Expr}
theorem qea{pins:List (Addr×Obj)}{σ : St}{H:Hp}{s:Shared}{R:It->Hp->Prop}{E:Value->Shared->Prop}{lo hi:Int}{t u v:Tok}{tk:Nat}(I:Inv X pins σ H s)(h1 : -(2 ^ 62)<=lo)(h2:lo<2 ^ 62)(h3 : -(2 ^ 62)<=hi)(h4:hi<2 ^ 62)
  (q:R (Itr lo (hi-lo).toNat) H):wpAny (model X.prog X.w) X.A (pyIter (.ref s.heap.objs.size)) (PIE X pins σ tg R) E {s with heap:=s.heap.push {cls:=.type "range",data:=.fields #[.int lo t,.int hi u,.int 1 v]},toks:=tk}:=by
 refine wpAny_pyIter_range (IsRange.new ..) (small_one h1 h2 h3 h4) ?_;have I1:Inv X pins σ H {s with heap:=s.heap.push {cls:=.type "range",data:=.fields #[.int lo t,.int hi u,.int 1 v]},toks:=tk}:=I.kept fun b o e=>gc _ e;refine⟨(s.heap.push {cls:=.type "range",data:=.fields #[.int lo t,.int hi u,.int 1 v]}).objs.size,[(s.heap.push {cls:=.type "range",data:=.fields #[.int lo t,.int hi u,.int 1 v]}).objs.size],_,_,H,rfl,
  I1.kept (t':=tk) fun b o e=>gc _ e,qil _ lo (hi-lo).toNat,?_,fun b hb=>?_,q⟩
 ·have e1:lo+((0:Nat):Int)*1=lo:=by simp
  have e2:(((hi-lo).toNat:Nat):Int)-((0:Nat):Int)=Builtin.Range.rangeSize lo hi 1:=by rw [rangeSize_one];split <;> omega
  show IsRangeIter _ _ (lo+((0:Nat):Int)*1) ((((hi-lo).toNat:Nat):Int)-((0:Nat):Int)) 1;rw [e1,e2];exact gr _ rfl
 ·have e:b=(s.heap.push {cls:=.type "range",data:=.fields #[.int lo t,.int hi u,.int 1 v]}).objs.size:=by simpa using hb
  subst e;exact I1.fpOk (gw _) (I1.hok.fresh (gw _))
def qvi(ta:TA): TI:=fun σ H R=>ta σ H fun vs H1=>∃j:Int,vs=[.int j] /\ -(2 ^ 62)<=j/\j<2 ^ 62/\R (Itr 0 j.toNat) H1
def qvj(ta:TA): TI:=fun σ H R=>ta σ H fun vs H1=>∃i j:Int,vs=[.int i,.int j]/\(-(2 ^ 62)<=i/\i<2 ^ 62 /\ -(2 ^ 62)<=j/\j<2 ^ 62)/\R (Itr i (j-i).toNat) H1
theorem qkx{a:Expr}{ta:TA}{p pos:Pos}(hg:Gl X "range")(hm:X.mg "range" = none)(ha:PA X [a] ta)(hs:starEach [a] X.env=[(false,eval a X.env)]:=by rfl): PI X tg (.Call (.Name "range" p) [a] [] pos) (qvi ta):=by
 intro pins s σ H R I h;refine Call_ (q2y I hg hm boot_range (uq (thn (ha pos pins s σ H _ I h) fun us s1 ⟨vs,H1,I1,r1,q1⟩=>?_) hs rfl));obtain⟨j,e,q1,q2,q⟩:=q1;subst e;cases r1 with
 | cons r rr=>
  cases rr;obtain⟨t,rfl⟩:=r;exact call_range_1 (qea I1 (by omega) (by omega) q1 q2 (by simpa using q))
theorem qky{a b:Expr}{ta:TA}{p pos:Pos}(hg:Gl X "range")(hm:X.mg "range" = none)(ha:PA X [a,b] ta)(hs:starEach [a,b] X.env=[(false,eval a X.env),(false,eval b X.env)]:=by rfl)(hs2:starEach [b] X.env=[(false,eval b X.env)]:=by rfl):
  PI X tg (.Call (.Name "range" p) [a,b] [] pos) (qvj ta):=by
 intro pins s σ H R I h;refine Call_ (q2y I hg hm boot_range (uq (thn (ha pos pins s σ H _ I h) fun us s1 ⟨vs,H1,I1,r1,q1⟩=>?_) (by rw [hs,hs2]) (by rw [hs2];rfl)));obtain⟨i,j,e,⟨q1,q2,q3,q4⟩,q⟩:=q1;subst e;cases r1 with
 | cons r rr=>
  cases rr with
  | cons r' rr=>
   cases rr;obtain⟨t,rfl⟩:=r;obtain⟨t',rfl⟩:=r';exact call_range_2 (qea I1 q1 q2 q3 q4 q)
def qwy(wi:TI)(g:TG)(tb:TS): TS:=fun D σ H=>wi σ H fun J H1=>∃W:Nat->Nat->St->Hp->Prop,(∃m,W 0 m σ H1)/\∀i m σ H,W i m σ H ->
 (J.stop i H/\D.nx σ H)\/(J.go i H/\∃N:St->Hp->Prop,(∀ σ' H',N σ' H'->∃m',m'<m/\W (i+1) m' σ' H')/\∀x H',J.yld i H x H'->g x σ H' fun σ2 H2=>tb {D with nx:=N,ct:=N,bk:=D.nx} σ2 H2)
def q68(fp:List Addr)(h:Heap): List (Addr×Obj):=fp.filterMap fun b=>(h.get? b).map fun o=>(b,o)
theorem q3v{fp:List Addr}{h:Heap}{b:Addr}{o:Obj}(hb:b∈fp)(e:h.get? b=some o): (b,o)∈q68 fp h:=g4b.mpr ⟨b,hb,by rw [e];rfl⟩
theorem qkz{fp:List Addr}{h:Heap}{p:Addr×Obj}(hp:p∈q68 fp h): p.1∈fp/\h.get? p.1=some p.2:=by
 obtain⟨b,hb,e⟩:=g4b.mp hp;cases q:h.get? b with
 | none=>rw [q] at e;cases e
 | some o=>
  rw [q] at e;have e':(b,o)=p:=mq e;subst e';exact⟨hb,q⟩
theorem Inv.pinned{pins:List (Addr×Obj)}{σ : St}{H:Hp}{s:Shared}{fp:List Addr}(I:Inv X pins σ H s)(hf:∀b∈fp,q17 X pins H b)(ho:∀b∈fp,∃o,s.heap.get? b=some o/\∀v,o.data ≠ .cell v): Inv X (pins++q68 fp s.heap) σ H s:=
 I.pins_of fun p hp=>(u6.mp hp).elim (fun z=>I.pin p (nh _ z)) fun z=>by
  obtain⟨hb,e⟩:=qkz z;obtain⟨f0,f1,f2,_⟩:=hf p.1 hb;obtain⟨o,e',d⟩:=ho p.1 hb;rw [e] at e';cases e';exact⟨e,f0,f1,f2,d⟩
theorem Inv.unpinned{pins pl:List (Addr×Obj)}{σ : St}{H:Hp}{s:Shared}(I:Inv X (pins++pl) σ H s): Inv X pins σ H s:=I.pins_of fun p hp=>I.pin p (nh _ (g3s _ hp))
theorem ql0{iter:Expr}{body:List Stmt}{wi:TI}{g:TG}{tb:TS}{pos:Pos}(hp:PassesOwn (model X.prog X.w) X.A X.env X.xe)(hc:X.calm=true)(hi:PI X tg iter wi)(hg:PG X tg g)(hb:PSs X body tb)
  (hs:∀x,foldedSetIterable iter X.env x=pure x:=by intro _;rfl):PS X (.For tg iter body [] pos) (qwy wi g tb):=by
 intro pins s σ H D I h;refine wpAny_For (thn (hi pins s σ H _ I h) fun v s1 h1=>thn h1 fun itv s2 h2=>?_) hs;obtain⟨it,fp,tn,J,H2,e,I2,T,st2,f2,W,⟨m0,w0⟩,turn⟩:=h2;subst e
 -- what stays true of the iterator's objects through the loop
 have stat:∀ {H':Hp},(∀b∈fp,H' b=none)->∀b∈fp,q17 X pins H' b:=fun hn b hb=>⟨hn b hb,(f2 b hb).2⟩
 refine codeAny_forLoop_any (fun n s'=>∃i σ' H',Inv X pins σ' H' s'/\tn i s'.heap/\(∀b∈fp,H' b=none)/\W i n σ' H') ?_ m0 ⟨0, σ,H2,I2,st2,fun b hb=>(f2 b hb).1,w0⟩
 rintro n s3 ⟨i, σ3,H3,I3,st3,fr3,w3⟩
 rcases turn i n σ3 H3 w3 with⟨stop,qn⟩|⟨go,N,hN,step⟩
 ·refine g15 hp (thn (T.done X rfl rfl rfl hc i pins s3 σ3 H3 X.xe I3 (stat fr3) st3 stop) fun r s4 ⟨hr,I4⟩=>?_)
  subst hr;exact g3t ⟨σ3,H3,I4,qn⟩
 ·refine g15 hp (thn (T.item X rfl rfl rfl hc i pins s3 σ3 H3 X.xe I3 (stat fr3) st3 go) fun r s4 ⟨u,hr,h4⟩=>?_)
  subst hr;refine g15 hp (thn h4 fun _ s5 ⟨x,H5,I5,r5,y5,st5,fr5⟩=>?_);have I5':=I5.pinned (stat fr5) (T.obj _ _ st5);refine g15 hp (thn (hg _ s5 σ3 H5 x u _ I5' r5 (step x H5 y5)) fun _ s6 ⟨σ6,H6,I6,q6⟩=>?_);refine g15 hp (thn (hb _ s6 σ6 H6 _ I6 q6) fun f s7 q7=>?_);have again:∀ {σ7:St} {H7:Hp},Inv X (pins++q68 fp s5.heap) σ7 H7 s7->N σ7 H7->∃m,m<n/\∃i σ' H',Inv X pins σ' H' s7/\tn i s7.heap/\(∀b∈fp,H' b=none)/\W i m σ' H':=fun {σ7 H7} I7 n7=>by
   obtain⟨m',hm,w7⟩:=hN σ7 H7 n7;refine⟨m',hm,i+1, σ7,H7,I7.unpinned,T.keep _ _ _ st5 fun b hb o e=>(I7.pin (b,o) (nh _ (nh _ (q3v hb e)))).1,fun b hb=>?_,w7⟩;obtain⟨o,e,d⟩:=T.obj _ _ st5 b hb;exact(I7.pin (b,o) (nh _ (nh _ (q3v hb e)))).2.1
  cases f with
  | next=>obtain⟨σ7,H7,I7,n7⟩:=q7;exact again I7 n7
  | cont=>obtain⟨σ7,H7,I7,n7⟩:=q7;exact again I7 n7
  | brk=>obtain⟨σ7,H7,I7,q7⟩:=q7;exact⟨σ7,H7,I7.unpinned,q7⟩
  | ret v=>obtain⟨x7, σ7,H7,I7,r7,q7⟩:=q7;exact⟨x7, σ7,H7,I7.unpinned,r7,q7⟩
end
abbrev R2:=V->V->Hp->VK->Prop
def OpR(X:Cx)(f:Value->Value->Sem Value)(r:R2): Prop:=
 ∀(pins:List (Addr×Obj)) (s:Shared) (σ : St) (H:Hp) (x y:V) (v u:Value) (Q:VK),Inv X pins σ H s->RelV x v->RelV y u->r x y H Q ->
  wpAny (model X.prog X.w) X.A (f v u) (EP X pins σ Q) X.xe s
def jy(X:Cx)(f:Value)(r:List V->Hp->VK->Prop): Prop:=
 ∀(pins:List (Addr×Obj)) (s:Shared) (σ : St) (H:Hp) (xs:List V) (us:List Value) (Q:VK),Inv X pins σ H s->Vals xs us->r xs H Q ->
  wpAny (model X.prog X.w) X.A (call f us) (EP X pins σ Q) X.xe s
def qwz(X:Cx)(r:V->Hp->(Bool->Hp->Prop)->Prop): Prop:=
 ∀(pins:List (Addr×Obj)) (s:Shared) (σ : St) (H:Hp) (x:V) (v:Value) (Q:Bool->Hp->Prop),Inv X pins σ H s->RelV x v->r x H Q ->
  wpAny (model X.prog X.w) X.A (truthy v) (TP X pins σ Q) X.xe s
def tOp(r:R2)(ta tb:TE): TE:=fun σ H Q=>ta σ H fun x H1=>tb σ H1 fun y H2=>r x y H2 Q
def rI(C:Int->Int->Prop)(g:Int->Int->V): R2:=fun x y H Q=>∃i j,x=.int i/\y=.int j/\C i j/\Q (g i j) H
def rI0(g:Int->Int->V): R2:=fun x y H Q=>∃i j,x=.int i/\y=.int j/\Q (g i j) H
section
variable{X:Cx}{a b c:Expr}{ta tb tc:TE}{pos:Pos}
theorem qnj(ha:PE X a ta)(hb:PE X b tb){pins:List (Addr×Obj)}{s:Shared}{σ : St}{H:Hp}{R:V->V->Hp->Prop}(I:Inv X pins σ H s)
  (h:ta σ H fun x H1=>tb σ H1 fun y H2=>R x y H2) {Q:Value->Shared->Prop} {f:Value->Value->Sem Value}
  (hf:∀v u s2 x y H2,Inv X pins σ H2 s2->RelV x v->RelV y u->R x y H2->wpAny (model X.prog X.w) X.A (f v u) Q X.xe s2) :
  wpAny (model X.prog X.w) X.A (eval a X.env) (fun v s₁=>wpAny (model X.prog X.w) X.A (eval b X.env) (fun u s₂=>wpAny (model X.prog X.w) X.A (f v u) Q X.xe s₂) X.xe s₁) X.xe s:=by
 refine thn (ha pins s σ H _ I h) fun v s1 ⟨x,H1,I1,r1,q1⟩=>?_;refine thn (hb pins s1 σ H1 _ I1 q1) fun u s2 ⟨y,H2,I2,r2,q2⟩=>?_;exact hf v u s2 x y H2 I2 r1 r2 q2
theorem qq5{op:Operator}{r:R2}(ho:OpR X (binaryOp op) r)(ha:PE X a ta)(hb:PE X b tb): PE X (.BinOp a op b pos) (tOp r ta tb):=by
 intro pins s σ H Q I h;exact wpAny_BinOp (qnj ha hb I h fun v u s2 x y H2 I2 rx ry q=>ho pins s2 σ H2 x y v u Q I2 rx ry q)
theorem opI{f:Value->Value->Sem Value}{C:Int->Int->Prop}{g:Int->Int->Int}
  (rule:∀(i j:Int) (t u:Tok) (s:Shared) (Q:Value->Shared->Prop) (E:Value->Shared->Prop),C i j->Q (.int (g i j) s.toks) {s with toks:=s.toks+1}->wpAny (model X.prog X.w) X.A (f (.int i t) (.int j u)) Q E s) :
  OpR X f (rI C fun i j=>.int (g i j)):=by
 intro pins s σ H x y v u Q I rx ry h;obtain⟨i,j,rfl,rfl,hc,q⟩:=h;obtain⟨t,rfl⟩:=rx;obtain⟨t',rfl⟩:=ry;exact rule i j t t' s _ _ hc ⟨.int (g i j),H,I.tok _,⟨_,rfl⟩,q⟩
theorem qim{f:Value->Value->Sem Value}{g:Int->Int->Int}
  (rule:∀(i j:Int) (t u:Tok) (s:Shared) (Q:Value->Shared->Prop) (E:Value->Shared->Prop),Q (.int (g i j) s.toks) {s with toks:=s.toks+1}->wpAny (model X.prog X.w) X.A (f (.int i t) (.int j u)) Q E s) :
  OpR X f (rI0 fun i j=>.int (g i j)):=by
 intro pins s σ H x y v u Q I rx ry h;obtain⟨i,j,rfl,rfl,q⟩:=h;obtain⟨t,rfl⟩:=rx;obtain⟨t',rfl⟩:=ry;exact rule i j t t' s _ _ ⟨.int (g i j),H,I.tok _,⟨_,rfl⟩,q⟩
theorem qnk{f:Value->Value->Sem Value}{g:Int->Int->Bool}
  (rule:∀(i j:Int) (t u:Tok) (s:Shared) (Q:Value->Shared->Prop) (E:Value->Shared->Prop),Q (.bool (g i j)) s->wpAny (model X.prog X.w) X.A (f (.int i t) (.int j u)) Q E s) :
  OpR X f (rI0 fun i j=>.bl (g i j)):=by
 intro pins s σ H x y v u Q I rx ry h;obtain⟨i,j,rfl,rfl,q⟩:=h;obtain⟨t,rfl⟩:=rx;obtain⟨t',rfl⟩:=ry;exact rule i j t t' s _ _ ⟨.bl (g i j),H,I,rfl,q⟩
def qx0(i j:Int): Prop:=0<j/\j<1073741824
def qt1(i j:Int): Prop:=0<=j/\j<=1000000/\i.natAbs<2 ^ 64
def CMul(i j:Int): Prop:=(-(2 ^ 64)<i/\i<2 ^ 64)\/(-(2 ^ 64)<j/\j<2 ^ 64)
theorem CMul.ok{i j:Int}(h:CMul i j): IntMulOk i j:=by
 rcases h with⟨h1,h2⟩|⟨h1,h2⟩
 ·exact .of_left (intBits_le_64 h1 h2)
 ·exact .of_right (intBits_le_64 h1 h2)
theorem qin(k:Nat): (0:Int)<=2 ^ k:=by
 rw [two_pow_cast];exact g1l _
theorem qt2:OpR X (binaryOp .Add) (rI0 fun i j=>.int (i+j)):=qim fun _ _ _ _ _ _ _ q=>add_int q
theorem qt3:OpR X (binaryOp .Sub) (rI0 fun i j=>.int (i-j)):=qim fun _ _ _ _ _ _ _ q=>sub_int q
theorem qt4:OpR X (binaryOp .Mult) (rI CMul fun i j=>.int (i*j)):=opI fun _ _ _ _ _ _ _ hc q=>mul_int q hc.ok
theorem qqr:OpR X (binaryOp .FloorDiv) (rI qx0 fun i j=>.int (i / j)):=opI fun i j _ _ _ _ _ hc q=>by
 have h1:(0:Int)<j:=hc.1;have h2:j<1073741824:=hc.2;exact floordiv_int (by omega) (by rw [g2h i (by omega)];exact q) (.inl (PyProof.noPylong_small (by omega)))
theorem qt5:OpR X (binaryOp .Mod) (rI (fun _ j=>0<j) fun i j=>.int (i%j)):=opI fun i j _ _ _ _ _ hc q=>by
 have h1:(0:Int)<j:=hc;exact mod_int' (by omega) (by rw [Int.fmod_eq_emod_of_nonneg i (by omega)];exact q)
theorem qt6:OpR X (binaryOp .Pow) (rI qt1 fun i j=>.int (i ^ j.toNat)):=opI fun _ _ _ _ _ _ _ hc q=>pow_int_small hc.1 hc.2.1 hc.2.2 q
theorem qt7:OpR X (binaryOp .LShift) (rI qt1 fun i j=>.int (i*2 ^ j.toNat)):=opI fun _ _ _ _ _ _ _ hc q=>lshift_int_small hc.1 hc.2.1 hc.2.2 q
theorem qt8:OpR X (binaryOp .RShift) (rI (fun _ j=>0<=j) fun i j=>.int (i / 2 ^ j.toNat)):=opI fun i j _ _ _ _ _ hc q=>
 rshift_int hc (by rw [g2h i (qin _)];exact q)
theorem qt9:OpR X (binaryOp .BitAnd) (rI0 fun i j=>.int (Builtin.bitAnd i j)):=qim fun _ _ _ _ _ _ _ q=>and_int q
theorem qvk:OpR X (binaryOp .BitOr) (rI0 fun i j=>.int (Builtin.bitOr i j)):=qim fun _ _ _ _ _ _ _ q=>or_int q
end
def qbt:V->V->Bool
 | .non,.non=>true | .non,.int _=>true | .int _,.non=>true | .non,.bl _=>true | .bl _,.non=>true | .non,.str _=>true | .str _,.non=>true
 | .int _,.int _=>true | .bl _,.bl _=>true | .str _,.str _=>true | .byt _,.byt _=>true
 | .int _,.str _=>true | .str _,.int _=>true | .bl _,.str _=>true | .str _,.bl _=>true
 | _,_=>false
def rEq:R2:=fun x y H Q=>qbt x y=true/\Q (.bl (decide (x=y))) H
def rNe:R2:=fun x y H Q=>qbt x y=true/\Q (.bl (!decide (x=y))) H
theorem qhp{i j:Int}: decide (V.int i=V.int j)=(i==j):=by
 rw [p7];simp
theorem ql1{i j:Bool}: decide (V.bl i=V.bl j)=(i==j):=by
 rw [p7];simp
theorem qhq{i j:Str}: decide (V.str i=V.str j)=(i==j):=by
 rw [p7];simp
theorem qhr{i j:Array UInt8}: decide (V.byt i=V.byt j)=(i.toList==j.toList):=by
 rw [p7];cases i;cases j;simp
section
variable{X:Cx}{a b c:Expr}{ta tb tc:TE}{pos:Pos}
theorem j4{pins:List (Addr×Obj)}{σ : St}{H:Hp}{s:Shared}{Q:VK}{k k':Bool}(I:Inv X pins σ H s)(q:Q (.bl k) H)(e:k=k'): EP X pins σ Q (.bool k') s:=by
 subst e;exact⟨.bl k,H,I,rfl,q⟩
theorem qvl:OpR X (compareOp .Eq) rEq:=by
 intro pins s σ H x y v u Q I rx ry h;obtain⟨hs,q⟩:=h;cases x with
 | non=>
  cases rx;cases y with
  | non=>cases ry;exact PySem.EqNone.eq_none_none (j4 I q (by simp))
  | bl j=>cases ry;exact PySem.EqNone.eq_none_bool (j4 I q (by simp))
  | int j=>obtain⟨t',rfl⟩:=ry;exact PySem.EqNone.eq_none_int (j4 I q (by simp))
  | str j=>obtain⟨t',rfl⟩:=ry;exact PySem.EqNone.eq_none_str (j4 I q (by simp))
  | _=>exact absurd (show false=true from hs) m9
 | bl i=>
  cases rx;cases y with
  | non=>cases ry;exact PySem.EqNone.eq_bool_none (j4 I q (by simp))
  | bl j=>cases ry;exact eq_bool (j4 I q ql1)
  | str j=>obtain⟨t',rfl⟩:=ry;exact PySem.EqMixed.eq_bool_str (j4 I q (by simp))
  | _=>exact absurd (show false=true from hs) m9
 | int i=>
  obtain⟨t,rfl⟩:=rx;cases y with
  | non=>cases ry;exact PySem.EqNone.eq_int_none (j4 I q (by simp))
  | int j=>obtain⟨t',rfl⟩:=ry;exact eq_int (j4 I q qhp)
  | str j=>obtain⟨t',rfl⟩:=ry;exact PySem.EqMixed.eq_int_str (j4 I q (by simp))
  | _=>exact absurd (show false=true from hs) m9
 | str i=>
  obtain⟨t,rfl⟩:=rx;cases y with
  | non=>cases ry;exact PySem.EqNone.eq_str_none (j4 I q (by simp))
  | bl j=>cases ry;exact PySem.EqMixed.eq_str_bool (j4 I q (by simp))
  | int j=>obtain⟨t',rfl⟩:=ry;exact PySem.EqMixed.eq_str_int (j4 I q (by simp))
  | str j=>obtain⟨t',rfl⟩:=ry;exact eq_str (j4 I q qhq)
  | _=>exact absurd (show false=true from hs) m9
 | byt i=>
  obtain⟨t,rfl⟩:=rx;cases y with
  | byt j=>obtain⟨t',rfl⟩:=ry;exact PySem.W.eq_bytes (j4 I q qhr)
  | _=>exact absurd (show false=true from hs) m9
 | _=>cases y <;> exact absurd (show false=true from hs) m9
theorem qvm:OpR X (compareOp .NotEq) rNe:=by
 intro pins s σ H x y v u Q I rx ry h;obtain⟨hs,q⟩:=h;cases x with
 | non=>
  cases rx;cases y with
  | non=>cases ry;exact PySem.EqNone.ne_none_none (j4 I q (by simp))
  | bl j=>cases ry;exact PySem.EqNone.ne_none_bool (j4 I q (by simp))
  | int j=>obtain⟨t',rfl⟩:=ry;exact PySem.EqNone.ne_none_int (j4 I q (by simp))
  | str j=>obtain⟨t',rfl⟩:=ry;exact PySem.EqNone.ne_none_str (j4 I q (by simp))
  | _=>exact absurd (show false=true from hs) m9
 | bl i=>
  cases rx;cases y with
  | non=>cases ry;exact PySem.EqNone.ne_bool_none (j4 I q (by simp))
  | bl j=>cases ry;exact ne_bool (j4 I q (nz not ql1))
  | str j=>obtain⟨t',rfl⟩:=ry;exact PySem.EqMixed.ne_bool_str (j4 I q (by simp))
  | _=>exact absurd (show false=true from hs) m9
 | int i=>
  obtain⟨t,rfl⟩:=rx;cases y with
  | non=>cases ry;exact PySem.EqNone.ne_int_none (j4 I q (by simp))
  | int j=>obtain⟨t',rfl⟩:=ry;exact ne_int (j4 I q (nz not qhp))
  | str j=>obtain⟨t',rfl⟩:=ry;exact PySem.EqMixed.ne_int_str (j4 I q (by simp))
  | _=>exact absurd (show false=true from hs) m9
 | str i=>
  obtain⟨t,rfl⟩:=rx;cases y with
  | non=>cases ry;exact PySem.EqNone.ne_str_none (j4 I q (by simp))
  | bl j=>cases ry;exact PySem.EqMixed.ne_str_bool (j4 I q (by simp))
  | int j=>obtain⟨t',rfl⟩:=ry;exact PySem.EqMixed.ne_str_int (j4 I q (by simp))
  | str j=>obtain⟨t',rfl⟩:=ry;exact ne_str (j4 I q (nz not qhq))
  | _=>exact absurd (show false=true from hs) m9
 | byt i=>
  obtain⟨t,rfl⟩:=rx;cases y with
  | byt j=>obtain⟨t',rfl⟩:=ry;exact PySem.W.ne_bytes (j4 I q (nz not qhr))
  | _=>exact absurd (show false=true from hs) m9
 | _=>cases y <;> exact absurd (show false=true from hs) m9
theorem qvn:OpR X (compareOp .Lt) (rI0 fun i j=>.bl (decide (i<j))):=qnk fun _ _ _ _ _ _ _ q=>lt_int q
theorem qvo:OpR X (compareOp .Gt) (rI0 fun i j=>.bl (decide (j<i))):=qnk fun _ _ _ _ _ _ _ q=>gt_int q
theorem qvp:OpR X (compareOp .GtE) (rI0 fun i j=>.bl (decide (j<=i))):=qnk fun _ _ _ _ _ _ _ q=>ge_int q
theorem qqs{op:CmpOp}{r:R2}(ho:OpR X (compareOp op) r)(ha:PE X a ta)(hb:PE X b tb)(hm:behindInMarks op b=false): PE X (.Compare a [op] [b] pos) (tOp r ta tb):=by
 intro pins s σ H Q I h;exact wpAny_Compare1 (qnj ha hb I h fun v u s2 x y H2 I2 rx ry q=>ho pins s2 σ H2 x y v u Q I2 rx ry q) hm
def qvq(t:TE): TT:=fun σ H Q=>t σ H fun x H'=>∃k,x=.bl k/\Q k H'
theorem qqt{op:CmpOp}{r:R2}(ho:OpR X (compareOp op) r)(ha:PE X a ta)(hb:PE X b tb)(hm:behindInMarks op b=false): PT X (.Compare a [op] [b] pos) (qvq (tOp r ta tb)):=by
 intro pins s σ H Q I h;refine wpAny_isTrue_Compare1 (thn (ha pins s σ H _ I h) fun v s1 ⟨x,H1,I1,r1,q1⟩=>thn (hb pins s1 σ H1 _ I1 q1) fun u s2 ⟨y,H2,I2,r2,q2⟩=>
  thn (ho pins s2 σ H2 x y v u _ I2 r1 r2 q2) fun c s3 ⟨z,H3,I3,r3,k,e,q3⟩=>?_) hm
 subst e;cases r3;exact g0p ⟨H3,I3,q3⟩
def qnl(K:PySem.W.Frag)(x:V)(H:Hp)(k:Bool): Prop:=
 match x with
 | .non=>k=false
 | .bl b=>k=b
 | .int i=>k=(i != 0)
 | .str y=>y.length<=sizeLine/\k=((y.length:Int) != 0)
 | .byt y=>y.size<=sizeLine/\k=((y.size:Int) != 0)
 | .ref p=>(∃xs,SqL K H p xs/\k = !xs.isEmpty)\/(∃xs,SqT K H p xs/\k = !xs.isEmpty)\/∃kvs,H p=some (.dK kvs)/\k = !kvs.isEmpty
 | _=>False
theorem qio{κ : Type}{kvs:List (κ × V)}{vs:List (κ × Value)}(r:KV kvs vs): (!vs.isEmpty) = !kvs.isEmpty:=by
 cases r <;> rfl
theorem qak{xs:List V}{its:List Value}(r:Vals xs its): (!its.toArray.isEmpty) = !xs.isEmpty:=by
 cases r <;> simp
theorem q7r:(sizeLine:Nat)<2 ^ 63:=by rw [g1v];decide
theorem qta:qwz X (fun x H Q=>∃k,qnl X.K x H k/\Q k H):=by
 intro pins s σ H x v Q I rx h;obtain⟨k,e,q⟩:=h;have hl:=q7r;have hs:sizeLine=16777216:=g1v;cases x with
 | non=>
  cases rx;have e':k=false:=e;subst e';exact truthy_none ⟨H,I,q⟩
 | bl b=>
  cases rx;have e':k=b:=e;subst e';exact g0p ⟨H,I,q⟩
 | int i=>
  obtain⟨t,rfl⟩:=rx;have e':k=(i != 0):=e;subst e';exact PySem.P.truthy_int ⟨H,I,q⟩
 | str y=>
  obtain⟨t,rfl⟩:=rx;obtain⟨hy,e'⟩:y.length<=sizeLine/\k=((y.length:Int) != 0):=e;subst e';exact PySem.P.truthy_str (by omega) ⟨H,I.tok _,q⟩
 | byt y=>
  obtain⟨t,rfl⟩:=rx;obtain⟨hy,e'⟩:y.size<=sizeLine/\k=((y.size:Int) != 0):=e;subst e';exact PySem.W.truthy_bytes (by omega) ⟨H,I.tok _,q⟩
 | ref p=>
  cases rx;have e':(∃xs,SqL X.K H p xs/\k = !xs.isEmpty)\/(∃xs,SqT X.K H p xs/\k = !xs.isEmpty)\/∃kvs,H p=some (.dK kvs)/\k = !kvs.isEmpty:=e;rcases e' with⟨xs,hx,e'⟩|⟨xs,hx,e'⟩|⟨kvs,hx,e'⟩
  ·subst e'
   obtain⟨its,r,pl,hz⟩:=I.list hx;have hlen:=r.length;exact wpAny_truthy_list pl.isList (by simp only [gm];omega) ⟨H,I.tok _,by rw [qak r];exact q⟩
  ·subst e'
   obtain⟨its,r,pl,hz⟩:=I.tuple hx;have hlen:=r.length;exact truthy_tuple pl (by simp only [gm];omega) ⟨H,I.tok _,by rw [qak r];exact q⟩
  ·subst e'
   obtain⟨hz,hS,vs,r,m⟩:kvs.length<=sizeLine/\(p==sysModules)=false/\∃vs,KV kvs vs/\s.heap.DictOf (mixKind X.prog X.w) p vs:=I.hok p _ hx;have hlen:kvs.length=vs.length:=g4j r;exact wpAny_truthy_dict hS m (by omega) ⟨H,I.tok _,by rw [qio r];exact q⟩
 | _=>exact(show False from e).elim
theorem qnm(ha:PE X a ta)(he:∀whole,isTrue a X.env whole=(do let v <- whole;standAt a.pos;holding [v] (truthy v))):
  PT X a (fun σ H Q=>ta σ H fun x H'=>∃k,qnl X.K x H' k/\Q k H'):=by
 intro pins s σ H Q I h;exact isTrue_plain (thn (ha pins s σ H _ I h) fun v s1 ⟨x,H1,I1,r1,q1⟩=>qta pins s1 σ H1 x v Q I1 r1 q1) (he _)
theorem vals1{x:V}{us:List Value}(r:Vals [x] us): ∃u,us=[u]/\RelV x u:=by
 cases r with
 | cons r1 r2=>cases r2;exact⟨_,rfl,r1⟩
theorem vals2{x y:V}{us:List Value}(r:Vals [x,y] us): ∃u w',us=[u,w']/\RelV x u/\RelV y w':=by
 cases r with
 | cons r1 r2=>
  cases r2 with
  | cons r3 r4=>cases r4;exact⟨_,_,rfl,r1,r3⟩
theorem ql2(hc:X.calm=true): jy X (.builtin "max") (fun xs H Q=>∃i j,xs=[.int i,.int j]/\Q (.int (if j>i then j else i)) H):=by
 intro pins s σ H xs us Q I r h;obtain⟨i,j,rfl,q⟩:=h;obtain⟨u,w',rfl,⟨t,rfl⟩,⟨t',rfl⟩⟩:=vals2 r;refine max_two_ints (I.ok.hd hc) fun h' tk k=>⟨_,H,I.kept k,?_,q⟩
 by_cases hj:j>i
 ·rw [m8 hj,m8 hj];exact⟨_,rfl⟩
 ·rw [ma hj,ma hj];exact⟨_,rfl⟩
theorem ql3:jy X (.type "int") (fun xs H Q=>(∃i,xs=[.int i]/\Q (.int i) H)\/∃k,xs=[.bl k]/\Q (.int (if k then 1 else 0)) H):=by
 intro pins s σ H xs us Q I r h;rcases h with⟨i,rfl,q⟩|⟨k,rfl,q⟩
 ·obtain⟨u,rfl,t,rfl⟩:=vals1 r
  exact call_int_int ⟨.int i,H,I,⟨_,rfl⟩,q⟩
 ·obtain⟨u,rfl,r1⟩:=vals1 r
  cases r1;exact call_int_bool ⟨.int (if k then 1 else 0),H,I.tok _,⟨_,rfl⟩,q⟩
def qx1(K:PySem.W.Frag)(x:V)(H:Hp)(n:Nat): Prop:=
 match x with
 | .str y=>y.length<=sizeLine/\n=y.length
 | .byt y=>y.size<=sizeLine/\n=y.size
 | .ref p=>(∃xs,SqL K H p xs/\n=xs.length)\/∃xs,SqT K H p xs/\n=xs.length
 | _=>False
theorem qnn:jy X (.builtin "len") (fun xs H Q=>∃x n,xs=[x]/\qx1 X.K x H n/\Q (.int n) H):=by
 intro pins s σ H xs us Q I r h;obtain⟨x,n,rfl,e,q⟩:=h;obtain⟨u,rfl,rx⟩:=vals1 r;have hl:=q7r;have hs:sizeLine=16777216:=g1v;cases x with
 | str y=>
  obtain⟨t,rfl⟩:=rx;obtain⟨hy,e'⟩:y.length<=sizeLine/\n=y.length:=e;subst e';exact len_str (by omega) ⟨.int _,H,I.tok _,⟨_,rfl⟩,q⟩
 | byt y=>
  obtain⟨t,rfl⟩:=rx;obtain⟨hy,e'⟩:y.size<=sizeLine/\n=y.size:=e;subst e';exact PySem.W.len_bytes (by omega) ⟨.int _,H,I.tok _,⟨_,rfl⟩,q⟩
 | ref p=>
  cases rx;have e':(∃xs,SqL X.K H p xs/\n=xs.length)\/∃xs,SqT X.K H p xs/\n=xs.length:=e;rcases e' with⟨xs,hx,e'⟩|⟨xs,hx,e'⟩
  ·subst e'
   obtain⟨its,r',pl,hz⟩:=I.list hx;have hlen:=r'.length;exact Calls.call_len_list pl.isList (by simp only [gm];omega) ⟨.int xs.length,H,I.tok _,⟨_,by simp only [gm];rw [hlen]⟩,q⟩
  ·subst e'
   obtain⟨its,r',pl,hz⟩:=I.tuple hx;have hlen:=r'.length;exact len_tuple pl (by simp only [gm];omega) ⟨.int xs.length,H,I.tok _,⟨_,by simp only [gm];rw [hlen]⟩,q⟩
 | _=>exact(show False from e).elim
end
structure ObjM(h:Heap)(x dx C:Addr)(mA:Str->Option Value): Prop where
 obj:h.get? x=some (PySem.W.instObj C dx)
 ns:h.Ns1 dx mA
 ne:dx≠x
theorem ql4{h:Heap}{dx:Addr}{mA:Str->Option Value}(n:h.Ns1 dx mA): ∃od,h.get? dx=some od/\∀name,PySem.W.lookIn name od=some (mA name):=by
 obtain⟨o,es,ep,ho,hd,hk,_,hm⟩:=n;refine⟨o,ho,fun name=>?_⟩;have e:=hm name;unfold nsFind findBy at e;rw [<- Array.find?_toList] at e;unfold PySem.W.lookIn;rw [hd];dsimp only
 split
 ·rename_i y q
  rw [q] at e;exact nz some e
 ·rename_i q
  rw [q] at e;have a:es.toList.any (·.refKey)=false:=by
   rw [List.any_eq_false];intro y hy;obtain⟨z,t,hkey⟩:=hk y (Array.mem_toList_iff.mp hy);simp [DictEntry.refKey,hkey]
  have a':¬es.toList.any (·.refKey)=true:=by rw [a];exact m9
  rw [ma a'];exact nz some e
theorem ObjM.look{h:Heap}{x dx C:Addr}{mA:Str->Option Value}(I:ObjM h x dx C mA): ∃od,PySem.W.InstAt h x (PySem.W.instObj C dx) C (some od)/\∀name,PySem.W.lookIn name od=some (mA name):=
 let⟨od,ho,hl⟩:=ql4 I.ns
 ⟨od,⟨I.obj,rfl,rfl,ho⟩,hl⟩
section
variable{prog:Program}{w:World}{A:Around}{E:Value->Shared->Prop}{s:Shared}{K:PySem.W.Frag}{x dx C f:Addr}{mA:Str->Option Value}{name:Str}{v:Value}
theorem qno{pl:Sem Bool}{Q:Value×List Value->Shared->Prop}(X:K.In s.heap)(I:ObjM s.heap x dx C mA)(hg:PySem.W.plainGet K C name=true)
  (hf:PySem.W.findIn K (.ref C) name=some (some (.ref f))) (ht:PySem.W.isFn K (.ref f)=true) (hv:mA name=none) (h:Q (.ref f,[.ref x]) s) :
  wpAny (model prog w) A (getMethod (.ref x) name pl) Q E s:=by
 obtain⟨od,J,hl⟩:=I.look;exact PySem.W.method_fn X J (PySem.W.plainGet_of hg).1 (PySem.W.plainGet_of hg).2 hf (g1m.mp ht) (by show(PySem.W.lookIn name od).map (·.isSome)=some false;rw [hl,hv];rfl) h
end
theorem RelO.none_of{o:Option Value}(r:RelO none o): o=none:=by
 cases o with
 | none=>rfl
 | some u=>exact(show False from r).elim
section
variable{P:Program}{w:World}{H H':Hp}{h h':Heap}{a C dx:Addr}{fs fs':List (Str×V)}
theorem qhs(hok:HOk P w H h)(e:H a=some (.ins C dx fs)): ∃mA,ObjM h a dx C mA/\(∀f,RelO (fs.lookup f) (mA f))/\PySem.Within mA (fs.map (·.1))/\fs.length<=1000/\H dx=some (.own a):=by
 obtain⟨d,z,ne,ob,mA,n,r,q⟩:=(show ObjOk P w H h a (.ins C dx fs) from hok a _ e)
 exact⟨mA,⟨ob,n,ne⟩,r,q,z,d⟩
end
structure Cls(K:PySem.W.Frag)(C:Addr): Prop where
 pg:PySem.W.plainGet K C Str.empty=true
 hd:PySem.W.hasDictIn K C=true
 po:PySem.W.plainOver K C=true
 sa:PySem.W.findIn K (.ref C) "__setattr__" = some (some (.builtin "object.__setattr__"))
theorem Cls.get{K:PySem.W.Frag}{C:Addr}(c:Cls K C)(f:Str): PySem.W.plainGet K C f=true:=c.pg
structure Meth(K:PySem.W.Frag)(C:Addr)(m:Str)(f:Addr): Prop where
 at_:PySem.W.findIn K (.ref C) m=some (some (.ref f))
 fn:PySem.W.isFn K (.ref f)=true
 kp:PySem.W.keepIn K (.ref f)=true
section
variable{X:Cx}{pins:List (Addr×Obj)}{σ : St}{H:Hp}{s:Shared}{a C dx:Addr}{fs:List (Str×V)}{f:Str}{v:V}{A:Around}{E:Value->Shared->Prop}
theorem qip{m:Str}{g:Addr}{pl:Sem Bool}{Q:Value×List Value->Shared->Prop}(I:Inv X pins σ H s)(e:H a=some (.ins C dx fs))(c:Cls X.K C)(k:Meth X.K C m g)(l:fs.lookup m=none)
  (h:Q (.ref g,[.ref a]) s):wpAny (model X.prog X.w) A (getMethod (.ref a) m pl) Q E s:=by
 obtain⟨mA,O,r,_,_,_⟩:=qhs I.hok e;have hn:mA m=none:=RelO.none_of (by rw [<- l];exact r m);exact qno I.kIn O (c.get m) k.at_ k.fn hn h
theorem Inv.made(I:Inv X pins σ H s): Inv X pins σ (upd (upd H s.heap.objs.size (.own (s.heap.objs.size+1))) (s.heap.objs.size+1) (.ins C s.heap.objs.size []))
  {s with heap:=(s.heap.push PySem.W.emptyDict).push (PySem.W.instObj C s.heap.objs.size)}:=by
 have e1:(s.heap.push PySem.W.emptyDict).get? s.heap.objs.size=some PySem.W.emptyDict:=gr s.heap rfl;have e2:((s.heap.push PySem.W.emptyDict).push (PySem.W.instObj C s.heap.objs.size)).get? (s.heap.objs.size+1)=some (PySem.W.instObj C s.heap.objs.size):=by
  have:=gr (s.heap.push PySem.W.emptyDict) (o:=PySem.W.instObj C s.heap.objs.size) rfl;rwa [t9] at this
 have e3:(s.heap.push PySem.W.emptyDict).Ns s.heap.objs.size (fun _=>none):=⟨PySem.W.emptyDict, #[],_,e1,rfl,(fun e he=>absurd he (by simp)),fun _=>rfl⟩
 have I1:=I.laid (a:=s.heap.objs.size) (o:=.own (s.heap.objs.size+1)) (h':=s.heap.push PySem.W.emptyDict) (t':=s.toks) (fun b u q=>gc _ q) (gw _) ⟨_,e1⟩;refine I1.laid (a:=s.heap.objs.size+1) (o:=.ins C s.heap.objs.size []) (t':=s.toks) (fun b u q=>gc _ q) (Nat.le_of_eq (t9 _ _)) ?_;have ne:s.heap.objs.size≠s.heap.objs.size+1:=md (ph _);refine⟨by rw [z6 ne,zg],g08 _,ne,e2,fun _=>none,(Heap.Ns1.of_empty e3).at fun o q=>gc _ q,fun _=>True.intro,fun y hy=>absurd rfl hy⟩
end
section
variable{X:Cx}{o e value:Expr}{f:Str}{pos pos' tpos:Pos}{ta tv:TE}
end
section
variable{X:Cx}{pins:List (Addr×Obj)}{σ : St}{H:Hp}{s:Shared}{A:Around}{E:Value->Shared->Prop}{Q:Value->Shared->Prop}{c:Value}{b:Bool}
end
structure Room(k:Nat)(A:Around): Prop where
 hd:A.handled=none
 dp:A.depth+3*k+5<recursionLimit
 un:A.units+16*k+200<cLine
theorem Room.mono{j k:Nat}{A:Around}(r:Room k A)(h:j<=k): Room j A:=⟨r.hd,by have:=r.dp;omega,by have:=r.un;omega⟩
theorem Room.deeper{k:Nat}{A:Around}(r:Room (k+1) A)(env:Env): Room k (A.deeper env):=
 ⟨r.hd,by have:=r.dp;show A.depth+1+3*k+5<_;omega,by have:=r.un;show A.units+3+16*k+200<_;omega⟩
theorem Room.depth{k:Nat}{A:Around}(r:Room k A): A.depth<recursionLimit:=by have:=r.dp;omega
theorem Room.units{k:Nat}{A:Around}(r:Room k A): A.units+64<cLine:=by have:=r.un;omega
def tNil:TA:=fun _ H Q=>Q [] H
def qvr(ta:TE)(tr:TA): TA:=fun σ H Q=>ta σ H fun x H1=>tr σ H1 fun xs H2=>Q (x :: xs) H2
section
variable{X:Cx}{e:Expr}{es:List Expr}{te:TE}{t:TA}{pos:Pos}
theorem q47:PA X [] tNil:=fun _ _ _ _ H Q I h=>Calls.spliced_nil ⟨[],H,I,.nil,h⟩
theorem q1e(ha:PE X e te)(hr:PA X es t)(hs:starEach (e :: es) X.env=(false,eval e X.env) :: starEach es X.env:=by rfl): PA X (e :: es) (qvr te t):=by
 intro pos pins s σ H Q I h;rw [hs];show wpAny _ _ (spliced ((false,eval e X.env) :: backTo pos (starEach es X.env))) _ _ s;refine Calls.spliced_cons (thn (ha pins s σ H _ I h) fun u s1 ⟨x,H1,I1,r1,q1⟩=>?_);exact thn (hr pos pins s1 σ H1 _ I1 q1) fun us s2 ⟨xs,H2,I2,r2,q2⟩=>⟨x :: xs,H2,I2,.cons r1 r2,q2⟩
def qx2(t:TA): TE:=fun σ H Q=>t σ H fun xs H1=>xs.length<=sizeLine/\∀p,H1 p=none->Q (.ref p) (upd H1 p (.tup xs))
def qx3(t:TA): TE:=fun σ H Q=>t σ H fun xs H1=>xs.length<=sizeLine/\∀p,H1 p=none->Q (.ref p) (upd H1 p (.lst xs))
theorem qtb{x1}(h:PA X es t): PE X (.Tuple es x1 pos) (qx2 t):=by
 intro pins s σ H Q I hq;refine wpAny_Tuple_spliced (thn (h pos pins s σ H _ I hq) fun us s1 ⟨xs,H1,I1,r,z,q⟩=>⟨by rw [<- r.length];exact z,?_⟩);have hf:H1 s1.heap.objs.size=none:=I1.hok.fresh (gw _);refine⟨.ref s1.heap.objs.size,upd H1 s1.heap.objs.size (.tup xs),I1.laid (t':=s1.toks) (fun b u e=>gc _ e) (gw _) ?_,rfl,q _ hf⟩;exact⟨z,us,r,⟨_,gr _ rfl,rfl,rfl,_,rfl⟩⟩
theorem qtc(h:PA X es t): PE X (.List es pos) (qx3 t):=by
 intro pins s σ H Q I hq;refine wpAny_List_spliced (thn (h pos pins s σ H _ I hq) fun us s1 ⟨xs,H1,I1,r,z,q⟩=>⟨by rw [<- r.length];exact z,?_⟩);have hf:H1 s1.heap.objs.size=none:=I1.hok.fresh (gw _);refine⟨.ref s1.heap.objs.size,upd H1 s1.heap.objs.size (.lst xs),I1.laid (t':=s1.toks) (fun b u e=>gc _ e) (gw _) ?_,rfl,q _ hf⟩;exact⟨z,us,0,r,gr _ rfl⟩
end
abbrev Sp:=List V->Hp->VK->XK->Prop
abbrev CXT:=List Env->Hp->Shared->XK->Value->Shared->Prop
structure Env0(P:Program)(w:World)(K:PySem.W.Frag)(mg:Str->Option Value)(base:Heap)(A:Around)(outer:List Env)(s:Shared)(H:Hp): Prop where
 frames:A.frames=some outer
 mod:Mod K mg base
 bs:∀b o,base.get? b=some o->s.heap.get? b=some o/\H b=none
 bsz:base.objs.size<=s.heap.objs.size
 funs:s.heap.FunFrames base outer
 frf:∀b∈frs outer,H b=none
 hok:HOk P w H s.heap
 bare:AllBare s.gens
def CE(outer:List Env)(P:Program)(w:World)(H:Hp)(s:Shared)(Q:VK)(u:Value)(s':Shared): Prop:=
 ∃v H',s'.os=s.os/\AllBare s'.gens/\Un (frs outer) [] H H' s.heap s'.heap/\HOk P w H' s'.heap/\RelV v u/\Q v H'
def CR(CX:CXT)(outer:List Env)(P:Program)(w:World)(H:Hp)(s:Shared)(Q:VK)(E:XK)(r:Result)(s':Shared): Prop:=
 match r with
 | .ok (.ret u)=>CE outer P w H s Q u s'
 | .ok _=>False
 | .error e=>CX outer H s E e s'
structure FnOk(P:Program)(w:World)(K:PySem.W.Frag)(mg:Str->Option Value)(base:Heap)(CX:CXT)(k:Nat)(f:Addr)(fd:FuncData)(ps:List Str)(sp:Sp): Prop where
 len:∀vs H Q E,sp vs H Q E->vs.length=ps.length
 run:∀(A:Around) (outer:List Env) (s:Shared) (H:Hp) (args:Args) (us:List Value) (vs:List V) (Q:VK) (E:XK),Room k A->Env0 P w K mg base A outer s H->BindsTo s fd args (ps.zip us)->Vals vs us->sp vs H Q E ->
  codeAny (model P w) A (.call (.ref f) args) (CR CX outer P w H s Q E) s
theorem FnOk.imp{P:Program}{w:World}{K:PySem.W.Frag}{mg:Str->Option Value}{base:Heap}{CX:CXT}{k:Nat}{f:Addr}{fd:FuncData}{ps:List Str}{sp sp':Sp}(F:FnOk P w K mg base CX k f fd ps sp)
  (h:∀vs H Q E,sp' vs H Q E->sp vs H Q E):FnOk P w K mg base CX k f fd ps sp':=
 ⟨fun vs H Q E q=>F.len vs H Q E (h _ _ _ _ q),fun A outer s H args us vs Q E hr he hb hv hs=>F.run A outer s H args us vs Q E hr he hb hv (h _ _ _ _ hs)⟩
section
variable{X:Cx}{pins:List (Addr×Obj)}{σ : St}{H:Hp}{s s':Shared}
theorem Inv.env0(I:Inv X pins σ H s): Env0 X.prog X.w X.K X.mg X.base X.A X.stack s H:=
 ⟨I.ok.frames,I.ok.mod,I.bs,mm I.ok.bsz I.sz,I.stack,I.stkFree,I.hok,I.bare⟩
theorem Inv.after{Q:VK}{u:Value}(I:Inv X pins σ H s)(h:CE X.stack X.prog X.w H s Q u s'): EP X pins σ Q u s':=by
 obtain⟨v,H',os,bare,un,hok,r,q⟩:=h;obtain⟨hh,g,d,t,os'⟩:=s';obtain rfl:os'=s.os:=os;exact⟨v,H',I.call (h':=hh) (g':=g) (d':=d) (t':=t) (ch:=[]) un hok bare (fun b z=>absurd z (by simp)),r,q⟩
end
def qvs(sp:Sp)(dvs:List V)(E:XK)(t:TA): TE:=fun σ H Q=>t σ H fun vs H1=>sp (vs++dvs) H1 Q E
def qvt(C:Addr)(m:Str)(sp:Sp)(dvs:List V)(E:XK)(ta:TE)(t:TA): TE:=fun σ H Q=>ta σ H fun x H1=>∃a dx fs,x=.ref a/\H1 a=some (.ins C dx fs)/\fs.lookup m=none /\
 t σ H1 fun vs H2=>sp (x :: (vs++dvs)) H2 Q E
def Binds(K:PySem.W.Frag)(fd:FuncData)(ps:List Str)(ds:List Value): Prop:=
 ∀(s:Shared) (us:List Value),K.In s.heap->(us++ds).length=ps.length->BindsTo s fd ⟨us,[]⟩ (ps.zip (us++ds))
def qal(CX:CXT)(X:Cx)(E:XK): Prop:=∀(pins:List (Addr×Obj)) (σ : St) (H:Hp) (s:Shared) (e:Value) (s':Shared),Inv X pins σ H s->CX X.stack H s E e s'->X.xe e s'
section
variable{X:Cx}{CX:CXT}{k:Nat}{f C:Addr}{fd:FuncData}{ps:List Str}{sp:Sp}{dvs:List V}{ds:List Value}{E:XK}{x m:Str}{p pos apos:Pos}{e o:Expr}{es:List Expr}{ta:TE}{t:TA}
theorem ql5{pins:List (Addr×Obj)}{σ : St}{H:Hp}{s:Shared}{Q:VK}{us:List Value}{vs:List V}(F:FnOk X.prog X.w X.K X.mg X.base CX k f fd ps sp)(hr:Room k X.A)(hb:Binds X.K fd ps ds)(hd:Vals dvs ds)(hx:qal CX X E)
  (I:Inv X pins σ H s) (r:Vals vs us) (h:sp (vs++dvs) H Q E):wpAny (model X.prog X.w) X.A (call (.ref f) us) (EP X pins σ Q) X.xe s:=by
 have r2:Vals (vs++dvs) (us++ds):=r.append hd;have hl:(us++ds).length=ps.length:=by rw [<- r2.length];exact F.len _ _ _ _ h
 refine g52 (g3u (F.run X.A X.stack s H ⟨us,[]⟩ (us++ds) (vs++dvs) Q E hr I.env0 (hb s us I.kIn hl) r2 h) fun r s' hq=>?_);cases r with
 | error e=>exact hx pins σ H s e s' I hq
 | ok fl=>
  cases fl with
  | ret u=>exact I.after hq
  | next=>exact False.elim hq
  | brk=>exact False.elim hq
  | cont=>exact False.elim hq
theorem qqu(F:FnOk X.prog X.w X.K X.mg X.base CX k f fd ps sp)(hr:Room k X.A)(hg:Gl X x)(hm:X.mg x=some (.ref f))(hk:PySem.W.keepIn X.K (.ref f)=true)(hb:Binds X.K fd ps ds)(hd:Vals dvs ds)(hx:qal CX X E)
  (ha:PA X (e :: es) t) (hdb:(x==("__debug__" : Str))=false:=by decide) (he:starEach (e :: es) X.env=(false,eval e X.env) :: starEach es X.env:=by rfl) (hpl:(backTo pos (starEach es X.env)).any (·.1)=false:=by rfl) :
  PE X (.Call (.Name x p) (e :: es) [] pos) (qvs sp dvs E t):=by
 intro pins s σ H Q I h;refine g2s (qbs I hg hm ?_ hdb);refine PySem.W.callWith_K (h₀:=X.base) I.ok.mod.kin hk (thn (ha pos pins s σ H _ I h) fun us s1 ⟨vs,H1,I1,r,q⟩=>⟨I1.kIn,?_⟩) he hpl;exact ql5 F hr hb hd hx I1 r q
theorem qqv{pl:Sem Bool}(he:PE X o ta)(c:Cls X.K C)(hm:Meth X.K C m f)(F:FnOk X.prog X.w X.K X.mg X.base CX k f fd ps sp)(hr:Room k X.A)(hb:Binds X.K fd ps ds)(hd:Vals dvs ds)(hx:qal CX X E)(ha:PA X (e :: es) t)
  (hst:starEach (e :: es) X.env=(false,eval e X.env) :: starEach es X.env:=by rfl) (hpl:(backTo pos (starEach es X.env)).any (·.1)=false:=by rfl)
  (ht:eval (.Call (.Attribute o m apos) (e :: es) [] pos) X.env=(do
   let ov <- eval o X.env
   standAt apos.atName
   let(f,first) <- holding [ov] (getMethod ov m pl)
   callWith pos f first (backTo pos (starEach (e :: es) X.env)) (backToKw pos (keywordEach [] X.env))):=by rfl) :
  PE X (.Call (.Attribute o m apos) (e :: es) [] pos) (qvt C m sp dvs E ta t):=by
 intro pins s σ H Q I h;refine PySem.W.methodCall_KW (pl:=pl) (thn (he pins s σ H _ I h) fun u s1 ⟨x,H1,I1,rx,a,dx,fs,ex,ea,l,q⟩=>?_) ht;subst ex;obtain rfl:u=Value.ref a:=rx;refine qip I1 ea c hm l ?_;refine PySem.W.callWith_K (first:=[.ref a]) (h₀:=X.base) I.ok.mod.kin hm.kp (thn (ha pos pins s1 σ H1 _ I1 q) fun us s2 ⟨vs,H2,I2,r,q2⟩=>⟨I2.kIn,?_⟩) hst hpl;exact ql5 (us:=.ref a :: us) (vs:=.ref a :: vs) F hr hb hd hx I2 (.cons rfl r) q2
end
section
variable{X:Cx}{CX:CXT}{k:Nat}{f C:Addr}{fd:FuncData}{ps ks:List Str}{sp:Sp}{E:XK}{x m:Str}{p pos apos kpos:Pos}{e o:Expr}{es:List Expr}{kws:List Keyword}{te ta:TE}{t tk:TA}{nm:Option Str}
variable{g:List Value->List Value->List Value}{gV:List V->List V->List V}
end
structure FnScope(N P:List Str)(sc:Scope): Prop where
 kind:sc.kind=.function
 co:sc.isCoroutine=false
 gen:sc.isGenerator=false
 nd:N.Nodup
 pre:N.take P.length=P
 par:∀x∈P,sc.names.lookup x=some .local\/sc.names.lookup x=some .cell
 nofree:∀y∈sc.names,y.2 ≠ .free
theorem qcq{kindOf:Str->Option NameKind}{x:Str}: ∀ {binds:List (Str×Value)} {m:Str->Option Value},(∀v,(x,v)∉binds)->bindL kindOf binds m x=m x
 | [],_,_=>rfl
 | (n,v) :: r,m,h=>by
  unfold bindL;rw [qcq fun w hw=>h w (gj _ hw)]
  split
  ·have:x≠n:=by rintro rfl;exact h v gi
   simp [this]
  ·rfl
theorem qcr{kindOf:Str->Option NameKind}{x:Str}: ∀ {binds:List (Str×Value)} {m:Str->Option Value},(∀v,(x,v)∉binds)->bindC kindOf binds m x=m x
 | [],_,_=>rfl
 | (n,v) :: r,m,h=>by
  unfold bindC;rw [qcr fun w hw=>h w (gj _ hw)]
  split
  ·rfl
  ·have:x≠n:=by rintro rfl;exact h v gi
   simp [this]
theorem qcs{kindOf:Str->Option NameKind}{x:Str}{v:Value}: ∀ {P:List Str} {vs:List Value} {i:Nat} {m:Str->Option Value},P.Nodup->P[i]? = some x->vs[i]? = some v->kindOf x=some .local ->
  bindL kindOf (P.zip vs) m x=some v
 | [],_,_,_,_,h,_,_=>by simp at h
 | _ :: _,[],_,_,_,_,h,_=>by simp at h
 | p :: P,w :: vs,0,m,nd,h1,h2,hk=>by
  simp at h1 h2;subst h1;subst h2;show bindL kindOf ((p,w) :: P.zip vs) m p=_;unfold bindL;rw [qcq fun v hv=>(uk.mp nd).1 (g5u hv).1,m8 hk];simp
 | p :: P,w :: vs,i+1,m,nd,h1,h2,hk=>by
  show bindL kindOf ((p,w) :: P.zip vs) m x=_;unfold bindL;exact qcs (i:=i) (uk.mp nd).2 (by simpa using h1) (by simpa using h2) hk
theorem qct{kindOf:Str->Option NameKind}{x:Str}{v:Value}: ∀ {P:List Str} {vs:List Value} {i:Nat} {m:Str->Option Value},P.Nodup->P[i]? = some x->vs[i]? = some v->kindOf x≠some .local ->
  bindC kindOf (P.zip vs) m x=some v
 | [],_,_,_,_,h,_,_=>by simp at h
 | _ :: _,[],_,_,_,_,h,_=>by simp at h
 | p :: P,w :: vs,0,m,nd,h1,h2,hk=>by
  simp at h1 h2;subst h1;subst h2;show bindC kindOf ((p,w) :: P.zip vs) m p=_;unfold bindC;rw [qcr fun v hv=>(uk.mp nd).1 (g5u hv).1,ma hk];simp
 | p :: P,w :: vs,i+1,m,nd,h1,h2,hk=>by
  show bindC kindOf ((p,w) :: P.zip vs) m x=_;unfold bindC;exact qct (i:=i) (uk.mp nd).2 (by simpa using h1) (by simpa using h2) hk
def start(N:List Str)(vs:List V): St:=vs.map some++List.replicate (N.length-vs.length) none
def zw(CX:CXT)(P:Program)(w:World)(K:PySem.W.Frag)(mg:Str->Option Value)(base:Heap)(N:List Str)(qual:Str)(scope:Scope)(f:Addr)(cd:Value)(A:Around)(outer:List Env)(s:Shared)(H:Hp)(E:XK): Cx where
 prog:=P
 w:=w
 K:=K
 mg:=mg
 base:=base
 A:=A.deeper (envOfC qual scope s.heap.objs.size f cd)
 N:=N
 s₀:=s
 H₀:=H
 env:=envOfC qual scope s.heap.objs.size f cd
 outer:=outer
 stack:=envOfC qual scope s.heap.objs.size f cd :: outer
 ex:=[]
 calm:=true
 fn:=fun _=>true
 pn:=[]
 xe:=fun e s'=>wpAny (model P w) (A.deeper (envOfC qual scope s.heap.objs.size f cd)) (leaving (envOfC qual scope s.heap.objs.size f cd) e) (fun _ s''=>CX outer H s E e s'') (fun e' s''=>CX outer H s E e' s'') s'
theorem qeb{sc:Scope}{n:Nat}{x:Str}(h:sc.names.lookup x=some .cell): ∃c,(cellsFrom n sc.names []).lookup x=some c:=by
 have q:=g61 sc.names n [] (.inl h);exact g0k.mp q
theorem ql6{CX:CXT}{P:Program}{w:World}{K:PySem.W.Frag}{mg:Str->Option Value}{base:Heap}{N ps:List Str}{qual:Str}{scope:Scope}{f:Addr}{cd:Value}{A:Around}{outer:List Env}{s s1:Shared}{H:Hp}{E:XK}{us:List Value}{vs:List V}
  (S:FnScope N ps scope) (hd:A.handled=none) (e0:Env0 P w K mg base A outer s H) (hl:vs.length=ps.length) (r:Vals vs us)
  (x:InCallC s s.heap.objs.size (bindL (envOfC qual scope s.heap.objs.size f cd).kindOf (ps.zip us) fun _=>none) (cellsFrom (s.heap.objs.size+1) scope.names []) (bindC (envOfC qual scope s.heap.objs.size f cd).kindOf (ps.zip us) fun _=>none) s1) :
  Inv (zw CX P w K mg base N qual scope f cd A outer s H E) [] (start N vs) H s1:=by
 have hpl:ps.length<=N.length:=by have:=nz List.length S.pre;rw [pj] at this;omega
 obtain⟨h1,tk,rfl,hk⟩:=x.done;have noA:∀b:Addr,b∉(zw CX P w K mg base N qual scope f cd A outer s H E).ex:=fun b z=>absurd (show b∈([]:List Addr) from z) (by simp);refine⟨⟨e0.mod,S.kind,rfl,rfl,gw _,fun y z c h1 h2=>?_,fun y hy=>?_,fun y c _ h=>?_,fun _=>hd,Around.frames_deeper e0.frames,.inr ⟨rfl,rfl⟩,fun b z=>absurd z (noA b),e0.bs,e0.bsz,fun b _ _=>noA b,fun b z=>absurd z (noA b),e0.funs,e0.frf⟩,
  rfl,e0.bare,Un.kept hk,⟨_,x.toInCall.ns,fun i y v h1 h2 h3=>?_⟩,fun y c h=>⟨_,x.cell y c h⟩,e0.hok.fresh (gw _),fun y c h=>?_,fun p hp=>absurd (show p∈([]:List (Addr×Obj)) from hp) (by simp),e0.hok.kept hk,?_⟩
 ·exact name_of_addr x.apart (g1h h1) (g1h h2)
 ·have hy:scope.names.lookup y=some .cell\/scope.names.lookup y=some .free:=hy
  rcases hy with hy|hy
  ·exact qeb hy
  ·exact absurd rfl (S.nofree _ (g1h hy))
 ·exact g11 (x.above y c (g1h h))
 ·have hi:i<vs.length:=by
   unfold start at h2
   by_cases hi:i<vs.length
   ·exact hi
   ·rw [g01 (by simpa using hi)] at h2
    rw [g0a] at h2
    split at h2 <;> cases h2
  have ha:vs[i]? = some v:=by
   unfold start at h2;rw [uf (by simpa using hi),mj] at h2;cases e:vs[i]? with
   | none=>rw [e] at h2;cases h2
   | some a=>rw [e] at h2;cases h2;rfl
  obtain⟨u,hu,rv⟩:=r.get ha;have hp:ps[i]? = some y:=by
   rw [<- S.pre,g1c (by omega)];exact h1
  have ndP:ps.Nodup:=by rw [<- S.pre];exact S.nd.sublist (List.take_sublist _ _)
  refine⟨u,rv,?_⟩;rcases S.par y (uw hp) with k|k
  ·exact .inl ⟨k,qcs ndP hp hu k⟩
  ·obtain⟨c,e⟩:=qeb (n:=s.heap.objs.size+1) k
   refine .inr ⟨.inl k,c,e,?_⟩;have q:=x.cell y c e;rw [qct ndP hp hu (by show scope.names.lookup y≠_;rw [k];decide)] at q;exact q
 ·exact e0.hok.fresh (g11 (x.above y c (g1h h)))
 ·unfold start
  show _=N.length;rw [mw,gh,g6a];omega
theorem qvu{CX:CXT}{P:Program}{w:World}{K:PySem.W.Frag}{mg:Str->Option Value}{base:Heap}{k:Nat}{f:Addr}{name qual:Str}{params:Arguments}{body:List Stmt}{scope:Scope}{dV kV doc pm cdv ct oc:Value}{an od:Option Addr}
  {osl:Array (Option Value)} {N ps:List Str} {sp:Sp} (lk:K.lookup f=some ⟨oc,od,.func (PySem.W.fnOf name qual params body scope dV kV doc pm an cdv ct),osl⟩) (hcd:PySem.W.codeIn K cdv qual=true) (S:FnScope N ps scope)
  (len:∀vs H Q E,sp vs H Q E->vs.length=ps.length)
  (hbody:∀(A:Around) (outer:List Env) (s:Shared) (H:Hp) (vs:List V) (Q:VK) (E:XK),Room k (A.deeper (envOfC qual scope s.heap.objs.size f cdv))->sp vs H Q E ->
   ∃t,PSs (zw CX P w K mg base N qual scope f cdv A outer s H E) body t/\t {nx:=fun _ H'=>Q .non H',rt:=Q} (start N vs) H) :
  FnOk P w K mg base CX (k+1) f (PySem.W.fnOf name qual params body scope dV kV doc pm an cdv ct) ps sp:=by
 refine⟨len,fun A outer s H args us vs Q E hr e0 hb r hsp=>?_⟩;have hl:=len _ _ _ _ hsp;have KX:K.In s.heap:=e0.mod.kin.keeps fun b o e=>(e0.bs b o e).1;have lim:s.heap.NoLimit:=e0.mod.nolimit.keeps fun b o e=>(e0.bs b o e).1;have hkind:∀y∈ps.zip us,scope.names.lookup y.1=some .local\/(scope.names.lookup y.1=some .cell/\((cellsFrom (s.heap.objs.size+1) scope.names []).lookup y.1).isSome=true):=fun⟨n,v⟩ hy=>by
  rcases S.par n (g5u hy).1 with q|q
  ·exact .inl q
  ·exact .inr ⟨q,g61 _ _ _ (.inl q)⟩
 refine codeAny_call_function hr.depth (KX _ _ lk) rfl S.co S.gen rfl (PySem.W.codeRec_of KX hcd) (hb _ _ _ _ ?_);refine wpAny_newFunctionEnv_cells S.kind hkind fun env he s1 x=>?_;subst he;refine⟨lim.keeps x.toInCall.keep,codeAny_func ?_⟩;obtain⟨t,ht,hq⟩:=hbody A outer s H vs Q E (hr.deeper _) hsp;have I:Inv (zw CX P w K mg base N qual scope f cdv A outer s H E) [] (start N vs) H s1:=ql6 S hr.hd e0 hl r x;refine ug (ht [] s1 (start N vs) H _ I hq) (fun fl s' hs=>?_) fun e s' hs=>hs;have fin:∀ {σ':St} {H':Hp} {v:V} {u:Value},Inv (zw CX P w K mg base N qual scope f cdv A outer s H E) [] σ' H' s'->RelV v u->Q v H'->CE outer P w H s Q u s':=
  fun {σ' H' v u} J rv q=>⟨v,H',J.os,J.bare,J.base,J.hok,rv,q⟩
 cases fl with
 | ret u=>
  obtain⟨v, σ',H',J,rv,q⟩:=hs;exact fin J rv q
 | next=>
  obtain⟨σ',H',J,q⟩:=hs;exact fin (v:=V.non) (u:=Value.none) J rfl q
 | brk=>
  obtain⟨_,_,_,q⟩:=hs;exact False.elim q
 | cont=>
  obtain⟨_,_,_,q⟩:=hs;exact False.elim q
section
variable{X:Cx}{x:Str}{p pos:Pos}{e:Expr}{es:List Expr}{t:TA}{id T:String}{r:List V->Hp->VK->Prop}
def tCB(r:List V->Hp->VK->Prop)(t:TA): TE:=fun σ H Q=>t σ H fun vs H1=>r vs H1 Q
theorem q6p(hc:jy X (.builtin id) r)(hg:Gl X x)(hm:X.mg x=none)(hv:bootBuiltins x=some (.builtin id))(ha:PA X (e :: es) t)(hn:x≠"__name__" :=by decide)(hdb:(x==("__debug__" : Str))=false:=by decide)
  (he:starEach (e :: es) X.env=(false,eval e X.env) :: starEach es X.env:=by rfl) (hpl:(backTo pos (starEach es X.env)).any (·.1)=false:=by rfl):PE X (.Call (.Name x p) (e :: es) [] pos) (tCB r t):=by
 intro pins s σ H Q I h;refine g2s (q2y I hg hm hv ?_ hn hdb);exact PyProof.Rows.callWith_builtin1 (thn (ha pos pins s σ H _ I h) fun us s1 ⟨vs,H1,I1,r1,q1⟩=>hc pins s1 σ H1 vs us Q I1 r1 q1) he hpl
theorem q7s(hc:jy X (.type T) r)(hg:Gl X x)(hm:X.mg x=none)(hv:bootBuiltins x=some (.type T))(ha:PA X (e :: es) t)(hn:x≠"__name__" :=by decide)(hdb:(x==("__debug__" : Str))=false:=by decide)
  (he:starEach (e :: es) X.env=(false,eval e X.env) :: starEach es X.env:=by rfl) (hpl:(backTo pos (starEach es X.env)).any (·.1)=false:=by rfl):PE X (.Call (.Name x p) (e :: es) [] pos) (tCB r t):=by
 intro pins s σ H Q I h;refine g2s (q2y I hg hm hv ?_ hn hdb);exact uq (thn (ha pos pins s σ H _ I h) fun us s1 ⟨vs,H1,I1,r1,q1⟩=>hc pins s1 σ H1 vs us Q I1 r1 q1) he hpl
end
end L2
namespace HT
open PySem PyProof.Rows
section
open PySem.SeqAt
open PySem.AutoSeq1 (wpAny_loadPart')
open PySem.MeetsSeq PySem.MeetsSeq2 PySem.MeetsSeq3
end
section
variable{prog:Program}{w:World}{A:Around}{E:Value->Shared->Prop}{s:Shared}
theorem cat_tup{t b:Addr}{vs ws:List Value}{Q:Value->Shared->Prop}(ht:IsTup s.heap t vs.toArray)(hb:IsTup s.heap b ws.toArray)(hv:vs≠[])
  (h1:ws=[]->Q (.ref t) s) (h2:ws≠[]->Q (.ref s.heap.objs.size) {s with heap:=s.heap.push {cls:=.type "tuple",data:=.seq (vs++ws).toArray} })
  (hsz:vs.length+ws.length<=sizeLine):wpAny (model prog w) A (binaryOp .Add (.ref t) (.ref b)) Q E s:=by
 obtain⟨⟨cls,dd,data,sl⟩,ho,hc,n,hd⟩:=id ht;obtain⟨⟨cls2,dd2,data2,sl2⟩,ho2,hc2,n2,hd2⟩:=id hb;simp only at hc hd hc2 hd2;subst hc hd hc2 hd2;have e:vs.toArray++ws.toArray=(vs++ws).toArray:=by simp
 by_cases hw:ws=[]
 ·exact g5a ⟨_,ho,rfl⟩ ⟨_,ho2,rfl⟩ g5b seq_tuple_add g3e g39 (g2t _ _)
   (tuple_addW1 t b vs.toArray ws.toArray n n2 dd dd2 sl sl2 (by simpa using hv) (by simp [hw])) ⟨ho,ho2,h1 hw⟩
 ·refine g5a ⟨_,ho,rfl⟩ ⟨_,ho2,rfl⟩ g5b seq_tuple_add g3e g39 (g2t _ _)
   (tuple_addW2 t b vs.toArray ws.toArray n n2 dd dd2 sl sl2 (by simpa using hv) (by simpa using hw) (by rw [gm,gm];exact hsz)) ⟨ho,ho2,?_⟩
  rw [e];exact h2 hw
def sIx(n d:Nat): Option Int->Nat
 | none=>d
 | some v=>if v<0 then(v+(n:Int)).toNat else min v.toNat n
theorem sIx_none(n d:Nat): sIx n d none=d:=rfl
theorem sIx_nat(n d k:Nat): sIx n d (some (k:Int))=min k n:=by
 show(if(k:Int)<0 then((k:Int)+(n:Int)).toNat else min (k:Int).toNat n)=min k n;rw [ma (by omega),nj]
theorem qtd(n d:Nat)(hd:d<=n)(o:Option Int): sIx n d o<=n:=by
 cases o with
 | none=>exact hd
 | some v=>
  show(if v<0 then(v+(n:Int)).toNat else min v.toNat n)<=n
  by_cases hv:v<0
  ·rw [m8 hv];omega
  ·rw [ma hv];exact Nat.min_le_right _ _
theorem qht(v:Int)(n d:Nat): (if v<0 then max (v+(n:Int)) 0 else min v (n:Int))=((sIx n d (some v):Nat):Int):=by
 show(if v<0 then max (v+(n:Int)) 0 else min v (n:Int))=(((if v<0 then(v+(n:Int)).toNat else min v.toNat n):Nat):Int)
 by_cases hv:v<0
 ·simp only [m8 hv];omega
 ·simp only [ma hv];omega
theorem qiq(lo hi:Option Int)(n:Nat): Builtin.Slice.sliceAdjust lo hi 1 (n:Int)=(((sIx n 0 lo:Nat):Int),((sIx n n hi:Nat):Int)):=by
 have h1:¬((1:Int)<0):=by omega
 unfold Builtin.Slice.sliceAdjust;simp only [h1,t6];refine Prod.ext ?_ ?_
 ·cases lo with
  | none=>rfl
  | some v=>exact qht v n 0
 ·cases hi with
  | none=>rfl
  | some v=>exact qht v n n
theorem qir(i j:Nat): Builtin.Slice.slicePlaces (i:Int) (j:Int) 1=j-i:=by
 unfold Builtin.Slice.slicePlaces;have h1:(1:Int)>0:=by omega
 simp only [h1,pz,Int.ediv_one]
 split <;> omega
theorem qam{v:Value}{o:Option Int}{Q:Option Int->Shared->Prop}(p:IsPart v o)(h:Q o s): wpAny (model prog w) A (Builtin.Slice.slicePartIndex v) Q E s:=by
 cases p with
 | none=>exact slicePart_none h
 | int i t=>exact slicePart_int h
theorem sliceApplied_gen{sl:Addr}{vl vu:Value}{lo hi:Option Int}{n:Nat}{Q:Int×Int×Nat->Shared->Prop}(hs:s.heap.IsSliceOf sl vl vu .none)(pl:IsPart vl lo)(pu:IsPart vu hi)
  (h:Q (((sIx n 0 lo:Nat):Int),1,sIx n n hi-sIx n 0 lo) s):wpAny (model prog w) A (Builtin.Slice.sliceApplied (.ref sl) (pure (n:Int))) Q E s:=by
 obtain⟨os,hos,hcs,hds⟩:=id hs;unfold Builtin.Slice.sliceApplied Builtin.Slice.sliceFields;refine g0 (g0 (um hos hds (x:=vl) rfl (g0 (um hos hds (x:=vu) rfl (g0 (um hos hds (x:=.none) rfl (g9 ?_)))))));refine g0 (slicePart_none ?_);show wpAny _ _ (if((1:Int)==0)=true then _ else _) _ _ s;rw [ma (by decide)];refine g0 (qam pl (g0 (qam pu (g0 (g9 ?_)))));show wpAny _ _ (match Builtin.Slice.sliceAdjust lo hi 1 (n:Int) with|(lo,hi)=>pure (lo,(1:Int),Builtin.Slice.slicePlaces lo hi 1)) _ _ s;rw [qiq lo hi n];show wpAny _ _ (pure (((sIx n 0 lo:Nat):Int),(1:Int),Builtin.Slice.slicePlaces ((sIx n 0 lo:Nat):Int) ((sIx n n hi:Nat):Int) 1)) _ _ s;rw [qir];exact g9 h
theorem qnp(xs:Array Value)(i k:Nat): ((List.range k).filterMap fun(m:Nat)=>xs[((i:Int)+(m:Int)*1).toNat]?).toArray=((xs.toList.drop i).take k).toArray:=by
 have e:(fun(m:Nat)=>xs[((i:Int)+(m:Int)*1).toNat]?)=fun m=>xs[i+m]? :=by
  funext m
  have:((i:Int)+(m:Int)*1).toNat=i+m:=by omega
  rw [this]
 rw [e];have:=pick_run xs i k;rw [g2u] at this;have e2:((fun x=>xs[x]?) ∘ fun x=>i+x)=fun m=>xs[i+m]? :=rfl;rw [e2] at this;rw [this]
theorem getItem_tuple_cut{t sl:Addr}{items:Array Value}{vl vu:Value}{lo hi:Option Int}{Q:Value->Shared->Prop}(ht:IsTup s.heap t items)(hs:s.heap.IsSliceOf sl vl vu .none)(pl:IsPart vl lo)(pu:IsPart vu hi)
  (hw:¬(sIx items.size 0 lo=0/\sIx items.size items.size hi=items.size))
  (h:Q (.ref s.heap.objs.size) {s with heap:=s.heap.push {cls:=.type "tuple",data:=.seq ((items.toList.drop (sIx items.size 0 lo)).take (sIx items.size items.size hi-sIx items.size 0 lo)).toArray} })
  (hsz:items.size<=sizeLine):wpAny (model prog w) A (getItem (.ref t) (.ref sl)) Q E s:=by
 have htake:sizeOk (.seq ((items.toList.drop (sIx items.size 0 lo)).take (sIx items.size items.size hi-sIx items.size 0 lo)).toArray):=by
  show((items.toList.drop (sIx items.size 0 lo)).take (sIx items.size items.size hi-sIx items.size 0 lo)).toArray.size<=sizeLine;rw [gm,pj,g0w,g03];omega
 have hj:sIx items.size items.size hi<=items.size:=qtd _ _ (gw _) hi;obtain⟨os,hos,hcs,hds⟩:=id hs;have hTs:s.TypeIs (.ref sl) "slice" :=⟨os,hos,hcs⟩
 unfold getItem
 try with_reducible refine nt ?_
 first|refine g0 (g9 ?_)|skip
 refine g0 (wpAny_sequenceKey ht.typeIs (by decide) ?_);refine g0 (pf (name:=Str.ofString "__getitem__") ht.typeIs tu
  (ng tu ht.typeIs entry_tuple_getitem ?_ (args_tuple_getitem _ _)))
 show wpAny _ _ (Builtin.Tuple.tupleItemsOf (.ref t) >>= _) _ _ s;refine g0 (tupleItemsOf_ ht ?_);refine g0 (g12 hTs ?_);rw [m8 (by decide)];refine g0 (sliceApplied_gen hs pl pu ?_);have hno:¬((((sIx items.size 0 lo:Nat):Int)==0&&(1:Int)==1&&(sIx items.size items.size hi-sIx items.size 0 lo)==items.size)=true):=by
  intro q;rw [mf,mf] at q;have q1:((sIx items.size 0 lo:Nat):Int)=0:=eq_of_beq q.1.1;have q2:sIx items.size items.size hi-sIx items.size 0 lo=items.size:=eq_of_beq q.2;exact hw ⟨by omega,by omega⟩
 show wpAny _ _ (if(((sIx items.size 0 lo:Nat):Int)==0&&(1:Int)==1&&(sIx items.size items.size hi-sIx items.size 0 lo)==items.size)=true then _ else _) _ _ s;rw [ma hno,qnp]
 first
  | exact g0 (m:=Builtin.Tuple.tupleExact _) (t8 (g9 ⟨_,rfl,g9 h⟩) htake)
  | exact g0 (m:=Builtin.Tuple.tupleExact _) (t8 (g0 (g9 (g9 ⟨_,rfl,g9 h⟩))) htake)
  | exact g0 (g0 (m:=Builtin.Tuple.tupleExact _) (t8 (g9 (g9 ⟨_,rfl,g9 h⟩)) htake))
  | exact g0 (g0 (m:=Builtin.Tuple.tupleExact _) (t8 (g9 ⟨_,rfl,g9 h⟩) htake))
end
end HT
namespace L2
open PySem PySem.Spec PyProof.Rows
abbrev TO:=St->Hp->(Option Int->Hp->Prop)->Prop
def PO(X:Cx)(e:Option Expr)(t:TO): Prop:=
 ∀(pins:List (Addr×Obj)) (s:Shared) (σ : St) (H:Hp) (Q:Option Int->Hp->Prop),Inv X pins σ H s->t σ H Q ->
  wpAny (model X.prog X.w) X.A (evalPart e X.env) (fun u s'=>∃o H',Inv X pins σ H' s'/\IsPart u o/\Q o H') X.xe s
def tNoPart:TO:=fun _ H Q=>Q none H
def qvv(t:TE): TO:=fun σ H Q=>t σ H fun x H1=>∃i,x=.int i/\Q (some i) H1
theorem intsAre_of{ns:List Int}: ∀ {us:List Value},Vals (ns.map V.int) us->IntsAre us ns:=by
 induction ns with
 | nil=>intro us r;rw [g0e] at r;cases r;exact .nil
 | cons n ns ih=>
  intro us r;rw [gf] at r;cases r with
  | cons r1 r2=>
   obtain⟨t,e⟩:=r1;subst e;exact .cons n t (ih r2)
section
variable{X:Cx}{e:Expr}{te:TE}{lo hi:Option Expr}{tl th:TO}{pos p2:Pos}
theorem qqw:PO X none tNoPart:=by
 intro pins s σ H Q I h;rw [evalPart_none];exact g9 ⟨none,H,I,.none,h⟩
theorem qqx(h:PE X e te): PO X (some e) (qvv te):=by
 intro pins s σ H Q I hw;rw [evalPart_some];refine thn (h pins s σ H _ I hw) fun u s1 ⟨x,H1,I1,r1,q1⟩=>?_;obtain⟨i,rfl,q⟩:=q1;obtain⟨t,rfl⟩:=r1;exact⟨some i,H1,I1,.int i t,q⟩
def SlR(X:Cx)(r:V->Option Int->Option Int->Hp->VK->Prop): Prop:=
 ∀(pins:List (Addr×Obj)) (s:Shared) (σ : St) (H:Hp) (x:V) (v vl vu:Value) (lo hi:Option Int) (sl:Addr) (Q:VK),Inv X pins σ H s->RelV x v->s.heap.IsSliceOf sl vl vu .none->IsPart vl lo->IsPart vu hi->r x lo hi H Q ->
  ∃T id,typeLookup (.type T) "__getitem__" = pure (some (.builtin id))/\s.TypeIs v T/\wpAny (model X.prog X.w) X.A (getItem v (.ref sl)) (EP X pins σ Q) X.xe s
theorem SlR.or{r r':V->Option Int->Option Int->Hp->VK->Prop}(h:SlR X r)(h':SlR X r'): SlR X (fun x lo hi H Q=>r x lo hi H Q\/r' x lo hi H Q):=by
 intro pins s σ H x v vl vu lo hi sl Q I rx hs pl pu q;rcases q with q|q
 ·exact h pins s σ H x v vl vu lo hi sl Q I rx hs pl pu q
 ·exact h' pins s σ H x v vl vu lo hi sl Q I rx hs pl pu q
def tSl(r:V->Option Int->Option Int->Hp->VK->Prop)(te:TE)(tl th:TO): TE:=fun σ H Q=>te σ H fun x H1=>tl σ H1 fun l H2=>th σ H2 fun u H3=>r x l u H3 Q
theorem qnq{r:V->Option Int->Option Int->Hp->VK->Prop}(hr:SlR X r)(he:PE X e te)(hl:PO X lo tl)(hu:PO X hi th): PE X (.Subscript e (.Slice lo hi none p2) pos) (tSl r te tl th):=by
 intro pins s σ H Q I h;refine Subscript_ (thn (he pins s σ H _ I h) fun v s1 ⟨x,H1,I1,r1,q1⟩=>?_);refine wpAny_Slice (thn (hl pins s1 σ H1 _ I1 q1) fun vl s2 ⟨l,H2,I2,pl,q2⟩=>thn (hu pins s2 σ H2 _ I2 q2) fun vu s3 ⟨u,H3,I3,pu,q3⟩=>?_);rw [evalPart_none];refine g9 ?_;have I4:Inv X pins σ H3 {s3 with heap:=s3.heap.push {cls:=.type "slice",data:=.fields #[vl,vu,.none]} }:=I3.kept (t':=s3.toks) fun b ob q=>gc _ q;obtain⟨T,id,hT,ht,hg⟩:=hr pins {s3 with heap:=s3.heap.push {cls:=.type "slice",data:=.fields #[vl,vu,.none]} } σ H3 x v vl vu l u s3.heap.objs.size Q I4 r1 (Heap.IsSliceOf.new ..) pl pu q3;show wpAny (model X.prog X.w) X.A (subscriptTail e (.Slice lo hi none p2) v (.ref s3.heap.objs.size)) (EP X pins σ Q) X.xe {s3 with heap:=s3.heap.push {cls:=.type "slice",data:=.fields #[vl,vu,.none]} };exact tail_any (ops:=[.ref s3.heap.objs.size,v]) ht hT hg (by with_unfolding_all rfl)
def q3l(xs:List V)(lo hi:Option Int): List V:=(xs.drop (HT.sIx xs.length 0 lo)).take (HT.sIx xs.length xs.length hi-HT.sIx xs.length 0 lo)
theorem q9h(xs:List V)(lo hi:Option Int): (q3l xs lo hi).length<=xs.length:=by
 unfold q3l;rw [pj,g0w];omega
def qx4(K:PySem.W.Frag): V->Option Int->Option Int->Hp->VK->Prop:=fun x lo hi H Q=>∃a xs,x=.ref a/\SqT K H a xs /\
 ¬(HT.sIx xs.length 0 lo=0/\HT.sIx xs.length xs.length hi=xs.length)/\∀p,H p=none->Q (.ref p) (upd H p (.tup (q3l xs lo hi)))
theorem sl_tup:SlR X (qx4 X.K):=by
 intro pins s σ H x v vl vu lo hi sl Q I rx hs pl pu h;obtain⟨a,xs,rfl,hx,hw,q⟩:=h;cases rx;obtain⟨its,r,ht,hz⟩:=I.tuple hx;have hlen:its.toArray.size=xs.length:=by rw [gm];exact r.length.symm
 refine⟨"tuple",_,tu.lookup,ht.typeIs,?_⟩;refine HT.getItem_tuple_cut ht hs pl pu (by rw [hlen];exact hw) ?_ (by rw [hlen];exact hz);rw [hlen];refine⟨.ref s.heap.objs.size,_,I.laid (t':=s.toks) (o:=.tup (q3l xs lo hi)) (fun b ob q=>gc _ q) (gw _) ?_,rfl,q _ (I.hok.fresh (gw _))⟩;exact⟨mm (q9h xs lo hi) hz,_,(r.drop (HT.sIx xs.length 0 lo)).take (HT.sIx xs.length xs.length hi-HT.sIx xs.length 0 lo),TupX.new _ _⟩
def qvw(K:PySem.W.Frag): R2:=fun x y H Q=>∃a b xs ys,x=.ref a/\y=.ref b/\SqT K H a xs/\SqT K H b ys/\xs≠[]/\xs.length+ys.length<=sizeLine /\
 (ys=[]->Q (.ref a) H)/\(ys≠[]->∀p,H p=none->Q (.ref p) (upd H p (.tup (xs++ys))))
theorem Vals.nil_iff{xs:List V}{us:List Value}(r:Vals xs us): us=[]↔xs=[]:=by
 cases r with
 | nil=>simp
 | cons _ _=>simp
theorem qqy:OpR X (binaryOp .Add) (qvw X.K):=by
 intro pins s σ H x y v u Q I rx ry h;obtain⟨a,b,xs,ys,rfl,rfl,ha,hb,hx,hz,q1,q2⟩:=h;cases rx;cases ry;obtain⟨its,r1,p1,_⟩:=I.tuple ha;obtain⟨its2,r2,p2,_⟩:=I.tuple hb;refine HT.cat_tup p1 p2 (fun z=>hx (r1.nil_iff.mp z)) (fun z=>⟨.ref a,H,I,rfl,q1 (r2.nil_iff.mp z)⟩) (fun z=>?_) (by rw [<- r1.length, <- r2.length];exact hz);refine⟨.ref s.heap.objs.size,_,I.laid (t':=s.toks) (o:=.tup (xs++ys)) (fun b ob q=>gc _ q) (gw _) ?_,rfl,q2 (fun w=>z (r2.nil_iff.mpr w)) _ (I.hok.fresh (gw _))⟩;exact⟨by rw [mw];exact hz,_,r1.append r2,TupX.new _ _⟩
end
def ixN(n:Nat)(i:Int): Option Nat:=if 0<=i then(if i<n then some i.toNat else none) else if -(n:Int)<=i then some (i+n).toNat else none
def atI{α : Type}(xs:List α)(i:Int): Option α :=(ixN xs.length i).bind fun j=>xs[j]?
theorem qqz{n:Nat}{i:Int}{j:Nat}(h:ixN n i=some j): seqIndex? i n=some j/\j<n /\ -(n:Int)<=i/\i<n:=by
 unfold ixN at h
 by_cases h0:0<=i
 ·rw [m8 h0] at h
  by_cases h1:i<n
  ·rw [m8 h1] at h
   have e:i.toNat=j:=mq h;exact⟨by rw [seqIndex_of h0 h1,e],by omega,by omega,h1⟩
  ·rw [ma h1] at h;cases h
 ·rw [ma h0] at h
  by_cases h1 : -(n:Int)<=i
  ·rw [m8 h1] at h
   have e:(i+n).toNat=j:=mq h;exact⟨by rw [seqIndex_neg (by omega) h1,e],by omega,h1,by omega⟩
  ·rw [ma h1] at h;cases h
theorem qbu{α : Type}{xs:List α}{i:Int}{v : α}(h:atI xs i=some v): ∃j,seqIndex? i xs.length=some j/\xs[j]? = some v/\j<xs.length /\ -(xs.length:Int)<=i/\i<xs.length:=by
 unfold atI at h;cases e:ixN xs.length i with
 | none=>rw [e] at h;cases h
 | some j=>
  rw [e] at h;obtain⟨h1,h2,h3,h4⟩:=qqz e;exact⟨j,h1,h,h2,h3,h4⟩
def qbv(b:Expr): Prop:=∀o i,subscripted b false o i=operate [o,i] (getItem o i)
def IxR(X:Cx)(r:R2): Prop:=
 ∀(value slice:Expr) (pins:List (Addr×Obj)) (s:Shared) (σ : St) (H:Hp) (x y:V) (v u:Value) (Q:VK),Inv X pins σ H s->RelV x v->RelV y u->r x y H Q ->
  subscripted slice false v u=operate [v,u] (getItem v u)->wpAny (model X.prog X.w) X.A (subscriptTail value slice v u) (EP X pins σ Q) X.xe s
def MtR(X:Cx)(id:String)(r:V->List V->Hp->VK->Prop): Prop:=
 ∀(pins:List (Addr×Obj)) (s:Shared) (σ : St) (H:Hp) (x:V) (xs:List V) (v:Value) (us:List Value) (Q:VK),Inv X pins σ H s->RelV x v->Vals xs us->r x xs H Q ->
  wpAny (model X.prog X.w) X.A (call (.builtin id) (v :: us)) (EP X pins σ Q) X.xe s
section
variable{X:Cx}{a b:Expr}{ta tb:TE}{pos:Pos}
theorem IxR.or{r r':R2}(h:IxR X r)(h':IxR X r'): IxR X (fun x y H Q=>r x y H Q\/r' x y H Q):=by
 intro value slice pins s σ H x y v u Q I rx ry q hs;rcases q with q|q
 ·exact h value slice pins s σ H x y v u Q I rx ry q hs
 ·exact h' value slice pins s σ H x y v u Q I rx ry q hs
theorem qq6{r:R2}(hr:IxR X r)(ha:PE X a ta)(hb:PE X b tb)(hs:qbv b): PE X (.Subscript a b pos) (tOp r ta tb):=by
 intro pins s σ H Q I h;exact Subscript_ (qnj ha hb I h fun v u s2 x y H2 I2 rx ry q=>hr a b pins s2 σ H2 x y v u Q I2 rx ry q (hs _ _))
def qte(K:PySem.W.Frag): R2:=fun x y H Q=>∃p xs i v,x=.ref p/\y=.int i/\SqL K H p xs/\atI xs i=some v/\Q v H
def qtf(K:PySem.W.Frag): R2:=fun x y H Q=>∃p xs i v,x=.ref p/\y=.int i/\SqT K H p xs/\atI xs i=some v/\Q v H
def rIxS:R2:=fun x y H Q=>∃z i c,x=.str z/\y=.int i/\z.length<=sizeLine/\atI z.cps.toList i=some c/\Q (.str ⟨#[c]⟩) H
theorem ix_list:IxR X (qte X.K):=by
 intro value slice pins s σ H x y v u Q I rx ry h hs;obtain⟨p,xs,i,z,rfl,rfl,hq,he,q⟩:=h;cases rx;obtain⟨t,rfl⟩:=ry;obtain⟨its,r,pl,hz⟩:=I.list hq;obtain⟨j,h1,h2,h3,h4,h5⟩:=qbu he;obtain⟨w,ew,rw'⟩:=r.get h2;have hl:=r.length;have hn:=q7r;have fin:EP X pins σ Q w s:=⟨z,H,I,rw',q⟩
 by_cases h0:0<=i
 ·have hj:i.toNat=j:=by
   rw [seqIndex_of h0 h5] at h1;exact mq h1
  exact item_listR pl.isList h0 (by omega) (by rw [hj];simpa using ew) fin hs
 ·have hj:(i+(its.toArray.size:Int)).toNat=j:=by
   rw [seqIndex_neg (by omega) h4] at h1;rw [gm, <- hl];exact mq h1
  exact subscriptTail_builtinR (x:=w) pl.isList.typeIs slot_list_getitem.lookup
   (wpAny_getItem_list_neg (Q:=fun r s'=>r=w/\EP X pins σ Q r s') pl.isList (by omega) (by rw [gm] <;> omega) (by omega) (by rw [hj];simpa using ew) ⟨rfl,fin⟩) hs
theorem ix_tup:IxR X (qtf X.K):=by
 intro value slice pins s σ H x y v u Q I rx ry h hs;obtain⟨p,xs,i,z,rfl,rfl,hq,he,q⟩:=h;cases rx;obtain⟨t,rfl⟩:=ry;obtain⟨its,r,pl,hz⟩:=I.tuple hq;obtain⟨j,h1,h2,h3,h4,h5⟩:=qbu he;obtain⟨w,ew,rw'⟩:=r.get h2;have hl:=r.length;have hn:=q7r;have fin:EP X pins σ Q w s:=⟨z,H,I,rw',q⟩
 exact subscriptTail_builtinR (x:=w) pl.typeIs slot_tuple_getitem.lookup
  (getItem_tuple (j:=j) (Q:=fun r s'=>r=w/\EP X pins σ Q r s') pl (by omega) (by omega) (by rw [gm, <- hl];exact h1) (by simpa using ew) ⟨rfl,fin⟩) hs
theorem qtg:IxR X rIxS:=by
 intro value slice pins s σ H x y v u Q I rx ry h hs;obtain⟨z,i,c,rfl,rfl,hz,he,q⟩:=h;obtain⟨t,rfl⟩:=rx;obtain⟨t',rfl⟩:=ry;obtain⟨j,h1,h2,h3,h4,h5⟩:=qbu he;have hl:z.cps.toList.length=z.length:=by simp [Str.length]
 rw [hl] at h1 h4 h5;have hn:=q7r;exact tail_any (typeIs_str s z t) slot_str_getitem.lookup (getItem_str (c:=c) (by
  have e1:decide (i < -(2 ^ 63:Int))=false:=gz (by omega);have e2:decide (i>=2 ^ 63)=false:=gz (by omega);rw [e1,e2,Bool.or_false]) (by rw [h1];simpa using h2) ⟨.str ⟨#[c]⟩,H,I.tok _,⟨_,rfl⟩,q⟩) hs
def rIx(K:PySem.W.Frag): R2:=fun x y H Q=>qte K x y H Q\/qtf K x y H Q\/rIxS x y H Q
theorem qth:IxR X (rIx X.K):=ix_list.or (ix_tup.or qtg)
theorem qec(lo hi:Option Int)(n:Nat): (sliceBounds lo hi none n).1=((HT.sIx n 0 lo:Nat):Int)/\(sliceBounds lo hi none n).2.1=((HT.sIx n n hi:Nat):Int)/\(sliceBounds lo hi none n).2.2=1:=by
 refine⟨?_,?_,rfl⟩
 ·cases lo with
  | none=>simp [sliceBounds,HT.sIx]
  | some i=>
   simp only [sliceBounds,HT.sIx,Option.getD_none,show(1:Int)>0 by decide,pz]
   by_cases h:i<0
   ·simp only [h,pz] <;> omega
   ·simp only [h,t6] <;> omega
 ·cases hi with
  | none=>simp [sliceBounds,HT.sIx]
  | some i=>
   simp only [sliceBounds,HT.sIx,Option.getD_none,show(1:Int)>0 by decide,pz]
   by_cases h:i<0
   ·simp only [h,pz] <;> omega
   ·simp only [h,t6] <;> omega
theorem qdi(its:List Value)(lo hi:Option Int): slicePick its.toArray lo hi none=((its.drop (HT.sIx its.length 0 lo)).take (HT.sIx its.length its.length hi-HT.sIx its.length 0 lo)).toArray:=by
 obtain⟨h1,h2,h3⟩:=qec lo hi its.toArray.size;unfold slicePick;rw [h1,h2,h3];simp only [sliceRange_one,pick_run,gm] <;> rfl
def qx5(K:PySem.W.Frag): V->Option Int->Option Int->Hp->VK->Prop:=fun x lo hi H Q=>∃a xs,x=.ref a/\SqL K H a xs/\∀p,H p=none->Q (.ref p) (upd H p (.lst (q3l xs lo hi)))
theorem sl_list:SlR X (qx5 X.K):=by
 intro pins s σ H x v vl vu lo hi sl Q I rx hs pl pu h;obtain⟨a,xs,rfl,hx,q⟩:=h;cases rx;obtain⟨its,r,ht,hz⟩:=I.list hx;have hlen:=r.length;refine⟨"list",_,slot_list_getitem.lookup,ht.isList.typeIs,?_⟩;refine wpAny_getItem_list_slice ht.isList hs pl pu .none (by simp) ?_ (by rw [gm] <;> omega);rw [qdi, <- hlen];refine⟨.ref s.heap.objs.size,_,I.laid (t':=s.toks) (o:=.lst (q3l xs lo hi)) (fun b ob q=>gc _ q) (gw _) ?_,rfl,q _ (I.hok.fresh (gw _))⟩;exact⟨mm (q9h xs lo hi) hz,_,0,(r.drop (HT.sIx xs.length 0 lo)).take (HT.sIx xs.length xs.length hi-HT.sIx xs.length 0 lo),gr _ rfl⟩
def q11:V->Bool
 | .non=>true
 | .bl _=>true
 | .int _=>true
 | .str _=>true
 | _=>false
def eqV:V->V->Bool
 | .non,.non=>true
 | .bl a,.bl b=>a==b
 | .bl a,.int b=>(if a then 1 else 0)==b
 | .int a,.bl b=>a==(if b then 1 else 0)
 | .int a,.int b=>a==b
 | .str a,.str b=>a==b
 | _,_=>false
theorem ql7{A:Around}{s:Shared}{y x:V}{u v:Value}(ry:RelV y u)(rx:RelV x v)(fy:q11 y=true)(fx:q11 x=true): SeqAt.EqAt A s u v (eqV y x):=by
 cases y with
 | non=>
  cases ry;cases x with
  | non=>cases rx;exact g5v _
  | bl b=>cases rx;exact SeqAt.EqAt.none_bool b
  | int b=>obtain⟨t,rfl⟩:=rx;exact SeqAt.EqAt.none_int b t
  | str b=>obtain⟨t,rfl⟩:=rx;exact SeqAt.EqAt.none_str b t
  | _=>exact absurd (show false=true from fx) m9
 | bl a=>
  cases ry;cases x with
  | non=>cases rx;exact SeqAt.EqAt.bool_none a
  | bl b=>cases rx;exact SeqAt.EqAt.bool_bool a b
  | int b=>obtain⟨t,rfl⟩:=rx;exact SeqAt.EqAt.bool_int a b t
  | str b=>obtain⟨t,rfl⟩:=rx;exact SeqAt.EqAt.bool_str a b t
  | _=>exact absurd (show false=true from fx) m9
 | int a=>
  obtain⟨t',rfl⟩:=ry;cases x with
  | non=>cases rx;exact SeqAt.EqAt.int_none a t'
  | bl b=>cases rx;exact SeqAt.EqAt.int_bool a t' b
  | int b=>obtain⟨t,rfl⟩:=rx;exact SeqAt.EqAt.int_int a t' b t
  | str b=>obtain⟨t,rfl⟩:=rx;exact SeqAt.EqAt.int_str a t' b t
  | _=>exact absurd (show false=true from fx) m9
 | str a=>
  obtain⟨t',rfl⟩:=ry;cases x with
  | non=>cases rx;exact SeqAt.EqAt.str_none a t'
  | bl b=>cases rx;exact SeqAt.EqAt.str_bool a t' b
  | int b=>obtain⟨t,rfl⟩:=rx;exact SeqAt.EqAt.str_int a t' b t
  | str b=>obtain⟨t,rfl⟩:=rx;exact SeqAt.EqAt.str_str a t' b t
  | _=>exact absurd (show false=true from fx) m9
 | _=>exact absurd (show false=true from fy) m9
def eqU(x:V)(u:Value): Bool:=match u with
 | .none=>eqV .non x
 | .bool b=>eqV (.bl b) x
 | .int i _=>eqV (.int i) x
 | .str z _=>eqV (.str z) x
 | _=>false
theorem ql8{x y:V}{u:Value}(r:RelV y u)(f:q11 y=true): eqU x u=eqV y x:=by
 cases y with
 | non=>cases r;rfl
 | bl b=>cases r;rfl
 | int i=>obtain⟨t,rfl⟩:=r;rfl
 | str z=>obtain⟨t,rfl⟩:=r;rfl
 | _=>exact absurd (show false=true from f) m9
theorem q69{x:V}: ∀ {xs:List V} {us:List Value},Vals xs us->xs.all q11=true->us.any (eqU x)=xs.any fun y=>eqV y x
 | _,_,.nil,_=>rfl
 | y :: xs,u :: us,.cons r t,f=>by
  rw [g3h,mf] at f;rw [g6j,g6j,ql8 r f.1,q69 t f.2]
theorem q48{A:Around}{s:Shared}{x:V}{v:Value}(rx:RelV x v)(fx:q11 x=true): ∀ {xs:List V} {us:List Value},Vals xs us->xs.all q11=true->∀u∈us,SeqAt.EqAt A s u v (eqU x u)
 | _,_,.nil,_=>fun u hu=>by cases hu
 | y :: xs,u :: us,.cons r t,f=>fun u' hu=>by
  rw [g3h,mf] at f;rcases mh.mp hu with rfl|hu
  ·rw [ql8 r f.1];exact ql7 r rx f.1 fx
  ·exact q48 rx fx t f.2 u' hu
def inV(x:V)(xs:List V): Bool:=xs.any fun y=>eqV y x
def rIn(K:PySem.W.Frag)(neg:Bool): R2:=fun x y H Q=>∃p xs,y=.ref p/\(SqL K H p xs\/SqT K H p xs)/\q11 x=true/\xs.all q11=true/\Q (.bl (if neg then !inV x xs else inV x xs)) H
theorem ql9:OpR X (compareOp .In) (rIn X.K false):=by
 intro pins s σ H x y v u Q I rx ry h;obtain⟨p,xs,rfl,hq,fx,fs,q⟩:=h;cases ry;rcases hq with hq|hq
 ·obtain⟨its,r,pl,hz⟩:=I.list hq
  refine SeqAt.in_listAt (eqU x) pl.isList (fun w hw=>q48 rx fx r fs w (by simpa using hw)) ⟨.bl _,H,I,rfl,?_⟩;rw [show its.toArray.any (eqU x)=its.any (eqU x) by simp,q69 r fs];exact q
 ·obtain⟨its,r,pl,hz⟩:=I.tuple hq
  refine SeqAt.in_tupleAt (eqU x) pl (fun w hw=>q48 rx fx r fs w (by simpa using hw)) ⟨.bl _,H,I,rfl,?_⟩;rw [show its.toArray.any (eqU x)=its.any (eqU x) by simp,q69 r fs];exact q
theorem qed:OpR X (compareOp .NotIn) (rIn X.K true):=by
 intro pins s σ H x y v u Q I rx ry h;obtain⟨p,xs,rfl,hq,fx,fs,q⟩:=h;cases ry;rcases hq with hq|hq
 ·obtain⟨its,r,pl,hz⟩:=I.list hq
  refine SeqAt.notIn_listAt (eqU x) pl.isList (fun w hw=>q48 rx fx r fs w (by simpa using hw)) ⟨.bl _,H,I,rfl,?_⟩;rw [show its.toArray.any (eqU x)=its.any (eqU x) by simp,q69 r fs];exact q
 ·obtain⟨its,r,pl,hz⟩:=I.tuple hq
  refine SeqAt.notIn_tupleAt (eqU x) pl (fun w hw=>q48 rx fx r fs w (by simpa using hw)) ⟨.bl _,H,I,rfl,?_⟩;rw [show its.toArray.any (eqU x)=its.any (eqU x) by simp,q69 r fs];exact q
theorem qdj:jy X (.type "tuple") (fun xs H Q=>∃p ys,xs=[.ref p]/\((SqL X.K H p ys/\∀l,H l=none->Q (.ref l) (upd H l (.tup ys)))\/(SqT X.K H p ys/\Q (.ref p) H))):=by
 intro pins s σ H xs us Q I r h;obtain⟨p,ys,rfl,h⟩:=h;obtain⟨u,rfl,rx⟩:=vals1 r;cases rx;rcases h with⟨hq,q⟩|⟨hq,q⟩
 ·obtain⟨its,r',pl,hz⟩:=I.list hq
  have hlen:=r'.length;refine call_tuple_list pl.isList (fun h' kp=>?_) (by simp only [gm] <;> omega);have I1:Inv X pins σ H {s with heap:=h'}:=I.kept (t':=s.toks) kp;have I2:Inv X pins σ (upd H h'.objs.size (.tup ys)) {s with heap:=h'.push {cls:=.type "tuple",data:=.seq its.toArray} }:=
   I1.laid (t':=s.toks) (fun b o e=>gc _ e) (gw _) (show ObjOk X.prog X.w _ _ _ (.tup ys) from⟨hz,its,r',TupX.new _ _⟩)
  exact⟨.ref h'.objs.size,_,I2,rfl,q _ (I1.hok.fresh (gw _))⟩
 ·obtain⟨its,r',pl,hz⟩:=I.tuple hq
  exact call_tuple_same pl ⟨.ref p,H,I,rfl,q⟩
def tyV(K:PySem.W.Frag)(T:String)(x:V)(H:Hp): Prop:=match x with
 | .str _=>T="str"
 | .int _=>T="int"
 | .ref p=>(T="list" /\ ∃xs,SqL K H p xs)\/(T="tuple" /\ ∃o,K.lookup p=some o/\o.cls=.type "tuple" /\ o.dict=none) \/
   (T="dict" /\ ((∃kvs,H p=some (.dK kvs))\/∃kvs,H p=some (.dT kvs)))\/(T="set" /\ ∃S n,H p=some (.set S n))
 | _=>False
theorem qti{pins:List (Addr×Obj)}{σ : St}{H:Hp}{s:Shared}{T:String}{x:V}{v:Value}(I:Inv X pins σ H s)(r:RelV x v)(ty:tyV X.K T x H):
  s.TypeIs v T/\∀a,v=.ref a->∃ob,s.heap.get? a=some ob/\ob.dict=none:=by
 cases x with
 | str z=>
  obtain⟨t,rfl⟩:=r;cases(show T="str" from ty);exact⟨typeIs_str s z t,fun _ e=>nomatch e⟩
 | int i=>
  obtain⟨t,rfl⟩:=r;cases(show T="int" from ty);exact⟨typeIs_int s i t,fun _ e=>nomatch e⟩
 | ref p=>
  cases r;rcases ty with⟨rfl,xs,hq⟩|⟨rfl,o,hk,hc,hd⟩|⟨rfl,hk⟩|⟨rfl,S,n,hk⟩
  ·obtain⟨its,_,pl,_⟩:=I.list hq
   refine⟨pl.isList.typeIs,fun a e=>?_⟩;cases e;obtain⟨o,n,e,c,hd,_⟩:=pl;exact⟨o,e,hd⟩
  ·refine⟨⟨o,I.kIn p o hk,hc⟩,fun a e=>?_⟩
   cases e;exact⟨o,I.kIn _ o hk,hd⟩
  ·have z:∃o,s.heap.get? p=some o/\o.ExactDict:=by
    rcases hk with⟨kvs,hk⟩|⟨kvs,hk⟩
    ·obtain⟨_,_,_,_,o,_,_,e,ex,_⟩:=I.hok p _ hk
     exact⟨o,e,ex⟩
    ·obtain⟨_,_,_,_,o,_,_,e,ex,_⟩:=I.hok p _ hk
     exact⟨o,e,ex⟩
   obtain⟨o,e,ex⟩:=z;refine⟨⟨o,e,ex.1⟩,fun a e2=>?_⟩;cases e2;exact⟨o,e,ex.2.1⟩
  ·obtain⟨o,_,_,_,e,ex,_⟩:=I.hok p _ hk
   refine⟨⟨o,e,ex.1⟩,fun a e2=>?_⟩;cases e2;exact⟨o,e,ex.2.1⟩
 | _=>exact False.elim ty
def tBM(K:PySem.W.Frag)(T:String)(r:V->List V->Hp->VK->Prop)(to:TE)(t:TA): TE:=fun σ H Q=>to σ H fun x H1=>tyV K T x H1/\t σ H1 fun xs H2=>r x xs H2 Q
variable{o e:Expr}{es:List Expr}{to:TE}{t:TA}{name:Str}{apos cpos:Pos}{T id:String}{r:V->List V->Hp->VK->Prop}
theorem qq7(pa:PlainAttrs T)(slot:Slot T name id)(hty:typeOf (.builtin id)=pure (.type "method_descriptor"))(hm:MtR X id r)(ho:PE X o to)(ha:PA X (e :: es) t)
  (hbase:attributeBase o name X.env (eval o X.env)=eval o X.env:=by rfl)
  (hfew:((backTo cpos (starEach (e :: es) X.env)).all (fun x=> !x.1)&&(backToKw cpos (keywordEach [] X.env)).all (fun x=>x.1.isSome)
   && decide ((e :: es).length+([]:List Keyword).length+(if([]:List Keyword).isEmpty then 0 else 1)<30))=true:=by rfl)
  (hline:(apos.endLine==cpos.line)=true:=by rfl) (hs:starEach (e :: es) X.env=(false,eval e X.env) :: starEach es X.env:=by rfl) (hplain:(backTo cpos (starEach es X.env)).any (·.1)=false:=by rfl) :
  PE X (.Call (.Attribute o name apos) (e :: es) [] cpos) (tBM X.K T r to t):=by
 intro pins s σ H Q I h;refine wpAny_Call_method_late hbase hfew hline rfl (thn (ho pins s σ H _ I h) fun v s1 ⟨x,H1,I1,r1,ty,q1⟩=>?_);obtain⟨h1,h2⟩:=qti I1 r1 ty;refine⟨T,id,pa,slot,hty,h1,h2,?_⟩;have hA:=ha cpos pins s1 σ H1 _ I1 q1;rw [hs] at hA ⊢;refine Calls.callWith_builtin (by show(false || (backTo cpos (starEach es X.env)).any (·.1))=false;rw [hplain] <;> rfl) (Calls.evalArgs_plain ?_);exact thn hA fun us s2 ⟨vs,H2,I2,r2,q2⟩=>hm pins s2 σ H2 x vs v us Q I2 r1 r2 q2
end
def MtM(X:Cx)(id:String)(r:V->List V->Hp->VK->Prop): Prop:=
 ∀(pins:List (Addr×Obj)) (s:Shared) (σ : St) (H:Hp) (x:V) (xs:List V) (v:Value) (us:List Value) (Q:VK),Inv X pins σ H s->RelV x v->Vals xs us->r x xs H Q ->
  wpAny (model X.prog X.w) X.A (call (.builtin id) (v :: us)) (EP X pins σ Q) X.xe s
theorem Vals.one:∀ {x:V} {us:List Value},Vals [x] us->∃u,us=[u]/\RelV x u
 | _,_,.cons r .nil=>⟨_,rfl,r⟩
theorem Vals.two:∀ {x y:V} {us:List Value},Vals [x,y] us->∃u v,us=[u,v]/\RelV x u/\RelV y v
 | _,_,_,.cons r (.cons q .nil)=>⟨_,_,rfl,r,q⟩
section
variable{X:Cx}{pins:List (Addr×Obj)}{σ : St}{H:Hp}{s:Shared}{l b:Addr}{xs ys zs:List V}
theorem Inv.lset{its its':List Value}{n:Nat}{f:Array Value->Array Value}{t':Nat}(I:Inv X pins σ H s)(hH:H l=some (.lst xs))
  (e:s.heap.get? l=some {cls:=.type "list",data:=.seq its.toArray n}) (hf:f its.toArray=its'.toArray) (hv:Vals ys its') (hz:ys.length<=sizeLine) :
  Inv X pins σ (upd H l (.lst ys)) {s with heap:=s.heap.update l (Obj.mapSeq f),toks:=t'}:=by
 have q:=PySem.IsL.update e f;rw [hf] at q;refine I.write (x:=l) (e:=l) (by rw [hH];exact trivial) (.inl rfl) (fun b' u hb hu=>(g10 s.heap (Obj.mapSeq f) (my hb)).trans hu) ⟨_,q⟩ ?_;exact⟨hz,its',_,hv,q⟩
theorem Inv.lnew{its:List Value}{t':Nat}(I:Inv X pins σ H s)(hv:Vals ys its)(hz:ys.length<=sizeLine):
  Inv X pins σ (upd H s.heap.objs.size (.lst ys)) {s with heap:=s.heap.push {cls:=.type "list",data:=.seq its.toArray},toks:=t'}:=
 I.laid (fun _ _ q=>gc _ q) (gw _) ⟨hz,its,0,hv,gr _ rfl⟩
theorem Inv.fresh(I:Inv X pins σ H s): H s.heap.objs.size=none:=I.hok.fresh (gw _)
theorem Inv.lstM(I:Inv X pins σ H s)(hH:H l=some (.lst xs)): xs.length<=sizeLine/\∃(its:List Value) (n:Nat),Vals xs its/\xs.length=its.length/\s.heap.get? l=some {cls:=.type "list",data:=.seq its.toArray n}:=by
 obtain⟨z,its,n,r,e⟩:=I.hok l _ hH;exact⟨z,its,n,r,r.length,e⟩
theorem qnr{n:Nat}(h:n<=sizeLine): Builtin.List.listTooLong n=false:=by
 unfold Builtin.List.listTooLong;exact gz (by omega)
end
section
variable{X:Cx}
def rAppend:V->List V->Hp->VK->Prop:=fun x vs H Q=>∃l xs y,x=.ref l/\vs=[y]/\H l=some (.lst xs)/\xs.length<sizeLine/\Q .non (upd H l (.lst (xs++[y])))
theorem qcu:MtM X "list.append" rAppend:=by
 intro pins s σ H x vs v us Q I rx rv h;obtain⟨l,xs,y,rfl,rfl,hH,hz,q⟩:=h;cases rx;obtain⟨u,rfl,ru⟩:=rv.one;obtain⟨z,its,n,r,hl,e⟩:=I.lstM hH;refine g3v F.slot_list_append ⟨_,e,rfl⟩ F.entry_list_append (F.args_list_append_2 _ _) (PySem.list_append l its.toArray n u (by rw [gm];omega)) ⟨e,?_⟩;refine⟨.non,_,I.lset (its':=its++[u]) hH e (by simp) (r.append (.cons ru .nil)) ?_,rfl,q⟩;rw [mw,g3n];omega
end
section
variable{prog:Program}{w:World}{A:Around}{E:Value->Shared->Prop}{s:Shared}
end
section
variable{X:Cx}
end
end L2
namespace Att
open PySem PySem.W PySem.Calls PyProof.Rows
theorem qan{P:Params}{h:Heap}: ∀(ns:List Int) (vs:List Value),WellAll P h vs (ns.map WData.int)->IntsAre vs ns:=by
 intro ns
 induction ns with
 | nil=>
  intro vs w;rw [g0e] at w;cases w;exact .nil
 | cons n ns ih=>
  intro vs w;rw [gf] at w;cases w with
  | cons a b=>
   cases a;exact .cons _ _ (ih _ b)
theorem qla{l:OpenLaw}{n:Nat}(hn:l.most=some n){P:Params}{h:Heap}{args:List WData}{vals:List Value}
  (hpre:l.row.toRowW.claim.pre args=true) (hwl:WellAll P h vals args) :
  ∃a vs ns,vals=[Value.ref a]/\args=[WData.list (ns.map WData.int)]/\h.get? a=some {cls:=.type "list",data:=.seq vs.toArray}/\IntsAre vs ns/\ns.length<=n:=by
 have hsh:WShape.hasAll [] args [.list .int]=true:=(pre_splitW hpre).1;have hc:l.pre.holds [] {args:=args}=true:=(pre_splitW hpre).2;obtain⟨d,r,rfl,h1,h2⟩:=hasAllW_cons hsh;obtain rfl:=hasAllW_nil h2;obtain⟨xs,rfl,h3⟩:=hasW_list h1;obtain⟨ns,rfl⟩:=items_int h3;have hlen:ns.length<=n:=by
  unfold OpenLaw.pre at hc;have h4:(WTm.not (.lt (.lit (.int (n:Int))) (.len (.arg 0)))).holds [] {args:=[.list (ns.map .int)]}=true:=by
   have h4:=(holds_andW hc).1;rw [hn] at h4;exact h4
  have h5:=condW_of h4 (w_not (w_lt w_lit (w_len_list (w_arg rfl))));rw [gh] at h5;refine Nat.le_of_not_lt fun q=>?_;have q':(n:Int)<((ns.length:Nat):Int):=by omega
  first
   | (rw [gq q'] at h5;exact absurd h5 (by decide))
   | (simp at h5;omega)
 cases hwl with
 | cons w1 w2=>
  cases w2;cases w1 with
  | list ho hall=>exact⟨_,_,ns,rfl,rfl,ho,qan ns _ hall,hlen⟩
theorem qlb(l:OpenLaw)(args:List WData): l.row.toRowW.claim.post args (.bool true) args=true:=
 postW_of (r:=l.row.toRowW) (X:=(true==true))
  (show WShape.has [] (.bool true) .bool=true by first|rfl|decide|simp [WShape.has,WShape.arms,WShape.armsAll])
  (show(WTm.eq .res (.lit (.bool true))).value [] {args:=args,res:=some (.bool true),after:=args}=some (.bool (true==true)) from w_eq_bool (w_res rfl) w_lit) rfl
theorem attach_call{l:OpenLaw}{n:Nat}{q:Program}{loose:List Str}{XP:(Str->Option Value)->Heap->Prop}{YP:World->Heap->Prop}{d:DefRec}
  (hn:l.most=some n) (hdf:d.params.defaults=[])
  (call:∀(w:World) (s₀ s₁:Shared) (mg mb:Str->Option Value) (fa:Addr) (o:Obj) (pm cd doc:Value) (a:Addr) (vs:List Value) (ns:List Int),
   Ground q loose [] XP w s₀ mg mb s₁.heap->YP w s₁.heap ->
   s₁.heap.get? fa=some o->o.data=.func (docDef d.name d.params d.body d.scope pm cd doc)->s₁.heap.CodeRec cd d.name->mg d.name=some (.ref fa) ->
   s₁.heap.get? a=some {cls:=.type "list",data:=.seq vs.toArray}->IntsAre vs ns->ns.length<=n->s₁.gens = #[] ->
   codeAny (model l.prog w) callerA (.call (.ref fa) ⟨[.ref a],[]⟩) (fun r s'=>r=.ok (.ret (.bool true))/\OldK s₁.heap s'.heap/\s'.os=s₁.os/\AllBare s'.gens) s₁) :
  WalkO q loose XP YP l.row.toRowW d [] (fun f vs=>PySem.call f vs):=by
 intro w s₀ s₁ mg mb G Y fa o pm cd doc dV kV ho hd hcd hD hmg hg args vals as hpre hlay hrd hwl hlo;obtain rfl:dV=.none:=Dflts.none hD hdf;obtain rfl:kV=.none:=Dflts.noKw hD;obtain⟨a,vs,ns,rfl,rfl,hobj,hints,hlen⟩:=qla hn hpre hwl;refine enter_call (g3u (call w s₀ s₁ mg mb fa o pm cd doc a vs ns G Y ho (fd_plain hd) hcd hmg hobj hints hlen hg) fun r s' hq=>?_);obtain⟨rfl,h2,h3,h4⟩:=hq;exact⟨.inl ⟨.bool true,.bool true,[],rfl,fun _=>rfl,.bool true,qlb l _,fun _=>⟨List.Pairwise.nil,fun _ hm=>(nomatch hm)⟩⟩,h2,h3,h4⟩
section
variable{prog:Program}{w:World}{A:Around}{E:Value->Shared->Prop}{s:Shared}{K:Frag}
end
end Att
namespace L2
open PySem PySem.Spec PyProof.Rows
theorem q2z:∀ {vs:List Value} {ns:List Int},IntsAre vs ns->Vals (ns.map V.int) vs
 | _,_,.nil=>.nil
 | _,_,.cons n t h=>.cons ⟨t,rfl⟩ (q2z h)
def qns(H:Hp): Prop:=∀b,H b=none\/∃o xs,H b=some (.frz o (.lst xs))
theorem qnt{P:Program}{w:World}{K:PySem.W.Frag}{mg mb:Str->Option Value}{CX:CXT}{k:Nat}{fa a:Addr}{fd:FuncData}{x:Str}{sp:Sp}{s₁:Shared}{vs:List Value}{ns:List Int}
  (KX:K.In s₁.heap) (hns:s₁.heap.Ns mainGlobals mg) (hb:s₁.heap.Ns builtinsNs mb) (hbb:∀x:Str,x≠"__name__" -> mb x=bootBuiltins x) (hlim:s₁.heap.NoLimit) (hg:s₁.gens = #[])
  (ha:s₁.heap.get? a=some {cls:=.type "list",data:=.seq vs.toArray}) (hi:IntsAre vs ns) (hl:ns.length<=sizeLine) (hr:Room k callerA)
  (F:∀base:Heap,K.In base->base.Ns mainGlobals mg->FnOk P w K mg base CX k fa fd [x] sp) (hbind:∀(s:Shared) (u:Value),BindsTo s fd ⟨[u],[]⟩ [(x,u)])
  (hsp:∀H:Hp,qns H->SqL K H a (ns.map V.int)->sp [.ref a] H (fun v _=>v=.bl true) fun _ _ _=>False)
  (hCX:∀H e s',CX [] H s₁ (fun _ _ _=>False) e s'->False) :
  codeAny (model P w) callerA (.call (.ref fa) ⟨[.ref a],[]⟩) (fun r s'=>r=.ok (.ret (.bool true))/\OldK s₁.heap s'.heap/\s'.os=s₁.os/\AllBare s'.gens) s₁:=by
 have rv:=q2z hi;have lenV:=hi.length
 -- from an abstract heap in which nothing but the script may be tracked
 have core:∀H:Hp,qns H->SqL K H a (ns.map V.int)->HOk P w H s₁.heap->(∀b,H b≠none->b=a)->(H a≠none->K.lookup a=none) ->
   codeAny (model P w) callerA (.call (.ref fa) ⟨[.ref a],[]⟩) (fun r s'=>r=.ok (.ret (.bool true))/\OldK s₁.heap s'.heap/\s'.os=s₁.os/\AllBare s'.gens) s₁:=by
  intro H hO hS hok hA hK;have base_of:∀ {b:Addr} {o:Obj},s₁.heap.get? b=some o->H b=none->(q6o s₁.heap H).get? b=some o:=fun e n=>qnf e n;have noA:∀ {b:Addr} {o:Obj} {es:Array DictEntry} {ep:Nat},s₁.heap.get? b=some o->o.data=.dict es ep->H b=none:=fun {b o es ep} e d=>by
   cases q:H b with
   | none=>rfl
   | some u=>
    have e':b=a:=hA b (by rw [q];simp);subst e';rw [ha] at e;cases e;have d':Data.seq vs.toArray _=Data.dict es ep:=d;cases d'
  have nsK:∀ {b:Addr} {m:Str->Option Value},s₁.heap.Ns b m->(q6o s₁.heap H).Ns b m:=fun {b m} ⟨o,es,ep,e,d,r⟩=>⟨o,es,ep,base_of e (noA e d),d,r⟩
  have hKb:K.In (q6o s₁.heap H):=fun b o e=>base_of (KX b o e) (by
   cases q:H b with
   | none=>rfl
   | some u=>
    have e':b=a:=hA b (by rw [q];simp);subst e';rw [hK (by rw [q];simp)] at e;cases e)
  have hM:Mod K mg (q6o s₁.heap H):=⟨hKb,nsK hns,⟨mb,nsK hb,hbb⟩,let⟨mc,h1,h2⟩:=hlim; ⟨mc,nsK h1,h2⟩⟩
  have e0:Env0 P w K mg (q6o s₁.heap H) callerA [] s₁ H:=⟨rfl,hM,fun b o e=>qqk e,Nat.le_of_eq (qkt _ _),trivial,fun b hb=>absurd (show b∈([]:List Addr) from hb) (by simp),hok,.of_eq hg⟩
  refine g3u ((F _ hKb (nsK hns)).run callerA [] s₁ H ⟨[.ref a],[]⟩ [.ref a] [.ref a] _ _ hr e0 (hbind s₁ (.ref a)) (.cons rfl .nil) (hsp H hO hS)) fun r s' h=>?_;cases r with
  | error e=>exact(hCX H e s' h).elim
  | ok fl=>
   cases fl with
   | next=>exact False.elim h
   | brk=>exact False.elim h
   | cont=>exact False.elim h
   | ret u=>
    obtain⟨v,H',os,bare,un,hok',r',q⟩:=h;have q':v=.bl true:=q;subst q';obtain rfl:u=Value.bool true:=r';refine⟨rfl,OldK.of_keep fun b o e=>?_,os,bare⟩;cases q:H b with
    | none=>exact un.keep b o e q (by intro z;exact absurd (show b∈([]:List Addr) from z) (by simp)) (by simp)
    | some u=>
     rcases hO b with z|⟨ob,xs,z⟩
     ·rw [q] at z;cases z
     ·have z2:=un.frzs b ob _ z
      obtain⟨e1,_⟩:=hok b _ z;obtain⟨e2,_⟩:=hok' b _ z2;rw [e] at e1;cases e1;exact e2
 cases hk:K.lookup a with
 | some o=>
  -- the script is one of the module's own objects
  have e:=KX a o hk;rw [ha] at e;cases e;refine core (fun _=>none) (fun _=>.inl rfl) (.inr ⟨_,vs.toArray,_,hk,rfl,rfl,rfl,by rw [gm,lenV];exact hl,by simpa using rv⟩) (fun b u z=>by have z':(none:Option HO)=some u:=z;cases z') (fun b z=>absurd rfl z) fun z=>absurd rfl z
 | none=>
  refine core (fun b=>if b=a then some (.frz {cls:=.type "list",data:=.seq vs.toArray} (.lst (ns.map V.int))) else none) (fun b=>?_) (.inl (.inr ⟨{cls:=.type "list",data:=.seq vs.toArray},m8 rfl⟩)) (fun b u z=>?_) (fun b z=>?_) fun _=>hk
  ·by_cases hb:b=a
   ·exact .inr ⟨_,_,m8 hb⟩
   ·exact .inl (ma hb)
  ·by_cases hb:b=a
   ·have z':=(m8 hb).symm.trans z
    cases z';subst hb;exact⟨ha,by rw [gh];exact hl,vs,_,rv,ha⟩
   ·have z':=(ma hb).symm.trans z
    cases z'
  ·by_cases hb:b=a
   ·exact hb
   ·exact absurd (ma hb) z
theorem qr0{l:PySem.W.OpenLaw}{n k:Nat}{q:Program}{loose:List Str}{XP:(Str->Option Value)->Heap->Prop}{YP:World->Heap->Prop}{d:DefRec}{K:Params->PySem.W.Frag}{CX:World->CXT}{sp:World->Sp}{x:Str}
  (hn:l.most=some n) (hn2:n<=sizeLine) (hdf:d.params.defaults=[]) (hr:Room k callerA)
  (hY:∀(w:World) (h:Heap),YP w h->(K w.params).In h)
  (F:∀(w:World) (mg:Str->Option Value) (fa:Addr) (h:Heap),(K w.params).In h->h.Ns mainGlobals mg->mg d.name=some (.ref fa) ->
   ∃fd:FuncData,(∀(s:Shared) (u:Value),BindsTo s fd ⟨[u],[]⟩ [(x,u)]) /\
    ∀base:Heap,(K w.params).In base->base.Ns mainGlobals mg->FnOk l.prog w (K w.params) mg base (CX w) k fa fd [x] (sp w))
  (hsp:∀(w:World) (H:Hp) (a:Addr) (ns:List Int),ns.length<=n->qns H->SqL (K w.params) H a (ns.map V.int)->sp w [.ref a] H (fun v _=>v=.bl true) fun _ _ _=>False)
  (hCX:∀(w:World) (H:Hp) (s:Shared) (e:Value) (s':Shared),CX w [] H s (fun _ _ _=>False) e s'->False) :
  PySem.W.WalkO q loose XP YP l.row.toRowW d [] (fun f vs=>PySem.call f vs):=by
 refine Att.attach_call hn hdf fun w s₀ s₁ mg mb fa o pm cd doc a vs ns G Y ho hd hcd hmg hobj hints hlen hg=>?_;have KX:=hY w _ Y;obtain⟨fd,hb,hF⟩:=F w mg fa _ KX G.T.g hmg;exact qnt KX G.T.g G.T.b G.T.builtins G.T.nolimit hg hobj hints (mm hlen hn2) hr hF hb (fun H hO hS=>hsp w H a ns hlen hO hS) fun H e s'=>hCX w H s₁ e s'
def q1f(s:Stmt): Arguments:=match s with
 | .FunctionDef _ a _ _ _ _ _ _ _ _=>a
 | _=>{posonlyargs:=[],args:=[],vararg:=none,kwonlyargs:=[],kw_defaults:=[],kwarg:=none,defaults:=[]}
def qz(s:Stmt): List Stmt:=match s with
 | .FunctionDef _ _ b _ _ _ _ _ _ _=>b
 | _=>[]
def qh(s:Stmt): Scope:=match s with
 | .FunctionDef _ _ _ _ _ _ sc _ _ _=>sc
 | _=>{kind:=.function,names:=[],isGenerator:=false,isCoroutine:=false}
abbrev CX0:CXT:=fun _ _ _ _ _ _=>False
abbrev E0:XK:=fun _ _ _=>False
theorem qq8{X:Cx}: qal CX0 X E0:=fun _ _ _ _ _ _ _ h=>h.elim
structure Fun(K:PySem.W.Frag)(x qual:Str)(st:Stmt)(f:Addr)(fd:FuncData): Prop where
 ex:∃(oc:Value) (od:Option Addr) (kV doc pm:Value) (an:Option Addr) (cdv ct:Value) (osl:Array (Option Value)),
  fd=PySem.W.fnOf x qual (q1f st) (qz st) (qh st) .none kV doc pm an cdv ct/\K.lookup f=some ⟨oc,od,.func fd,osl⟩/\PySem.W.codeIn K cdv qual=true
 kp:PySem.W.keepIn K (.ref f)=true
section
variable{P:Program}{w:World}{K:PySem.W.Frag}{mg:Str->Option Value}{base:Heap}
end
section
variable{X:Cx}
theorem pv(i:Nat){x:Str}{pos:Pos}(hN:X.N[i]? = some x:=by rfl)(hv:Vis X.env.scope x:=by first|exact Or.inl rfl|exact Or.inr (Or.inl rfl)|exact Or.inr (Or.inr rfl))(hd:(x==("__debug__" : Str))=false:=by decide)
  (hcd:(x==("__classdict__" : Str))=false:=by decide):PE X (.Name x pos) (q9p i):=qsm hN hv hd hcd
end
theorem qx6{A B:Prop}(h:B): if false=true then A else B:=by
 rw [ma m9];exact h
theorem qx7{A B:Prop}(h:A): if true=true then A else B:=by
 rw [m8 rfl];exact h
def Same(H H':Hp): Prop:=∀b o,H b=some o->H' b=some o
theorem Same.refl(H:Hp): Same H H:=fun _ _ h=>h
theorem Same.trans{H H1 H2:Hp}(a:Same H H1)(b:Same H1 H2): Same H H2:=fun c o h=>b c o (a c o h)
theorem Same.free{H H':Hp}(e:Same H H'){l:Addr}(h:H' l=Option.none): H l=Option.none:=by
 cases q:H l with
 | none=>rfl
 | some o=>
  rw [e l o q] at h;cases h
theorem Same.seq{K:PySem.W.Frag}{H H':Hp}{a:Addr}{xs:List V}(e:Same H H')(h:SqL K H a xs): SqL K H' a xs:=by
 rcases h with(h|⟨o,h⟩)|h
 ·exact .inl (.inl (e _ _ h))
 ·exact .inl (.inr ⟨o,e _ _ h⟩)
 ·exact .inr h
theorem q49(env:Env): ∀(names:List (Str×NameKind)) (acc:List (Str×Addr)),
  (∀y∈names,y.2=.free->∃c,env.cells.lookup y.1=some c)->(∀x c,acc.lookup x=some c->env.cells.lookup x=some c) ->
  ∃ cl,(forIn names acc (fun(x:Str×NameKind) (r:List (Str×Addr))=>(do
    if x.2==NameKind.free then do
     let a <- cellOf env x.1
     pure (ForInStep.yield ((x.1,a) :: r))
    else pure (ForInStep.yield r):Sem (ForInStep (List (Str×Addr))))):Sem (List (Str×Addr)))=pure cl /\
   (∀x c,cl.lookup x=some c->env.cells.lookup x=some c)/\(∀x c,acc.lookup x=some c->∃d,cl.lookup x=some d)/\(∀y∈names,y.2=.free->∃c,cl.lookup y.1=some c)
 | [],acc,_,h2=>⟨acc,rfl,h2,fun x c h=>⟨c,h⟩,fun y hy=>by cases hy⟩
 | (n,k) :: r,acc,h1,h2=>by
  by_cases hk:k=NameKind.free
  ·subst hk
   obtain⟨c,hc⟩:=h1 (n,.free) gi rfl;have h2':∀x d,((n,c) :: acc).lookup x=some d->env.cells.lookup x=some d:=fun x d e=>by
    rw [pk] at e
    split at e
    ·rename_i q
     have q':x=n:=by simpa using q
     subst q';cases e;exact hc
    ·exact h2 x d e
   obtain⟨cl,e,a1,a2,a3⟩:=q49 env r ((n,c) :: acc) (fun y hy=>h1 y (gj _ hy)) h2';refine⟨cl,?_,a1,fun x d e2=>?_,fun y hy hf=>?_⟩
   ·rw [g2m]
    simp only [beq_self_eq_true,pz];have hco:cellOf env n=pure c:=by unfold cellOf;rw [hc]
    rw [hco];exact e
   ·by_cases q:x=n
    ·subst q
     exact a2 x c (by rw [pk];simp)
    ·exact a2 x d (by rw [pk,show(x==n)=false by simpa using q];exact e2)
   ·rcases mh.mp hy with rfl|hy
    ·exact a2 n c (by rw [pk];simp)
    ·exact a3 y hy hf
  ·obtain⟨cl,e,a1,a2,a3⟩:=q49 env r acc (fun y hy=>h1 y (gj _ hy)) h2
   refine⟨cl,?_,a1,a2,fun y hy hf=>?_⟩
   ·rw [g2m]
    have hb:(k==NameKind.free)=false:=by simpa using hk
    simp only [hb,m6,t6];exact e
   ·rcases mh.mp hy with rfl|hy
    ·exact absurd hf hk
    ·exact a3 y hy hf
theorem qao{scope:Scope}{env:Env}(h:∀y∈scope.names,y.2=.free->∃c,env.cells.lookup y.1=some c):
  ∃cl,closureFor scope env=pure cl/\(∀x c,cl.lookup x=some c->env.cells.lookup x=some c)/\(∀y∈scope.names,y.2=.free->∃c,cl.lookup y.1=some c):=by
 obtain⟨cl,e,a1,_,a3⟩:=q49 env scope.names [] h (fun x c q=>by cases q);refine⟨cl,?_,a1,a3⟩;unfold closureFor;exact(nz (fun m=>m >>= fun r=>(pure r:Sem (List (Str×Addr)))) e).trans rfl
abbrev qlc(ifs:List Expr)(env:Env): Sem Bool:=
 forIn ifs true fun c r=>if r=true then do let ok <- isTrue c env (eval c env);pure (ForInStep.yield ok) else pure (ForInStep.yield r)
def q3m(X:Cx)(ifs:List Expr)(t:TT): Prop:=
 ∀(pins:List (Addr×Obj)) (s:Shared) (σ : St) (H:Hp) (Q:Bool->Hp->Prop),Inv X pins σ H s->t σ H Q->wpAny (model X.prog X.w) X.A (qlc ifs X.env) (TP X pins σ Q) X.xe s
def tTrue:TT:=fun _ H Q=>Q true H
theorem qnu{X:Cx}: q3m X [] tTrue:=fun pins s σ H Q I h=>wpAny_tests_nil ⟨H,I,h⟩
theorem qnv{X:Cx}{c:Expr}{t:TT}(h:PT X c t): q3m X [c] t:=fun pins s σ H Q I hq=>wpAny_tests_one (h pins s σ H Q I hq)
section
variable{prog:Program}{w:World}{A:Around}{R:Result->Shared->Prop}{s:Shared}
theorem qgw{elt target iter:Expr}{ifs:List Expr}{scope:Scope}{pos:Pos}{it acc:Value}{env:Env}(I:Nat->Shared->Prop)
  (turn:∀n s,I n s->wpAny (model prog w) A (pyNext it) (fun r s₁=>match r with
   | none=>R (.ok .next) s₁
   | some v=>wpAny (model prog w) A (letOwnedTupleGo target it v) (fun _ s'=>wpAny (model prog w) A (assign target env v) (fun _ s₂=>
     wpAny (model prog w) A (qlc ifs env) (fun ok s₃=>
      if ok=true then wpAny (model prog w) A (eval elt env) (fun x s₄=>
       wpAny (model prog w) A (call (.builtin "list.append") [acc,x]) (fun _ s₅=>∃m,m<n/\I m s₅) (fun _ _=>False) s₄) (fun _ _=>False) s₃
      else ∃m,m<n/\I m s₃) (fun _ _=>False) s₂) (fun _ _=>False) s') (fun _ _=>False) s₁) (fun _ _=>False) s)
  (n:Nat) (h:I n s) :
  codeAny (model prog w) A (.compLoop (.ListComp elt [⟨target,iter,ifs,0⟩] scope pos) 0 it acc env) R s:=by
 refine codeAny_loop rfl I (fun n s hI=>?_) n h;show wpAny _ A ((compTurn (.ListComp elt [⟨target,iter,ifs,0⟩] scope pos) 0 it acc env).onRaise (fun x=>do noteFrame x env;theTreesLotGoes x)) _ _ s;refine wpAny_noted ?_;rw [compTurn_list];refine g0 (wpAny_standAt (g0 (ug (turn n s hI) (fun r s₁ h₁=>?_) fun _ _ h'=>h'.elim)));cases r with
 | none=>exact g9 h₁
 | some v=>
  refine g0 (ug h₁ (fun _ s' h'=>?_) fun _ _ h'=>h'.elim);refine g0 (ug h' (fun _ s₂ h₂=>g0 (ug h₂ (fun ok s₃ h₃=>?_) fun _ _ h'=>h'.elim)) fun _ _ h'=>h'.elim);cases ok with
  | false=>exact g9 ⟨rfl,h₃⟩
  | true=>
   exact g0 (g0 (ug h₃ (fun x s₄ h₄=>g0 (ug h₄ (fun _ s₅ h₅=>g9 (g9 ⟨rfl,h₅⟩)) fun _ _ h'=>h'.elim)) fun _ _ h'=>h'.elim))
end
abbrev xg(X:Cx)(N':List Str)(scope:Scope)(cl:List (Str×Addr))(C:Addr)(s₀:Shared)(H₀:Hp)(fp:List Addr): Cx:=
 {X with N:=N',env:=compEnvC scope cl C X.env,s₀:=s₀,H₀:=H₀,outer:=X.stack,ex:=fp,fn:=fun _=>false,pn:=[],xe:=fun _ _=>False}
structure CapOk(X:Cx)(N':List Str)(scope:Scope)(cap:List (Option Nat)): Prop where
 kind:scope.kind=.function
 cell:∀y∈scope.names,y.2 ≠ .cell
 names:∀y∈scope.names,y.2=.local->scope.names.lookup y.1=some .local
 frees:∀y∈scope.names,y.2=.free->X.env.kindOf y.1=some .cell\/X.env.kindOf y.1=some .free
 len:cap.length=N'.length
 cap:∀(i j:Nat),cap[i]? = some (some j)->∃x,N'[i]? = some x/\X.N[j]? = some x/\scope.names.lookup x=some .free
def qbw(cap:List (Option Nat))(σ : St): St:=cap.map fun o=>o.bind fun j=>(σ[j]?).join
theorem lookup_mem{α β : Type}[BEq α][LawfulBEq α]{l:List (α × β)}{a : α}{b : β}(h:l.lookup a=some b): (a,b)∈l:=by
 induction l with
 | nil=>cases h
 | cons p r ih=>
  obtain⟨x,y⟩:=p;rw [pk] at h
  split at h
  ·rename_i q
   have q':a=x:=by simpa using q
   subst q';cases h;exact gi
  ·exact gj _ (ih h)
theorem q4a{env:Env}: ∀ {names:List (Str×NameKind)} {x:Str} {k:NameKind},(names.map fun(n,k)=>if(k==NameKind.free&&env.scope.kind == .function&&env.kindOf n==some .cell) then(n,NameKind.cell) else(n,k)).lookup x=some k ->
  (names.lookup x=some k)\/(k=.cell/\names.lookup x=some .free)
 | [],_,_,h=>by cases h
 | (n,k0) :: r,x,k,h=>by
  have ih:=@q4a env r x k;have h':List.lookup x ((if(k0==NameKind.free&&env.scope.kind == .function&&env.kindOf n==some .cell)=true then(n,NameKind.cell) else(n,k0)) :: _)=some k:=h
  by_cases hc:(k0==NameKind.free&&env.scope.kind == .function&&env.kindOf n==some .cell)=true
  ·rw [m8 hc,pk] at h'
   have hf:k0=.free:=by
    simp only [mf,g1m] at hc;exact hc.1.1
   cases q:x==n with
   | true=>rw [q] at h';cases h';exact .inr ⟨rfl,by rw [pk,q,hf]⟩
   | false=>rw [q] at h';rw [pk,q];exact ih h'
  ·rw [ma hc,pk] at h'
   cases q:x==n with
   | true=>rw [q] at h';rw [pk,q];exact .inl h'
   | false=>rw [q] at h';rw [pk,q];exact ih h'
theorem q7t{env:Env}: ∀ {names:List (Str×NameKind)} {x:Str},names.lookup x=some .free ->
  (names.map fun(n,k)=>if(k==NameKind.free&&env.scope.kind == .function&&env.kindOf n==some .cell) then(n,NameKind.cell) else(n,k)).lookup x=some .cell \/
  (names.map fun(n,k)=>if(k==NameKind.free&&env.scope.kind == .function&&env.kindOf n==some .cell) then(n,NameKind.cell) else(n,k)).lookup x=some .free
 | [],_,h=>by cases h
 | (n,k0) :: r,x,h=>by
  have ih:=@q7t env r x;show List.lookup x ((if(k0==NameKind.free&&env.scope.kind == .function&&env.kindOf n==some .cell)=true then(n,NameKind.cell) else(n,k0)) :: _)=_\/List.lookup x ((if(k0==NameKind.free&&env.scope.kind == .function&&env.kindOf n==some .cell)=true then(n,NameKind.cell) else(n,k0)) :: _)=_;rw [pk] at h
  by_cases hc:(k0==NameKind.free&&env.scope.kind == .function&&env.kindOf n==some .cell)=true
  ·rw [m8 hc,pk]
   cases q:x==n with
   | true=>exact .inl rfl
   | false=>rw [q] at h;exact ih h
  ·rw [ma hc,pk]
   cases q:x==n with
   | true=>rw [q] at h;exact .inr h
   | false=>rw [q] at h;exact ih h
section
variable{X:Cx}{pins:List (Addr×Obj)}{σ : St}{H:Hp}{s:Shared}{N':List Str}{scope:Scope}{cap:List (Option Nat)}{cl:List (Str×Addr)}{fp:List Addr}
theorem qnw(I:Inv X pins σ H s)(co:CapOk X N' scope cap)(h1:∀x c,cl.lookup x=some c->X.env.cells.lookup x=some c)(h2:∀y∈scope.names,y.2=.free->∃c,cl.lookup y.1=some c)
  (hf:∀b∈fp,q17 X pins H b) (ho:∀b∈fp,∃o,s.heap.get? b=some o) {h':Heap} {t':Nat} {m:Str->Option Value} (hn:h'.Ns s.heap.objs.size m) (hk:∀b o,s.heap.get? b=some o->h'.get? b=some o) :
  Inv (xg X N' scope cl s.heap.objs.size s H fp) [] (qbw cap σ) H {s with heap:=h',toks:=t'}:=by
 have flt:∀b∈fp,b<s.heap.objs.size:=fun b hb=>let⟨o,e⟩:=ho b hb;m4 e
 refine⟨⟨I.ok.mod,co.kind,I.ok.glob,I.ok.blt,gw _,fun x y c e1 e2=>I.ok.inj x y c (h1 x c e1) (h1 y c e2),fun x hx=>?_,fun x c z _=>(nomatch z),I.ok.hd,I.ok.frames,.inl rfl,fun b hb=>?_,I.bs,mm I.ok.bsz I.sz,fun b o e hb=>?_,fun b hb z=>?_,I.stack,I.stkFree⟩,
  rfl,I.bare,Un.kept hk,⟨m,hn,fun i x v e1 e2 e3=>?_⟩,fun x c e=>?_,I.hok.fresh (gw _),fun x c e=>I.freeC x c (h1 x c e),fun p hp=>(nomatch hp),I.hok.kept hk,?_⟩
 ·have hx':(relabel scope X.env).names.lookup x=some .cell\/(relabel scope X.env).names.lookup x=some .free:=hx
  have hfree:scope.names.lookup x=some .free:=by
   rcases hx' with q|q
   ·rcases q4a q with z|⟨_,z⟩
    ·exact absurd rfl (co.cell _ (lookup_mem z))
    ·exact z
   ·rcases q4a q with z|⟨z,_⟩
    ·exact z
    ·cases z
  exact h2 (x,.free) (lookup_mem hfree) rfl
 ·obtain⟨f0,f1,f2,f3,f4,f5⟩:=hf b hb
  exact⟨md (flt b hb),fun x c e=>f4 x c (h1 x c e)⟩
 ·obtain⟨f0,f1,f2,f3,f4,f5⟩:=hf b hb
  rcases f3 with z|z
  ·exact I.ok.noex b o e z
  ·exact absurd (m5 (m4 e) (mm I.ok.bsz z)) (g0r _)
 ·obtain⟨f0,f1,f2,f3,f4,f5⟩:=hf b hb
  rcases mh.mp (I.stkSub b z) with q|q
  ·exact f1 q
  ·exact f2 q
 ·-- a captured name
  have e2':(cap.map fun o=>o.bind fun j=>(σ[j]?).join)[i]? = some (some v):=e2;rw [mj] at e2';cases q:cap[i]? with
  | none=>rw [q] at e2';cases e2'
  | some o=>
   rw [q] at e2';cases o with
   | none=>cases e2'
   | some j=>
    obtain⟨y,a1,a2,a3⟩:=co.cap i j q;have e1':N'[i]? = some x:=e1;rw [a1] at e1';obtain rfl:y=x:=mq e1';have ej:(σ[j]?).join=some v:=by
     have:=e2';simp only [mx,gd,g1y] at this;exact this
    have ej' : σ[j]? = some (some v):=by
     cases z : σ[j]? with
     | none=>rw [z] at ej;cases ej
     | some u=>rw [z] at ej;simp only [g3k] at ej;rw [ej]
    have kd:=co.frees (y,.free) (lookup_mem a3) rfl;obtain⟨m0,hn0,hl0⟩:=I.loc;have vis:Vis X.env.scope y:=by
     rcases kd with k|k
     ·exact .inr (.inl k)
     ·exact .inr (.inr k)
    obtain⟨u,ru,lk⟩:=hl0 j y v a2 ej' vis;refine⟨u,ru,.inr ⟨q7t a3,?_⟩⟩;obtain⟨c,hc⟩:=h2 (y,.free) (lookup_mem a3) rfl;rcases lk with⟨k,_⟩|⟨_,c',hc',z⟩
    ·rcases kd with k'|k'
     ·rw [k] at k';cases k'
     ·rw [k] at k';cases k'
    ·have:=h1 _ _ hc
     rw [hc'] at this;obtain rfl:c'=c:=mq this;obtain⟨o,eo,ed⟩:=z;exact⟨c',hc,o,hk _ _ eo,ed⟩
 ·obtain⟨v,o,eo,ed⟩:=I.cell x c (h1 x c e)
  exact⟨v,o,hk _ _ eo,ed⟩
 ·show(cap.map _).length=N'.length
  rw [gh];exact co.len
theorem qis{N':List Str}{C:Addr}{H':Hp}{s':Shared}{σ':St}{h':Heap}(I:Inv X pins σ H s)(hf:∀b∈fp,q17 X pins H b)(J:Inv (xg X N' scope cl C s H fp) [] σ' H' s')(hs:Heap.SameBut C s'.heap h'):
  Inv X pins σ H' {s' with heap:=h'}:=by
 have hC:s.heap.objs.size<=C:=J.ok.above;have kp:∀b o,b≠C->s'.heap.get? b=some o->h'.get? b=some o:=fun b o hb e=>(hs.2 b hb).trans e;have hC0:H' C=none:=J.free;have un:Un (frs X.stack) fp H H' s.heap h':=by
  have u:Un (frs X.stack) fp H H' s.heap s'.heap:=J.base;have neC:∀b o,s.heap.get? b=some o->b≠C:=fun b o e=>md (m5 (m4 e) hC);exact⟨fun b o e n h1 h2=>kp b o (neC b o e) (u.keep b o e n h1 h2),fun b o e n h1 h2=>let⟨sl,q⟩:=u.slot b o e n h1 h2; ⟨sl,kp b _ (neC b o e) q⟩,u.free,fun b o e h=>let⟨o',q⟩:=u.there b o e h; ⟨o',kp b o' (neC b o e) q⟩,u.tups,u.frzs,u.tbls⟩
 have hok:HOk X.prog X.w H' h':=fun b u e=>by
  refine(J.hok b u e).stay (fun c v hc q=>kp c v ?_ q) (fun _ q=>q) fun _ _ q=>q;rcases hc with z|z
  ·rw [z];intro z2;rw [z2,hC0] at e;cases e
  ·intro z2;rw [z2,hC0] at z;cases z
 exact I.call' (s':={s' with heap:=h'}) (ch:=fp) J.os un hok J.bare fun b hb=>by
  obtain⟨f0,f1,f2,f3,f4,f5⟩:=hf b hb;exact⟨f3,f1,f4,f5⟩
end
def qtj(J:It)(cap:List (Option Nat))(g:TG)(tc:TT)(te:TE)(σ : St)(H1:Hp)(p:Addr)(K:Hp->Prop): Prop:=
 ∃ W:Nat->Nat->St->Hp->Prop,(∃m,W 0 m (qbw cap σ) (upd H1 p (.lst [])))/\∀i m σ' H',W i m σ' H' ->
  (J.stop i H'/\K H')\/(J.go i H'/\∀x H'',J.yld i H' x H''->g x σ' H'' fun σ2 H2=>tc σ2 H2 fun b H3=>
   if b=true then te σ2 H3 fun y H4=>∃xs,H4 p=some (.lst xs)/\xs.length<sizeLine/\∃m',m'<m/\W (i+1) m' σ2 (upd H4 p (.lst (xs++[y])))
   else ∃m',m'<m/\W (i+1) m' σ2 H3)
def qit(wi:TI)(cap:List (Option Nat))(g:TG)(tc:TT)(te:TE): TE:=fun σ H Q=>wi σ H fun J H1=>∀p,H1 p=none->qtj J cap g tc te σ H1 p (Q (.ref p))
section
variable{X:Cx}{N':List Str}{scope:Scope}{cap:List (Option Nat)}{tg iter elt:Expr}{ifs:List Expr}{wi:TI}{g:TG}{tc:TT}{te:TE}{pos:Pos}
theorem qcv{cl:List (Str×Addr)}{pins:List (Addr×Obj)}{s:Shared}{σ : St}{H:Hp}{it:Addr}{fp:List Addr}{tn:Nat->Heap->Prop}{J:It}{E:Value->Shared->Prop}{K:Addr->Hp->Prop}
  {RR:Value->Addr->Result->Shared->Prop} (hc:X.calm=true) (co:CapOk X N' scope cap)
  (h1:∀x c,cl.lookup x=some c->X.env.cells.lookup x=some c) (h2:∀y∈scope.names,y.2=.free->∃c,cl.lookup y.1=some c)
  (hg:∀cl C s₀ H₀ fp,PG (xg X N' scope cl C s₀ H₀ fp) tg g) (hcs:∀cl C s₀ H₀ fp,q3m (xg X N' scope cl C s₀ H₀ fp) ifs tc) (he:∀cl C s₀ H₀ fp,PE (xg X N' scope cl C s₀ H₀ fp) elt te)
  (I:Inv X pins σ H s) (T:Turn X.prog X.w X.K tg J fp it tn) (st:tn 0 s.heap) (hf:∀b∈fp,q17 X pins H b) (h:∀p,H p=none->qtj J cap g tc te σ H p (K p))
  (hRR:∀(D C:Addr) (s':Shared) (H':Hp),s.heap.objs.size<=C->(∃m,s'.heap.Ns C m)->(∀h',Heap.SameBut C s'.heap h'->Inv X pins σ H' {s' with heap:=h'})->H' C=none->K D H'->RR (.ref D) C (.ok .next) s') :
  wpAny (model X.prog X.w) X.A (newList []) (fun acc s₃=>wpAny (model X.prog X.w) X.A (newFunctionEnv scope X.env.globals cl [] X.env.qual none .none (some X.env)) (fun cenv s₄=>
   codeAny (model X.prog X.w) X.A (.compStart (.ListComp elt [⟨tg,iter,ifs,0⟩] scope pos) 0 (.ref it) acc {cenv with scope:=relabel scope X.env}) (RR acc cenv.locals) s₄) E s₃) E s:=by
 refine t8 (wpAny_newFunctionEnv co.cell (by intro y hy;simp at hy) (fun hh hns hsb=>?_) co.kind);have hD:H s.heap.objs.size=none:=I.fresh;have I3:Inv X pins σ (upd H s.heap.objs.size (.lst [])) {s with heap:=s.heap.push {cls:=.type "list",dict:=none,data:=.seq ([]:List Value).toArray} }:=I.lnew (ys:=[]) (its:=[]) (t':=s.toks) .nil (g08 _);obtain⟨W,⟨m0,w0⟩,turn⟩:=h s.heap.objs.size hD;have fobj:∀b∈fp,∃o,s.heap.get? b=some o:=fun b hb=>let⟨o,e,_⟩:=T.obj 0 _ st b hb; ⟨o,e⟩
 generalize e3:({s with heap:=s.heap.push {cls:=.type "list",dict:=none,data:=.seq ([]:List Value).toArray} }:Shared)=s3 at I3;have es3:s3.heap=s.heap.push {cls:=.type "list",dict:=none,data:=.seq ([]:List Value).toArray}:=by rw [<- e3]
 have eC:(s.heap.push {cls:=.type "list",dict:=none,data:=.seq ([]:List Value).toArray}).objs.size=s3.heap.objs.size:=by rw [es3]
 have hf3:∀b∈fp,q17 X pins (upd H s.heap.objs.size (.lst [])) b:=fun b hb=>by
  obtain⟨f0,f1⟩:=hf b hb;obtain⟨o,e⟩:=fobj b hb;exact⟨by rw [z6 (md (m4 e))];exact f0,f1⟩
 have kp:∀b o,s3.heap.get? b=some o->hh.get? b=some o:=fun b o e=>by
  refine hsb.extBut b o ?_ (gc _ (by rw [<- es3];exact e));show b≠(s.heap.push {cls:=.type "list",dict:=none,data:=.seq ([]:List Value).toArray}).objs.size;rw [eC];exact md (m4 e)
 have hle:s.heap.objs.size<=s3.heap.objs.size:=by rw [es3,t9];exact g1w _
 have s3e:∀t:Nat,({s with heap:=hh,toks:=t}:Shared) = {s3 with heap:=hh,toks:=t}:=fun t=>by rw [<- e3]
 have I4:Inv (xg X N' scope cl s3.heap.objs.size s3 (upd H s.heap.objs.size (.lst [])) fp) [] (qbw cap σ) (upd H s.heap.objs.size (.lst [])) {s3 with heap:=hh,toks:=s.toks+([]:List (Str×Value)).length}:=
  qnw I3 co h1 h2 hf3 (fun b hb=>let⟨o,e⟩:=fobj b hb; ⟨o,by rw [es3];exact gc _ e⟩) (by rw [<- eC];exact hns) kp
 have st4:tn 0 hh:=T.keep 0 _ _ st fun b hb o e=>kp b o (by rw [es3];exact gc _ e);have etk:s3.toks+([]:List (Str×Value)).length=s.toks+([]:List (Str×Value)).length:=by rw [<- e3]
 show codeAny (model X.prog X.w) X.A (.compStart (.ListComp elt [⟨tg,iter,ifs,0⟩] scope pos) 0 (.ref it) (.ref s.heap.objs.size) (compEnvC scope cl s3.heap.objs.size X.env)) (RR (.ref s.heap.objs.size) s3.heap.objs.size)
  {s3 with heap:=hh,toks:=s3.toks+([]:List (Str×Value)).length}
 rw [etk];generalize eX:xg X N' scope cl s3.heap.objs.size s3 (upd H s.heap.objs.size (.lst [])) fp=X' at I4;have hg':PG X' tg g:=by rw [<- eX];exact hg _ _ _ _ _
 have hcs':q3m X' ifs tc:=by rw [<- eX];exact hcs _ _ _ _ _
 have he':PE X' elt te:=by rw [<- eX];exact he _ _ _ _ _
 have eenv:X'.env=compEnvC scope cl s3.heap.objs.size X.env:=by rw [<- eX]
 have exe:X'.xe=fun _ _=>False:=by rw [<- eX]
 have eex:X'.ex=fp:=by rw [<- eX]
 have eprog:X'.prog=X.prog:=by rw [<- eX]
 have ew:X'.w=X.w:=by rw [<- eX]
 have eK:X'.K=X.K:=by rw [<- eX]
 have eA:X'.A=X.A:=by rw [<- eX]
 have ecalm:X'.calm=true:=by rw [<- eX];exact hc
 have epn:X'.pn=[]:=by rw [<- eX]
 have eloc:X'.env.locals=s3.heap.objs.size:=by rw [eenv];rfl
 have ok':=I4.ok;have stat:∀ {H':Hp},(∀b∈fp,H' b=none)->∀b∈fp,q17 X' [] H' b:=fun hn b hb=>by
  have hbx:b∈X'.ex:=by rw [eex];exact hb
  exact⟨hn b hb,(ok'.exf b hbx).1,ok'.exfs b hbx,.inl hbx,(ok'.exf b hbx).2,fun p hp=>by rw [epn] at hp;cases hp⟩
 have back:∀ {σ':St} {H':Hp} {s':Shared},Inv X' [] σ' H' s'->K s.heap.objs.size H'->RR (.ref s.heap.objs.size) s3.heap.objs.size (.ok .next) s':=fun {σ' H' s'} J' k=>by
  refine hRR _ _ _ H' hle ?_ (fun h' hs'=>?_) ?_ k
  ·obtain⟨m,hm,_⟩:=J'.loc
   exact⟨m,by rw [<- eloc];exact hm⟩
  ·rw [<- eX] at J'
   exact qis I3 hf3 J' hs'
  ·rw [<- eloc];exact J'.free
 have loop:codeAny (model X.prog X.w) X.A (.compLoop (.ListComp elt [⟨tg,iter,ifs,0⟩] scope pos) 0 (.ref it) (.ref s.heap.objs.size) (compEnvC scope cl s3.heap.objs.size X.env)) (RR (.ref s.heap.objs.size) s3.heap.objs.size)
   {s3 with heap:=hh,toks:=s.toks+([]:List (Str×Value)).length}:=by
  refine qgw (fun n s'=>∃i σ' H',Inv X' [] σ' H' s'/\tn i s'.heap/\(∀b∈fp,H' b=none)/\W i n σ' H') ?_ m0 ⟨0,_,_,I4,st4,fun b hb=>(hf3 b hb).1,w0⟩
  rintro n s5 ⟨i, σ5,H5,I5,st5,fr5,w5⟩
  rw [<- eenv];rcases turn i n σ5 H5 w5 with⟨stop,qn⟩|⟨go,step⟩
  ·have:=T.done X' eprog ew eK ecalm i [] s5 σ5 H5 (fun _ _=>False) I5 (stat fr5) st5 stop
   rw [eA] at this;refine thn this fun r s6 ⟨hr,I6⟩=>?_;subst hr;exact back I6 qn
  ·have:=T.item X' eprog ew eK ecalm i [] s5 σ5 H5 (fun _ _=>False) I5 (stat fr5) st5 go
   rw [eA] at this;refine thn this fun r s6 ⟨u,hr,h6⟩=>?_;subst hr;refine thn h6 fun _ s7 ⟨x,H7,I7,r7,y7,st7,fr7⟩=>?_;have I7':=I7.pinned (stat fr7) (T.obj _ _ st7);have hg2:=hg' _ s7 σ5 H7 x u _ I7' r7 (step x H7 y7);rw [exe,eprog,ew,eA] at hg2;refine thn hg2 fun _ s8 ⟨σ8,H8,I8,q8⟩=>?_;have hc2:=hcs' _ s8 σ8 H8 _ I8 q8;rw [exe,eprog,ew,eA] at hc2;refine thn hc2 fun ok s9 ⟨H9,I9,q9⟩=>?_;have again:∀ {H':Hp} {s':Shared} {m':Nat},Inv X' ([]++q68 fp s7.heap) σ8 H' s'->m'<n->W (i+1) m' σ8 H'->∃m,m<n/\∃i σ' H',Inv X' [] σ' H' s'/\tn i s'.heap/\(∀b∈fp,H' b=none)/\W i m σ' H':=fun {H' s' m'} J' hm w'=>by
    refine⟨m',hm,i+1, σ8,H',J'.unpinned,T.keep _ _ _ st7 fun b hb o e=>(J'.pin (b,o) (nh _ (nh _ (q3v hb e)))).1,fun b hb=>?_,w'⟩;obtain⟨o,e,d⟩:=T.obj _ _ st7 b hb;exact(J'.pin (b,o) (nh _ (nh _ (q3v hb e)))).2.1
   cases ok with
   | false=>
    rw [ma m9] at q9 ⊢;obtain⟨m',hm,w'⟩:=q9;exact again I9 hm w'
   | true=>
    rw [m8 rfl] at q9 ⊢;have he2:=he' _ s9 σ8 H9 _ I9 q9;rw [exe,eprog,ew,eA] at he2;refine thn he2 fun y s10 ⟨yv,H10,I10,r10,xs,hp,hz,m',hm,w'⟩=>?_;have ha2:=qcu (X:=X') ([]++q68 fp s7.heap) s10 σ8 H10 (.ref s.heap.objs.size) [yv] (.ref s.heap.objs.size) [y] (fun _ H'=>H'=upd H10 s.heap.objs.size (.lst (xs++[yv]))) I10 rfl (.cons r10 .nil) ⟨_,xs,yv,rfl,rfl,hp,hz,rfl⟩;rw [exe,eprog,ew,eA] at ha2;refine thn ha2 fun _ s11 ⟨_,H11,I11,_,e11⟩=>?_;subst e11;exact again I11 hm w'
 exact codeAny_compStart_list loop (T.self _ 0 _ _ _ st4 loop)
theorem qr1(hc:X.calm=true)(co:CapOk X N' scope cap)(hi:PI X tg iter wi)
  (hg:∀cl C s₀ H₀ fp,PG (xg X N' scope cl C s₀ H₀ fp) tg g) (hcs:∀cl C s₀ H₀ fp,q3m (xg X N' scope cl C s₀ H₀ fp) ifs tc) (he:∀cl C s₀ H₀ fp,PE (xg X N' scope cl C s₀ H₀ fp) elt te)
  (hs:∀x,foldedSetIterable iter X.env x=pure x:=by intro _;rfl):PE X (.ListComp elt [⟨tg,iter,ifs,0⟩] scope pos) (qit wi cap g tc te):=by
 intro pins s σ H Q I h;obtain⟨cl,ecl,c1,c2⟩:=qao (scope:=scope) (env:=X.env) fun y hy hf=>I.ok.has y.1 (co.frees y hy hf);rw [eval_ListComp];refine wpAny_comprehension_free (use:=none) rfl hs ecl co.kind co.names (ug (hi pins s σ H _ I h) (fun v s1 h1=>ug h1 (fun itv s2 h2=>?_) fun _ _ e=>e) fun _ _ e=>e);obtain⟨it,fp,tn,J,H2,rfl,I2,T,st2,f2,h2⟩:=h2;refine qcv (K:=fun p=>Q (.ref p)) (RR:=fun acc C=>compPost (model X.prog X.w) X.A X.xe none (EP X pins σ Q) acc C) hc co c1 c2 hg hcs he I2 T st2 f2 h2 ?_;intro D C s' H' hle ⟨m,hm⟩ hI hC q;exact⟨m,hm,fun h' hs'=>⟨.ref D,H',hI h' hs',rfl,q⟩⟩
end
section
variable{X:Cx}{N':List Str}{scope:Scope}{cap:List (Option Nat)}{tg iter elt:Expr}{ifs:List Expr}{wi:TI}{g:TG}{tc:TT}{te:TE}{pos:Pos}
theorem qiu{i:Nat}{x:Str}{px pe:Pos}(hc:X.calm=true)(hN:X.N.Nodup)(hx0:X.N[i]? = some x)(hx:X.env.scope.names.lookup x=some .local)(co:CapOk X N' scope cap)(hi:PI X tg iter wi)
  (hg:∀cl C s₀ H₀ fp,PG (xg X N' scope cl C s₀ H₀ fp) tg g) (hcs:∀cl C s₀ H₀ fp,q3m (xg X N' scope cl C s₀ H₀ fp) ifs tc) (he:∀cl C s₀ H₀ fp,PE (xg X N' scope cl C s₀ H₀ fp) elt te)
  (hsw:swapsWith (.ListComp elt [⟨tg,iter,ifs,0⟩] scope pe) (some (.Name x px)) pos.line X.env=pure true:=by rfl)
  (hs:∀x,foldedSetIterable iter X.env x=pure x:=by intro _;rfl):PS X (.Assign [.Name x px] (.ListComp elt [⟨tg,iter,ifs,0⟩] scope pe) pos) (qe8 (qit wi cap g tc te) (q53 i)):=by
 intro pins s σ H D I h;obtain⟨cl,ecl,c1,c2⟩:=qao (scope:=scope) (env:=X.env) fun y hy hf=>I.ok.has y.1 (co.frees y hy hf);rw [exec_Assign_Name_used _ _ _ _ hsw];refine g0 (wpAny_standAt (g0 ?_));show wpAny _ X.A (do let _ <- comprehension (.ListComp elt [⟨tg,iter,ifs,0⟩] scope pe) scope X.env _ (newList []) false (eval iter X.env) (some (assign (.Name x px) X.env))) _ _ s;refine g0 (ug (wpAny_comprehension_free (use:=some (assign (.Name x px) X.env)) (Q:=fun _ s'=>SP X pins D .next s') rfl hs ecl co.kind co.names
  (ug (hi pins s σ H _ I h) (fun v s1 h1=>ug h1 (fun itv s2 h2=>?_) fun _ _ e=>e) fun _ _ e=>e)) (fun _ s' hq=>g9 (g9 hq)) fun _ _ e=>e)
 obtain⟨it,fp,tn,J,H2,rfl,I2,T,st2,f2,h2⟩:=h2;refine qcv (K:=fun p H'=>q53 i (.ref p) σ H' D.nx) (RR:=fun acc C=>compPost (model X.prog X.w) X.A X.xe (some (assign (.Name x px) X.env)) (fun _ s'=>SP X pins D .next s') acc C) hc co c1 c2 hg hcs he I2 T st2 f2 h2 ?_;intro Da C s' H' hle ⟨m,hm⟩ hI hC q;have I':Inv X pins σ H' s':=hI s'.heap (g1z ..);obtain⟨o,es,ep,ho,hd,hk⟩:=id hm;have hCL:C≠X.env.locals:=u9 (m5 I2.lt hle);have hCf:C∉X.fs:=I2.nofs hle;have I'':Inv X (pins++[(C,o)]) σ H' s':=I'.pins_of fun p hp=>(u6.mp hp).elim (fun z=>I'.pin p (nh _ z)) fun z=>by
  obtain rfl:p=(C,o):=by simpa using z
  exact⟨ho,hC,hCL,hCf,fun v z=>by rw [hd] at z;cases z⟩
 show wpAny (model X.prog X.w) X.A (assign (.Name x px) X.env (.ref Da)) _ _ _;refine wpAny_assign_Name (q9o I'' hN hx0 (.inl hx) (v:=.ref Da) rfl (fun s'' J=>?_) (.inr hx));have hC2:s''.heap.get? C=some o:=(J.pin (C,o) (nh _ (nh _ gi))).1;refine⟨m,⟨o,es,ep,hC2,hd,hk⟩,fun h' hs'=>?_⟩;have J2:Inv X pins (σ.set i (some (.ref Da))) H' {s'' with heap:=h'}:=J.unpinned.turned (t':=s''.toks) (it:=C) (fun b ob hb e=>(hs'.2 b hb).trans e) hC hCL
  (.inr (mm I2.sz hle)) (fun y c e z=>by
   obtain⟨v,q2⟩:=I2.cell y c e;exact absurd (m5 q2.lt (by rw [z];exact hle)) (g0r _)) fun p hp z=>by
   exact absurd (m5 (m4 (I2.pin p hp).1) (by rw [z];exact hle)) (g0r _)
 exact⟨_,H',J2,q⟩
end
end L2
namespace DL
open PySem PySem.Spec PyProof.Rows L2
structure ExcC(K:PySem.W.Frag)(D:Addr): Prop where
 ga:PySem.W.findIn K (.ref D) "__getattribute__" = some (some (.builtin "BaseException.__getattribute__"))
 gk:PySem.W.findIn K (.ref D) "__getattr__" = some none
 cc:PySem.W.findIn K (.ref D) "__class__" = some (some (.builtin "object.__class__"))
 cs:PySem.W.specialIn K (.builtin "object.__class__") "__get__" = some (some (.builtin "getset_descriptor.__get__"))
 ct:PySem.W.takesIn K (.builtin "object.__class__")=some true
 cm:PySem.W.mroIn K D (.type "object")=some true
 cb:PySem.W.mroIn K D (.type "BaseException")=some true
section
variable{prog:Program}{w:World}{A:Around}{E:Value->Shared->Prop}{K:PySem.W.Frag}{s:Shared}{x D:Addr}{od:Option Addr}{ox:Obj}
open PySem.W in
theorem qhu(c:ExcC K D): (clsIn K D).isSome=true:=by
 have:=c.cm;unfold mroIn at this;cases q:clsIn K D with
 | none=>rw [q] at this;cases this
 | some cd=>rfl
def XE(a C:Addr)(od:Option Addr)(h:Heap): Prop:=∃o vs,h.get? a=some o/\o.cls=.ref C/\o.dict=od/\o.data=.fields vs
open PySem.W in
theorem q6a{M:Model}{a C:Addr}{od:Option Addr}{h:Heap}(e:XE a C od h): Looks M h (typeOf (.ref a)) (.ref C):=by
 obtain⟨o,vs,e1,e2,_,e3⟩:=e;exact e2 ▸ (Looks.ld e1).andThen .now
open PySem.W Builtin.ObjectAttr in
theorem qr2{M:Model}{h:Heap}(c:ExcC K D)(X:K.In h): Looks M h (find (.ref x) (.ref D) "__class__") (.bind (.builtin "getset_descriptor.__get__") (.builtin "object.__class__")):=by
 refine(looks_findIn (M:=M) X c.cc).andThen ((looks_specialIn (M:=M) X c.cs).andThen ?_);exact(show Looks M h (dataDescriptor? (some (.builtin "object.__class__")) (some (.builtin "getset_descriptor.__get__"))) (some (.builtin "getset_descriptor.__get__",.builtin "object.__class__")) from(looks_takesIn (M:=M) X c.ct).andThen .now).andThen (Looks.tag .now)
open PySem.W Builtin Builtin.ObjectAttr Builtin.Getset_descriptor in
theorem qtk{tp:Value}{R:Result->Shared->Prop}(c:ExcC K D)(X:K.In s.heap)(I:XE x D od s.heap)(h:R (.ok (.ret (.ref D))) s):
  codeAny (model prog w) A (.call (.builtin "getset_descriptor.__get__") ⟨[.builtin "object.__class__",.ref x,tp],[]⟩) R s:=by
 obtain⟨hh,g,dr,t,os⟩:=s;have L0:=q6a (M:=model prog w) I;have L1:=looks_mroIn (M:=model prog w) X c.cm;refine g2b KF.slot_gs.plain KF.entry_gs (KF.slot_gs.check _ _ _ _ _ _ _ _ KF.type_class (KF.args_gs _ _ _) ?_);unfold Builtin.«getset_descriptor.__get__» descrGet;rw [dga_obj];refine g0 (g9 ?_);unfold descrGetter descrCheckInstance descrNameAndClass isInstance;simp only [KF.owner_class]
 repeat lk
 refine⟨Code.quiet_builtin _ (by decide +kernel),uo KF.entry_class ?_⟩;unfold Builtin.«object.__class__» shownTypeOf
 repeat lk
 exact h
open PySem.W in
theorem qnx{tk:Tok}{Q:Fin->Shared->Prop}(c:ExcC K D)(X:K.In s.heap)(I:XE x D od s.heap)(hq:Q (.done (.ret (.ref D))) s):
  wpAny (model prog w) A (Builtin.«object.__getattribute__» ⟨[.ref x,.str "__class__" tk],[]⟩) Q E s:=by
 obtain⟨hh,g,dr,t,os⟩:=s;have L0:=q6a (M:=model prog w) I;have L1:=qr2 (x:=x) (M:=model prog w) c X;unfold Builtin.«object.__getattribute__»;refine g0 (g9 (g0 (g9 (g0 (L0.at (g0 (L1.at ?_)))))));show wpAny _ _ (Builtin.ObjectAttr.bindTo _ _ _ _) _ _ _;unfold Builtin.ObjectAttr.bindTo;refine g0 (nt (g52 (qtk c X I ?_)));exact g9 hq
open PySem.W in
theorem qny{M:Model}{nameV:Value}{Q:Unit->Shared->Prop}(c:ExcC K D)(X:K.In s.heap)(I:XE x D od s.heap)(hq:Q () s): wpAny M A (checkBuiltinCall "BaseException.__getattribute__" ⟨[.ref x,nameV],[]⟩) Q E s:=by
 obtain⟨hh,g,dr,t,os⟩:=s;have L0:=q6a (M:=M) I;have L1:=looks_mroIn (M:=M) X c.cb;have hk:builtinKind "BaseException.__getattribute__" = some .slot:=by decide +kernel
 have hsplit:splitId "BaseException.__getattribute__" = some ("BaseException","__getattribute__"):=by decide +kernel
 have ha:=F.args_bexc_ga (.ref x) nameV;simp only [checkBuiltinCall,hk,hsplit];refine g0 ?_;unfold isInstance;refine g0 (L0.at (L1.at ?_))
 repeat (first|wp_step)
 exact hq
open PySem.W in
theorem qnz{Q:Option Value->Shared->Prop}(c:ExcC K D)(X:K.In s.heap)(I:XE x D od s.heap)(h:Q (some (.ref D)) {s with toks:=s.toks+1}): wpAny (model prog w) A (getAttr? (.ref x) "__class__") Q E s:=by
 obtain⟨hh,g,dr,t,os⟩:=s;have L0:=q6a (M:=model prog w) I;have L1:=looks_findIn (M:=model prog w) X c.ga;have L2:=looks_findIn (M:=model prog w) X c.gk;have f3:=g4c.ga.bind (.ref x);unfold getAttr? getAttrBy? getAttrBy;refine g0 (wpAny_mkText (g0 (g0s (nt (g0 (L0.at (g0 (L1.at ?_))))))));show wpAny _ _ (getAttrByItsOwn _ _ _ _ _ _) _ _ _;unfold getAttrByItsOwn hookBefore;rw [m8 (show onTheHeap (Value.ref D)=true from rfl)];refine g0 (L2.at ?_);refine g0 (g0s (nt ?_));unfold callGetattribute boundAndCalled;rw [ma (by decide)];rw [f3];refine g0 (g9 ?_);refine g52 (g2b g4c.ga.plain F.entry_bexc_ga (qny c X I (qnx c X I ?_)));dsimp only;exact handed_on rfl (g9 h)
theorem qo0(c:ExcC K D): PySem.W.KitX K (.ref x) (.ref D) (XE x D od) where
 ty:=fun M h _ e=>q6a e
 it:=fun _ _ X _=>by
  obtain⟨cdD,hcD⟩:=g0k.mp (qhu c);unfold PySem.W.clsIn at hcD
  split at hcD
  ·rename_i c' d' cd' sl' ho
   intro A' Q' E' s' k q;unfold isType loadHead;exact g0 (wpAny_loadPart (k _ _ (X _ _ ho)) (g9 q))
  ·cases hcD
 ne:=fun h tp dd its n sl X htp=>by
  obtain⟨cdD,hcD⟩:=g0k.mp (qhu c);refine Bool.eq_false_iff.mpr fun q=>?_;have e:D=tp:=Value.ref.inj (g1m.mp q);subst e;unfold PySem.W.clsIn at hcD
  split at hcD
  ·rename_i c' d' cd' sl' ho
   have z:=(X _ _ ho).symm.trans htp;cases z
  ·cases hcD
 ca:=fun X e k=>qnz c X e k
end
def qtl(K:PySem.W.Frag)(C:Addr): Prop:=ExcC K C/\∀T:String,T∈["int","bool","tuple","list","str","dict"]->PySem.W.kitOne K (.ref C) (.type T)=some false
inductive D where
 | non
 | bl (b:Bool)
 | int (i:Int)
 | str (x:Str)
 | tup (ds:List D)
 | lst (ds:List D)
 | dct (ks:List Key) (vs:List D)
 | dtt (ks:List (List Int)) (vs:List D)
 | dt2 (ks:List (List Int×List Int))
 | obj (x:Str)
 | exc (x:Str) (f:Option (Str×Int))
abbrev Frag:=PySem.W.Frag
abbrev St:=L2.St
def qo1(K:Frag)(C:Addr): Prop:=PySem.W.plainGet K C "__class__" = true/\PySem.W.hasDictIn K C=true/\PySem.W.findIn K (.ref C) "__class__" = some (some (.builtin "object.__class__")) /\
 PySem.W.specialIn K (.builtin "object.__class__") "__get__" = some (some (.builtin "getset_descriptor.__get__"))/\PySem.W.takesIn K (.builtin "object.__class__")=some true/\PySem.W.mroIn K C (.type "object")=some true /\
 ∀T:String,T∈["int","bool","tuple","list","str","dict"]->PySem.W.kitOne K (.ref C) (.type T)=some false
def qtm(x:List Int×Addr×Value): DictEntry:=⟨reduceHash (Builtin.Tuple.tupleHashOf (x.1.map hashInt)),.ref x.2.1,x.2.2⟩
def DE(a:Addr)(xs:List (List Int×Addr×Value))(ep:Nat)(h:Heap): Prop:=∃o es,h.get? a=some o/\o.ExactDict/\o.data=.dict es ep/\es.toList=xs.map qtm
def qx8(x:(List Int×List Int)×Addr×Value): DictEntry:=⟨reduceHash (Builtin.Tuple.tupleHashOf [reduceHash (Builtin.Tuple.tupleHashOf (x.1.1.map hashInt)),reduceHash (Builtin.Tuple.tupleHashOf (x.1.2.map hashInt))]),.ref x.2.1,x.2.2⟩
def DE2(a:Addr)(xs:List ((List Int×List Int)×Addr×Value))(ep:Nat)(h:Heap): Prop:=∃o es,h.get? a=some o/\o.ExactDict/\o.data=.dict es ep/\es.toList=xs.map qx8
def SqP(K:Frag)(H:Hp)(a:Addr)(k:List Int×List Int): Prop:=∃p q,SqT K H a [.ref p,.ref q]/\SqT K H p (k.1.map V.int)/\SqT K H q (k.2.map V.int)
def XF(H:Hp): Option Addr->Option (Str×Int)->Prop
 | none,none=>True
 | some dx,some p=>H dx=some (.xd [(p.1,.int p.2)])
 | _,_=>False
theorem XF.mono{H H':Hp}(e:Same H H'): ∀ {od:Option Addr} {f:Option (Str×Int)},XF H od f->XF H' od f
 | none,none,_=>trivial
 | some _,some _,h=>e _ _ h
 | none,some _,h=>h
 | some _,none,h=>h
mutual
/-- v stands for the datum in the heap H -/
def Rep(K:Frag)(H:Hp): D->V->Prop
 | .non,v=>v=.non
 | .bl b,v=>v=.bl b
 | .int i,v=>v=.int i
 | .str x,v=>v=.str x
 | .tup ds,v=>∃a xs,v=.ref a/\SqT K H a xs/\RepL K H ds xs
 | .lst ds,v=>∃a xs,v=.ref a/\SqL K H a xs/\RepL K H ds xs
 | .dct ks vs,v=>∃a xs,v=.ref a/\H a=some (.dK (ks.zip xs))/\ks.length=xs.length/\RepL K H vs xs
 | .dtt ks vs,v=>∃a xs ys ep,v=.ref a/\H a=some (.ext (DE a xs ep))/\xs.map (·.1)=ks/\ks.Nodup/\xs.length<=sizeLine/\(a==sysModules)=false/\(∀x∈xs,SqT K H x.2.1 (x.1.map V.int))/\Vals ys (xs.map fun x=>x.2.2)/\RepL K H vs ys
 | .dt2 ks,v=>∃a xs ep,v=.ref a/\H a=some (.ext (DE2 a xs ep))/\xs.map (·.1)=ks/\ks.Nodup/\xs.length<=sizeLine/\(a==sysModules)=false/\∀x∈xs,SqP K H x.2.1 x.1
 | .obj x,v=>∃a dx C,v=.ref a/\H a=some (.ins C dx [])/\PySem.W.nsIn K mainGlobals x=some (some (.ref C))/\qo1 K C
 | .exc x f,v=>∃a C,v=.ref a/\(∃od,H a=some (.ext (XE a C od))/\XF H od f)/\PySem.W.nsIn K mainGlobals x=some (some (.ref C))/\qtl K C
def RepL(K:Frag)(H:Hp): List D->List V->Prop
 | [],xs=>xs=[]
 | d :: ds,xs=>∃x r,xs=x :: r/\Rep K H d x/\RepL K H ds r
end
theorem qq{K:Frag}{H H':Hp}{a:Addr}{xs:List V}(e:Same H H')(h:SqT K H a xs): SqT K H' a xs:=by
 rcases h with(h|⟨o,h⟩)|h
 ·exact .inl (.inl (e _ _ h))
 ·exact .inl (.inr ⟨o,e _ _ h⟩)
 ·exact .inr h
theorem SqP.mono{K:Frag}{H H':Hp}{a:Addr}{k:List Int×List Int}(e:Same H H')(h:SqP K H a k): SqP K H' a k:=by
 obtain⟨p,q,h1,h2,h3⟩:=h;exact⟨p,q,qq e h1,qq e h2,qq e h3⟩
mutual
theorem Rep.mono{K:Frag}{H H':Hp}(e:Same H H'): ∀ {d:D} {v:V},Rep K H d v->Rep K H' d v
 | .non,v,h=>by simpa only [Rep] using h
 | .bl b,v,h=>by simpa only [Rep] using h
 | .int i,v,h=>by simpa only [Rep] using h
 | .str x,v,h=>by simpa only [Rep] using h
 | .tup ds,v,h=>by
  simp only [Rep] at h ⊢;obtain⟨a,xs,e1,e2,e3⟩:=h;exact⟨a,xs,e1,qq e e2,RepL.mono e e3⟩
 | .lst ds,v,h=>by
  simp only [Rep] at h ⊢;obtain⟨a,xs,e1,e2,e3⟩:=h;exact⟨a,xs,e1,e.seq e2,RepL.mono e e3⟩
 | .dct ks vs,v,h=>by
  simp only [Rep] at h ⊢;obtain⟨a,xs,e1,e2,e3,e4⟩:=h;exact⟨a,xs,e1,e _ _ e2,e3,RepL.mono e e4⟩
 | .dtt ks vs,v,h=>by
  simp only [Rep] at h ⊢;obtain⟨a,xs,ys,ep,e1,e2,e3,e4,e5,e6,e7,e8,e9⟩:=h;exact⟨a,xs,ys,ep,e1,e _ _ e2,e3,e4,e5,e6,fun x hx=>qq e (e7 x hx),e8,RepL.mono e e9⟩
 | .dt2 ks,v,h=>by
  simp only [Rep] at h ⊢;obtain⟨a,xs,ep,e1,e2,e3,e4,e5,e6,e7⟩:=h;exact⟨a,xs,ep,e1,e _ _ e2,e3,e4,e5,e6,fun x hx=>(e7 x hx).mono e⟩
 | .obj x,v,h=>by
  simp only [Rep] at h ⊢;obtain⟨a,dx,C,e1,e2,e3⟩:=h;exact⟨a,dx,C,e1,e _ _ e2,e3⟩
 | .exc x f,v,h=>by
  simp only [Rep] at h ⊢;obtain⟨a,C,e1,⟨od,e2,e4⟩,e3⟩:=h;exact⟨a,C,e1,⟨od,e _ _ e2,e4.mono e⟩,e3⟩
theorem RepL.mono{K:Frag}{H H':Hp}(e:Same H H'): ∀ {ds:List D} {xs:List V},RepL K H ds xs->RepL K H' ds xs
 | [],xs,h=>by simpa only [RepL] using h
 | d :: ds,xs,h=>by
  simp only [RepL] at h ⊢;obtain⟨x,r,e1,e2,e3⟩:=h;exact⟨x,r,e1,Rep.mono e e2,RepL.mono e e3⟩
end
section
variable{K:Frag}{H:Hp}
theorem RepL.nil:RepL K H [] []:=by simp only [RepL]
theorem RepL.cons{d:D}{ds:List D}{x:V}{xs:List V}(h:Rep K H d x)(t:RepL K H ds xs): RepL K H (d :: ds) (x :: xs):=by
 simp only [RepL];exact⟨x,xs,rfl,h,t⟩
theorem RepL.nil_inv{xs:List V}(h:RepL K H [] xs): xs=[]:=by simpa only [RepL] using h
theorem RepL.cons_inv{d:D}{ds:List D}{xs:List V}(h:RepL K H (d :: ds) xs): ∃x r,xs=x :: r/\Rep K H d x/\RepL K H ds r:=by simpa only [RepL] using h
theorem RepL.length:∀ {ds:List D} {xs:List V},RepL K H ds xs->ds.length=xs.length
 | [],xs,h=>by rw [h.nil_inv];rfl
 | d :: ds,xs,h=>by
  obtain⟨x,r,rfl,_,t⟩:=h.cons_inv;simp [RepL.length t]
theorem RepL.append:∀ {ds es:List D} {xs ys:List V},RepL K H ds xs->RepL K H es ys->RepL K H (ds++es) (xs++ys)
 | [],es,xs,ys,h,t=>by rw [h.nil_inv];exact t
 | d :: ds,es,xs,ys,h,t=>by
  obtain⟨x,r,rfl,h1,h2⟩:=h.cons_inv;exact .cons h1 (RepL.append h2 t)
theorem RepL.get:∀ {ds:List D} {xs:List V} {i:Nat} {d:D},RepL K H ds xs->ds[i]? = some d->∃x,xs[i]? = some x/\Rep K H d x
 | [],xs,i,d,h,e=>by simp at e
 | d :: ds,xs,0,d',h,e=>by
  obtain⟨x,r,rfl,h1,h2⟩:=h.cons_inv;simp at e;subst e;exact⟨x,rfl,h1⟩
 | d :: ds,xs,i+1,d',h,e=>by
  obtain⟨x,r,rfl,h1,h2⟩:=h.cons_inv;obtain⟨y,e1,e2⟩:=RepL.get (i:=i) h2 (by simpa using e);exact⟨y,by simpa using e1,e2⟩
theorem RepL.take:∀ {ds:List D} {xs:List V} (n:Nat),RepL K H ds xs->RepL K H (ds.take n) (xs.take n)
 | _,_,0,_=>by simp only [List.take_zero];exact .nil
 | [],xs,n+1,h=>by rw [h.nil_inv];exact .nil
 | d :: ds,xs,n+1,h=>by
  obtain⟨x,r,rfl,h1,h2⟩:=h.cons_inv;exact .cons h1 (RepL.take n h2)
theorem RepL.drop:∀ {ds:List D} {xs:List V} (n:Nat),RepL K H ds xs->RepL K H (ds.drop n) (xs.drop n)
 | ds,xs,0,h=>by simpa only [g6b] using h
 | [],xs,n+1,h=>by rw [h.nil_inv];exact .nil
 | d :: ds,xs,n+1,h=>by
  obtain⟨x,r,rfl,h1,h2⟩:=h.cons_inv;exact RepL.drop n h2
theorem RepL.ints:∀ {ns:List Int} {xs:List V},RepL K H (ns.map D.int) xs↔xs=ns.map V.int
 | [],xs=>by simp only [g0e,RepL]
 | n :: ns,xs=>by
  simp only [gf,RepL]
  constructor
  ·rintro⟨x,r,rfl,h1,h2⟩
   simp only [Rep] at h1;rw [h1,RepL.ints.mp h2]
  ·rintro rfl
   exact⟨_,_,rfl,by simp only [Rep],RepL.ints.mpr rfl⟩
theorem rep_int{i:Int}{v:V}: Rep K H (.int i) v↔v=.int i:=by simp only [Rep]
theorem rep_bl{i:Bool}{v:V}: Rep K H (.bl i) v↔v=.bl i:=by simp only [Rep]
theorem rep_str{i:Str}{v:V}: Rep K H (.str i) v↔v=.str i:=by simp only [Rep]
theorem rep_non{v:V}: Rep K H .non v↔v=.non:=by simp only [Rep]
theorem rep_tup{ds:List D}{v:V}: Rep K H (.tup ds) v↔∃a xs,v=.ref a/\SqT K H a xs/\RepL K H ds xs:=by simp only [Rep]
theorem rep_lst{ds:List D}{v:V}: Rep K H (.lst ds) v↔∃a xs,v=.ref a/\SqL K H a xs/\RepL K H ds xs:=by simp only [Rep]
theorem rep_dct{ks:List Key}{vs:List D}{v:V}: Rep K H (.dct ks vs) v↔∃a xs,v=.ref a/\H a=some (.dK (ks.zip xs))/\ks.length=xs.length/\RepL K H vs xs:=by simp only [Rep]
theorem rep_dtt{ks:List (List Int)}{vs:List D}{v:V}: Rep K H (.dtt ks vs) v↔∃a xs ys ep,v=.ref a/\H a=some (.ext (DE a xs ep))/\xs.map (·.1)=ks/\ks.Nodup/\xs.length<=sizeLine/\(a==sysModules)=false/\(∀x∈xs,SqT K H x.2.1 (x.1.map V.int))/\Vals ys (xs.map fun x=>x.2.2)/\RepL K H vs ys:=by simp only [Rep]
theorem rep_dt2{ks:List (List Int×List Int)}{v:V}: Rep K H (.dt2 ks) v↔∃a xs ep,v=.ref a/\H a=some (.ext (DE2 a xs ep))/\xs.map (·.1)=ks/\ks.Nodup/\xs.length<=sizeLine/\(a==sysModules)=false/\∀x∈xs,SqP K H x.2.1 x.1:=by simp only [Rep]
theorem rep_exc{x:Str}{f:Option (Str×Int)}{v:V}: Rep K H (.exc x f) v↔∃a C,v=.ref a/\(∃od,H a=some (.ext (XE a C od))/\XF H od f)/\PySem.W.nsIn K mainGlobals x=some (some (.ref C))/\qtl K C:=by simp only [Rep]
theorem rep_obj{x:Str}{v:V}: Rep K H (.obj x) v↔∃a dx C,v=.ref a/\H a=some (.ins C dx [])/\PySem.W.nsIn K mainGlobals x=some (some (.ref C))/\qo1 K C:=by simp only [Rep]
end
class Lam where
 tab:List (Addr×Str)
class Pin where
 pin:Option Addr
instance (priority:=low) pin0:Pin:=⟨none⟩
variable[Lam][Pin]
def Tab(H:Hp): Prop:=∀p∈Lam.tab,∃ps,H p.1=some (.tbl ps)/\TriplesOk ps.toList/\∀pos cv,codeAmong pos ps.toList=some cv->∃c φ,cv=.ref c/\H c=some (.ext φ)/\∀h, φ h->h.CodeRec (.ref c) p.2
def qo2(F:Hp): Prop:=∀p∈Lam.tab,F p.1=none
theorem Tab.updG{H:Hp}(t:Tab H){p:Addr}{o:HO}(h:∀u,H p=some u->(∀ps,u ≠ .tbl ps)/\∀ φ,u ≠ .ext φ): Tab (upd H p o):=fun q hq=>by
 obtain⟨ps,e,ht,k⟩:=t q hq;refine⟨ps,by rw [z6 (fun z=>by subst z;exact(h _ e).1 ps rfl)];exact e,ht,fun pos cv z=>?_⟩;obtain⟨c, φ,e1,e2,e3⟩:=k pos cv z;exact⟨c, φ,e1,by rw [z6 (fun z=>by subst z;exact(h _ e2).2 φ rfl)];exact e2,e3⟩
theorem Tab.upd{H:Hp}(t:Tab H){p:Addr}{o:HO}(h:H p=none\/∃xs,H p=some (.lst xs)): Tab (upd H p o):=t.updG fun u e=>by
 rcases h with h|⟨xs,h⟩
 ·rw [h] at e;cases e
 ·rw [h] at e;cases e;exact⟨nofun,nofun⟩
abbrev KO:=(Addr×Addr×List (Str×V)) ⊕ List (Key×V)
def KO.ho:KO->HO
 | .inl u=>.ins u.1 u.2.1 u.2.2
 | .inr k=>.dK k
structure Kept(H H':Hp): Prop where
 lst:∀b xs,H b=some (.lst xs)->H' b=some (.lst xs)
 ext:∀b φ,H b=some (.ext φ)->H' b=some (.ext φ)
 free:∀ {b},H' b=none->H b=none
 tb:Tab H->Tab H'
 dk:∀b (u:KO),H b=some u.ho->H' b=some u.ho
theorem Kept.refl(H:Hp): Kept H H:=⟨fun _ _ e=>e,fun _ _ e=>e,fun e=>e,fun t=>t,fun _ _ e=>e⟩
theorem Kept.trans{H H1 H2:Hp}(a:Kept H H1)(b:Kept H1 H2): Kept H H2:=⟨fun c xs e=>b.lst c xs (a.lst c xs e),fun c φ e=>b.ext c φ (a.ext c φ e),fun e=>a.free (b.free e),fun t=>b.tb (a.tb t),fun c kvs e=>b.dk c kvs (a.dk c kvs e)⟩
theorem Kept.new{H:Hp}{p:Addr}{o:HO}(hp:H p=none): Kept H (upd H p o):=⟨fun b xs e=>by rw [z6 (xf e hp)];exact e,fun b φ e=>by rw [z6 (xf e hp)];exact e,fun {b} e=>by
 by_cases z:b=p
 ·subst z;exact hp
 ·rw [z6 z] at e;exact e,fun t=>t.upd (.inl hp),fun b kvs e=>by rw [z6 (xf e hp)];exact e⟩
structure SameT(F H:Hp): Prop where
 s:Same F H
 t:Tab H
 f:qo2 F
structure Grow(F H F' H':Hp): Prop where
 ff:Same F F'
 hh:Kept H H'
 fh:Same F' H'
 nw:∀b,F' b≠none->F b≠none\/H b=none
theorem Grow.refl{F H:Hp}(h:Same F H): Grow F H F H:=⟨.refl _,.refl _,h,fun _ h=>.inl h⟩
theorem Grow.trans{F H F1 H1 F2 H2:Hp}(a:Grow F H F1 H1)(b:Grow F1 H1 F2 H2): Grow F H F2 H2:=
 ⟨a.ff.trans b.ff,a.hh.trans b.hh,b.fh,fun c h=>(b.nw c h).elim (fun z=>a.nw c z) fun z=>.inr (a.hh.free z)⟩
theorem wk{H:Hp}{p:Addr}{o:HO}(h:H p=none): Same H (upd H p o):=fun b u q=>by rw [z6 (xf q h)];exact q
theorem qld{F H:Hp}{p:Addr}{o:HO}(h:Same F H): Same (upd F p o) (upd H p o):=fun b u q=>by
 unfold upd at q ⊢
 split
 ·rename_i z;rw [m8 z] at q;exact q
 ·rename_i z;rw [ma z] at q;exact h _ _ q
theorem Grow.new{F H:Hp}{p:Addr}{o:HO}(h:Same F H)(hp:H p=none): Grow F H (upd F p o) (upd H p o):=
 ⟨wk (h.free hp),.new hp,qld h,fun b hb=>by
  by_cases e:b=p
  ·subst e;exact .inr hp
  ·rw [z6 e] at hb;exact .inl hb⟩
theorem Grow.own{F H:Hp}{p:Addr}{o:HO}(h:Same F H)(hp:H p=none): Grow F H F (upd H p o):=
 ⟨.refl _,.new hp,h.trans (wk hp),fun _ h=>.inl h⟩
inductive B where
 | fz (d:D)
 | ow (ds:List D)
 | od (kvs:Str×List (Str×D))
abbrev Rho:=List (Option B)
def FsR(K:Frag)(F:Hp): List (Str×D)->List (Str×V)->Prop
 | [],vs=>vs=[]
 | p :: fs,vs=>∃v r,vs=(p.1,v) :: r/\Rep K F p.2 v/\FsR K F fs r
omit [Lam] [Pin] in
theorem FsR.mono{K:Frag}{F F':Hp}(s:Same F F'): ∀ {fs:List (Str×D)} {vs:List (Str×V)},FsR K F fs vs->FsR K F' fs vs
 | [],_,h=>h
 | p :: fs,_,⟨v,r,e,h1,h2⟩=>⟨v,r,e,h1.mono s,FsR.mono s h2⟩
structure ODt(K:Frag)(F H H0:Hp)(a:Addr)(bs:List Addr)(kvs:Str×List (Str×D)): Prop where
 nb:bs=[]
 ex:∃C dx vs,H a=some (.ins C dx vs)/\PySem.W.nsIn K mainGlobals kvs.1=some (some (.ref C))/\FsR K F kvs.2 vs
 f:F a=none
 z:H0 a=none
 pn:∀p,Pin.pin=some p->a=p
structure RS(K:Frag)(F0 H0 F H:Hp)(σ : St)(ρ : Rho): Prop where
 t0:Tab H0/\qo2 F0
 g:Grow F0 H0 F H
 len : σ.length = ρ.length
 fz:∀(i:Nat) (d:D), ρ[i]? = some (some (.fz d))->∃v, σ[i]? = some (some v)/\Rep K F d v
 ow:∀(i:Nat) (ds:List D), ρ[i]? = some (some (.ow ds))->∃a xs, σ[i]? = some (some (.ref a))/\H a=some (.lst xs)/\F a=none/\H0 a=none/\RepL K F ds xs
 dj:∀(i j:Nat) (ds es:List D) (a:Addr),i≠j -> ρ[i]? = some (some (.ow ds)) -> ρ[j]? = some (some (.ow es)) -> σ[i]? = some (some (.ref a)) -> σ[j]? ≠ some (some (.ref a))
 od:∀(i:Nat) (kvs:Str×List (Str×D)), ρ[i]? = some (some (.od kvs))->∃a bs, σ[i]? = some (some (.ref a))/\ODt K F H H0 a bs kvs/\∀(j:Nat) (es:List D) (b:Addr), ρ[j]? = some (some (.ow es))->b∈bs -> σ[j]? ≠ some (some (.ref b))
 o1:∀(i j:Nat) (k1 k2:Str×List (Str×D)), ρ[i]? = some (some (.od k1)) -> ρ[j]? = some (some (.od k2))->i=j
theorem qr3{F H F' H':Hp}{a:Addr}{o:HO}(g:Grow F H F' H')(h1:F a=none)(h2:H a=some o): F' a=none:=by
 cases q:F' a with
 | none=>rfl
 | some o=>
  rcases g.nw a (by rw [q];simp) with z|z
  ·exact absurd h1 z
  ·rw [h2] at z;cases z
theorem ODt.mem{K:Frag}{F H H0:Hp}{a:Addr}{bs:List Addr}{kvs:Str×List (Str×D)}(o:ODt K F H H0 a bs kvs){b:Addr}(h:b∈bs): ∃xs,H b=some (.lst xs)/\F b=none/\H0 b=none:=by
 rw [o.nb] at h;cases h
theorem ODt.nl{K:Frag}{F H H0:Hp}{a:Addr}{bs:List Addr}{kvs:Str×List (Str×D)}(o:ODt K F H H0 a bs kvs){xs:List V}(h:H a=some (.lst xs)): False:=by
 obtain⟨C,dx,vs,e,_⟩:=o.ex;rw [h] at e;cases e
theorem ODt.grow{K:Frag}{F H F' H' H0:Hp}{a:Addr}{bs:List Addr}{kvs:Str×List (Str×D)}(o:ODt K F H H0 a bs kvs)(g:Grow F H F' H'): ODt K F' H' H0 a bs kvs:=by
 obtain⟨C,dx,vs,e1,e2,e3⟩:=o.ex;exact⟨o.nb,⟨C,dx,vs,g.hh.dk a (.inl (C,dx,_)) e1,e2,e3.mono g.ff⟩,qr3 g o.f e1,o.z,o.pn⟩
theorem ODt.other{K:Frag}{F H H0:Hp}{a p:Addr}{bs:List Addr}{kvs:Str×List (Str×D)}{u:HO}(o:ODt K F H H0 a bs kvs)(h1:p≠a)(h2:p∉bs): ODt K F (upd H p u) H0 a bs kvs:=by
 obtain⟨C,dx,vs,e1,e2,e3⟩:=o.ex;exact⟨o.nb,⟨C,dx,vs,by rw [z6 (my h1)];exact e1,e2,e3⟩,o.f,o.z,o.pn⟩
theorem ODt.otherF{K:Frag}{F H H0:Hp}{a p:Addr}{bs:List Addr}{kvs:Str×List (Str×D)}{u:HO}(o:ODt K F H H0 a bs kvs)(hs:Same F (upd F p u))(h1:p≠a)(h2:p∉bs): ODt K (upd F p u) H H0 a bs kvs:=by
 obtain⟨C,dx,vs,e1,e2,e3⟩:=o.ex;exact⟨o.nb,⟨C,dx,vs,e1,e2,e3.mono hs⟩,by rw [z6 (my h1)];exact o.f,o.z,o.pn⟩
section
variable{K:Frag}{F0 H0 F H F' H':Hp}{σ : St}{ρ : Rho}
theorem RS.fh(r:RS K F0 H0 F H σ ρ): Same F H:=r.g.fh
theorem RS.tab(r:RS K F0 H0 F H σ ρ): Tab H:=r.g.hh.tb r.t0.1
theorem RS.tabF(r:RS K F0 H0 F H σ ρ): qo2 F:=fun p hp=>by
 cases q:F p.1 with
 | none=>rfl
 | some o=>
  rcases r.g.nw p.1 (by rw [q];simp) with z|z
  ·exact absurd (r.t0.2 p hp) z
  ·obtain⟨ps,e,_⟩:=r.t0.1 p hp
   rw [e] at z;cases z
theorem RS.grow(r:RS K F0 H0 F H σ ρ)(g:Grow F H F' H'): RS K F0 H0 F' H' σ ρ where
 t0:=r.t0
 g:=r.g.trans g
 len:=r.len
 fz:=fun i d e=>let⟨v,e1,e2⟩:=r.fz i d e; ⟨v,e1,e2.mono g.ff⟩
 ow:=fun i ds e=>by
  obtain⟨a,xs,e1,e2,e3,e4,e5⟩:=r.ow i ds e;refine⟨a,xs,e1,g.hh.lst _ _ e2,?_,e4,e5.mono g.ff⟩;cases q:F' a with
  | none=>rfl
  | some o=>
   rcases g.nw a (by rw [q];simp) with z|z
   ·exact absurd e3 z
   ·rw [e2] at z;cases z
 dj:=r.dj
 od:=fun i kvs e=>let⟨a,bs,e1,e2,e3⟩:=r.od i kvs e; ⟨a,bs,e1,e2.grow g,e3⟩
 o1:=r.o1
theorem RS.sameT(r:RS K F0 H0 F H σ ρ)(g:Grow F H F' H'): SameT F' H':=⟨g.fh,(r.grow g).tab,(r.grow g).tabF⟩
theorem zd{α : Type}{l:List α}{i:Nat}{x y : α}(h:(l.set i x)[i]? = some y): y=x/\i<l.length:=by
 rw [g4s] at h;simp only [pz] at h
 split at h
 ·exact⟨(mq h).symm,by assumption⟩
 ·cases h
theorem RS.set(r:RS K F0 H0 F H σ ρ){d:D}{v:V}(i:Nat)(h:Rep K F d v): RS K F0 H0 F H (σ.set i (some v)) (ρ.set i (some (.fz d))) where
 t0:=r.t0
 g:=r.g
 len:=by rw [uc,uc];exact r.len
 fz:=fun j e h1=>by
  by_cases q:j=i
  ·subst q
   obtain⟨z,l⟩:=zd h1;cases z;exact⟨v,by rw [g4s];simp [r.len,l],h⟩
  ·rw [gu (my q)] at h1 ⊢
   exact r.fz j e h1
 ow:=fun j ds h1=>by
  by_cases q:j=i
  ·subst q
   obtain⟨z,l⟩:=zd h1;cases z
  ·rw [gu (my q)] at h1 ⊢
   exact r.ow j ds h1
 dj :=fun j k ds es a hjk h1 h2 h3=>by
  by_cases q:j=i
  ·subst q
   obtain⟨z,l⟩:=zd h1;cases z
  ·by_cases q2:k=i
   ·subst q2
    obtain⟨z,l⟩:=zd h2;cases z
   ·rw [gu (my q)] at h1 h3
    rw [gu (my q2)] at h2 ⊢;exact r.dj j k ds es a hjk h1 h2 h3
 od :=fun j kvs h1=>by
  by_cases q:j=i
  ·subst q
   obtain⟨z,l⟩:=zd h1;cases z
  ·rw [gu (my q)] at h1 ⊢
   obtain⟨a,bs,e1,e2,e3⟩:=r.od j kvs h1;refine⟨a,bs,e1,e2,fun k es b h2 h3=>?_⟩
   by_cases q2:k=i
   ·subst q2
    obtain⟨z,l⟩:=zd h2;cases z
   ·rw [gu (my q2)] at h2 ⊢
    exact e3 k es b h2 h3
 o1 :=fun j k k1 k2 h1 h2=>by
  by_cases q:j=i
  ·subst q
   obtain⟨z,l⟩:=zd h1;cases z
  ·by_cases q2:k=i
   ·subst q2
    obtain⟨z,l⟩:=zd h2;cases z
   ·rw [gu (my q)] at h1
    rw [gu (my q2)] at h2;exact r.o1 j k k1 k2 h1 h2
theorem RS.setO(r:RS K F0 H0 F H σ ρ){ds:List D}{xs:List V}{a:Addr}(i:Nat)(h1:H a=some (.lst xs))(h2:F a=none)(h3:H0 a=none)(h4:RepL K F ds xs)
  (h5:∀(j:Nat) (es:List D), ρ[j]? = some (some (.ow es)) -> σ[j]? ≠ some (some (.ref a)))
  (h6:∀(j:Nat) (kvs:Str×List (Str×D)), ρ[j]? = some (some (.od kvs))->∃a' bs, σ[j]? = some (some (.ref a'))/\ODt K F H H0 a' bs kvs/\a∉bs/\∀(j':Nat) (es:List D) (b:Addr), ρ[j']? = some (some (.ow es))->b∈bs -> σ[j']? ≠ some (some (.ref b))):RS K F0 H0 F H (σ.set i (some (.ref a))) (ρ.set i (some (.ow ds))) where
 t0:=r.t0
 g:=r.g
 len:=by rw [uc,uc];exact r.len
 fz:=fun j e q1=>by
  by_cases q:j=i
  ·subst q
   obtain⟨z,l⟩:=zd q1;cases z
  ·rw [gu (my q)] at q1 ⊢
   exact r.fz j e q1
 ow:=fun j es q1=>by
  by_cases q:j=i
  ·subst q
   obtain⟨z,l⟩:=zd q1;cases z;exact⟨a,xs,by rw [g4s];simp [r.len,l],h1,h2,h3,h4⟩
  ·rw [gu (my q)] at q1 ⊢
   exact r.ow j es q1
 dj :=fun j k ds' es b hjk q1 q2 q3=>by
  by_cases q:j=i
  ·subst q
   have e3:=zd q3;have eb:b=a:=by have:=e3.1;simpa using this
   subst eb;rw [gu hjk] at q2 ⊢;exact h5 k es q2
  ·rw [gu (my q)] at q1 q3
   by_cases q4:k=i
   ·subst q4
    intro z;have eb:b=a:=by have:=(zd z).1;simpa using this
    subst eb;exact h5 j ds' q1 q3
   ·rw [gu (my q4)] at q2 ⊢
    exact r.dj j k ds' es b hjk q1 q2 q3
 od :=fun j kvs q1=>by
  by_cases q:j=i
  ·subst q
   obtain⟨z,l⟩:=zd q1;cases z
  ·rw [gu (my q)] at q1 ⊢
   obtain⟨a',bs,e1,e2,e3,e4⟩:=h6 j kvs q1;refine⟨a',bs,e1,e2,fun k es b p1 p2 p3=>?_⟩
   by_cases q2:k=i
   ·subst q2
    have eb:b=a:=by have:=(zd p3).1;simpa using this
    exact e3 (eb ▸ p2)
   ·rw [gu (my q2)] at p1 p3
    exact e4 k es b p1 p2 p3
 o1 :=fun j k k1 k2 p1 p2=>by
  by_cases q:j=i
  ·subst q
   obtain⟨z,l⟩:=zd p1;cases z
  ·by_cases q2:k=i
   ·subst q2
    obtain⟨z,l⟩:=zd p2;cases z
   ·rw [gu (my q)] at p1
    rw [gu (my q2)] at p2;exact r.o1 j k k1 k2 p1 p2
theorem RS.wrt(r:RS K F0 H0 F H σ ρ){ds es:List D}{ys:List V}{a:Addr}{i:Nat}(h1 : ρ[i]? = some (some (.ow ds)))(h2 : σ[i]? = some (some (.ref a)))(h4:RepL K F es ys):
  RS K F0 H0 F (upd H a (.lst ys)) σ (ρ.set i (some (.ow es))):=by
 obtain⟨a',xs,e1,e2,e3,e4,e5⟩:=r.ow i ds h1;rw [h2] at e1;obtain rfl:a=a':=by simpa using e1
 have nF:∀b o,F b=some o->b≠a:=fun b o e z=>by subst z;rw [e3] at e;cases e
 exact {
  t0:=r.t0
  g :=⟨r.g.ff,⟨fun b o e=>by rw [z6 (fun z=>by subst z;rw [e4] at e;cases e)];exact r.g.hh.lst b o e,fun b o e=>by rw [z6 (fun z=>by subst z;rw [e4] at e;cases e)];exact r.g.hh.ext b o e,fun {b} e=>by
    by_cases z:b=a
    ·subst z;exact e4
    ·rw [z6 z] at e;exact r.g.hh.free e,fun t=>(r.g.hh.tb t).upd (.inr ⟨_,e2⟩),fun b o e=>by rw [z6 (fun z=>by subst z;rw [e4] at e;cases e)];exact r.g.hh.dk b o e⟩,fun b o e=>by rw [z6 (nF b o e)];exact r.g.fh b o e,r.g.nw⟩
  len:=by rw [uc];exact r.len
  fz:=fun j e q1=>by
   by_cases q:j=i
   ·subst q
    obtain⟨z,l⟩:=zd q1;cases z
   ·rw [gu (my q)] at q1
    exact r.fz j e q1
  ow :=fun j es' q1=>by
   by_cases q:j=i
   ·subst q
    obtain⟨z,l⟩:=zd q1;cases z;exact⟨a,ys,h2,zg,e3,e4,h4⟩
   ·rw [gu (my q)] at q1
    obtain⟨b,zs,f1,f2,f3,f4,f5⟩:=r.ow j es' q1;have hb:b≠a:=fun z=>by
     subst z;exact r.dj i j ds es' b (my q) h1 q1 h2 f1
    exact⟨b,zs,f1,by rw [z6 hb];exact f2,f3,f4,f5⟩
  dj:=fun j k ds' es' b hjk q1 q2 q3=>by
   have back:∀(l:Nat) (us:List D),(ρ.set i (some (.ow es)))[l]? = some (some (.ow us))->∃ws, ρ[l]? = some (some (.ow ws)):=fun l us z=>by
    by_cases q:l=i
    ·subst q;exact⟨ds,h1⟩
    ·rw [gu (my q)] at z;exact⟨us,z⟩
   obtain⟨w1,z1⟩:=back j ds' q1;obtain⟨w2,z2⟩:=back k es' q2;exact r.dj j k w1 w2 b hjk z1 z2 q3
  od:=fun j kvs q1=>by
   by_cases q:j=i
   ·subst q
    obtain⟨z,l⟩:=zd q1;cases z
   ·rw [gu (my q)] at q1
    obtain⟨a',bs,f1,f2,f3⟩:=r.od j kvs q1;refine⟨a',bs,f1,f2.other (fun z=>by subst z;exact f2.nl e2) fun z=>f3 i ds a h1 z h2,fun k es' b p1 p2=>?_⟩
    by_cases q2:k=i
    ·subst q2;exact f3 k ds b h1 p2
    ·rw [gu (my q2)] at p1;exact f3 k es' b p1 p2
  o1 :=fun j k k1 k2 p1 p2=>by
   have back:∀(l:Nat) (us),(ρ.set i (some (.ow es)))[l]? = some (some (.od us)) -> ρ[l]? = some (some (.od us)):=fun l us z=>by
    by_cases q:l=i
    ·subst q
     obtain⟨z',_⟩:=zd z;cases z'
    ·rw [gu (my q)] at z;exact z
   exact r.o1 j k k1 k2 (back _ _ p1) (back _ _ p2)}
theorem RS.freeze(r:RS K F0 H0 F H σ ρ){ds:List D}{i:Nat}(h1 : ρ[i]? = some (some (.ow ds))): ∃F',Same F F'/\RS K F0 H0 F' H σ (ρ.set i (some (.fz (.lst ds)))):=by
 obtain⟨a,xs,e1,e2,e3,e4,e5⟩:=r.ow i ds h1;have sF:Same F (upd F a (.lst xs)):=wk e3;refine⟨upd F a (.lst xs),sF,?_⟩;exact {
  t0:=r.t0
  g :=⟨r.g.ff.trans sF,r.g.hh,fun b o e=>by
    by_cases q:b=a
    ·subst q;rw [zg] at e;cases e;exact e2
    ·rw [z6 q] at e;exact r.g.fh b o e,fun b hb=>by
    by_cases q:b=a
    ·subst q;exact .inr e4
    ·rw [z6 q] at hb;exact r.g.nw b hb⟩
  len:=by rw [uc];exact r.len
  fz:=fun j e q1=>by
   by_cases q:j=i
   ·subst q
    obtain⟨z,l⟩:=zd q1;cases z;exact⟨_,e1,rep_lst.mpr ⟨a,xs,rfl,SqL.of zg,e5.mono sF⟩⟩
   ·rw [gu (my q)] at q1
    obtain⟨v,z1,z2⟩:=r.fz j e q1;exact⟨v,z1,z2.mono sF⟩
  ow :=fun j es' q1=>by
   by_cases q:j=i
   ·subst q
    obtain⟨z,l⟩:=zd q1;cases z
   ·rw [gu (my q)] at q1
    obtain⟨b,zs,f1,f2,f3,f4,f5⟩:=r.ow j es' q1;have hb:b≠a:=fun z=>by
     subst z;exact r.dj i j ds es' b (my q) h1 q1 e1 f1
    exact⟨b,zs,f1,f2,by rw [z6 hb];exact f3,f4,f5.mono sF⟩
  dj :=fun j k ds' es' b hjk q1 q2 q3=>by
   have back:∀(l:Nat) (us:List D),(ρ.set i (some (.fz (.lst ds))))[l]? = some (some (.ow us)) -> ρ[l]? = some (some (.ow us)):=fun l us z=>by
    by_cases q:l=i
    ·subst q
     obtain⟨z',_⟩:=zd z;cases z'
    ·rw [gu (my q)] at z;exact z
   exact r.dj j k ds' es' b hjk (back _ _ q1) (back _ _ q2) q3
  od:=fun j kvs q1=>by
   by_cases q:j=i
   ·subst q
    obtain⟨z,l⟩:=zd q1;cases z
   ·rw [gu (my q)] at q1
    obtain⟨a',bs,f1,f2,f3⟩:=r.od j kvs q1;refine⟨a',bs,f1,f2.otherF sF (fun z=>by subst z;exact f2.nl e2) fun z=>f3 i ds a h1 z e1,fun k es' b p1 p2=>?_⟩
    by_cases q2:k=i
    ·subst q2;exact f3 k ds b h1 p2
    ·rw [gu (my q2)] at p1;exact f3 k es' b p1 p2
  o1 :=fun j k k1 k2 p1 p2=>by
   have back:∀(l:Nat) (us),(ρ.set i (some (.fz (.lst ds))))[l]? = some (some (.od us)) -> ρ[l]? = some (some (.od us)):=fun l us z=>by
    by_cases q:l=i
    ·subst q
     obtain⟨z',_⟩:=zd z;cases z'
    ·rw [gu (my q)] at z;exact z
   exact r.o1 j k k1 k2 (back _ _ p1) (back _ _ p2)}
end
end DL
namespace DL
open PySem PySem.Spec PyProof.Rows L2
variable[Lam][Pin]
abbrev lim:Nat:=1000000
theorem jo{n:Nat}(h:n<=lim): n<=sizeLine:=mm h (by decide)
theorem qcw{n:Nat}(h:n<lim): n<sizeLine:=m5 h (by decide)
abbrev FE:=Rho->Option D
abbrev FT:=Rho->Option Bool
abbrev FA:=Rho->Option (List D)
inductive Fl where
 | nx|bk|ct
 | rt (d:D)
abbrev FS:=Rho->Option (Fl×Rho)
def tD(K:Frag)(f:FE): TE:=fun σ H Q=>∃F0 H0 F ρ d,RS K F0 H0 F H σ ρ /\ f ρ = some d/\∀v F' H',Grow F H F' H'->Rep K F' d v->Q v H'
def tL(K:Frag)(f:FA): TE:=fun σ H Q=>∃F0 H0 F ρ ds,RS K F0 H0 F H σ ρ /\ f ρ = some ds/\∀a xs F' H',Grow F H F' H'->F' a=none->H a=none->H' a=some (.lst xs)->RepL K F' ds xs->Q (.ref a) H'
def tDT(K:Frag)(f:FT): TT:=fun σ H Q=>∃F0 H0 F ρ b,RS K F0 H0 F H σ ρ /\ f ρ = some b/\∀F' H',Grow F H F' H'->Q b H'
def tDA(K:Frag)(f:FA): TA:=fun σ H Q=>∃F0 H0 F ρ ds,RS K F0 H0 F H σ ρ /\ f ρ = some ds/\∀vs F' H',Grow F H F' H'->RepL K F' ds vs->Q vs H'
def qiv(K:Frag)(F0 H0 F:Hp)(D:Ends)(fl:Fl)(ρ':Rho): Prop:=match fl with
 | .nx=>∀ σ' F' H',Same F F'->RS K F0 H0 F' H' σ' ρ'->D.nx σ' H'
 | .bk=>∀ σ' F' H',Same F F'->RS K F0 H0 F' H' σ' ρ'->D.bk σ' H'
 | .ct=>∀ σ' F' H',Same F F'->RS K F0 H0 F' H' σ' ρ'->D.ct σ' H'
 | .rt d=>∀v σ' F' H',RS K F0 H0 F' H' σ' ρ'->Rep K F' d v->D.rt v H'
def tDS(K:Frag)(f:FS): TS:=fun D σ H=>∃F0 H0 F ρ fl ρ',RS K F0 H0 F H σ ρ /\ f ρ = some (fl, ρ')/\qiv K F0 H0 F D fl ρ'
section
variable{X:Cx}{e:Expr}{pos:Pos}
theorem ju{t t':TE}(h:PE X e t)(i:∀ σ H Q,t' σ H Q->t σ H Q): PE X e t':=fun pins s σ H Q I q=>h pins s σ H Q I (i σ H Q q)
theorem qee{t t':TT}(h:PT X e t)(i:∀ σ H Q,t' σ H Q->t σ H Q): PT X e t':=fun pins s σ H Q I q=>h pins s σ H Q I (i σ H Q q)
theorem qle{es:List Expr}{t t':TA}(h:PA X es t)(i:∀ σ H Q,t' σ H Q->t σ H Q): PA X es t':=fun pos pins s σ H Q I q=>h pos pins s σ H Q I (i σ H Q q)
theorem q0k{st:Stmt}{t t':TS}(h:PS X st t)(i:∀D σ H,t' D σ H->t D σ H): PS X st t':=fun pins s σ H D I q=>h pins s σ H D I (i D σ H q)
theorem q8r{st:List Stmt}{t t':TS}(h:PSs X st t)(i:∀D σ H,t' D σ H->t D σ H): PSs X st t':=fun pins s σ H D I q=>h pins s σ H D I (i D σ H q)
def eV(i:Nat): FE:=fun ρ =>match ρ[i]? with
 | some (some (.fz d))=>some d
 | _=>none
def eC(d:D): FE:=fun _=>some d
theorem qr4{i:Nat}{ρ : Rho}{d:D}(h:eV i ρ = some d): ρ[i]? = some (some (.fz d)):=by
 unfold eV at h
 split at h
 ·rename_i e;rw [e,mq h]
 ·cases h
theorem qa{K:Frag}{i:Nat}(h:PE X e (q9p i)): PE X e (tD K (eV i)):=ju h fun σ H Q ⟨F0,H0,F, ρ,d,r,hf,q⟩=>by
 obtain⟨v,e1,e2⟩:=r.fz i d (qr4 hf);exact⟨v,e1,q v F H (.refl r.fh) e2⟩
theorem q6q{K:Frag}{v:V}{d:D}(h:PE X e (tC v))(hd:∀H,Rep K H d v): PE X e (tD K (eC d)):=ju h fun σ H Q ⟨F0,H0,F, ρ,d',r,hf,q⟩=>by
 cases hf;exact q v F H (.refl r.fh) (hd F)
theorem qf{K:Frag}{i j}: PE X (.Constant (.int i) j pos) (tD K (eC (.int i))):=q6q qsn fun _=>rep_int.mpr rfl
theorem kf{K:Frag}{b j}: PE X (.Constant (.bool b) j pos) (tD K (eC (.bl b))):=q6q qvb fun _=>rep_bl.mpr rfl
theorem qap{K:Frag}{j}: PE X (.Constant .none j pos) (tD K (eC .non)):=q6q qso fun _=>rep_non.mpr rfl
def rD(K:Frag)(op:D->D->Option D): R2:=fun x y H Q=>∃F d1 d2 d,Same F H/\Rep K F d1 x/\Rep K F d2 y/\op d1 d2=some d/\∀v F' H',Grow F H F' H'->Rep K F' d v->Q v H'
def eOp(op:D->D->Option D)(f g:FE): FE:=fun ρ =>(f ρ).bind fun x=>(g ρ).bind fun y=>op x y
theorem two{K:Frag}{f g:FE}{op:D->D->Option D}{σ : St}{H:Hp}{Q:VK}(h:tD K (eOp op f g) σ H Q): tD K f σ H fun x H1=>tD K g σ H1 fun y H2=>rD K op x y H2 Q:=by
 obtain⟨F0,H0,F, ρ,d,r,hf,q⟩:=h;obtain⟨d1,h1,hf⟩:=gb.mp hf;obtain⟨d2,h2,h3⟩:=gb.mp hf;refine⟨F0,H0,F, ρ,d1,r,h1,fun v F1 H1 g1 r1=>⟨F0,H0,F1, ρ,d2,r.grow g1,h2,fun u F2 H2 g2 r2=>?_⟩⟩;exact⟨F2,d1,d2,d,g2.fh,r1.mono g2.ff,r2,h3,fun w F3 H3 g3 r3=>q w F3 H3 (g1.trans (g2.trans g3)) r3⟩
variable{a b:Expr}{f g:FE}
theorem qk{op:Operator}{o:D->D->Option D}(ho:OpR X (binaryOp op) (rD X.K o))(ha:PE X a (tD X.K f))(hb:PE X b (tD X.K g)): PE X (.BinOp a op b pos) (tD X.K (eOp o f g)):=
 ju (qq5 ho ha hb) fun σ H Q h=>two h
theorem q2b{f:Value->Value->Sem Value}{r r':R2}(h:OpR X f r)(i:∀x y H Q,r' x y H Q->r x y H Q): OpR X f r':=fun pins s σ H x y v u Q I rx ry q=>h pins s σ H x y v u Q I rx ry (i x y H Q q)
theorem qaq{f:Value->Value->Sem Value}{K:Frag}{o o':D->D->Option D}(h:OpR X f (rD K o))(h':OpR X f (rD K o')): OpR X f (rD K fun x y=>(o x y).or (o' x y)):=fun pins s σ H x y v u Q I rx ry q=>by
 obtain⟨F,d1,d2,d,q1,q2,q3,q4,q5⟩:=q;have q4:(o d1 d2).or (o' d1 d2)=some d:=q4;cases e:o d1 d2 with
 | some d'=>rw [e] at q4;cases q4;exact h pins s σ H x y v u Q I rx ry ⟨F,d1,d2,_,q1,q2,q3,e,q5⟩
 | none=>rw [e] at q4;exact h' pins s σ H x y v u Q I rx ry ⟨F,d1,d2,d,q1,q2,q3,q4,q5⟩
def oI(C:Int->Int->Bool)(z:Int->Int->Int): D->D->Option D
 | .int i,.int j=>if C i j then some (.int (z i j)) else none
 | _,_=>none
def oB(z:Int->Int->Bool): D->D->Option D
 | .int i,.int j=>some (.bl (z i j))
 | _,_=>none
theorem qhv{C:Int->Int->Bool}{z:Int->Int->Int}{d1 d2 d:D}(h:oI C z d1 d2=some d): ∃i j,d1=.int i/\d2=.int j/\C i j=true/\d=.int (z i j):=by
 cases d1 <;> cases d2 <;> simp only [oI] at h <;> first|(cases h;done)|skip
 split at h
 ·exact⟨_,_,rfl,rfl,by assumption,(mq h).symm⟩
 ·cases h
theorem qr5{z:Int->Int->Bool}{d1 d2 d:D}(h:oB z d1 d2=some d): ∃i j,d1=.int i/\d2=.int j/\d=.bl (z i j):=by
 cases d1 <;> cases d2 <;> simp only [oB] at h <;> first|(cases h;done)|skip
 exact⟨_,_,rfl,rfl,(mq h).symm⟩
theorem q6r{fv:Value->Value->Sem Value}{P:Int->Int->Prop}{C:Int->Int->Bool}{z:Int->Int->Int}(h:OpR X fv (rI P fun i j=>.int (z i j)))(hC:∀i j,C i j=true->P i j): OpR X fv (rD X.K (oI C z)):=
 q2b h fun x y H Q ⟨F,d1,d2,d,q1,q2,q3,q4,q5⟩=>by
  obtain⟨i,j,rfl,rfl,c,rfl⟩:=qhv q4;exact⟨i,j,rep_int.mp q2,rep_int.mp q3,hC i j c,q5 _ F H (.refl q1) (rep_int.mpr rfl)⟩
theorem qar{fv:Value->Value->Sem Value}{z:Int->Int->Int}(h:OpR X fv (rI0 fun i j=>.int (z i j))): OpR X fv (rD X.K (oI (fun _ _=>true) z)):=
 q2b h fun x y H Q ⟨F,d1,d2,d,q1,q2,q3,q4,q5⟩=>by
  obtain⟨i,j,rfl,rfl,c,rfl⟩:=qhv q4;exact⟨i,j,rep_int.mp q2,rep_int.mp q3,q5 _ F H (.refl q1) (rep_int.mpr rfl)⟩
theorem qef{fv:Value->Value->Sem Value}{z:Int->Int->Bool}(h:OpR X fv (rI0 fun i j=>.bl (z i j))): OpR X fv (rD X.K (oB z)):=
 q2b h fun x y H Q ⟨F,d1,d2,d,q1,q2,q3,q4,q5⟩=>by
  obtain⟨i,j,rfl,rfl,rfl⟩:=qr5 q4;exact⟨i,j,rep_int.mp q2,rep_int.mp q3,q5 _ F H (.refl q1) (rep_bl.mpr rfl)⟩
abbrev oAdd:=oI (fun _ _=>true) fun i j=>i+j
abbrev oSub:=oI (fun _ _=>true) fun i j=>i-j
abbrev oMul:=oI (fun i j=>(decide (-(2 ^ 64)<i)&&decide (i<2 ^ 64)) || (decide (-(2 ^ 64)<j)&&decide (j<2 ^ 64))) fun i j=>i*j
abbrev oDiv:=oI (fun _ j=>decide (0<j)&&decide (j<1073741824)) fun i j=>i / j
abbrev oMod:=oI (fun _ j=>decide (0<j)) fun i j=>i%j
abbrev oShr:=oI (fun _ j=>decide (0<=j)) fun i j=>i / 2 ^ j.toNat
theorem q1g{p q:Prop}[Decidable p][Decidable q](h:(decide p&&decide q)=true): p/\q:=by simpa using h
theorem qtn:OpR X (binaryOp .Add) (rD X.K oAdd):=qar qt2
theorem qlf:OpR X (binaryOp .Sub) (rD X.K oSub):=qar qt3
theorem qto:OpR X (binaryOp .Mult) (rD X.K oMul):=q6r qt4 fun i j h=>by
 rcases g1n _ _ ▸ h with z|z
 ·exact .inl (q1g z)
 ·exact .inr (q1g z)
theorem q1l:OpR X (binaryOp .FloorDiv) (rD X.K oDiv):=q6r qqr fun i j h=>q1g h
theorem j3:OpR X (binaryOp .Mod) (rD X.K oMod):=q6r qt5 fun i j h=>tf h
theorem qtp:OpR X (binaryOp .RShift) (rD X.K oShr):=q6r qt8 fun i j h=>tf h
abbrev oShl:=oI (fun i j=>decide (0<=j)&&(decide (j<=1000000)&&decide (i.natAbs<2 ^ 64))) fun i j=>i*2 ^ j.toNat
abbrev oPow:=oI (fun i j=>decide (0<=j)&&(decide (j<=1000000)&&decide (i.natAbs<2 ^ 64))) fun i j=>i ^ j.toNat
theorem qeg{p q r:Prop}[Decidable p][Decidable q][Decidable r](h:(decide p&&(decide q&&decide r))=true): p/\q/\r:=by simpa using h
theorem q7u:OpR X (binaryOp .LShift) (rD X.K oShl):=q6r qt7 fun i j h=>qeg h
theorem q7v:OpR X (binaryOp .Pow) (rD X.K oPow):=q6r qt6 fun i j h=>qeg h
abbrev oLt:=oB fun i j=>decide (i<j)
abbrev oLe:=oB fun i j=>decide (i<=j)
abbrev oGt:=oB fun i j=>decide (j<i)
abbrev oGe:=oB fun i j=>decide (j<=i)
theorem qvx:OpR X (compareOp .Lt) (rD X.K oLt):=qef qvn
theorem qas:OpR X (compareOp .Gt) (rD X.K oGt):=qef qvo
theorem q6s:OpR X (compareOp .GtE) (rD X.K oGe):=qef qvp
def flD:D->Option V
 | .non=>some .non
 | .bl b=>some (.bl b)
 | .int i=>some (.int i)
 | .str x=>some (.str x)
 | _=>none
theorem q8s{K:Frag}{H:Hp}{d:D}{v u:V}(h:flD d=some u)(r:Rep K H d v): v=u:=by
 cases d <;> simp only [flD] at h <;> first|(cases h;done)|skip
 ·cases h;exact rep_non.mp r
 ·cases h;exact rep_bl.mp r
 ·cases h;exact rep_int.mp r
 ·cases h;exact rep_str.mp r
def qo3:D->D->Option D:=fun d e=>(flD d).bind fun x=>(flD e).bind fun y=>if qbt x y then some (.bl (decide (x=y))) else none
def q4b:D->D->Option D:=fun d e=>(flD d).bind fun x=>(flD e).bind fun y=>if qbt x y then some (.bl (!decide (x=y))) else none
theorem qtq:OpR X (compareOp .Eq) (rD X.K qo3):=q2b qvl fun x y H Q ⟨F,d1,d2,d,q1,q2,q3,q4,q5⟩=>by
 obtain⟨u,h1,q4⟩:=gb.mp q4;obtain⟨w,h2,q4⟩:=gb.mp q4;cases q8s h1 q2;cases q8s h2 q3
 split at q4
 ·rename_i z
  cases q4;exact⟨z,q5 _ F H (.refl q1) (rep_bl.mpr rfl)⟩
 ·cases q4
theorem q4c:OpR X (compareOp .NotEq) (rD X.K q4b):=q2b qvm fun x y H Q ⟨F,d1,d2,d,q1,q2,q3,q4,q5⟩=>by
 obtain⟨u,h1,q4⟩:=gb.mp q4;obtain⟨w,h2,q4⟩:=gb.mp q4;cases q8s h1 q2;cases q8s h2 q3
 split at q4
 ·rename_i z
  cases q4;exact⟨z,q5 _ F H (.refl q1) (rep_bl.mpr rfl)⟩
 ·cases q4
theorem q1m{op:CmpOp}{o:D->D->Option D}(ho:OpR X (compareOp op) (rD X.K o))(ha:PE X a (tD X.K f))(hb:PE X b (tD X.K g))(hm:behindInMarks op b=false:=by first|exact qe7 _ (by decide) (by decide)|rfl):
  PE X (.Compare a [op] [b] pos) (tD X.K (eOp o f g)):=ju (qqs ho ha hb hm) fun σ H Q h=>two h
def q7w:D->Option Bool
 | .non=>some false
 | .bl b=>some b
 | .int i=>some (i != 0)
 | .tup ds=>some (!ds.isEmpty)
 | .lst ds=>some (!ds.isEmpty)
 | .str x=>if x.length<=lim then some ((x.length:Int) != 0) else none
 | _=>none
def bT(f:FE): FT:=fun ρ =>(f ρ).bind q7w
theorem qtr{K:Frag}{F H:Hp}{d:D}{b:Bool}{v:V}(h:q7w d=some b)(fh:Same F H)(r:Rep K F d v): qnl K v H b:=by
 cases d with
 | non=>cases h;rw [rep_non.mp r];rfl
 | bl c=>cases h;rw [rep_bl.mp r];rfl
 | int i=>cases h;rw [rep_int.mp r];rfl
 | str x=>
  simp only [q7w] at h
  split at h
  ·rename_i z
   cases h;rw [rep_str.mp r];exact⟨jo z,rfl⟩
  ·cases h
 | tup ds=>
  cases h;obtain⟨p,xs,rfl,q1,q2⟩:=rep_tup.mp r;refine .inr (.inl ⟨xs,qq fh q1,?_⟩);cases ds with
  | nil=>rw [q2.nil_inv];rfl
  | cons d ds=>obtain⟨y,r',rfl,_⟩:=q2.cons_inv;rfl
 | lst ds=>
  cases h;obtain⟨p,xs,rfl,q1,q2⟩:=rep_lst.mp r;refine .inl ⟨xs,fh.seq q1,?_⟩;cases ds with
  | nil=>rw [q2.nil_inv];rfl
  | cons d ds=>obtain⟨y,r',rfl,_⟩:=q2.cons_inv;rfl
 | dct _ _=>cases h
 | dtt _ _=>cases h
 | dt2 _=>cases h
 | obj _=>cases h
 | exc _ _=>cases h
theorem x5(ha:PE X a (tD X.K f))(he:∀whole,isTrue a X.env whole=(do let v <- whole;standAt a.pos;holding [v] (truthy v)):=by intro _;rfl): PT X a (tDT X.K (bT f)):=
 qee (qnm ha he) fun σ H Q ⟨F0,H0,F, ρ,b,r,hf,q⟩=>by
  obtain⟨d,h1,h2⟩:=gb.mp hf;exact⟨F0,H0,F, ρ,d,r,h1,fun v F' H' g' r'=>⟨b,qtr h2 g'.fh r',q F' H' g'⟩⟩
def isB:D->Option Bool
 | .bl b=>some b
 | _=>none
def z7(o:D->D->Option D)(f g:FE): FT:=fun ρ =>(eOp o f g ρ).bind isB
theorem zk{op:CmpOp}{o:D->D->Option D}(ho:OpR X (compareOp op) (rD X.K o))(ha:PE X a (tD X.K f))(hb:PE X b (tD X.K g))(hm:behindInMarks op b=false:=by first|exact qe7 _ (by decide) (by decide)|rfl):
  PT X (.Compare a [op] [b] pos) (tDT X.K (z7 o f g)):=qee (qqt ho ha hb hm) fun σ H Q ⟨F0,H0,F, ρ,c,r,hf,q⟩=>by
 obtain⟨d,h1,h2⟩:=gb.mp hf;refine two ⟨F0,H0,F, ρ,d,r,h1,fun v F' H' g' r'=>?_⟩;cases d <;> simp only [isB] at h2 <;> first|(cases h2;done)|skip
 cases h2;exact⟨_,rep_bl.mp r',q F' H' g'⟩
def wb(t:FT): FT:=fun ρ =>(t ρ).map not
def vh(t u:FT): FT:=fun ρ =>(t ρ).bind fun c=>if c then u ρ else some false
def bOr(t u:FT): FT:=fun ρ =>(t ρ).bind fun c=>if c then some true else u ρ
variable{t u:FT}{rest:List Expr}
theorem yc(ha:PT X a (tDT X.K t)): PT X (.UnaryOp .Not a pos) (tDT X.K (wb t)):=qee (qsr ha) fun σ H Q ⟨F0,H0,F, ρ,c,r,hf,q⟩=>by
 obtain⟨d,h1,h2⟩:=gv.mp hf;subst h2;exact⟨F0,H0,F, ρ,d,r,h1,fun F' H' g'=>q F' H' g'⟩
theorem qlg{t t':TT}(h:PW X a t)(i:∀ σ H Q,t' σ H Q->t σ H Q): PW X a t':=fun wh pins s σ H Q I q=>h wh pins s σ H Q I (i σ H Q q)
theorem q2c(ha:PT X a (tDT X.K t)): PW X (.BoolOp .And [a] pos) (tDT X.K t):=qqo ha
theorem q4d(ha:PT X a (tDT X.K t)): PW X (.BoolOp .Or [a] pos) (tDT X.K t):=qsp ha
theorem q1n(ha:PT X a (tDT X.K t))(hb:PW X (.BoolOp .And (b :: rest) pos) (tDT X.K u)): PW X (.BoolOp .And (a :: b :: rest) pos) (tDT X.K (vh t u)):=qlg (qsq ha hb) fun σ H Q ⟨F0,H0,F, ρ,c,r,hf,q⟩=>by
 obtain⟨d,h1,h2⟩:=gb.mp hf;refine⟨F0,H0,F, ρ,d,r,h1,fun F' H' g'=>?_⟩;cases d with
 | true=>rw [m8 rfl] at h2 ⊢;exact⟨F0,H0,F', ρ,c,r.grow g',h2,fun F2 H2 g2=>q F2 H2 (g'.trans g2)⟩
 | false=>rw [ma m9] at h2 ⊢;cases h2;exact q F' H' g'
theorem q3w(ha:PT X a (tDT X.K t))(hb:PW X (.BoolOp .Or (b :: rest) pos) (tDT X.K u)): PW X (.BoolOp .Or (a :: b :: rest) pos) (tDT X.K (bOr t u)):=qlg (qvc ha hb) fun σ H Q ⟨F0,H0,F, ρ,c,r,hf,q⟩=>by
 obtain⟨d,h1,h2⟩:=gb.mp hf;refine⟨F0,H0,F, ρ,d,r,h1,fun F' H' g'=>?_⟩;cases d with
 | false=>rw [ma m9] at h2 ⊢;exact⟨F0,H0,F', ρ,c,r.grow g',h2,fun F2 H2 g2=>q F2 H2 (g'.trans g2)⟩
 | true=>rw [m8 rfl] at h2 ⊢;cases h2;exact q F' H' g'
def q5m(f g:FE): FE:=fun ρ =>(f ρ).bind fun x=>(isB x).bind fun c=>if c then g ρ else some (.bl false)
def eOr(f g:FE): FE:=fun ρ =>(f ρ).bind fun x=>(isB x).bind fun c=>if c then some (.bl true) else g ρ
def qbx(f:FE): FE:=fun ρ =>(f ρ).bind fun x=>(isB x).map fun c=>.bl (!c)
def eIf(t:FT)(f g:FE): FE:=fun ρ =>(t ρ).bind fun c=>if c then f ρ else g ρ
theorem qeh{d:D}{c:Bool}(h:isB d=some c): d=.bl c:=by
 cases d <;> simp only [isB] at h <;> first|(cases h;done)|skip
 rw [mq h]
theorem qat{op}(h:PE X a (tD X.K f)): PE X (.BoolOp op [a] pos) (tD X.K f):=qss h
theorem q6b(ha:PE X a (tD X.K f))(hb:PE X (.BoolOp .And (b :: rest) pos) (tD X.K g)): PE X (.BoolOp .And (a :: b :: rest) pos) (tD X.K (q5m f g)):=ju (qst ha hb) fun σ H Q ⟨F0,H0,F, ρ,d,r,hf,q⟩=>by
 obtain⟨x,h1,hf⟩:=gb.mp hf;obtain⟨c,h2,h3⟩:=gb.mp hf;refine⟨F0,H0,F, ρ,x,r,h1,fun v F' H' g' r'=>?_⟩;rw [qeh h2] at r';refine⟨c,rep_bl.mp r',?_⟩;cases c with
 | true=>rw [m8 rfl] at h3 ⊢;exact⟨F0,H0,F', ρ,d,r.grow g',h3,fun w F2 H2 g2 r2=>q w F2 H2 (g'.trans g2) r2⟩
 | false=>rw [ma m9] at h3 ⊢;cases h3;exact q _ F' H' g' (rep_bl.mpr rfl)
theorem qlh(ha:PE X a (tD X.K f)): PE X (.UnaryOp .Not a pos) (tD X.K (qbx f)):=ju (qsu ha) fun σ H Q ⟨F0,H0,F, ρ,d,r,hf,q⟩=>by
 obtain⟨x,h1,hf⟩:=gb.mp hf;obtain⟨c,h2,h3⟩:=gv.mp hf;subst h3;refine⟨F0,H0,F, ρ,x,r,h1,fun v F' H' g' r'=>?_⟩;rw [qeh h2] at r';exact⟨c,rep_bl.mp r',q _ F' H' g' (rep_bl.mpr rfl)⟩
theorem qvy{c:Expr}(hc:PT X c (tDT X.K t))(ha:PE X a (tD X.K f))(hb:PE X b (tD X.K g)): PE X (.IfExp c a b pos) (tD X.K (eIf t f g)):=ju (qng hc ha hb) fun σ H Q ⟨F0,H0,F, ρ,d,r,hf,q⟩=>by
 obtain⟨x,h1,h2⟩:=gb.mp hf;refine⟨F0,H0,F, ρ,x,r,h1,fun F' H' g'=>?_⟩;cases x with
 | true=>rw [m8 rfl] at h2 ⊢;exact⟨F0,H0,F', ρ,d,r.grow g',h2,fun w F2 H2 g2 r2=>q w F2 H2 (g'.trans g2) r2⟩
 | false=>rw [ma m9] at h2 ⊢;exact⟨F0,H0,F', ρ,d,r.grow g',h2,fun w F2 H2 g2 r2=>q w F2 H2 (g'.trans g2) r2⟩
end
section
variable{X:Cx}{e:Expr}{es:List Expr}{pos:Pos}{f g:FE}{fa:FA}
def notStar:Expr->Bool
 | .Starred _ _=>false
 | _=>true
theorem q8t{e:Expr}{es:List Expr}{env:Env}(h:notStar e=true): starEach (e :: es) env=(false,eval e env) :: starEach es env:=by
 cases e <;> first|rfl|cases h
def qg:FA:=fun _=>some []
def qc(f:FE)(fa:FA): FA:=fun ρ =>(f ρ).bind fun d=>(fa ρ).map fun ds=>d :: ds
theorem qe:PA X [] (tDA X.K qg):=qle q47 fun σ H Q ⟨F0,H0,F, ρ,ds,r,hf,q⟩=>by
 cases hf;exact q [] F H (.refl r.fh) .nil
theorem qhw(ha:PE X e (tD X.K f))(hr:PA X es (tDA X.K fa))(hs:starEach (e :: es) X.env=(false,eval e X.env) :: starEach es X.env:=by first|exact q8t rfl|rfl): PA X (e :: es) (tDA X.K (qc f fa)):=
 qle (q1e ha hr hs) fun σ H Q ⟨F0,H0,F, ρ,ds,r,hf,q⟩=>by
  obtain⟨d,h1,hf⟩:=gb.mp hf;obtain⟨ds',h2,h3⟩:=gv.mp hf;subst h3;refine⟨F0,H0,F, ρ,d,r,h1,fun v F1 H1 g1 r1=>⟨F0,H0,F1, ρ,ds',r.grow g1,h2,fun vs F2 H2 g2 r2=>?_⟩⟩;exact q _ F2 H2 (g1.trans g2) (.cons (r1.mono g2.ff) r2)
def zo(fa:FA): FE:=fun ρ =>(fa ρ).bind fun ds=>if ds.length<=lim then some (.tup ds) else none
def q0f(fa:FA): FA:=fun ρ =>(fa ρ).bind fun ds=>if ds.length<=lim then some ds else none
theorem j5{x1}(h:PA X es (tDA X.K fa)): PE X (.Tuple es x1 pos) (tD X.K (zo fa)):=ju (qtb h) fun σ H Q ⟨F0,H0,F, ρ,d,r,hf,q⟩=>by
 obtain⟨ds,h1,h2⟩:=gb.mp hf
 split at h2
 ·rename_i hl
  cases h2;refine⟨F0,H0,F, ρ,ds,r,h1,fun vs F1 H1 g1 r1=>⟨jo (by rw [<- r1.length];exact hl),fun p hp=>?_⟩⟩;have gn:Grow F1 H1 (upd F1 p (.tup vs)) (upd H1 p (.tup vs)):=Grow.new g1.fh hp;exact q _ _ _ (g1.trans gn) (rep_tup.mpr ⟨p,vs,rfl,SqT.of zg,r1.mono gn.ff⟩)
 ·cases h2
theorem wm(h:PA X es (tDA X.K fa)): PE X (.List es pos) (tL X.K (q0f fa)):=ju (qtc h) fun σ H Q ⟨F0,H0,F, ρ,ds,r,hf,q⟩=>by
 obtain⟨ds',h1,h2⟩:=gb.mp hf
 split at h2
 ·rename_i hl
  cases h2;refine⟨F0,H0,F, ρ,ds,r,h1,fun vs F1 H1 g1 r1=>⟨jo (by rw [<- r1.length];exact hl),fun p hp=>?_⟩⟩;exact q p vs F1 (upd H1 p (.lst vs)) (g1.trans (Grow.own g1.fh hp)) (g1.fh.free hp) (g1.hh.free hp) zg r1
 ·cases h2
def eL(fa:FA): FE:=fun ρ =>(fa ρ).map .lst
theorem xh(h:PE X e (tL X.K fa)): PE X e (tD X.K (eL fa)):=ju h fun σ H Q ⟨F0,H0,F, ρ,d,r,hf,q⟩=>by
 obtain⟨ds,h1,h2⟩:=gv.mp hf;subst h2;refine⟨F0,H0,F, ρ,ds,r,h1,fun a xs F1 H1 g1 fa' ha' hl r1=>?_⟩;have sF:Same F1 (upd F1 a (.lst xs)):=wk fa';refine q _ (upd F1 a (.lst xs)) H1 ⟨g1.ff.trans sF,g1.hh,fun b o z=>?_,fun b hb=>?_⟩ (rep_lst.mpr ⟨a,xs,rfl,SqL.of zg,r1.mono sF⟩)
 ·by_cases q':b=a
  ·subst q';rw [zg] at z;cases z;exact hl
  ·rw [z6 q'] at z;exact g1.fh b o z
 ·by_cases q':b=a
  ·subst q';exact .inr ha'
  ·rw [z6 q'] at hb;exact g1.nw b hb
def rC(K:Frag)(op:List D->Option D): List V->Hp->VK->Prop:=fun xs H Q=>∃F ds d,Same F H/\RepL K F ds xs/\op ds=some d/\∀v F' H',Grow F H F' H'->Rep K F' d v->Q v H'
def qi(op:List D->Option D)(fa:FA): FE:=fun ρ =>(fa ρ).bind op
theorem q54{f:Value}{r r':List V->Hp->VK->Prop}(h:jy X f r)(i:∀xs H Q,r' xs H Q->r xs H Q): jy X f r':=fun pins s σ H xs us Q I rv q=>h pins s σ H xs us Q I rv (i xs H Q q)
theorem qli{K:Frag}{op:List D->Option D}{σ : St}{H:Hp}{Q:VK}(h:tD K (qi op fa) σ H Q): tDA K fa σ H fun vs H1=>rC K op vs H1 Q:=by
 obtain⟨F0,H0,F, ρ,d,r,hf,q⟩:=h;obtain⟨ds,h1,h2⟩:=gb.mp hf;exact⟨F0,H0,F, ρ,ds,r,h1,fun vs F1 H1 g1 r1=>⟨F1,ds,d,g1.fh,r1,h2,fun v F2 H2 g2 r2=>q v F2 H2 (g1.trans g2) r2⟩⟩
theorem zv{x:Str}{p:Pos}{id:String}{op:List D->Option D}(hc:jy X (.builtin id) (rC X.K op))(hg:Gl X x)(hm:X.mg x=none)(hv:bootBuiltins x=some (.builtin id))(ha:PA X (e :: es) (tDA X.K fa))
  (hn:x≠"__name__" :=by decide) (hdb:(x==("__debug__" : Str))=false:=by decide)
  (he:starEach (e :: es) X.env=(false,eval e X.env) :: starEach es X.env:=by rfl) (hpl:(backTo pos (starEach es X.env)).any (·.1)=false:=by rfl):PE X (.Call (.Name x p) (e :: es) [] pos) (tD X.K (qi op fa)):=
 ju (q6p hc hg hm hv ha hn hdb he hpl) fun σ H Q h=>qli h
theorem xn{x:Str}{p:Pos}{T:String}{op:List D->Option D}(hc:jy X (.type T) (rC X.K op))(hg:Gl X x)(hm:X.mg x=none)(hv:bootBuiltins x=some (.type T))(ha:PA X (e :: es) (tDA X.K fa))
  (hn:x≠"__name__" :=by decide) (hdb:(x==("__debug__" : Str))=false:=by decide)
  (he:starEach (e :: es) X.env=(false,eval e X.env) :: starEach es X.env:=by rfl) (hpl:(backTo pos (starEach es X.env)).any (·.1)=false:=by rfl):PE X (.Call (.Name x p) (e :: es) [] pos) (tD X.K (qi op fa)):=
 ju (q7s hc hg hm hv ha hn hdb he hpl) fun σ H Q h=>qli h
def spD(K:Frag)(ar:Nat)(op:List D->Option D): Sp:=fun vs H Q _=>∃F ds d,SameT F H/\RepL K F ds vs/\ds.length=ar/\op ds=some d/\∀v F' H',Grow F H F' H'->Rep K F' d v->Q v H'
def qt(ar:Nat)(dds:List D)(op:List D->Option D): List D->Option D:=fun ds=>if(ds++dds).length=ar then op (ds++dds) else none
theorem qhx{k ar:Nat}{fn:Addr}{fd:FuncData}{ps:List Str}{op:List D->Option D}{x:Str}{p:Pos}{dvs:List V}{dds:List D}{dv:List Value}(F:FnOk X.prog X.w X.K X.mg X.base CX0 k fn fd ps (spD X.K ar op))(hr:Room k X.A)(hg:Gl X x)(hm:X.mg x=some (.ref fn))(hk:PySem.W.keepIn X.K (.ref fn)=true)
  (hb:Binds X.K fd ps dv) (hd:Vals dvs dv) (hdd:∀H,RepL X.K H dds dvs) (ha:PA X (e :: es) (tDA X.K fa)) (hdb:(x==("__debug__" : Str))=false:=by decide)
  (he:starEach (e :: es) X.env=(false,eval e X.env) :: starEach es X.env:=by rfl) (hpl:(backTo pos (starEach es X.env)).any (·.1)=false:=by rfl) :
  PE X (.Call (.Name x p) (e :: es) [] pos) (tD X.K (qi (qt ar dds op) fa)):=
 ju (qqu F hr hg hm hk hb hd qq8 ha hdb he hpl) fun σ H Q ⟨F0,H0,Fz, ρ,d,r,hf,q⟩=>by
  obtain⟨ds,h1,h2⟩:=gb.mp hf;unfold qt at h2
  split at h2
  ·rename_i hl
   exact⟨F0,H0,Fz, ρ,ds,r,h1,fun vs F1 H1 g1 r1=>⟨F1,ds++dds,d,r.sameT g1,r1.append (hdd F1),hl,h2,fun v F2 H2 g2 r2=>q v F2 H2 (g1.trans g2) r2⟩⟩
  ·cases h2
end
section
variable{X:Cx}{st:Stmt}{rest:List Stmt}{e:Expr}{pos:Pos}{f:FE}{fa:FA}{t:FT}{u w:FS}
def jv:FS:=fun ρ =>some (.nx, ρ)
def z0(u w:FS): FS:=fun ρ =>(u ρ).bind fun r=>match r with
 | (.nx, ρ')=>w ρ'
 | (fl, ρ')=>some (fl, ρ')
def sIf(t:FT)(u w:FS): FS:=fun ρ =>(t ρ).bind fun c=>if c then u ρ else w ρ
def zr(i:Nat)(f:FE): FS:=fun ρ =>(f ρ).map fun d=>(.nx, ρ.set i (some (.fz d)))
def q18(i:Nat)(fa:FA): FS:=fun ρ =>(fa ρ).map fun ds=>(.nx, ρ.set i (some (.ow ds)))
def zc(f:FE): FS:=fun ρ =>(f ρ).map fun d=>(.rt d, ρ)
def qvz:FS:=fun ρ =>some (.rt .non, ρ)
def qx9:FS:=fun ρ =>some (.bk, ρ)
def qxa:FS:=fun ρ =>some (.ct, ρ)
def qw0(f:FE): FS:=fun ρ =>(f ρ).map fun _=>(.nx, ρ)
theorem j8:PSs X [] (tDS X.K jv):=q8r qqp fun D σ H ⟨F0,H0,F, ρ,fl, ρ',r,hf,q⟩=>by
 cases hf;exact q σ F H (.refl _) r
theorem q4e{K:Frag}{F0 H0 F F':Hp}{D:Ends}{fl:Fl}{ρ':Rho}(s:Same F F')(h:qiv K F0 H0 F D fl ρ'): qiv K F0 H0 F' D fl ρ':=by
 cases fl with
 | nx=>exact fun σ' F2 H2 s2 r=>h σ' F2 H2 (s.trans s2) r
 | bk=>exact fun σ' F2 H2 s2 r=>h σ' F2 H2 (s.trans s2) r
 | ct=>exact fun σ' F2 H2 s2 r=>h σ' F2 H2 (s.trans s2) r
 | rt d=>exact h
theorem ql(h1:PS X st (tDS X.K u))(h2:PSs X rest (tDS X.K w)): PSs X (st :: rest) (tDS X.K (z0 u w)):=q8r (q9q h1 h2) fun D σ H ⟨F0,H0,F, ρ,fl, ρ',r,hf,q⟩=>by
 obtain⟨⟨fl1, ρ1⟩,h3,h4⟩:=gb.mp hf;refine⟨F0,H0,F, ρ,fl1, ρ1,r,h3,?_⟩;cases fl1 with
 | nx=>exact fun σ' F' H' s r'=>⟨F0,H0,F', ρ1,fl, ρ',r',h4,q4e s q⟩
 | bk=>cases h4;exact q
 | ct=>cases h4;exact q
 | rt d=>cases h4;exact q
theorem qp(h1:PS X st (tDS X.K u)): PSs X [st] (tDS X.K u):=qhm h1
theorem jg{c:Expr}{a b:List Stmt}(hc:PT X c (tDT X.K t))(ha:PSs X a (tDS X.K u))(hb:PSs X b (tDS X.K w)): PS X (.If c a b pos) (tDS X.K (sIf t u w)):=q0k (qvg hc ha hb) fun D σ H ⟨F0,H0,F, ρ,fl, ρ',r,hf,q⟩=>by
 obtain⟨c,h1,h2⟩:=gb.mp hf;refine⟨F0,H0,F, ρ,c,r,h1,fun F' H' g'=>?_⟩;cases c with
 | true=>rw [m8 rfl] at h2 ⊢;exact⟨F0,H0,F', ρ,fl, ρ',r.grow g',h2,q4e g'.ff q⟩
 | false=>rw [ma m9] at h2 ⊢;exact⟨F0,H0,F', ρ,fl, ρ',r.grow g',h2,q4e g'.ff q⟩
theorem z5(he:PE X e (tD X.K f)): PS X (.Return (some e) pos) (tDS X.K (zc f)):=q0k (qsv he) fun D σ H ⟨F0,H0,F, ρ,fl, ρ',r,hf,q⟩=>by
 obtain⟨d,h1,h2⟩:=gv.mp hf;cases h2;exact⟨F0,H0,F, ρ,d,r,h1,fun v F' H' g' r'=>q v σ F' H' (r.grow g') r'⟩
theorem qw1{K:Frag}{i:Nat}{D:Ends}{σ : St}{H:Hp}(h:tDS K (zr i f) D σ H): tD K f σ H fun x H1=>q53 i x σ H1 D.nx:=by
 obtain⟨F0,H0,F, ρ,fl, ρ',r,hf,q⟩:=h;obtain⟨d,h1,h2⟩:=gv.mp hf;cases h2;exact⟨F0,H0,F, ρ,d,r,h1,fun v F' H' g' r'=>q _ F' H' g'.ff ((r.grow g').set i r')⟩
theorem qq9{K:Frag}{i:Nat}{D:Ends}{σ : St}{H:Hp}(h:tDS K (q18 i fa) D σ H): tL K fa σ H fun x H1=>q53 i x σ H1 D.nx:=by
 obtain⟨F0,H0,F, ρ,fl, ρ',r,hf,q⟩:=h;obtain⟨ds,h1,h2⟩:=gv.mp hf;cases h2;refine⟨F0,H0,F, ρ,ds,r,h1,fun a xs F' H' g' fa' ha' hl r'=>q _ F' H' g'.ff ((r.grow g').setO i hl fa' (r.g.hh.free ha') r' (fun j es z1 z2=>?_) fun j kvs z1=>?_)⟩
 ·obtain⟨b,ys,e1,e2,_⟩:=r.ow j es z1
  rw [z2] at e1;obtain rfl:a=b:=by simpa using e1
  rw [ha'] at e2;cases e2
 ·obtain⟨b,bs,e1,e2,e3⟩:=r.od j kvs z1
  refine⟨b,bs,e1,e2.grow g',fun z=>?_,e3⟩;obtain⟨xs,f,_⟩:=e2.mem z;rw [ha'] at f;cases f
theorem zf{i:Nat}{x:Str}{px:Pos}(hN:X.N.Nodup)(hi:X.N[i]? = some x)(hx:Loc X.env.scope x)(he:PE X e (tD X.K f))(hs:swapsWith e (some (.Name x px)) pos.line X.env=pure false:=by rfl)(hf:X.fn x=true\/X.env.scope.names.lookup x=some .local:=by first|exact .inl rfl|exact .inr rfl|assumption):
  PS X (.Assign [.Name x px] e pos) (tDS X.K (zr i f)):=q0k (qe9 hN hi hx he hs hf) fun D σ H h=>qw1 h
theorem q6c{i:Nat}{x:Str}{px:Pos}(hN:X.N.Nodup)(hi:X.N[i]? = some x)(hx:Loc X.env.scope x)(he:PE X e (tL X.K fa))(hs:swapsWith e (some (.Name x px)) pos.line X.env=pure false:=by rfl)(hf:X.fn x=true\/X.env.scope.names.lookup x=some .local:=by first|exact .inl rfl|exact .inr rfl|assumption):
  PS X (.Assign [.Name x px] e pos) (tDS X.K (q18 i fa)):=q0k (qe9 hN hi hx he hs hf) fun D σ H h=>qq9 h
def q7x(i:Nat)(ρ : Rho): Option (List D):=match ρ[i]? with
 | some (some (.ow ds))=>some ds
 | _=>none
theorem qcx{i:Nat}{ρ : Rho}{ds:List D}(h:q7x i ρ = some ds): ρ[i]? = some (some (.ow ds)):=by
 unfold q7x at h
 split at h
 ·rename_i e;rw [e,mq h]
 ·cases h
def q3n(i:Nat)(f:FE): FS:=fun ρ =>(q7x i ρ).bind fun ds=>(f ρ).bind fun d=>if ds.length<lim then some (.nx, ρ.set i (some (.ow (ds++[d])))) else none
theorem q7y{i:Nat}{x:Str}{px apos cpos:Pos}(hv:PE X (.Name x px) (q9p i))(he:PE X e (tD X.K f))
  (hbase:attributeBase (.Name x px) "append" X.env (eval (.Name x px) X.env)=eval (.Name x px) X.env:=by rfl)
  (hfew:((backTo cpos (starEach [e] X.env)).all (fun x=> !x.1)&&(backToKw cpos (keywordEach [] X.env)).all (fun x=>x.1.isSome)&&decide ([e].length+([]:List Keyword).length+(if([]:List Keyword).isEmpty then 0 else 1)<30))=true:=by rfl)
  (hline:(apos.endLine==cpos.line)=true:=by rfl) (hse:starEach [e] X.env=(false,eval e X.env) :: starEach [] X.env:=by rfl)
  (hs:swapsWith (.Call (.Attribute (.Name x px) "append" apos) [e] [] cpos) none pos.line X.env=pure false:=by rfl):PS X (.Expr (.Call (.Attribute (.Name x px) "append" apos) [e] [] cpos) pos) (tDS X.K (q3n i f)):=
 q0k (qhn (qq7 g5r PySem.F.slot_list_append PySem.F.type_list_append qcu hv (q1e he q47 hse) hbase hfew hline hse rfl) hs) fun D σ H ⟨F0,H0,F, ρ,fl, ρ',r,hf,q⟩=>by
  obtain⟨ds,h1,hf⟩:=gb.mp hf;obtain⟨d,h2,h3⟩:=gb.mp hf;have h1:=qcx h1
  split at h3
  ·rename_i hl
   cases h3;obtain⟨a,xs,e1,e2,e3,e4,e5⟩:=r.ow i ds h1;refine⟨.ref a,e1,.inl ⟨rfl,xs,SqL.of e2⟩,F0,H0,F, ρ,d,r,h2,fun v F' H' g' r'=>?_⟩;have r2:=r.grow g';refine⟨a,xs,v,rfl,rfl,g'.hh.lst _ _ e2,qcw (by rw [<- e5.length];exact hl),?_⟩;exact q _ F' _ g'.ff (r2.wrt h1 e1 ((e5.mono g'.ff).append (.cons r' .nil)))
  ·cases h3
def frz(i:Nat)(ρ : Rho): Rho:=match ρ[i]? with
 | some (some (.ow ds))=> ρ.set i (some (.fz (.lst ds)))
 | _=> ρ
def wc(i:Nat)(u:FS): FS:=fun ρ =>u (frz i ρ)
theorem qts{K:Frag}{F0 H0 F H:Hp}{σ : St}{ρ : Rho}(i:Nat)(r:RS K F0 H0 F H σ ρ): ∃F',Same F F'/\RS K F0 H0 F' H σ (frz i ρ):=by
 unfold frz
 split
 ·rename_i ds h
  exact r.freeze h
 ·exact⟨F,.refl _,r⟩
theorem wo(i:Nat){sts:List Stmt}(h:PSs X sts (tDS X.K u)): PSs X sts (tDS X.K (wc i u)):=q8r h fun D σ H ⟨F0,H0,F, ρ,fl, ρ',r,hf,q⟩=>by
 obtain⟨F',s',r'⟩:=qts i r;exact⟨F0,H0,F',frz i ρ,fl, ρ',r',hf,q4e s' q⟩
end
def zh(n:Nat)(u:FS)(ds:List D): Option D:=match u (ds.map (fun d=>some (.fz d))++List.replicate (n-ds.length) none) with
 | some (.rt d,_)=>some d
 | some (.nx,_)=>some .non
 | _=>none
theorem qlj{N:List Str}{vs:List V}{i:Nat}{v:V}(h:vs[i]? = some v): (L2.start N vs)[i]? = some (some v):=by
 unfold L2.start;have hi:i<vs.length:=(mv.mp h).1;rw [uf (by simpa using hi),mj,h];rfl
theorem qtt{P:Program}{w:World}{K:Frag}{H:Hp}{vs:List V}{Q:VK}{N:List Str}{u:FS}{ar:Nat}{E:XK}(hl:ar<=N.length)(h:spD K ar (zh N.length u) vs H Q E): tDS K u {nx:=fun _ H'=>Q .non H',rt:=Q} (L2.start N vs) H:=by
 obtain⟨F,ds,d,fh,rl,el,hd,q⟩:=h;have hlen:=rl.length;have r:RS K F H F H (L2.start N vs) (ds.map (fun d=>some (.fz d))++List.replicate (N.length-ds.length) none):={
  t0:=⟨fh.t,fh.f⟩
  g:=.refl fh.s
  len:=by unfold L2.start;simp only [mw,gh,g6a];omega
  fz :=fun i e h1=>by
   by_cases hi:i<ds.length
   ·rw [uf (by simpa using hi),mj] at h1
    cases z:ds[i]? with
    | none=>rw [z] at h1;cases h1
    | some d'=>
     rw [z] at h1;cases h1;obtain⟨v,e1,e2⟩:=rl.get z;exact⟨v,qlj e1,e2⟩
   ·rw [g01 (by simpa using hi),g0a] at h1
    split at h1 <;> cases h1
  ow:=fun i es h1=>by
   by_cases hi:i<ds.length
   ·rw [uf (by simpa using hi),mj] at h1
    cases z:ds[i]? with
    | none=>rw [z] at h1;cases h1
    | some d'=>rw [z] at h1;cases h1
   ·rw [g01 (by simpa using hi),g0a] at h1
    split at h1 <;> cases h1
  dj:=fun i j us es a _ h1=>by
   by_cases hi:i<ds.length
   ·rw [uf (by simpa using hi),mj] at h1
    cases z:ds[i]? with
    | none=>rw [z] at h1;cases h1
    | some d'=>rw [z] at h1;cases h1
   ·rw [g01 (by simpa using hi),g0a] at h1
    split at h1 <;> cases h1
  od:=fun i kvs h1=>by
   by_cases hi:i<ds.length
   ·rw [uf (by simpa using hi),mj] at h1
    cases z:ds[i]? with
    | none=>rw [z] at h1;cases h1
    | some d'=>rw [z] at h1;cases h1
   ·rw [g01 (by simpa using hi),g0a] at h1
    split at h1 <;> cases h1
  o1:=fun i j k1 k2 h1=>by
   by_cases hi:i<ds.length
   ·rw [uf (by simpa using hi),mj] at h1
    cases z:ds[i]? with
    | none=>rw [z] at h1;cases h1
    | some d'=>rw [z] at h1;cases h1
   ·rw [g01 (by simpa using hi),g0a] at h1
    split at h1 <;> cases h1}
 unfold zh at hd;cases z:u (ds.map (fun d=>some (.fz d))++List.replicate (N.length-ds.length) none) with
 | none=>rw [z] at hd;cases hd
 | some p=>
  obtain⟨fl, ρ'⟩:=p;rw [z] at hd;refine⟨F,H,F,_,fl, ρ',r,z,?_⟩;cases fl with
  | nx=>cases hd;exact fun σ' F' H' s' r'=>q .non F' H' r'.g (rep_non.mpr rfl)
  | bk=>cases hd
  | ct=>cases hd
  | rt d'=>cases hd;exact fun v σ' F' H' g' r'=>q v F' H' g'.g r'
theorem qw2{P:Program}{w:World}{K:Frag}{mg:Str->Option Value}{base:Heap}{k:Nat}{f:Addr}{name qual:Str}{params:Arguments}{body:List Stmt}{scope:Scope}{dV kV doc pm cdv ct oc:Value}{an od:Option Addr}
  {osl:Array (Option Value)} {N ps:List Str} {u:FS} (lk:K.lookup f=some ⟨oc,od,.func (PySem.W.fnOf name qual params body scope dV kV doc pm an cdv ct),osl⟩) (hcd:PySem.W.codeIn K cdv qual=true) (S:FnScope N ps scope)
  (hb:∀(A:Around) (outer:List Env) (s:Shared) (H:Hp) (E:XK),Room k (A.deeper (envOfC qual scope s.heap.objs.size f cdv))->PSs (zw CX0 P w K mg base N qual scope f cdv A outer s H E).nox body (tDS K u)) :
  FnOk P w K mg base CX0 (k+1) f (PySem.W.fnOf name qual params body scope dV kV doc pm an cdv ct) ps (spD K ps.length (zh N.length u)):=by
 have hpl:ps.length<=N.length:=by have:=nz List.length S.pre;rw [pj] at this;omega
 refine qvu lk hcd S (fun vs H Q E h=>?_) fun A outer s H vs Q E hr hsp=>⟨_,(hb A outer s H E hr).nox,qtt (P:=P) (w:=w) hpl hsp⟩
 obtain⟨F,ds,d,_,rl,el,_⟩:=h;rw [<- rl.length];exact el
structure ItD(K:Frag)(F:Hp)(ds:List D)(J:It): Prop where
 go:∀(i:Nat) (F' H:Hp),Same F F'->Same F' H->i<ds.length->J.go i H
 yld:∀(i:Nat) (d:D) (F' H:Hp) (x:V) (H':Hp),Same F F'->Same F' H->ds[i]? = some d->J.yld i H x H'->∃F'',Grow F' H F'' H'/\Rep K F'' d x
 stop:∀(i:Nat) (F' H:Hp),Same F F'->Same F' H->ds.length<=i->J.stop i H
def tDI(K:Frag)(f:FA): TI:=fun σ H R=>∃F0 H0 F ρ ds,RS K F0 H0 F H σ ρ /\ f ρ = some ds/\∀J F' H',Grow F H F' H'->ItD K F' ds J->R J H'
abbrev FB:=D->Rho->Option Rho
abbrev FBs:=List D->Rho->Option Rho
def tDG(K:Frag)(b:FB): TG:=fun v σ H Q=>∃F0 H0 F ρ d ρ',RS K F0 H0 F H σ ρ /\ Rep K F d v/\b d ρ = some ρ'/\∀ σ',RS K F0 H0 F H σ' ρ'->Q σ' H
def qiw(K:Frag)(b:FBs): TGs:=fun vs σ H Q=>∃F0 H0 F ρ ds ρ',RS K F0 H0 F H σ ρ /\ RepL K F ds vs/\b ds ρ = some ρ'/\∀ σ',RS K F0 H0 F H σ' ρ'->Q σ' H
section
variable{X:Cx}{tg e:Expr}{es:List Expr}{pos:Pos}
theorem q7z{t t':TI}(h:PI X tg e t)(i:∀ σ H R,t' σ H R->t σ H R): PI X tg e t':=fun pins s σ H R I q=>h pins s σ H R I (i σ H R q)
theorem qlk{t t':TG}(h:PG X e t)(i:∀v σ H Q,t' v σ H Q->t v σ H Q): PG X e t':=fun pins s σ H v u Q I r q=>h pins s σ H v u Q I r (i v σ H Q q)
theorem qhy{t t':TGs}(h:PGs X es t)(i:∀v σ H Q,t' v σ H Q->t v σ H Q): PGs X es t':=fun pins s σ H v u Q I r q=>h pins s σ H v u Q I r (i v σ H Q q)
def bN(i:Nat): FB:=fun d ρ =>some (ρ.set i (some (.fz d)))
def wd:FBs:=fun ds ρ =>if ds.isEmpty then some ρ else none
def jh(b:FB)(bs:FBs): FBs:=fun ds ρ =>match ds with
 | d :: r=>(b d ρ).bind fun ρ'=>bs r ρ'
 | []=>none
def we(n:Nat)(bs:FBs): FB:=fun d ρ =>match d with
 | .tup ds=>if ds.length=n then bs ds ρ else none
 | _=>none
theorem z8{i:Nat}{x:Str}(hN:X.N.Nodup)(hi:X.N[i]? = some x)(hx:Loc X.env.scope x)(hf:X.fn x=true\/X.env.scope.names.lookup x=some .local:=by first|exact .inl rfl|exact .inr rfl|assumption): PG X (.Name x pos) (tDG X.K (bN i)):=
 qlk (qho hN hi hx hf) fun v σ H Q ⟨F0,H0,F, ρ,d, ρ',r,hr,hb,q⟩=>by
  cases hb;exact q _ (r.set i hr)
theorem q30:PGs X [] (qiw X.K wd):=qhy qqq fun vs σ H Q ⟨F0,H0,F, ρ,ds, ρ',r,hr,hb,q⟩=>by
 unfold wd at hb
 split at hb
 ·rename_i z
  cases hb;have z':ds=[]:=by simpa using z
  subst z';exact⟨hr.nil_inv,q σ r⟩
 ·cases hb
theorem x6{b:FB}{bs:FBs}(h1:PG X e (tDG X.K b))(h2:PGs X es (qiw X.K bs))(hs:(assignEach (e :: es) X.env).map (·.2)=assign e X.env :: (assignEach es X.env).map (·.2):=by rfl): PGs X (e :: es) (qiw X.K (jh b bs)):=
 qhy (qnh h1 h2 hs) fun vs σ H Q ⟨F0,H0,F, ρ,ds, ρ',r,hr,hb,q⟩=>by
  cases ds with
  | nil=>cases hb
  | cons d ds=>
   obtain⟨v,vr,rfl,h3,h4⟩:=hr.cons_inv;obtain⟨ρ1,h5,h6⟩:=gb.mp hb;exact⟨v,vr,rfl,F0,H0,F, ρ,d, ρ1,r,h3,h5,fun σ' r'=>⟨F0,H0,F, ρ1,ds, ρ',r',h4,h6,q⟩⟩
theorem q31{k n:Nat}{bs:FBs}(hc:X.calm=true)(h:PGs X es (qiw X.K bs))(hn:(assignEach es X.env).length=n:=by rfl)(hst:(assignEach es X.env).findIdx? (·.1)=none:=by rfl): PG X (.Tuple es k pos) (tDG X.K (we n bs)):=
 qlk (qsx hc h hn hst) fun v σ H Q ⟨F0,H0,F, ρ,d, ρ',r,hr,hb,q⟩=>by
  cases d <;> simp only [we] at hb <;> first|(cases hb;done)|skip
  rename_i ds
  split at hb
  ·rename_i hl
   obtain⟨a,xs,rfl,h1,h2⟩:=rep_tup.mp hr;exact⟨a,xs,rfl,qq r.fh h1,by rw [<- h2.length];exact hl,F0,H0,F, ρ,ds, ρ',r,h2,hb,q⟩
  ·cases hb
def qau(f:FE)(b:FB): FS:=fun ρ =>(f ρ).bind fun d=>(b d ρ).map fun ρ'=>(.nx, ρ')
theorem qr6{f:FE}{b:FB}{ts:Expr}(he:PE X e (tD X.K f))(hg:PG X ts (tDG X.K b))(hs:swapsWithSole [ts] e pos.line X.env=pure false:=by rfl)(hw:swappedStores [ts] e X.env=pure none:=by rfl)
  (h1:(assignEach [ts] X.env).map (·.2)=[assign ts X.env]:=by rfl):PS X (.Assign [ts] e pos) (tDS X.K (qau f b)):=q0k (qkv he hg hs hw h1) fun D σ H ⟨F0,H0,F, ρ,fl, ρ',r,hf,q⟩=>by
 obtain⟨d,h2,h3⟩:=gb.mp hf;obtain⟨ρ1,h4,h5⟩:=gv.mp h3;cases h5;exact⟨F0,H0,F, ρ,d,r,h2,fun v F' H' g' r'=>⟨F0,H0,F', ρ,d, ρ',r.grow g',r',h4,fun σ' r2=>q σ' F' H' g'.ff r2⟩⟩
theorem qo4{K:Frag}{F:Hp}{a:Addr}{xs:List V}{ds:List D}(h:SqL K F a xs)(hd:RepL K F ds xs): ItD K F ds (Itl K a) where
 go:=fun i F' H s1 s2 hi=>⟨xs,xs[i]'(by rw [<- hd.length];exact hi),(s1.trans s2).seq h,by simp⟩
 yld:=fun i d F' H x H' s1 s2 hi ⟨e,y⟩=>by
  subst e;obtain⟨z,h1,h2⟩:=hd.get hi;have:=y xs ((s1.trans s2).seq h);rw [h1] at this;cases this;exact⟨F',.refl s2,h2.mono s1⟩
 stop:=fun i F' H s1 s2 hi=>⟨xs,(s1.trans s2).seq h,by rw [<- hd.length];exact hi⟩
theorem qr7{K:Frag}{F:Hp}{a:Addr}{xs:List V}{ds:List D}(h:SqT K F a xs)(hd:RepL K F ds xs): ItD K F ds (Itt K a) where
 go:=fun i F' H s1 s2 hi=>⟨xs,xs[i]'(by rw [<- hd.length];exact hi),qq (s1.trans s2) h,by simp⟩
 yld:=fun i d F' H x H' s1 s2 hi ⟨e,y⟩=>by
  subst e;obtain⟨z,h1,h2⟩:=hd.get hi;have:=y xs (qq (s1.trans s2) h);rw [h1] at this;cases this;exact⟨F',.refl s2,h2.mono s1⟩
 stop:=fun i F' H s1 s2 hi=>⟨xs,qq (s1.trans s2) h,by rw [<- hd.length];exact hi⟩
def z9(lo:Int)(n:Nat): List D:=(List.range n).map fun i:Nat=>.int (lo+i)
theorem qcy{K:Frag}{F:Hp}(lo:Int)(n:Nat): ItD K F (z9 lo n) (Itr lo n) where
 go:=fun i F' H s1 s2 hi=>by show i<n;simpa [z9] using hi
 yld:=fun i d F' H x H' s1 s2 hi ⟨e,y⟩=>by
  subst e y;simp only [z9,mj] at hi;cases q:(List.range n)[i]? with
  | none=>rw [q] at hi;cases hi
  | some j=>
   rw [q] at hi;cases hi;have:j=i:=by
    have h2:=mv.mp q;obtain⟨h3,h4⟩:=h2;rw [List.getElem_range] at h4;exact h4.symm
   subst this;exact⟨F',.refl s2,rep_int.mpr rfl⟩
 stop:=fun i F' H s1 s2 hi=>by show n<=i;simpa [z9] using hi
def q5n:D->Option (List D)
 | .tup ds=>some ds
 | .lst ds=>some ds
 | _=>none
def jl(f:FE): FA:=fun ρ =>(f ρ).bind q5n
theorem qw3{l:Expr}{tl:TE}(hl:PE X l tl): PI X tg l (fun σ H R=>tl σ H fun x H1=>(∃a,x=.ref a/\(∃xs,SqL X.K H1 a xs)/\R (Itl X.K a) H1)\/(∃a,x=.ref a/\(∃xs,SqT X.K H1 a xs)/\R (Itt X.K a) H1)):=by
 intro pins s σ H R I h;refine thn (hl pins s σ H _ I h) fun v s1 ⟨x,H1,I1,r1,q1⟩=>?_;rcases q1 with⟨a,e,⟨xs,hq⟩,q⟩|⟨a,e,⟨xs,hq⟩,q⟩
 ·subst e
  cases r1;obtain⟨its,rv,p,hz⟩:=I1.list hq;refine g20 p.isList ?_;refine⟨s1.heap.objs.size,[s1.heap.objs.size],_,_,H1,rfl,I1.kept (t':=s1.toks) fun b o e=>gc _ e,qkw a _,⟨_,gr _ rfl,rfl,rfl⟩,fun b hb=>?_,q⟩;have e:b=s1.heap.objs.size:=by simpa using hb
  subst e;exact I1.fpOk (gw _) (I1.hok.fresh (gw _))
 ·subst e
  cases r1;obtain⟨its,rv,p,hz⟩:=I1.tuple hq;refine g2v (show s1.heap.IsTuple a its.toArray from p) ?_;refine⟨s1.heap.objs.size,[s1.heap.objs.size],_,_,H1,rfl,I1.kept (t':=s1.toks) fun b o e=>gc _ e,qik a _,⟨_,gr _ rfl,rfl,rfl⟩,fun b hb=>?_,q⟩;have e:b=s1.heap.objs.size:=by simpa using hb
  subst e;exact I1.fpOk (gw _) (I1.hok.fresh (gw _))
theorem jb{f:FE}(h:PE X e (tD X.K f)): PI X tg e (tDI X.K (jl f)):=q7z (qw3 h) fun σ H R ⟨F0,H0,F, ρ,ds,r,hf,q⟩=>by
 obtain⟨d,h1,h2⟩:=gb.mp hf;refine⟨F0,H0,F, ρ,d,r,h1,fun v F' H' g' r'=>?_⟩;cases d <;> simp only [q5n] at h2 <;> first|(cases h2;done)|skip
 ·cases h2
  obtain⟨a,xs,rfl,h3,h4⟩:=rep_tup.mp r';exact .inr ⟨a,rfl,⟨xs,qq g'.fh h3⟩,q _ F' H' g' (qr7 h3 h4)⟩
 ·cases h2
  obtain⟨a,xs,rfl,h3,h4⟩:=rep_lst.mp r';exact .inl ⟨a,rfl,⟨xs,g'.fh.seq h3⟩,q _ F' H' g' (qo4 h3 h4)⟩
def iR1(fa:FA): FA:=fun ρ =>(fa ρ).bind fun ds=>match ds with
 | [.int j]=>if decide (-(2 ^ 62)<=j)&&decide (j<2 ^ 62) then some (z9 0 j.toNat) else none
 | _=>none
def iR2(fa:FA): FA:=fun ρ =>(fa ρ).bind fun ds=>match ds with
 | [.int i,.int j]=>if(decide (-(2 ^ 62)<=i)&&decide (i<2 ^ 62))&&(decide (-(2 ^ 62)<=j)&&decide (j<2 ^ 62)) then some (z9 i (j-i).toNat) else none
 | _=>none
theorem q1h{a:Expr}{fa:FA}{p:Pos}(hg:Gl X "range")(hm:X.mg "range" = none)(ha:PA X [a] (tDA X.K fa))(hs:starEach [a] X.env=[(false,eval a X.env)]:=by rfl): PI X tg (.Call (.Name "range" p) [a] [] pos) (tDI X.K (iR1 fa)):=
 q7z (qkx hg hm ha hs) fun σ H R ⟨F0,H0,F, ρ,ds,r,hf,q⟩=>by
  obtain⟨es,h1,h2⟩:=gb.mp hf;refine⟨F0,H0,F, ρ,es,r,h1,fun vs F' H' g' r'=>?_⟩
  split at h2
  ·rename_i j
   split at h2
   ·rename_i z
    cases h2;obtain⟨x,t,rfl,h3,h4⟩:=r'.cons_inv;cases h4.nil_inv;obtain⟨z1,z2⟩:=q1g z;exact⟨j,by rw [rep_int.mp h3],z1,z2,q _ F' H' g' (qcy 0 _)⟩
   ·cases h2
  ·cases h2
theorem qcz{a b:Expr}{fa:FA}{p:Pos}(hg:Gl X "range")(hm:X.mg "range" = none)(ha:PA X [a,b] (tDA X.K fa))(hs:starEach [a,b] X.env=[(false,eval a X.env),(false,eval b X.env)]:=by rfl)(hs2:starEach [b] X.env=[(false,eval b X.env)]:=by rfl):
  PI X tg (.Call (.Name "range" p) [a,b] [] pos) (tDI X.K (iR2 fa)):=
 q7z (qky hg hm ha hs hs2) fun σ H R ⟨F0,H0,F, ρ,ds,r,hf,q⟩=>by
  obtain⟨es,h1,h2⟩:=gb.mp hf;refine⟨F0,H0,F, ρ,es,r,h1,fun vs F' H' g' r'=>?_⟩
  split at h2
  ·rename_i i j
   split at h2
   ·rename_i z
    cases h2;obtain⟨x,t,rfl,h3,h4⟩:=r'.cons_inv;obtain⟨x2,t2,rfl,h5,h6⟩:=h4.cons_inv;cases h6.nil_inv;rw [mf] at z;obtain⟨z1,z2⟩:=q1g z.1;obtain⟨z3,z4⟩:=q1g z.2;exact⟨i,j,by rw [rep_int.mp h3,rep_int.mp h5],⟨z1,z2,z3,z4⟩,q _ F' H' g' (qcy _ _)⟩
   ·cases h2
  ·cases h2
def runFor(b:FB)(body:FS): List D->Rho->Option (Fl×Rho)
 | [], ρ =>some (.nx, ρ)
 | d :: ds, ρ =>(b d ρ).bind fun ρ1=>(body ρ1).bind fun r=>match r with
  | (.nx, ρ2)=>runFor b body ds ρ2
  | (.ct, ρ2)=>runFor b body ds ρ2
  | (.bk, ρ2)=>some (.nx, ρ2)
  | (.rt v, ρ2)=>some (.rt v, ρ2)
def wq(it:FA)(b:FB)(body:FS): FS:=fun ρ =>(it ρ).bind fun ds=>runFor b body ds ρ
theorem kr{iter:Expr}{body:List Stmt}{it:FA}{b:FB}{u:FS}(hp:PassesOwn (model X.prog X.w) X.A X.env X.xe)(hc:X.calm=true)(hi:PI X tg iter (tDI X.K it))(hg:PG X tg (tDG X.K b))(hb:PSs X body (tDS X.K u))
  (hs:∀x,foldedSetIterable iter X.env x=pure x:=by intro _;rfl):PS X (.For tg iter body [] pos) (tDS X.K (wq it b u)):=q0k (ql0 hp hc hi hg hb hs) fun D σ H ⟨F0,H0,F, ρ,fl, ρ',r,hf,q⟩=>by
 obtain⟨ds,h1,h2⟩:=gb.mp hf;refine⟨F0,H0,F, ρ,ds,r,h1,fun J F1 H1 g1 itd=>?_⟩;refine⟨fun i m σ H=>m=ds.length-i/\i<=ds.length/\∃F' ρi,Same F1 F'/\RS X.K F0 H0 F' H σ ρi/\runFor b u (ds.drop i) ρi=some (fl, ρ'),⟨ds.length,by simp,g08 _,F1, ρ,.refl _,r.grow g1,by simpa using h2⟩,?_⟩
 rintro i m σ H ⟨rfl,hi,F', ρi,s1,r1,h3⟩
 by_cases hlt:i<ds.length
 ·have hd:ds.drop i=ds[i] :: ds.drop (i+1):=g2n hlt
  rw [hd] at h3;obtain⟨ρ1,h4,h5⟩:=gb.mp h3;obtain⟨⟨fl1, ρ2⟩,h6,h7⟩:=gb.mp h5;refine .inr ⟨itd.go i F' H s1 r1.fh hlt,fun σ' H'=>∃F',Same F1 F'/\RS X.K F0 H0 F' H' σ' ρ2/\runFor b u (ds.drop (i+1)) ρ2=some (fl, ρ'),fun σ' H' ⟨F',z1,z2,z3⟩=>⟨ds.length-(i+1),by omega,rfl,hlt,F', ρ2,z1,z2,z3⟩,fun x H' y=>?_⟩;obtain⟨F2,g2,r2⟩:=itd.yld i ds[i] F' H x H' s1 r1.fh (by simp [hlt]) y;refine⟨F0,H0,F2, ρi,ds[i], ρ1,r1.grow g2,r2,h4,fun σ' r3=>⟨F0,H0,F2, ρ1,fl1, ρ2,r3,h6,?_⟩⟩;cases fl1 with
  | nx=>exact fun σ2 F3 H3 s3 r4=>⟨F3,(s1.trans g2.ff).trans s3,r4,h7⟩
  | ct=>exact fun σ2 F3 H3 s3 r4=>⟨F3,(s1.trans g2.ff).trans s3,r4,h7⟩
  | bk=>cases h7;exact fun σ2 F3 H3 s3 r4=>q σ2 F3 H3 ((g1.ff.trans (s1.trans g2.ff)).trans s3) r4
  | rt d=>cases h7;exact q
 ·have e:i=ds.length:=by omega
  subst e;rw [g5c] at h3;cases h3;exact .inl ⟨itd.stop _ F' H s1 r1.fh (gw _),q σ F' H (g1.ff.trans s1) r1⟩
def jm(t:FT)(body:FS): Nat->Rho->Option (Fl×Rho)
 | 0,_=>none
 | n+1, ρ =>(t ρ).bind fun c=>if c then(body ρ).bind fun r=>match r with
   | (.nx, ρ2)=>jm t body n ρ2
   | (.ct, ρ2)=>jm t body n ρ2
   | (.bk, ρ2)=>some (.nx, ρ2)
   | (.rt v, ρ2)=>some (.rt v, ρ2)
  else some (.nx, ρ)
theorem q9r{c:Expr}{body:List Stmt}{t:FT}{u:FS}(n:Nat)(hp:PassesOwn (model X.prog X.w) X.A X.env X.xe)(hc:PT X c (tDT X.K t))(hb:PSs X body (tDS X.K u)): PS X (.While c body [] pos) (tDS X.K (jm t u n)):=
 q0k (qni hp hc hb) fun D σ H ⟨F0,H0,F, ρ,fl, ρ',r,hf,q⟩=>by
  refine⟨fun m σ H=>∃F' ρi,Same F F'/\RS X.K F0 H0 F' H σ ρi/\jm t u m ρi=some (fl, ρ'),⟨n,F, ρ,.refl _,r,hf⟩,?_⟩
  rintro m σ H ⟨F', ρi,s1,r1,h1⟩
  cases m with
  | zero=>cases h1
  | succ m=>
   obtain⟨c,h2,h3⟩:=gb.mp h1;refine⟨F0,H0,F', ρi,c,r1,h2,fun F2 H2 g2=>?_⟩;cases c with
   | false=>rw [ma m9] at h3 ⊢;cases h3;exact q σ F2 H2 (s1.trans g2.ff) (r1.grow g2)
   | true=>
    rw [m8 rfl] at h3 ⊢;obtain⟨⟨fl1, ρ2⟩,h6,h7⟩:=gb.mp h3;refine⟨fun σ' H'=>∃F',Same F F'/\RS X.K F0 H0 F' H' σ' ρ2/\jm t u m ρ2=some (fl, ρ'),fun σ' H' ⟨F',z1,z2,z3⟩=>⟨m,ph _,F', ρ2,z1,z2,z3⟩,F0,H0,F2, ρi,fl1, ρ2,r1.grow g2,h6,?_⟩;cases fl1 with
    | nx=>exact fun σ2 F3 H3 s3 r4=>⟨F3,(s1.trans g2.ff).trans s3,r4,h7⟩
    | ct=>exact fun σ2 F3 H3 s3 r4=>⟨F3,(s1.trans g2.ff).trans s3,r4,h7⟩
    | bk=>cases h7;exact fun σ2 F3 H3 s3 r4=>q σ2 F3 H3 ((s1.trans g2.ff).trans s3) r4
    | rt d=>cases h7;exact q
end
def qtu:Option B->Option B
 | some (.fz d)=>some (.fz d)
 | _=>none
def wt(cap:List (Option Nat))(ρ : Rho): Rho:=cap.map fun o=>o.bind fun j=>qtu (ρ[j]?).join
structure Sub(ρ ρ':Rho): Prop where
 len : ρ.length = ρ'.length
 sub:∀(i:Nat) (b:B), ρ[i]? = some (some b) -> ρ'[i]? = some (some b)
theorem RS.weak{K:Frag}{F0 H0 F H:Hp}{σ : St}{ρ ρ':Rho}(r:RS K F0 H0 F H σ ρ')(s:Sub ρ ρ'): RS K F0 H0 F H σ ρ where
 t0:=r.t0
 g:=r.g
 len:=by rw [s.len];exact r.len
 fz:=fun i d e=>r.fz i d (s.sub i _ e)
 ow:=fun i ds e=>r.ow i ds (s.sub i _ e)
 dj:=fun i j ds es a h e1 e2=>r.dj i j ds es a h (s.sub i _ e1) (s.sub j _ e2)
 od:=fun i kvs e=>let⟨a,bs,e1,e2,e3⟩:=r.od i kvs (s.sub i _ e); ⟨a,bs,e1,e2,fun j es b h=>e3 j es b (s.sub j _ h)⟩
 o1:=fun i j k1 k2 e1 e2=>r.o1 i j k1 k2 (s.sub i _ e1) (s.sub j _ e2)
def vk(ρ : Rho): Prop:=∀(i:Nat) (b:B), ρ[i]? = some (some b)->∃d,b=.fz d
theorem yn{ρ : Rho}(no:vk ρ){i:Nat}{ds:List D}(h : ρ[i]? = some (some (.ow ds))): False:=let⟨_,e⟩:=no i _ h;nomatch e
theorem yo{ρ : Rho}(no:vk ρ){i:Nat}{ds}(h : ρ[i]? = some (some (.od ds))): False:=let⟨_,e⟩:=no i _ h;nomatch e
theorem k6(cap:List (Option Nat))(ρ : Rho): vk (wt cap ρ):=fun i ds h=>by
 unfold wt at h;rw [mj] at h;cases q:cap[i]? with
 | none=>rw [q] at h;cases h
 | some o=>
  rw [q] at h;cases o with
  | none=>cases h
  | some j=>
   simp only [mx,gd,g1y] at h;generalize (ρ[j]?).join=z at h;cases z with
   | none=>cases h
   | some b=>cases b with
    | fz d=>cases h;exact⟨d,rfl⟩
    | ow _=>cases h
    | od _=>cases h
theorem qtv{K:Frag}{F0 H0 F H:Hp}{σ : St}{ρ : Rho}(cap:List (Option Nat))(r:RS K F0 H0 F H σ ρ): RS K F H F H (qbw cap σ) (wt cap ρ) where
 t0:=⟨r.tab,r.tabF⟩
 g:=.refl r.fh
 len:=by unfold qbw wt;rw [gh,gh]
 fz := fun i d h=>by
  unfold wt at h;rw [mj] at h;cases q:cap[i]? with
  | none=>rw [q] at h;cases h
  | some o=>
   rw [q] at h;cases o with
   | none=>cases h
   | some j=>
    simp only [mx,gd,g1y] at h;have e : ρ[j]? = some (some (.fz d)):=by
     cases z : ρ[j]? with
     | none=>rw [z] at h;cases h
     | some b=>
      rw [z] at h;cases b with
      | none=>cases h
      | some b=>cases b with
       | fz d'=>cases h;rfl
       | ow _=>cases h
       | od _=>cases h
    obtain⟨v,e1,e2⟩:=r.fz j d e;refine⟨v,?_,e2⟩;unfold qbw;rw [mj,q];simp only [mx,gd,e1,g3k]
 ow:=fun i ds h=>(yn (k6 cap ρ) h).elim
 dj:=fun i j ds es a _ h=>(yn (k6 cap ρ) h).elim
 od:=fun i ds h=>(yo (k6 cap ρ) h).elim
 o1:=fun i j ds es h=>(yo (k6 cap ρ) h).elim
theorem RS.other{K:Frag}{F0 H0 F H:Hp}{σ : St}{ρ : Rho}(r:RS K F0 H0 F H σ ρ)(no:vk ρ){p:Addr}{o:HO}(h1:F p=none)(h2:H0 p=none)(h3:H p=none\/∃xs,H p=some (.lst xs)): RS K F0 H0 F (upd H p o) σ ρ where
 t0:=r.t0
 g :=⟨r.g.ff,⟨fun b u e=>by rw [z6 (fun z=>by subst z;rw [h2] at e;cases e)];exact r.g.hh.lst b u e,fun b u e=>by rw [z6 (fun z=>by subst z;rw [h2] at e;cases e)];exact r.g.hh.ext b u e,fun {b} e=>by
   by_cases z:b=p
   ·subst z;exact h2
   ·rw [z6 z] at e;exact r.g.hh.free e,fun t=>(r.g.hh.tb t).upd h3,fun b u e=>by rw [z6 (fun z=>by subst z;rw [h2] at e;cases e)];exact r.g.hh.dk b u e⟩,fun b u e=>by rw [z6 (fun z=>by subst z;rw [h1] at e;cases e)];exact r.g.fh b u e,r.g.nw⟩
 len:=r.len
 fz:=r.fz
 ow:=fun i ds h=>(yn no h).elim
 dj:=fun i j ds es a _ h=>(yn no h).elim
 od:=fun i ds h=>(yo no h).elim
 o1:=fun i j ds es h=>(yo no h).elim
theorem q55{F H F' H':Hp}{p:Addr}(g:Grow F H F' H')(h1:F p=none){o:HO}(h2:H p=some o): F' p=none:=by
 cases q:F' p with
 | none=>rfl
 | some u=>
  rcases g.nw p (by rw [q];simp) with z|z
  ·exact absurd h1 z
  ·rw [h2] at z;cases z
def za(b:FB)(c:FT)(f:FE)(ρ : Rho): List D->Option (List D)
 | []=>some []
 | d :: ds=>(b d ρ).bind fun ρ1=>(c ρ1).bind fun t=>if t then(f ρ1).bind fun y=>(za b c f ρ ds).map fun ys=>y :: ys else za b c f ρ ds
def zu:FT:=fun _=>some true
def zl(it:FA)(cap:List (Option Nat))(b:FB)(c:FT)(f:FE): FA:=fun ρ =>(it ρ).bind fun ds=>if ds.length<=lim then za b c f (wt cap ρ) ds else none
def qav(b:FB)(cap:List (Option Nat)): Prop:=∀ ρ d ρ',b d (wt cap ρ)=some ρ'->Sub (wt cap ρ) ρ'/\vk ρ'
section
variable{X:Cx}
theorem qo5{ifs:List Expr}{t t':TT}(h:q3m X ifs t)(i:∀ σ H Q,t' σ H Q->t σ H Q): q3m X ifs t':=fun pins s σ H Q I q=>h pins s σ H Q I (i σ H Q q)
theorem vi:q3m X [] (tDT X.K zu):=qo5 qnu fun σ H Q ⟨F0,H0,F, ρ,b,r,hf,q⟩=>by cases hf;exact q F H (.refl r.fh)
theorem q1o{c:Expr}{t:FT}(h:PT X c (tDT X.K t)): q3m X [c] (tDT X.K t):=qnv h
theorem qll{K:Frag}{it:FA}{cap:List (Option Nat)}{b:FB}{c:FT}{f:FE}{σ : St}{H:Hp}{Q:VK}(fr:qav b cap)(h:tL K (zl it cap b c f) σ H Q): qit (tDI K it) cap (tDG K b) (tDT K c) (tD K f) σ H Q:=by
 obtain⟨F0,H0,F, ρ,zs,r,hf,q⟩:=h;obtain⟨ds,h1,h2⟩:=gb.mp hf;have hlim:ds.length<=lim:=g53 fun z=>by rw [ma z] at h2;cases h2
 rw [m8 hlim] at h2;refine⟨F0,H0,F, ρ,ds,r,h1,fun J F1 H1 g1 itd p hp=>?_⟩;have rc:=qtv cap (r.grow g1);have hF1:F1 p=none:=g1.fh.free hp;refine⟨fun i m σ H=>m=ds.length-i/\i<=ds.length/\∃F' xs ys us,Same F1 F'/\RS K F1 H1 F' H σ (wt cap ρ)/\H p=some (.lst xs)/\F' p=none/\RepL K F' ys xs/\za b c f (wt cap ρ) (ds.drop i)=some us/\ys++us=zs/\ys.length<=i,
  ⟨ds.length,by simp,g08 _,F1,[],[],zs,.refl _,rc.other (k6 cap ρ) hF1 hp (.inl hp),zg,hF1,.nil,by simpa using h2,rfl,gw _⟩,?_⟩
 rintro i m σ' H' ⟨rfl,hi,F',xs,ys,us,s1,r1,hl,hn,ry,h3,h4,hyi⟩
 by_cases hlt:i<ds.length
 ·have hd:ds.drop i=ds[i] :: ds.drop (i+1):=g2n hlt
  rw [hd] at h3;obtain⟨ρ1,h5,h3⟩:=gb.mp h3;obtain⟨t,h6,h3⟩:=gb.mp h3;obtain⟨sb,no1⟩:=fr ρ _ _ h5;refine .inr ⟨itd.go i F' H' s1 r1.fh hlt,fun x H'' y=>?_⟩;obtain⟨F2,g2,r2⟩:=itd.yld i ds[i] F' H' x H'' s1 r1.fh (by simp [hlt]) y;refine⟨F1,H1,F2,wt cap ρ,ds[i], ρ1,r1.grow g2,r2,h5,fun σ2 r3=>⟨F1,H1,F2, ρ1,t,r3,h6,fun F3 H3 g3=>?_⟩⟩;have r4:=r3.grow g3;have hl2:=g2.hh.lst _ _ hl;have hn2:=q55 g2 hn hl;have hl3:=g3.hh.lst _ _ hl2;have hn3:=q55 g3 hn2 hl2;cases t with
  | false=>
   rw [ma m9] at h3;exact qx6 ⟨ds.length-(i+1),by omega,rfl,hlt,F3,xs,ys,us,(s1.trans g2.ff).trans g3.ff,r4.weak sb,hl3,hn3,ry.mono (g2.ff.trans g3.ff),h3,h4,Nat.le_succ_of_le hyi⟩
  | true=>
   rw [m8 rfl] at h3;obtain⟨yd,h7,h3⟩:=gb.mp h3;obtain⟨us',h8,h9⟩:=gv.mp h3;refine qx7 ⟨F1,H1,F3, ρ1,yd,r4,h7,fun v F4 H4 g4 r5=>?_⟩;have hl4:=g4.hh.lst _ _ hl3;have hn4:=q55 g4 hn3 hl3;have ss:Same F' F4:=(g2.ff.trans g3.ff).trans g4.ff;refine⟨xs,hl4,qcw (by have:=ry.length;omega),ds.length-(i+1),by omega,rfl,hlt,F4,xs++[v],ys++[yd],us',(s1.trans ss),?_,zg,hn4,(ry.mono ss).append (.cons r5 .nil),h8,?_,?_⟩
   ·exact((r4.grow g4).weak sb).other (k6 cap ρ) hn4 hp (.inr ⟨_,hl4⟩)
   ·rw [uh,List.singleton_append,h9];exact h4
   ·rw [mw,g3n];omega
 ·have e:i=ds.length:=by omega
  subst e;rw [g5c] at h3;cases h3;rw [g1o] at h4;subst h4;have gg:Grow F1 H1 F' H':=r1.g;exact .inl ⟨itd.stop _ F' H' s1 r1.fh (gw _),q p xs F' H' (g1.trans gg) hn (g1.hh.free hp) hl ry⟩
variable{N':List Str}{scope:Scope}{cap:List (Option Nat)}{tg iter elt:Expr}{ifs:List Expr}{it:FA}{b:FB}{c:FT}{f:FE}{pos:Pos}
theorem jd(hc:X.calm=true)(co:CapOk X N' scope cap)(fr:qav b cap)(hi:PI X tg iter (tDI X.K it))
  (hg:∀cl C s₀ H₀ fp,PG (xg X N' scope cl C s₀ H₀ fp) tg (tDG X.K b)) (hcs:∀cl C s₀ H₀ fp,q3m (xg X N' scope cl C s₀ H₀ fp) ifs (tDT X.K c)) (he:∀cl C s₀ H₀ fp,PE (xg X N' scope cl C s₀ H₀ fp) elt (tD X.K f))
  (hs:∀x,foldedSetIterable iter X.env x=pure x:=by intro _;rfl):PE X (.ListComp elt [⟨tg,iter,ifs,0⟩] scope pos) (tL X.K (zl it cap b c f)):=
 ju (qr1 hc co hi hg hcs he hs) fun σ H Q h=>qll fr h
theorem qby{i:Nat}{x:Str}{px pe:Pos}(hc:X.calm=true)(hN:X.N.Nodup)(hx0:X.N[i]? = some x)(hx:X.env.scope.names.lookup x=some .local)(co:CapOk X N' scope cap)(fr:qav b cap)(hi:PI X tg iter (tDI X.K it))
  (hg:∀cl C s₀ H₀ fp,PG (xg X N' scope cl C s₀ H₀ fp) tg (tDG X.K b)) (hcs:∀cl C s₀ H₀ fp,q3m (xg X N' scope cl C s₀ H₀ fp) ifs (tDT X.K c)) (he:∀cl C s₀ H₀ fp,PE (xg X N' scope cl C s₀ H₀ fp) elt (tD X.K f))
  (hsw:swapsWith (.ListComp elt [⟨tg,iter,ifs,0⟩] scope pe) (some (.Name x px)) pos.line X.env=pure true:=by rfl)
  (hs:∀x,foldedSetIterable iter X.env x=pure x:=by intro _;rfl):PS X (.Assign [.Name x px] (.ListComp elt [⟨tg,iter,ifs,0⟩] scope pe) pos) (tDS X.K (q18 i (zl it cap b c f))):=
 q0k (qiu hc hN hx0 hx co hi hg hcs he hsw hs) fun D σ H h=>qll fr (qq9 h)
end
theorem qei{cap:List (Option Nat)}{ρ : Rho}{i:Nat}(h:cap[i]? = some none): (wt cap ρ)[i]? = some none:=by
 unfold wt;rw [mj,h];rfl
theorem qhz{ρ ρ':Rho}{i:Nat}{b:Option B}(s:Sub ρ ρ')(h : ρ[i]? = some none): Sub ρ (ρ'.set i b):=
 ⟨by rw [uc];exact s.len,fun j c e=>by
  by_cases q:j=i
  ·subst q;rw [h] at e;cases e
  ·rw [gu (my q)];exact s.sub j c e⟩
theorem q80{ρ : Rho}{i:Nat}{d:D}(h:vk ρ): vk (ρ.set i (some (.fz d))):=fun j ds e=>by
 by_cases q:j=i
 ·subst q
  obtain⟨z,_⟩:=zd e;cases z;exact⟨d,rfl⟩
 ·rw [gu (my q)] at e;exact h j ds e
theorem Sub.refl(ρ : Rho): Sub ρ ρ :=⟨rfl,fun _ _ h=>h⟩
theorem zx{cap:List (Option Nat)}{i:Nat}(h:cap[i]? = some none): qav (bN i) cap:=fun ρ d ρ' e=>by
 cases e;exact⟨qhz (.refl _) (qei h),q80 (k6 cap ρ)⟩
def qaw(bs:FBs)(cap:List (Option Nat)): Prop:=∀ ρ ds ρ1 ρ',Sub (wt cap ρ) ρ1->vk ρ1->bs ds ρ1=some ρ'->Sub (wt cap ρ) ρ'/\vk ρ'
theorem q1p{cap:List (Option Nat)}: qaw wd cap:=fun ρ ds ρ1 ρ' s n e=>by
 unfold wd at e
 split at e
 ·cases e;exact⟨s,n⟩
 ·cases e
theorem jw{cap:List (Option Nat)}{i:Nat}{bs:FBs}(h:cap[i]? = some none)(t:qaw bs cap): qaw (jh (bN i) bs) cap:=fun ρ ds ρ1 ρ' s n e=>by
 cases ds with
 | nil=>cases e
 | cons d ds=>exact t ρ ds _ ρ' (qhz s (qei h)) (q80 n) e
theorem q32{cap:List (Option Nat)}{n:Nat}{bs:FBs}(t:qaw bs cap): qav (we n bs) cap:=fun ρ d ρ' e=>by
 cases d <;> simp only [we] at e <;> first|(cases e;done)|skip
 split at e
 ·exact t ρ _ _ ρ' (.refl _) (k6 cap ρ) e
 ·cases e
def qtw (outer:List (Str×NameKind)) (N N':List Str) (scope:Scope) (cap:List (Option Nat)):Bool:=
 scope.names.all (fun y=> !(y.2 == .cell))&&(scope.names.all (fun y=> !(y.2 == .local) || (scope.names.lookup y.1==some .local))&&(scope.names.all (fun y=> !(y.2 == .free) || (outer.lookup y.1==some .cell) || (outer.lookup y.1==some .free)) &&
  (cap.length==N'.length&&(List.range cap.length).all fun i=>match(cap[i]?).join with
   | none=>true
   | some j=>match N'[i]? with
    | none=>false
    | some x=>N[j]? == some x&&scope.names.lookup x==some .free)))
theorem zy{X:Cx}{N':List Str}{scope:Scope}{cap:List (Option Nat)}(hk:scope.kind=.function)(h:qtw X.env.scope.names X.N N' scope cap=true): CapOk X N' scope cap:=by
 unfold qtw at h;simp only [mf,pq] at h;obtain⟨h1,h2,h3,h4,h5⟩:=h;refine⟨hk,fun y hy e=>?_,fun y hy e=>?_,fun y hy e=>?_,by simpa using h4,fun i j e=>?_⟩
 ·have:=h1 y hy;rw [e] at this;cases this
 ·have:=h2 y hy;rw [e] at this;simpa using this
 ·have:=h3 y hy
  rw [e] at this;simp only [beq_self_eq_true,tx,g4k,g1n,g1m] at this;exact this
 ·have hi:i<cap.length:=(mv.mp e).1
  have:=h5 i (tw.mpr hi);rw [e] at this;simp only [g3k] at this
  split at this
  ·cases this
  ·rename_i x hx
   simp only [mf,g1m] at this;exact⟨x,hx,this.1,this.2⟩
section
variable{X:Cx}{e:Expr}{es:List Expr}{pos:Pos}{f g:FE}{fa:FA}
inductive Ty where
 | int|bool|tuple|list|str|dict
def Ty.name:Ty->String
 | .int=>"int" | .bool=>"bool" | .tuple=>"tuple" | .list=>"list" | .str=>"str" | .dict=>"dict"
def zz:Ty->D->Bool
 | .int,.int _=>true
 | .int,.bl _=>true
 | .bool,.bl _=>true
 | .tuple,.tup _=>true
 | .list,.lst _=>true
 | .str,.str _=>true
 | .dict,.dct _ _=>true
 | .dict,.dtt _ _=>true
 | .dict,.dt2 _=>true
 | _,_=>false
theorem qo6{prog:Program}{w:World}{A:Around}{E:Value->Shared->Prop}{s:Shared}{Q:Value->Shared->Prop}{K:Frag}{T:String}{b:Bool}(hk:K.In s.heap)(h:∀tk,Q (.bool b) {s with toks:=tk})(hT:PySem.W.kitOne K (.type "NoneType") (.type T)=some b):
  wpAny (model prog w) A (call (.builtin "isinstance") [.none,.type T]) Q E s:=g5w PySem.W.kitx_none hk True.intro hT (fun z=>nomatch z) h
theorem qo7(T:Ty): jy X (.builtin "isinstance") (fun xs H Q=>∃x F d,xs=[x,.ty T.name]/\Same F H/\Rep X.K F d x/\Q (.bl (zz T d)) H):=by
 intro pins s σ H xs us Q I r h;obtain⟨x,F,d,rfl,fh,rd,q⟩:=h;obtain⟨u,w',rfl,rx,rt⟩:=r.two;obtain rfl:w'=Value.type T.name:=rt;have fin:∀ {b:Bool},Q (.bl b) H->EP X pins σ Q (.bool b) s:=fun q=>⟨.bl _,H,I,rfl,q⟩
 have fin1:∀ {b:Bool},Q (.bl b) H->EP X pins σ Q (.bool b) {s with toks:=s.toks+1}:=fun q=>⟨.bl _,H,I.tok _,rfl,q⟩
 cases d with
 | non=>
  cases rep_non.mp rd;cases rx;cases T <;> exact qo6 I.kIn (fun tk=>⟨.bl _,H,I.tok _,rfl,q⟩) (by rfl)
 | bl b=>
  cases rep_bl.mp rd;cases rx;cases T
  ·exact IsiPair.bool_int (fin q)
  ·exact IsiPair.bool_bool (fin q)
  ·exact IsiPair.bool_tuple (fin1 q)
  ·exact IsiPair.bool_list (fin1 q)
  ·exact IsiPair.bool_str (fin1 q)
  ·exact IsiPair.bool_dict (fin1 q)
 | int i=>
  cases rep_int.mp rd;obtain⟨t,rfl⟩:=rx;cases T
  ·exact IsiPair.int_int (fin q)
  ·exact IsiPair.int_bool (fin1 q)
  ·exact IsiPair.int_tuple (fin1 q)
  ·exact IsiPair.int_list (fin1 q)
  ·exact IsiPair.int_str (fin1 q)
  ·exact IsiPair.int_dict (fin1 q)
 | str z=>
  cases rep_str.mp rd;obtain⟨t,rfl⟩:=rx;cases T
  ·exact IsiPair.str_int (fin1 q)
  ·exact IsiPair.str_bool (fin1 q)
  ·exact IsiPair.str_tuple (fin1 q)
  ·exact IsiPair.str_list (fin1 q)
  ·exact IsiPair.str_str (fin q)
  ·exact IsiPair.str_dict (fin1 q)
 | tup ds=>
  obtain⟨a,ys,rfl,h1,h2⟩:=rep_tup.mp rd;cases rx;obtain⟨its,_,⟨o,ho,hc,_⟩,_⟩:=I.tuple (qq fh h1);cases T
  ·exact IsiPair.tuple_int ho hc (fin1 q)
  ·exact IsiPair.tuple_bool ho hc (fin1 q)
  ·exact IsiPair.tuple_tuple ho hc (fin q)
  ·exact IsiPair.tuple_list ho hc (fin1 q)
  ·exact IsiPair.tuple_str ho hc (fin1 q)
  ·exact IsiPair.tuple_dict ho hc (fin1 q)
 | lst ds=>
  obtain⟨a,ys,rfl,h1,h2⟩:=rep_lst.mp rd;cases rx;obtain⟨its,_,⟨o,n,ho,hc,_⟩,_⟩:=I.list (fh.seq h1);cases T
  ·exact IsiPair.list_int ho hc (fin1 q)
  ·exact IsiPair.list_bool ho hc (fin1 q)
  ·exact IsiPair.list_tuple ho hc (fin1 q)
  ·exact IsiPair.list_list ho hc (fin q)
  ·exact IsiPair.list_str ho hc (fin1 q)
  ·exact IsiPair.list_dict ho hc (fin1 q)
 | dct ks vs=>
  obtain⟨a,ys,rfl,h1,h2,h3⟩:=rep_dct.mp rd;cases rx;obtain⟨_,_,vs',_,o,es',ep,ho,hc,_⟩:=(show ObjOk X.prog X.w H s.heap a _ from I.hok a _ (fh _ _ h1))
  cases T
  ·exact g5d ho hc.1 (fin1 q)
  ·exact g4t ho hc.1 (fin1 q)
  ·exact g4d ho hc.1 (fin1 q)
  ·exact g4u ho hc.1 (fin1 q)
  ·exact g5e ho hc.1 (fin1 q)
  ·exact g4v ho hc.1 (fin q)
 | dtt ks vs=>
  obtain⟨a,xs',ys,ep,rfl,h1,_⟩:=rep_dtt.mp rd;cases rx;obtain⟨⟨o,es',ho,hc,_⟩,_,_⟩:=(show ObjOk X.prog X.w H s.heap a _ from I.hok a _ (fh _ _ h1))
  cases T
  ·exact g5d ho hc.1 (fin1 q)
  ·exact g4t ho hc.1 (fin1 q)
  ·exact g4d ho hc.1 (fin1 q)
  ·exact g4u ho hc.1 (fin1 q)
  ·exact g5e ho hc.1 (fin1 q)
  ·exact g4v ho hc.1 (fin q)
 | dt2 ks=>
  obtain⟨a,xs',ep,rfl,h1,_⟩:=rep_dt2.mp rd;cases rx;obtain⟨⟨o,es',ho,hc,_⟩,_,_⟩:=(show ObjOk X.prog X.w H s.heap a _ from I.hok a _ (fh _ _ h1))
  cases T
  ·exact g5d ho hc.1 (fin1 q)
  ·exact g4t ho hc.1 (fin1 q)
  ·exact g4d ho hc.1 (fin1 q)
  ·exact g4u ho hc.1 (fin1 q)
  ·exact g5e ho hc.1 (fin1 q)
  ·exact g4v ho hc.1 (fin q)
 | obj x=>
  obtain⟨a,dx,C,rfl,h1,_,c1,c2,c3,c4,c5,c6,c7⟩:=rep_obj.mp rd;cases rx;obtain⟨mA,O,_⟩:=qhs I.hok (fh _ _ h1);obtain⟨od,J,_⟩:=O.look;cases T <;> exact g5w (PySem.W.kitx_own c1 c2 c3 c4 c5 c6) I.kIn J (c7 _ (by decide)) (fun z=>nomatch z) (fun tk=>⟨.bl _,H,I.tok _,rfl,q⟩)
 | exc x f=>
  obtain⟨a,C,rfl,⟨od,h1,_⟩,_,c1,c2⟩:=rep_exc.mp rd;cases rx;obtain⟨J,_,_⟩:=(show ObjOk X.prog X.w H s.heap a _ from I.hok a _ (fh _ _ h1))
  cases T <;> exact g5w (qo0 c1) I.kIn J (c2 _ (by decide)) (fun z=>nomatch z) (fun tk=>⟨.bl _,H,I.tok _,rfl,q⟩)
def q1q(T:Ty)(f:FE): FE:=fun ρ =>(f ρ).map fun d=>.bl (zz T d)
theorem qo8:bootBuiltins "isinstance" = some (.builtin "isinstance"):=by decide +kernel
theorem q0l{x:Str}{p px:Pos}(T:Ty)(hg:Gl X "isinstance")(hm:X.mg "isinstance" = none)(hgT:Gl X x)(hmT:X.mg x=none)(hvT:bootBuiltins x=some (.type T.name))(ha:PE X e (tD X.K f))
  (hnT:x≠"__name__" :=by decide) (hdT:(x==("__debug__" : Str))=false:=by decide) (he2:starEach [e,.Name x px] X.env=(false,eval e X.env) :: starEach [.Name x px] X.env:=by rfl) :
  PE X (.Call (.Name "isinstance" p) [e,.Name x px] [] pos) (tD X.K (q1q T f)):=
 ju (q6p (qo7 T) hg hm qo8 (q1e ha (q1e (qqn (v:=.ty T.name) hgT hmT hvT rfl hnT hdT) q47) he2) (by decide) (by decide) he2 rfl) fun σ H Q ⟨F0,H0,F, ρ,d,r,hf,q⟩=>by
  obtain⟨d',h1,h2⟩:=gv.mp hf;subst h2;exact⟨F0,H0,F, ρ,d',r,h1,fun v F' H' g' r'=>⟨v,F',d',rfl,g'.fh,r',q _ F' H' g' (rep_bl.mpr rfl)⟩⟩
def zq:List D->Option (List Int)
 | []=>some []
 | .int i :: r=>(zq r).map fun is=>i :: is
 | _ :: _=>none
def q4f:List D->Option (List Bool)
 | []=>some []
 | .bl i :: r=>(q4f r).map fun is=>i :: is
 | _ :: _=>none
theorem qax:∀ {ds:List D} {ns:List Int},zq ds=some ns->ds=ns.map D.int
 | [],ns,h=>by cases h;rfl
 | d :: r,ns,h=>by
  cases d <;> simp only [zq] at h <;> first|(cases h;done)|skip
  obtain⟨is,h1,h2⟩:=gv.mp h;subst h2;rw [qax h1];rfl
omit [Lam] [Pin] in
theorem x8:∀(ns:List Int),zq (ns.map D.int)=some ns
 | []=>rfl
 | n :: r=>by simp only [gf,zq,x8 r,mx]
theorem q5o:∀ {ds:List D} {bs:List Bool},q4f ds=some bs->ds=bs.map D.bl
 | [],ns,h=>by cases h;rfl
 | d :: r,ns,h=>by
  cases d <;> simp only [q4f] at h <;> first|(cases h;done)|skip
  obtain⟨is,h1,h2⟩:=gv.mp h;subst h2;rw [q5o h1];rfl
omit [Lam] [Pin] in
theorem q6t:∀(ns:List Bool),q4f (ns.map D.bl)=some ns
 | []=>rfl
 | n :: r=>by simp only [gf,q4f,q6t r,mx]
theorem RepL.bools{K:Frag}{H:Hp}: ∀ {bs:List Bool} {xs:List V},RepL K H (bs.map D.bl) xs->xs=bs.map V.bl
 | [],xs,h=>h.nil_inv
 | b :: bs,xs,h=>by
  obtain⟨x,r,rfl,h1,h2⟩:=h.cons_inv;rw [rep_bl.mp h1,RepL.bools h2];rfl
def o1L(z:List D->Option D): List D->Option D
 | [.lst ds]=>z ds
 | _=>none
theorem q9s{z:List D->Option D}{es:List D}{d:D}(h:o1L z es=some d): ∃ds,es=[.lst ds]/\z ds=some d:=by
 unfold o1L at h
 split at h
 ·exact⟨_,rfl,h⟩
 ·cases h
theorem rep1{K:Frag}{F:Hp}{d:D}{xs:List V}(h:RepL K F [d] xs): ∃x,xs=[x]/\Rep K F d x:=by
 obtain⟨x,r,rfl,h1,h2⟩:=h.cons_inv;cases h2.nil_inv;exact⟨x,rfl,h1⟩
abbrev q6u:List D->Option D:=o1L fun ds=>(zq ds).map fun ns=>.int ns.sum
abbrev qbz:List D->Option D:=o1L fun ds=>(q4f ds).map fun bs=>.bl (bs.all id)
abbrev qix:List D->Option D:=o1L fun ds=>(q4f ds).map fun bs=>.bl (bs.any id)
theorem qay(hc:X.calm=true): jy X (.builtin "sum") (rC X.K q6u):=by
 intro pins s σ H xs us Q I r h;obtain⟨F,ds,d,fh,rl,ho,q⟩:=h;obtain⟨es,rfl,h1⟩:=q9s ho;obtain⟨ns,h2,h3⟩:=gv.mp h1;subst h3;cases qax h2;obtain⟨x,rfl,rx⟩:=rep1 rl;obtain⟨u,rfl,ru⟩:=r.one;obtain⟨a,ys,rfl,k1,k2⟩:=rep_lst.mp rx;cases ru;cases RepL.ints.mp k2;obtain⟨its,rv,pl,_⟩:=I.list (fh.seq k1);have hi:=intsAre_of rv;obtain⟨zs,hz⟩:=hi.allInts.items;have hl:s.heap.IsList a (intItems zs):=hz ▸ pl.isList;refine sum_intListG (I.ok.hd hc) hl fun h' tk t' hk=>?_;have e1:ns=zs.toList.map (·.1):=by
  rw [<- nums_intItems, <- hz];exact(show numsOf its.toArray.toList=ns from hi.numsOf).symm
 have e2:preSum (numAt zs) zs.size=ns.sum:=by
  rw [preSum_eq,g02 (by simp),e1]
 rw [e2];exact⟨.int ns.sum,H,I.kept hk,⟨_,rfl⟩,q _ F H (.refl fh) (rep_int.mpr rfl)⟩
theorem q6v:∀ {bs:List Bool} {us:List Value},Vals (bs.map V.bl) us->us=bs.map Value.bool
 | [],us,h=>by cases h;rfl
 | b :: bs,us,h=>by
  rw [gf] at h;cases h with
  | cons r t=>
   cases(show _=Value.bool b from r);rw [q6v t];rfl
theorem qtx(hc:X.calm=true): jy X (.builtin "all") (rC X.K qbz):=by
 intro pins s σ H xs us Q I r h;obtain⟨F,ds,d,fh,rl,ho,q⟩:=h;obtain⟨es,rfl,h1⟩:=q9s ho;obtain⟨bs,h2,h3⟩:=gv.mp h1;subst h3;cases q5o h2;obtain⟨x,rfl,rx⟩:=rep1 rl;obtain⟨u,rfl,ru⟩:=r.one;obtain⟨a,ys,rfl,k1,k2⟩:=rep_lst.mp rx;cases ru;cases k2.bools;obtain⟨its,rv,pl,_⟩:=I.list (fh.seq k1);cases q6v rv;have hlt:a<s.heap.objs.size:=by obtain⟨_,e,_⟩:=pl.isList;exact m4 e
 refine call_all_walk (g20 pl.isList ?_);refine⟨s.heap.objs.size,[s.heap.objs.size,a],[s.heap.objs.size],(bs.map Value.bool).toArray.size,_,_,fun i=>(bs[i]?).getD true,rfl,Walks.list (A:=X.A.in1) (I.ok.hd hc) _ a (md hlt) (bs.map Value.bool).toArray,
  ⟨⟨_,gr _ rfl,rfl,rfl⟩,pl.isList.push _⟩,fun i v s' Q' E' hP hQ=>?_,fun h' tk hk=>?_⟩
 ·have hP':(bs.map Value.bool)[i]? = some v:=by simpa using hP
  rw [mj] at hP';cases z:bs[i]? with
  | none=>rw [z] at hP';cases hP'
  | some b=>
   rw [z] at hP';cases hP';simp only [z,Option.getD_some] at hQ;exact g0p hQ
 ·have e:((List.range (bs.map Value.bool).toArray.size).all fun i=>(bs[i]?).getD true)=bs.all id:=by
   rw [gm,gh];exact LSm.range_all bs
  rw [e];exact⟨.bl _,H,I.kept (LSm.kept_iter hk),rfl,q _ F H (.refl fh) (rep_bl.mpr rfl)⟩
theorem qty(hc:X.calm=true): jy X (.builtin "any") (rC X.K qix):=by
 intro pins s σ H xs us Q I r h;obtain⟨F,ds,d,fh,rl,ho,q⟩:=h;obtain⟨es,rfl,h1⟩:=q9s ho;obtain⟨bs,h2,h3⟩:=gv.mp h1;subst h3;cases q5o h2;obtain⟨x,rfl,rx⟩:=rep1 rl;obtain⟨u,rfl,ru⟩:=r.one;obtain⟨a,ys,rfl,k1,k2⟩:=rep_lst.mp rx;cases ru;cases k2.bools;obtain⟨its,rv,pl,_⟩:=I.list (fh.seq k1);cases q6v rv;have hlt:a<s.heap.objs.size:=by obtain⟨_,e,_⟩:=pl.isList;exact m4 e
 refine call_any_walk (g20 pl.isList ?_);refine⟨s.heap.objs.size,[s.heap.objs.size,a],[s.heap.objs.size],(bs.map Value.bool).toArray.size,_,_,fun i=>(bs[i]?).getD false,rfl,Walks.list (A:=X.A.in1) (I.ok.hd hc) _ a (md hlt) (bs.map Value.bool).toArray,
  ⟨⟨_,gr _ rfl,rfl,rfl⟩,pl.isList.push _⟩,fun i v s' Q' E' hP hQ=>?_,fun h' tk hk=>?_⟩
 ·have hP':(bs.map Value.bool)[i]? = some v:=by simpa using hP
  rw [mj] at hP';cases z:bs[i]? with
  | none=>rw [z] at hP';cases hP'
  | some b=>
   rw [z] at hP';cases hP';simp only [z,Option.getD_some] at hQ;exact g0p hQ
 ·have e:((List.range (bs.map Value.bool).toArray.size).any fun i=>(bs[i]?).getD false)=bs.any id:=by
   rw [gm,gh];exact LSm.range_any bs
  rw [e];exact⟨.bl _,H,I.kept (LSm.kept_iter hk),rfl,q _ F H (.refl fh) (rep_bl.mpr rfl)⟩
theorem boot_sum:bootBuiltins "sum" = some (.builtin "sum"):=by decide +kernel
theorem boot_all:bootBuiltins "all" = some (.builtin "all"):=by decide +kernel
theorem boot_any:bootBuiltins "any" = some (.builtin "any"):=by decide +kernel
theorem boot_max:bootBuiltins "max" = some (.builtin "max"):=by decide +kernel
theorem j7:bootBuiltins "len" = some (.builtin "len"):=by decide +kernel
theorem boot_tuple:bootBuiltins "tuple" = some (.type "tuple"):=by decide +kernel
theorem boot_list:bootBuiltins "list" = some (.type "list"):=by decide +kernel
theorem boot_int:bootBuiltins "int" = some (.type "int"):=by decide +kernel
theorem boot_bool:bootBuiltins "bool" = some (.type "bool"):=by decide +kernel
theorem boot_dict:bootBuiltins "dict" = some (.type "dict"):=by decide +kernel
def o2I(z:Int->Int->Int): List D->Option D
 | [.int i,.int j]=>some (.int (z i j))
 | _=>none
theorem qo9{z:Int->Int->Int}{es:List D}{d:D}(h:o2I z es=some d): ∃i j,es=[.int i,.int j]/\d=.int (z i j):=by
 unfold o2I at h
 split at h
 ·cases h;exact⟨_,_,rfl,rfl⟩
 ·cases h
theorem qw4{K:Frag}{F:Hp}{i j:Int}{xs:List V}(h:RepL K F [.int i,.int j] xs): xs=[.int i,.int j]:=RepL.ints (ns:=[i,j]).mp h
abbrev oMax:=o2I fun i j=>if j>i then j else i
theorem qtz(hc:X.calm=true): jy X (.builtin "max") (rC X.K oMax):=q54 (ql2 hc) fun xs H Q ⟨F,ds,d,fh,rl,ho,q⟩=>by
 obtain⟨i,j,rfl,rfl⟩:=qo9 ho;exact⟨i,j,qw4 rl,q _ F H (.refl fh) (rep_int.mpr rfl)⟩
def xi:List D->Option D
 | [.tup ds]=>some (.int ds.length)
 | [.lst ds]=>some (.int ds.length)
 | [.str x]=>if x.length<=lim then some (.int x.length) else none
 | _=>none
theorem xj:jy X (.builtin "len") (rC X.K xi):=q54 qnn fun xs H Q ⟨F,ds,d,fh,rl,ho,q⟩=>by
 unfold xi at ho
 split at ho
 ·cases ho
  obtain⟨x,rfl,rx⟩:=rep1 rl;obtain⟨a,ys,rfl,k1,k2⟩:=rep_tup.mp rx;exact⟨_,ys.length,rfl,.inr ⟨ys,qq fh k1,rfl⟩,by rw [<- k2.length];exact q _ F H (.refl fh) (rep_int.mpr rfl)⟩
 ·cases ho
  obtain⟨x,rfl,rx⟩:=rep1 rl;obtain⟨a,ys,rfl,k1,k2⟩:=rep_lst.mp rx;exact⟨_,ys.length,rfl,.inl ⟨ys,fh.seq k1,rfl⟩,by rw [<- k2.length];exact q _ F H (.refl fh) (rep_int.mpr rfl)⟩
 ·split at ho
  ·rename_i z
   cases ho;obtain⟨x,rfl,rx⟩:=rep1 rl;cases rep_str.mp rx;exact⟨_,_,rfl,⟨jo z,rfl⟩,q _ F H (.refl fh) (rep_int.mpr rfl)⟩
  ·cases ho
 ·cases ho
def ku:List D->Option D
 | [.tup ds]=>some (.tup ds)
 | [.lst ds]=>some (.tup ds)
 | _=>none
theorem wu:jy X (.type "tuple") (rC X.K ku):=q54 qdj fun xs H Q ⟨F,ds,d,fh,rl,ho,q⟩=>by
 unfold ku at ho
 split at ho
 ·cases ho
  obtain⟨x,rfl,rx⟩:=rep1 rl;obtain⟨a,ys,rfl,k1,k2⟩:=rep_tup.mp rx;exact⟨a,ys,rfl,.inr ⟨qq fh k1,q _ F H (.refl fh) rx⟩⟩
 ·cases ho
  obtain⟨x,rfl,rx⟩:=rep1 rl;obtain⟨a,ys,rfl,k1,k2⟩:=rep_lst.mp rx;refine⟨a,ys,rfl,.inl ⟨fh.seq k1,fun l hl=>?_⟩⟩;have gn:Grow F H (upd F l (.tup ys)) (upd H l (.tup ys)):=Grow.new fh hl;exact q _ _ _ gn (rep_tup.mpr ⟨l,ys,rfl,SqT.of zg,k2.mono gn.ff⟩)
 ·cases ho
def qiy:List D->Option D
 | [.int i]=>some (.int i)
 | [.bl b]=>some (.int (if b then 1 else 0))
 | _=>none
theorem qu0:jy X (.type "int") (rC X.K qiy):=q54 ql3 fun xs H Q ⟨F,ds,d,fh,rl,ho,q⟩=>by
 unfold qiy at ho
 split at ho
 ·cases ho
  obtain⟨x,rfl,rx⟩:=rep1 rl;exact .inl ⟨_,by rw [rep_int.mp rx],q _ F H (.refl fh) (rep_int.mpr rfl)⟩
 ·cases ho
  obtain⟨x,rfl,rx⟩:=rep1 rl;exact .inr ⟨_,by rw [rep_bl.mp rx],q _ F H (.refl fh) (rep_int.mpr rfl)⟩
 ·cases ho
def rCL(K:Frag)(op:List D->Option (List D)): List V->Hp->VK->Prop:=fun xs H Q=>∃F ds es,Same F H/\RepL K F ds xs/\op ds=some es/\∀a ys F' H',Grow F H F' H'->F' a=none->H a=none->H' a=some (.lst ys)->RepL K F' es ys->Q (.ref a) H'
def qdx(op:List D->Option (List D))(fa:FA): FA:=fun ρ =>(fa ρ).bind op
theorem qr8{K:Frag}{op:List D->Option (List D)}{σ : St}{H:Hp}{Q:VK}(h:tL K (qdx op fa) σ H Q): tDA K fa σ H fun vs H1=>rCL K op vs H1 Q:=by
 obtain⟨F0,H0,F, ρ,d,r,hf,q⟩:=h;obtain⟨ds,h1,h2⟩:=gb.mp hf;exact⟨F0,H0,F, ρ,ds,r,h1,fun vs F1 H1 g1 r1=>⟨F1,ds,d,g1.fh,r1,h2,fun a ys F2 H2 g2 k1 k2 k3 k4=>q a ys F2 H2 (g1.trans g2) k1 (g1.hh.free k2) k3 k4⟩⟩
theorem qoa{x:Str}{p:Pos}{id:String}{op:List D->Option (List D)}(hc:jy X (.builtin id) (rCL X.K op))(hg:Gl X x)(hm:X.mg x=none)(hv:bootBuiltins x=some (.builtin id))(ha:PA X (e :: es) (tDA X.K fa))
  (hn:x≠"__name__" :=by decide) (hdb:(x==("__debug__" : Str))=false:=by decide)
  (he:starEach (e :: es) X.env=(false,eval e X.env) :: starEach es X.env:=by rfl) (hpl:(backTo pos (starEach es X.env)).any (·.1)=false:=by rfl):PE X (.Call (.Name x p) (e :: es) [] pos) (tL X.K (qdx op fa)):=
 ju (q6p hc hg hm hv ha hn hdb he hpl) fun σ H Q h=>qr8 h
def qqa:List D->Option (List D)
 | [.tup ds]=>some ds
 | [.lst ds]=>some ds
 | _=>none
theorem qi0{K:Frag}{H:Hp}{ds:List D}{xs:List V}{i:Int}{d:D}(h:RepL K H ds xs)(e:atI ds i=some d): ∃x,atI xs i=some x/\Rep K H d x:=by
 unfold atI at e ⊢;rw [<- h.length];cases q:ixN ds.length i with
 | none=>rw [q] at e;cases e
 | some j=>
  rw [q] at e;exact h.get e
def oIx:D->D->Option D
 | .tup ds,.int i=>atI ds i
 | .lst ds,.int i=>atI ds i
 | _,_=>none
theorem zi{a b:Expr}(ha:PE X a (tD X.K f))(hb:PE X b (tD X.K g))(hs:qbv b:=by intro _ _;rfl): PE X (.Subscript a b pos) (tD X.K (eOp oIx f g)):=ju (qq6 qth ha hb hs) fun σ H Q h=>by
 have h':=two h;obtain⟨F0,H0,F, ρ,d,r,hf,q⟩:=h';refine⟨F0,H0,F, ρ,d,r,hf,fun v F1 H1 g1 r1=>?_⟩;obtain⟨F0',H0',F', ρ',d',r',hf',q'⟩:=q v F1 H1 g1 r1;refine⟨F0',H0',F', ρ',d',r',hf',fun v2 F2 H2 g2 r2=>?_⟩;obtain⟨F3,d1,d2,d3,fh,k1,k2,k3,k4⟩:=q' v2 F2 H2 g2 r2;unfold oIx at k3
 split at k3
 ·obtain⟨p,ys,rfl,z1,z2⟩:=rep_tup.mp k1
  obtain⟨y,z3,z4⟩:=qi0 z2 k3;exact .inr (.inl ⟨p,ys,_,y,rfl,rep_int.mp k2,qq fh z1,z3,k4 y F3 H2 (.refl fh) z4⟩)
 ·obtain⟨p,ys,rfl,z1,z2⟩:=rep_lst.mp k1
  obtain⟨y,z3,z4⟩:=qi0 z2 k3;exact .inl ⟨p,ys,_,y,rfl,rep_int.mp k2,fh.seq z1,z3,k4 y F3 H2 (.refl fh) z4⟩
 ·cases k3
def eUn(o:D->Option D)(f:FE): FE:=fun ρ =>(f ρ).bind o
end
section
variable{prog:Program}{w:World}{A:Around}{E:Value->Shared->Prop}{s:Shared}
theorem qdk{t sl:Addr}{items:Array Value}{vl vu:Value}{lo hi:Option Int}{Q:Value->Shared->Prop}(ht:IsTup s.heap t items)(hs:s.heap.IsSliceOf sl vl vu .none)
  (pl:IsPart vl lo) (pu:IsPart vu hi) (w1:HT.sIx items.size 0 lo=0) (w2:HT.sIx items.size items.size hi=items.size) (h:Q (.ref t) s) :
  wpAny (model prog w) A (getItem (.ref t) (.ref sl)) Q E s:=by
 obtain⟨os,hos,hcs,hds⟩:=id hs;have hTs:s.TypeIs (.ref sl) "slice" :=⟨os,hos,hcs⟩
 unfold getItem
 try with_reducible refine nt ?_
 first|refine g0 (g9 ?_)|skip
 refine g0 (wpAny_sequenceKey ht.typeIs (by decide) (g0 (pf (name:=Str.ofString "__getitem__") ht.typeIs tu
  (ng tu ht.typeIs entry_tuple_getitem ?_ (args_tuple_getitem _ _)))))
 show wpAny _ _ (Builtin.Tuple.tupleItemsOf (.ref t) >>= _) _ _ s;refine g0 (tupleItemsOf_ ht (g0 (g12 hTs ?_)));rw [m8 (by decide)];refine g0 (HT.sliceApplied_gen hs pl pu ?_);rw [w1,w2];show wpAny _ _ (if(((0:Nat):Int)==0&&(1:Int)==1&&(items.size-0)==items.size)=true then _ else _) _ _ s;rw [m8 (by simp)];refine g0 ?_;unfold Builtin.Tuple.tupleIsExact;refine g0 (g12 ht.typeIs (g9 ?_))
 first
  | rw [m8 (by decide)]
  | skip
 first
  | exact g0 (g04 (g0 (g9 (g9 ⟨_,rfl,g9 h⟩))))
  | exact g0 (g04 (g9 ⟨_,rfl,g9 h⟩))
  | exact g0 (g0 (g04 (g9 (g9 ⟨_,rfl,g9 h⟩))))
end
section
variable{X:Cx}{e:Expr}{es:List Expr}{pos:Pos}{f g:FE}{fa:FA}
def qxb(K:Frag): V->Option Int->Option Int->Hp->VK->Prop:=fun x lo hi H Q=>∃a xs,x=.ref a/\SqT K H a xs/\HT.sIx xs.length 0 lo=0/\HT.sIx xs.length xs.length hi=xs.length/\Q (.ref a) H
theorem qob:SlR X (qxb X.K):=by
 intro pins s σ H x v vl vu lo hi sl Q I rx hs pl pu h;obtain⟨a,xs,rfl,hx,w1,w2,q⟩:=h;cases rx;obtain⟨its,r,ht,hz⟩:=I.tuple hx;have hlen:its.toArray.size=xs.length:=by rw [gm];exact r.length.symm
 exact⟨"tuple",_,tu.lookup,ht.typeIs,qdk ht hs pl pu (by rw [hlen];exact w1) (by rw [hlen];exact w2) ⟨.ref a,H,I,rfl,q⟩⟩
def cutD(ds:List D)(lo hi:Option Int): List D:=(ds.drop (HT.sIx ds.length 0 lo)).take (HT.sIx ds.length ds.length hi-HT.sIx ds.length 0 lo)
def oSl:D->Option Int->Option Int->Option D
 | .tup ds,lo,hi=>some (.tup (cutD ds lo hi))
 | .lst ds,lo,hi=>some (.lst (cutD ds lo hi))
 | _,_,_=>none
abbrev FO:=Rho->Option (Option Int)
def oNo:FO:=fun _=>some none
def oAt(f:FE): FO:=fun ρ =>(f ρ).bind fun d=>match d with
 | .int i=>some (some i)
 | _=>none
def tDO(K:Frag)(f:FO): TO:=fun σ H Q=>∃F0 H0 F ρ i,RS K F0 H0 F H σ ρ /\ f ρ = some i/\∀F' H',Grow F H F' H'->Q i H'
theorem qlm{o:Option Expr}{t t':TO}(h:PO X o t)(i:∀ σ H Q,t' σ H Q->t σ H Q): PO X o t':=fun pins s σ H Q I q=>h pins s σ H Q I (i σ H Q q)
theorem q6w:PO X none (tDO X.K oNo):=qlm qqw fun σ H Q ⟨F0,H0,F, ρ,i,r,hf,q⟩=>by cases hf;exact q F H (.refl r.fh)
theorem q2d(h:PE X e (tD X.K f)): PO X (some e) (tDO X.K (oAt f)):=qlm (qqx h) fun σ H Q ⟨F0,H0,F, ρ,i,r,hf,q⟩=>by
 obtain⟨d,h1,h2⟩:=gb.mp hf;cases d <;> simp only at h2 <;> first|(cases h2;done)|skip
 cases h2;exact⟨F0,H0,F, ρ,_,r,h1,fun v F' H' g' r'=>⟨_,rep_int.mp r',q F' H' g'⟩⟩
def eSl(f:FE)(lo hi:FO): FE:=fun ρ =>(f ρ).bind fun d=>(lo ρ).bind fun l=>(hi ρ).bind fun h=>oSl d l h
theorem q4g{a:Expr}{lo hi:Option Expr}{fl fh:FO}{p2:Pos}(ha:PE X a (tD X.K f))(hl:PO X lo (tDO X.K fl))(hh:PO X hi (tDO X.K fh)): PE X (.Subscript a (.Slice lo hi none p2) pos) (tD X.K (eSl f fl fh)):=
 ju (qnq (sl_list.or (sl_tup.or qob)) ha hl hh) fun σ H Q ⟨F0,H0,F, ρ,d,r,hf,q⟩=>by
  obtain⟨x,h1,hf⟩:=gb.mp hf;obtain⟨l,h2,hf⟩:=gb.mp hf;obtain⟨u,h3,h4⟩:=gb.mp hf;refine⟨F0,H0,F, ρ,x,r,h1,fun v F1 H1 g1 r1=>⟨F0,H0,F1, ρ,l,r.grow g1,h2,fun F2 H2 g2=>⟨F0,H0,F2, ρ,u,(r.grow g1).grow g2,h3,fun F3 H3 g3=>?_⟩⟩⟩;have gg:=g1.trans (g2.trans g3);have r3:Rep X.K F3 x v:=r1.mono (g2.ff.trans g3.ff);cases x with
  | tup ds=>
   cases h4;obtain⟨p,xs,rfl,k1,k2⟩:=rep_tup.mp r3;have hlen:=k2.length
   by_cases wh:HT.sIx xs.length 0 l=0/\HT.sIx xs.length xs.length u=xs.length
   ·refine .inr (.inr ⟨p,xs,rfl,qq g3.fh k1,wh.1,wh.2,q _ F3 H3 gg ?_⟩)
    have e:cutD ds l u=ds:=by
     unfold cutD;rw [hlen,wh.1,wh.2,g6b,Nat.sub_zero, <- hlen,List.take_length]
    rw [e];exact r3
   ·refine .inr (.inl ⟨p,xs,rfl,qq g3.fh k1,wh,fun p' hp=>?_⟩)
    have gn:Grow F3 H3 (upd F3 p' (.tup (q3l xs l u))) (upd H3 p' (.tup (q3l xs l u))):=Grow.new g3.fh hp;refine q _ _ _ (gg.trans gn) (rep_tup.mpr ⟨p',_,rfl,SqT.of zg,?_⟩);unfold cutD q3l;rw [hlen];exact((k2.mono gn.ff).drop _).take _
  | lst ds=>
   cases h4;obtain⟨p,xs,rfl,k1,k2⟩:=rep_lst.mp r3;have hlen:=k2.length;refine .inl ⟨p,xs,rfl,g3.fh.seq k1,fun p' hp=>?_⟩;have gn:Grow F3 H3 (upd F3 p' (.lst (q3l xs l u))) (upd H3 p' (.lst (q3l xs l u))):=Grow.new g3.fh hp;refine q _ _ _ (gg.trans gn) (rep_lst.mpr ⟨p',_,rfl,SqL.of zg,?_⟩);unfold cutD q3l;rw [hlen];exact((k2.mono gn.ff).drop _).take _
  | _=>cases h4
def q9t:D->D->Option D
 | .tup xs,.tup ys=>if xs.length+ys.length<=lim then some (.tup (xs++ys)) else none
 | .lst xs,.lst ys=>if xs.length+ys.length<=lim then some (.lst (xs++ys)) else none
 | _,_=>none
theorem qu1:OpR X (binaryOp .Add) (rD X.K q9t):=by
 intro pins s σ H x y v u Q I rx ry h;obtain⟨F,d1,d2,d,fh,r1,r2,ho,q⟩:=h;unfold q9t at ho
 split at ho
 ·rename_i ds es
  split at ho
  ·rename_i hl
   cases ho;obtain⟨a,xs,rfl,k1,k2⟩:=rep_tup.mp r1;obtain⟨b,ys,rfl,k3,k4⟩:=rep_tup.mp r2
   by_cases hd:ds=[]
   ·subst hd
    cases k2.nil_inv;cases rx;cases ry;obtain⟨i1,v1,⟨⟨c1,dd1,dt1,sl1⟩,o1,e1,n1,t1⟩,_⟩:=I.tuple (qq fh k1);obtain⟨i2,v2,⟨⟨c2,dd2,dt2,sl2⟩,o2,e2,n2,t2⟩,_⟩:=I.tuple (qq fh k3);simp only at e1 t1 e2 t2;subst e1 t1 e2 t2;cases v1;exact g5a ⟨_,o1,rfl⟩ ⟨_,o2,rfl⟩ g5b seq_tuple_add g3e g39 (g2t _ _)
     (tuple_addW0 a b #[] i2.toArray n1 n2 dd1 dd2 sl1 sl2 rfl) ⟨o1,o2,⟨.ref b,H,I,rfl,q _ F H (.refl fh) (by simpa using r2)⟩⟩
   ·refine qqy pins s σ H _ _ v u Q I rx ry ⟨a,b,xs,ys,rfl,rfl,qq fh k1,qq fh k3,fun z=>hd ?_,jo (by rw [<- k2.length, <- k4.length];exact hl),fun z=>?_,fun z p hp=>?_⟩
    ·have:=k2.length;rw [z] at this;exact g45 this
    ·have e:es=[]:=by have:=k4.length;rw [z] at this;exact g45 this
     subst e;rw [g1o] at q;exact q _ F H (.refl fh) r1
    ·have gn:Grow F H (upd F p (.tup (xs++ys))) (upd H p (.tup (xs++ys))):=Grow.new fh hp
     exact q _ _ _ gn (rep_tup.mpr ⟨p,_,rfl,SqT.of zg,(k2.mono gn.ff).append (k4.mono gn.ff)⟩)
  ·cases ho
 ·rename_i ds es
  split at ho
  ·rename_i hl
   cases ho;obtain⟨a,xs,rfl,k1,k2⟩:=rep_lst.mp r1;obtain⟨b,ys,rfl,k3,k4⟩:=rep_lst.mp r2;cases rx;cases ry;obtain⟨i1,v1,⟨⟨c1,dd1,dt1,sl1⟩,n1,o1,e1,g1,t1⟩,_⟩:=I.list (fh.seq k1);obtain⟨i2,v2,⟨⟨c2,dd2,dt2,sl2⟩,n2,o2,e2,g2,t2⟩,_⟩:=I.list (fh.seq k3);simp only at e1 t1 e2 t2;subst e1 t1 e2 t2;have hz:xs.length+ys.length<=sizeLine:=jo (by rw [<- k2.length, <- k4.length];exact hl);refine g5a ⟨_,o1,rfl⟩ ⟨_,o2,rfl⟩ noFill_list_add seq_list_add PySem.F.slot_list_add PySem.F.entry_list_add (PySem.F.args_list_add_2 _ _)
    (list_addW a b i1.toArray i2.toArray n1 n2 dd1 dd2 sl1 sl2 (by rw [gm,gm, <- v1.length, <- v2.length];exact hz)) ⟨o1,o2,?_⟩
   have ea:i1.toArray++i2.toArray=(i1++i2).toArray:=by simp
   rw [ea];have gn:Grow F H (upd F s.heap.objs.size (.lst (xs++ys))) (upd H s.heap.objs.size (.lst (xs++ys))):=Grow.new fh I.fresh;exact⟨.ref _,_,I.lnew (t':=s.toks) (v1.append v2) (by rw [mw];exact hz),rfl,q _ _ _ gn (rep_lst.mpr ⟨_,_,rfl,SqL.of zg,(k2.mono gn.ff).append (k4.mono gn.ff)⟩)⟩
  ·cases ho
 ·cases ho
abbrev zp:D->D->Option D:=fun x y=>(oAdd x y).or (q9t x y)
theorem j6:OpR X (binaryOp .Add) (rD X.K zp):=qaq qtn qu1
def flat(d:D): Bool:=(flD d).isSome
def eqF:D->D->Bool
 | .non,.non=>true
 | .bl a,.bl b=>a==b
 | .bl a,.int b=>(if a then 1 else 0)==b
 | .int a,.bl b=>a==(if b then 1 else 0)
 | .int a,.int b=>a==b
 | .str a,.str b=>a==b
 | _,_=>false
def inF(d:D)(ds:List D): Bool:=ds.any fun e=>eqF e d
theorem qdy{K:Frag}{H:Hp}{d e:D}{x y:V}(h1:flat d=true)(h2:flat e=true)(r1:Rep K H d x)(r2:Rep K H e y): eqV x y=eqF d e/\q11 x=true/\q11 y=true:=by
 cases d <;> first|(cases h1;done)|skip
 all_goals (cases e <;> first|(cases h2;done)|skip)
 all_goals (first|(cases rep_non.mp r1)|(cases rep_bl.mp r1)|(cases rep_int.mp r1)|(cases rep_str.mp r1))
 all_goals (first|(cases rep_non.mp r2)|(cases rep_bl.mp r2)|(cases rep_int.mp r2)|(cases rep_str.mp r2))
 all_goals exact⟨rfl,rfl,rfl⟩
theorem qiz{K:Frag}{H:Hp}{d:D}{x:V}(h1:flat d=true)(r1:Rep K H d x): ∀ {ds:List D} {xs:List V},ds.all flat=true->RepL K H ds xs->inV x xs=inF d ds/\q11 x=true/\xs.all q11=true
 | [],xs,_,r=>by cases r.nil_inv;exact⟨rfl,(qdy h1 h1 r1 r1).2.1,rfl⟩
 | e :: ds,xs,h2,r=>by
  obtain⟨y,ys,rfl,k1,k2⟩:=r.cons_inv;rw [g3h,mf] at h2;obtain⟨z1,z2,z3⟩:=qiz h1 r1 h2.2 k2;obtain⟨w1,w2,w3⟩:=qdy h2.1 h1 k1 r1;refine⟨?_,z2,?_⟩
  ·show(eqV y x || inV x ys)=(eqF e d || inF d ds)
   rw [w1,z1]
  ·rw [g3h,w2,z3];rfl
def oIn(neg:Bool): D->D->Option D
 | d,.tup ds=>if flat d&&ds.all flat then some (.bl (if neg then !inF d ds else inF d ds)) else none
 | d,.lst ds=>if flat d&&ds.all flat then some (.bl (if neg then !inF d ds else inF d ds)) else none
 | _,_=>none
theorem qqb{K:Frag}{neg:Bool}{x y:V}{H:Hp}{Q:VK}(h:rD K (oIn neg) x y H Q): rIn K neg x y H Q:=by
 obtain⟨F,d1,d2,d,fh,r1,r2,ho,q⟩:=h;cases d2 <;> simp only [oIn] at ho <;> first|(cases ho;done)|skip
 ·split at ho
  ·rename_i hc
   cases ho;rw [mf] at hc;obtain⟨p,xs,rfl,k1,k2⟩:=rep_tup.mp r2;obtain⟨z1,z2,z3⟩:=qiz hc.1 r1 hc.2 k2;exact⟨p,xs,rfl,.inr (qq fh k1),z2,z3,by rw [z1];exact q _ F H (.refl fh) (rep_bl.mpr rfl)⟩
  ·cases ho
 ·split at ho
  ·rename_i hc
   cases ho;rw [mf] at hc;obtain⟨p,xs,rfl,k1,k2⟩:=rep_lst.mp r2;obtain⟨z1,z2,z3⟩:=qiz hc.1 r1 hc.2 k2;exact⟨p,xs,rfl,.inl (fh.seq k1),z2,z3,by rw [z1];exact q _ F H (.refl fh) (rep_bl.mpr rfl)⟩
  ·cases ho
theorem qw5:OpR X (compareOp .In) (rD X.K (oIn false)):=q2b ql9 fun x y H Q h=>qqb h
theorem qoc:OpR X (compareOp .NotIn) (rD X.K (oIn true)):=q2b qed fun x y H Q h=>qqb h
end
mutual
def eqD:D->D->Bool
 | .tup ds,.tup es=>eqL ds es
 | .lst ds,.lst es=>eqL ds es
 | d,e=>eqF d e
def eqL:List D->List D->Bool
 | [],[]=>true
 | d :: ds,e :: es=>eqD d e&&eqL ds es
 | _,_=>false
end
mutual
def okE:D->D->Bool
 | .tup ds,.tup es=>vt ds es
 | .lst ds,.lst es=>vt ds es
 | d,e=>flat d&&flat e
def vt:List D->List D->Bool
 | d :: ds,e :: es=>okE d e&&vt ds es
 | _,_=>true
end
mutual
def q19:D->Nat
 | .tup ds=>y9 ds+1
 | .lst ds=>y9 ds+1
 | _=>0
def y9:List D->Nat
 | []=>0
 | d :: ds=>max (q19 d) (y9 ds)
end
def eqJ(ds es:List D)(j:Nat): Bool:=match ds[j]?,es[j]? with
 | some d,some e=>eqD d e
 | _,_=>true
theorem k7:∀(ds es:List D),((List.range (min ds.length es.length)).all (eqJ ds es)&&ds.length==es.length)=eqL ds es
 | [],[]=>by simp [eqL]
 | [],e :: es=>by simp [eqL]
 | d :: ds,[]=>by simp [eqL]
 | d :: ds,e :: es=>by
  have ih:=k7 ds es;have e1:min (d :: ds).length (e :: es).length=min ds.length es.length+1:=by simp only [n8];lia
  rw [e1,g1x,g3h,g6k];have e2:(eqJ (d :: ds) (e :: es) ∘ Nat.succ)=eqJ ds es:=by funext j;simp [eqJ]
  have e3:eqJ (d :: ds) (e :: es) 0=eqD d e:=by simp [eqJ]
  have e4:((d :: ds).length==(e :: es).length)=(ds.length==es.length):=by simp
  rw [e2,e3,e4,Bool.and_assoc,ih];simp only [eqL]
theorem qej{d e:D}(h1:flat d=true)(h2:flat e=true): eqD d e=eqF d e:=by
 cases d <;> first|(cases h1;done)|skip
 all_goals (cases e <;> first|(cases h2;done)|skip)
 all_goals simp only [eqD]
section
variable{X:Cx}{pins:List (Addr×Obj)}{σ : St}{F H:Hp}{s:Shared}
theorem qln{A:Around}{d e:D}{x y:V}{u v:Value}(h1:flat d=true)(h2:flat e=true)(r1:Rep X.K F d x)(r2:Rep X.K F e y)(q1:RelV x u)(q2:RelV y v): SeqAt.EqAt A s u v (eqD d e):=by
 obtain⟨z1,z2,z3⟩:=qdy h1 h2 r1 r2;rw [qej h1 h2, <- z1];exact ql7 q1 q2 z2 z3
theorem qek{d e:D}(h:okE d e=true): (∃ds es,d=.tup ds/\e=.tup es/\vt ds es=true)\/(∃ds es,d=.lst ds/\e=.lst es/\vt ds es=true)\/(flat d=true/\flat e=true):=by
 cases d <;> cases e <;> simp only [okE,mf] at h <;> first
  | exact .inl ⟨_,_,rfl,rfl,h⟩
  | exact .inr (.inl ⟨_,_,rfl,rfl,h⟩)
  | exact .inr (.inr h)
theorem qi1(I:Inv X pins σ H s)(fh:Same F H): ∀ {d e:D} {x:V},okE d e=true->Rep X.K F d x->Rep X.K F e x->eqD d e=true:=by
 suffices hh:∀n,(∀d e x,sizeOf d<n->okE d e=true->Rep X.K F d x->Rep X.K F e x->eqD d e=true) from fun {d e x}=>hh (sizeOf d+1) d e x (ph _)
 intro n
 induction n with
 | zero=>intro d e x h;exact absurd h (nv _)
 | succ n ih=>
  intro d e x hn ok r1 r2;have seq:∀(ds es:List D) (xs:List V),sizeOf ds<n->vt ds es=true->RepL X.K F ds xs->RepL X.K F es xs->eqL ds es=true:=by
   intro ds
   induction ds with
   | nil=>
    intro es xs _ _ k1 k2;cases k1.nil_inv;cases es with
    | nil=>simp only [eqL]
    | cons e es=>obtain⟨_,_,z,_⟩:=k2.cons_inv;cases z
   | cons d ds ihd=>
    intro es xs hs ho k1 k2;obtain⟨x,r,rfl,a1,a2⟩:=k1.cons_inv;cases es with
    | nil=>cases k2.nil_inv
    | cons e es=>
     obtain⟨x',r',z,b1,b2⟩:=k2.cons_inv;cases z;simp only [vt,mf] at ho;have hs1:sizeOf d<n:=by simp only [g25] at hs;lia
     have hs2:sizeOf ds<n:=by simp only [g25] at hs;lia
     simp only [eqL,mf];exact⟨ih d e x hs1 ho.1 a1 b1,ihd es r hs2 ho.2 a2 b2⟩
  rcases qek ok with⟨ds,es,rfl,rfl,ho⟩|⟨ds,es,rfl,rfl,ho⟩|⟨h1,h2⟩
  ·obtain⟨a,xs,rfl,k1,k2⟩:=rep_tup.mp r1
   obtain⟨b,ys,z,k3,k4⟩:=rep_tup.mp r2;cases z;cases I.tuple_inj (qq fh k1) (qq fh k3);simp only [eqD];exact seq ds es xs (by simp only [D.tup.sizeOf_spec] at hn;lia) ho k2 k4
  ·obtain⟨a,xs,rfl,k1,k2⟩:=rep_lst.mp r1
   obtain⟨b,ys,z,k3,k4⟩:=rep_lst.mp r2;cases z;cases I.list_inj (fh.seq k1) (fh.seq k3);simp only [eqD];exact seq ds es xs (by simp only [D.lst.sizeOf_spec] at hn;lia) ho k2 k4
  ·obtain⟨z1,_⟩:=qdy h1 h2 r1 r2
   rw [qej h1 h2, <- z1];cases d <;> first|(cases h1;done)|skip
   ·cases rep_non.mp r1;rfl
   ·cases rep_bl.mp r1;simp [eqV]
   ·cases rep_int.mp r1;simp [eqV]
   ·cases rep_str.mp r1;simp [eqV]
theorem qaz (I:Inv X pins σ H s) (fh:Same F H):∀ {d e:D} {x y:V} {u v:Value} (A:Around),okE d e=true->A.units+q19 d<cLine->Rep X.K F d x->Rep X.K F e y->RelV x u->RelV y v->SeqAt.EqAt A s u v (eqD d e):=by
 suffices hh:∀n,(∀d e x y u v (A:Around),sizeOf d<n->okE d e=true->A.units+q19 d<cLine->Rep X.K F d x->Rep X.K F e y->RelV x u->RelV y v->SeqAt.EqAt A s u v (eqD d e)) from
  fun {d e x y u v} A=>hh (sizeOf d+1) d e x y u v A (ph _)
 intro n
 induction n with
 | zero=>intro d e x y u v A h;exact absurd h (nv _)
 | succ n ih=>
  intro d e x y u v A hn ok hu r1 r2 q1 q2;have seq:∀(ds es:List D) (xs ys:List V) (us vs:List Value) (A:Around),sizeOf ds<n->vt ds es=true->A.units+y9 ds<cLine->RepL X.K F ds xs->RepL X.K F es ys->Vals xs us->Vals ys vs ->
    ∀j (h1:j<us.length) (h2:j<vs.length),SeqAt.EqAt A s us[j] vs[j] (eqJ ds es j):=by
   intro ds
   induction ds with
   | nil=>
    intro es xs ys us vs A _ _ _ k1 _ w1 _ j h1;cases k1.nil_inv;cases w1;exact absurd h1 (nv _)
   | cons d ds ihd=>
    intro es xs ys us vs A hs ho hu k1 k2 w1 w2 j h1 h2;obtain⟨x,r,rfl,a1,a2⟩:=k1.cons_inv;cases w1 with
    | cons p1 p2=>
     cases es with
     | nil=>cases k2.nil_inv;cases w2;exact absurd h2 (nv _)
     | cons e es=>
      obtain⟨y,r',rfl,b1,b2⟩:=k2.cons_inv;cases w2 with
      | cons p3 p4=>
       simp only [vt,mf] at ho;have hs1:sizeOf d<n:=by simp only [g25] at hs;lia
       have hs2:sizeOf ds<n:=by simp only [g25] at hs;lia
       simp only [y9] at hu;cases j with
       | zero=>
        have e0:eqJ (d :: ds) (e :: es) 0=eqD d e:=by simp [eqJ]
        rw [e0];exact ih d e x y _ _ A hs1 ho.1 (by lia) a1 b1 p1 p3
       | succ j=>
        have e0:eqJ (d :: ds) (e :: es) (j+1)=eqJ ds es j:=by simp [eqJ]
        rw [e0];exact ihd es r r' _ _ A hs2 ho.2 (by lia) a2 b2 p2 p4 j (by simpa using h1) (by simpa using h2)
  rcases qek ok with⟨ds,es,rfl,rfl,ho⟩|⟨ds,es,rfl,rfl,ho⟩|⟨h1,h2⟩
  ·have rr:=qi1 I fh ok r1
   obtain⟨a,xs,rfl,k1,k2⟩:=rep_tup.mp r1;obtain⟨b,ys,rfl,k3,k4⟩:=rep_tup.mp r2;cases q1;cases q2
   by_cases hab:a=b
   ·subst hab
    rw [rr r2];exact g5v _
   ·obtain⟨i1,v1,t1,_⟩:=I.tuple (qq fh k1)
    obtain⟨i2,v2,t2,_⟩:=I.tuple (qq fh k3);simp only [q19] at hu;refine SeqAt.EqAt.of_refs hab ?_;have hq:=seq ds es xs ys i1 i2 A.in1 (by simp only [D.tup.sizeOf_spec] at hn;lia) ho (by show A.units+1+y9 ds<cLine;lia) k2 k4 v1 v2;have:=SeqAt.RcAt.tuples (A:=A) (e:=eqJ ds es) (show s.heap.IsTuple a i1.toArray from t1) (show s.heap.IsTuple b i2.toArray from t2) (by lia) (fun j h1 h2=>by simpa using hq j (by simpa using h1) (by simpa using h2));simp only [gm, <- v1.length, <- v2.length, <- k2.length, <- k4.length,k7] at this
    simpa only [eqD] using this
  ·have rr:=qi1 I fh ok r1
   obtain⟨a,xs,rfl,k1,k2⟩:=rep_lst.mp r1;obtain⟨b,ys,rfl,k3,k4⟩:=rep_lst.mp r2;cases q1;cases q2
   by_cases hab:a=b
   ·subst hab
    rw [rr r2];exact g5v _
   ·obtain⟨i1,v1,t1,_⟩:=I.list (fh.seq k1)
    obtain⟨i2,v2,t2,_⟩:=I.list (fh.seq k3);simp only [q19] at hu;refine SeqAt.EqAt.of_refs hab ?_;have hq:=seq ds es xs ys i1 i2 A.in1 (by simp only [D.lst.sizeOf_spec] at hn;lia) ho (by show A.units+1+y9 ds<cLine;lia) k2 k4 v1 v2;have hl1:i1.length=ds.length:=by rw [<- v1.length, <- k2.length]
    have hl2:i2.length=es.length:=by rw [<- v2.length, <- k4.length]
    simp only [eqD]
    by_cases hl:ds.length=es.length
    ·have:=SeqAt.RcAt.lists (A:=A) (e:=eqJ ds es) t1.isList t2.isList (by rw [gm,gm,hl1,hl2];exact hl) (by lia) (fun j h1 h2=>by simpa using hq j (by simpa using h1) (by simpa using h2))
     have e1:(List.range i1.toArray.size).all (eqJ ds es)=eqL ds es:=by
      rw [<- k7,gm,hl1, <- hl,Nat.min_self];simp
     rw [e1] at this;exact this
    ·have e1:eqL ds es=false:=by rw [<- k7];simp [hl]
     rw [e1];exact SeqAt.RcAt.lists_lengths t1.isList t2.isList (by rw [gm,gm,hl1,hl2];simpa using hl) (by lia)
  ·exact qln h1 h2 r1 r2 q1 q2
def qel:D->D->Option D
 | .tup ds,.tup es=>if vt ds es&&decide (y9 ds<=60) then some (.bl (eqL ds es)) else none
 | .lst ds,.lst es=>if vt ds es&&decide (y9 ds<=60) then some (.bl (eqL ds es)) else none
 | _,_=>none
theorem qu2(hu:X.A.units+64<cLine): OpR X (compareOp .Eq) (rD X.K qel):=by
 intro pins s σ H x y v u Q I rx ry h;obtain⟨F,d1,d2,d,fh,r1,r2,ho,q⟩:=h;have part:∀ {ds es:List D} {xs ys:List V} {us vs:List Value},vt ds es=true->y9 ds<=60->RepL X.K F ds xs->RepL X.K F es ys->Vals xs us->Vals ys vs ->
   ∀j (h1:j<us.length) (h2:j<vs.length),SeqAt.EqAt X.A.in1 s us[j] vs[j] (eqJ ds es j):=by
  intro ds
  induction ds with
  | nil=>
   intro es xs ys us vs _ _ k1 _ w1 _ j h1;cases k1.nil_inv;cases w1;exact absurd h1 (nv _)
  | cons d ds ihd=>
   intro es xs ys us vs ho hd k1 k2 w1 w2 j h1 h2;obtain⟨x,r,rfl,a1,a2⟩:=k1.cons_inv;cases w1 with
   | cons p1 p2=>
    cases es with
    | nil=>cases k2.nil_inv;cases w2;exact absurd h2 (nv _)
    | cons e es=>
     obtain⟨y,r',rfl,b1,b2⟩:=k2.cons_inv;cases w2 with
     | cons p3 p4=>
      simp only [vt,mf] at ho;simp only [y9] at hd;cases j with
      | zero=>
       have e0:eqJ (d :: ds) (e :: es) 0=eqD d e:=by simp [eqJ]
       rw [e0];exact qaz I fh _ ho.1 (by show X.A.units+1+q19 d<cLine;lia) a1 b1 p1 p3
      | succ j=>
       have e0:eqJ (d :: ds) (e :: es) (j+1)=eqJ ds es j:=by simp [eqJ]
       rw [e0];exact ihd ho.2 (by lia) a2 b2 p2 p4 j (by simpa using h1) (by simpa using h2)
 unfold qel at ho
 split at ho
 ·rename_i ds es
  split at ho
  ·rename_i hc
   cases ho;rw [mf] at hc;obtain⟨a,xs,rfl,k1,k2⟩:=rep_tup.mp r1;obtain⟨b,ys,rfl,k3,k4⟩:=rep_tup.mp r2;cases rx;cases ry;obtain⟨i1,v1,t1,_⟩:=I.tuple (qq fh k1);obtain⟨i2,v2,t2,_⟩:=I.tuple (qq fh k3);have hq:=part hc.1 (tf hc.2) k2 k4 v1 v2;refine SeqAt.eq_tupleAt (e:=eqJ ds es) (show s.heap.IsTuple a i1.toArray from t1) (show s.heap.IsTuple b i2.toArray from t2) (by lia) (fun j h1 h2=>by simpa using hq j (by simpa using h1) (by simpa using h2)) ?_;simp only [gm, <- v1.length, <- v2.length, <- k2.length, <- k4.length,k7];exact⟨.bl _,H,I,rfl,q _ F H (.refl fh) (rep_bl.mpr rfl)⟩
  ·cases ho
 ·rename_i ds es
  split at ho
  ·rename_i hc
   cases ho;rw [mf] at hc;obtain⟨a,xs,rfl,k1,k2⟩:=rep_lst.mp r1;obtain⟨b,ys,rfl,k3,k4⟩:=rep_lst.mp r2;cases rx;cases ry;obtain⟨i1,v1,t1,_⟩:=I.list (fh.seq k1);obtain⟨i2,v2,t2,_⟩:=I.list (fh.seq k3);have hq:=part hc.1 (tf hc.2) k2 k4 v1 v2;have hl1:i1.length=ds.length:=by rw [<- v1.length, <- k2.length]
   have hl2:i2.length=es.length:=by rw [<- v2.length, <- k4.length]
   by_cases hl:ds.length=es.length
   ·refine SeqAt.eq_listAt (e:=eqJ ds es) t1.isList t2.isList (by rw [gm,gm,hl1,hl2];exact hl) (by lia) (fun j h1 h2=>by simpa using hq j (by simpa using h1) (by simpa using h2)) ?_
    have e1:(List.range i1.toArray.size).all (eqJ ds es)=eqL ds es:=by
     rw [<- k7,gm,hl1, <- hl,Nat.min_self];simp
    rw [e1];exact⟨.bl _,H,I,rfl,q _ F H (.refl fh) (rep_bl.mpr rfl)⟩
   ·have e1:eqL ds es=false:=by rw [<- k7];simp [hl]
    rw [e1] at q;exact SeqAt.eq_list_lengthsAt t1.isList t2.isList (by rw [gm,gm,hl1,hl2];simpa using hl) (by lia) ⟨.bl _,H,I,rfl,q _ F H (.refl fh) (rep_bl.mpr rfl)⟩
  ·cases ho
 ·cases ho
abbrev oEq:D->D->Option D:=fun x y=>(qo3 x y).or (qel x y)
theorem vc(hu:X.A.units+64<cLine): OpR X (compareOp .Eq) (rD X.K oEq):=qaq qtq (qu2 hu)
end
def itN:Bool->String
 | true=>"list_iterator"
 | false=>"tuple_iterator"
def sqN:Bool->String
 | true=>"list"
 | false=>"tuple"
def SI(b:Bool)(h:Heap)(it l:Addr)(k:Nat): Prop:=∃o,h.get? it=some o/\o.cls=.type (itN b)/\o.data=.fields #[.ref l,.int k 0]
def SO(b:Bool)(h:Heap)(l:Addr)(xs:Array Value): Prop:=∃o,h.get? l=some o/\o.cls=.type (sqN b)/\∃n,o.data=.seq xs n
theorem SI.ext{b:Bool}{h h':Heap}{it l c:Addr}{k:Nat}(x:SI b h it l k)(e:Heap.ExtBut c h h')(n:it≠c): SI b h' it l k:=let⟨o,ho,r⟩:=x; ⟨o,e it o n ho,r⟩
theorem SO.ext{b:Bool}{h h':Heap}{l c:Addr}{xs:Array Value}(x:SO b h l xs)(e:Heap.ExtBut c h h')(n:l≠c): SO b h' l xs:=let⟨o,ho,r⟩:=x; ⟨o,e l o n ho,r⟩
theorem SI.keep{b:Bool}{h h':Heap}{it l:Addr}{k:Nat}(x:SI b h it l k)(e:∀o,h.get? it=some o->h'.get? it=some o): SI b h' it l k:=let⟨o,ho,r⟩:=x; ⟨o,e o ho,r⟩
section
variable{prog:Program}{w:World}{A:Around}{E:Value->Shared->Prop}{s:Shared}
theorem qc0{b:Bool}{it l:Addr}{k:Nat}{xs:Array Value}{x:Value}{Q:Value->Shared->Prop}(hi:SI b s.heap it l k)(ho:SO b s.heap l xs)(hx:xs[k]? = some x)
  (h:∀h',SI b h' it l (k+1)->Heap.SameBut it s.heap h'->Q x {s with heap:=h'}):wpAny (model prog w) A (Builtin.SmallTypes.nextOf (.ref it)) Q E s:=by
 cases b with
 | true=>exact wpAny_nextOf_list_item hi ho hx h
 | false=>
  obtain⟨o,e1,e2,e3⟩:=id hi;obtain⟨o2,f1,f2,n,f3⟩:=id ho;have ty:s.TypeIs (.ref it) "tuple_iterator" :=⟨o,e1,e2⟩
  unfold Builtin.SmallTypes.nextOf;refine g0 (pf (name:=Str.ofString "__next__") ty g18 (ng g18 ty g4e ?_ (g49 _)));show wpAny _ _ (field (.ref it) 0 >>= _) _ _ s;refine g0 (um e1 e3 (x:=.ref l) rfl ?_);show wpAny _ _ (if(Value.ref l==Value.none)=true then _ else _) _ _ s;rw [ma (fun z:(Value.ref l==Value.none)=true=>m9 z)];show wpAny _ _ (field (.ref it) 1 >>= _) _ _ s;refine g0 (um e1 e3 (x:=.int k 0) rfl ?_);show wpAny _ _ (seqItems? (.ref l) >>= _) _ _ s;refine g0 (ui f1 f3 ?_);simp only [nj,hx];refine g0 (g36 e1 e3 (by simp) (g9 ⟨x,rfl,g9 (h _ ⟨_,g0h _ e1 (Obj.isFreed_of_fields (g2w e3 _)),(Obj.cls_mapFields ..).trans e2,?_⟩ (t5 ..))⟩));rw [g2w e3];simp [rawInt]
theorem qi2{b:Bool}{it l:Addr}{k:Nat}{xs:Array Value}{Q:Value->Shared->Prop}(hh:A.handled=none)(hi:SI b s.heap it l k)(ho:SO b s.heap l xs)(hx:xs[k]? = none)
  (h:∀h' e,Heap.ExtBut it s.heap h'->(∃o,h'.get? e=some o/\o.cls=.type "StopIteration")->E (.ref e) {s with heap:=h'}):wpAny (model prog w) A (Builtin.SmallTypes.nextOf (.ref it)) Q E s:=by
 cases b with
 | true=>exact wpAny_nextOf_list_end hh hi ho hx h
 | false=>
  obtain⟨o,e1,e2,e3⟩:=id hi;obtain⟨o2,f1,f2,n,f3⟩:=id ho;have ty:s.TypeIs (.ref it) "tuple_iterator" :=⟨o,e1,e2⟩
  unfold Builtin.SmallTypes.nextOf;refine g0 (pf (name:=Str.ofString "__next__") ty g18 (ng g18 ty g4e ?_ (g49 _)));show wpAny _ _ (field (.ref it) 0 >>= _) _ _ s;refine g0 (um e1 e3 (x:=.ref l) rfl ?_);show wpAny _ _ (if(Value.ref l==Value.none)=true then _ else _) _ _ s;rw [ma (fun z:(Value.ref l==Value.none)=true=>m9 z)];show wpAny _ _ (field (.ref it) 1 >>= _) _ _ s;refine g0 (um e1 e3 (x:=.int k 0) rfl ?_);show wpAny _ _ (seqItems? (.ref l) >>= _) _ _ s;refine g0 (ui f1 f3 ?_);simp only [nj,hx];refine g0 (g04 (g0 (g36 e1 e3 (by simp) ?_)));show wpAny _ _ (newExc (.type "StopIteration") [] >>= _) _ _ _;refine g0 ?_;simp only [newExc,newTuple];refine g0 (t8 (g0 (m:=firstArgMember _ _) (g62 (a:=Value.none) (by first|rfl|(simp only [firstArgMember];rfl)) (t8 ?_ (by size_fits)))) (by size_fits));simp only [raiseNew];refine g0 (g4l ?_)
  first|rw [show A.in1.handled=none from hh]|rw [hh]
  exact g0 (g9 (wpAny_throw (h _ _ (((t5 ..).extBut.push _).push _) ⟨_,gr _ rfl,rfl⟩)))
structure Z5(z ti to i1 i2:Addr): Prop where
 a1:ti≠z
 a2:to≠z
 a3:i1≠z
 a4:i2≠z
 a5:ti≠to
 a6:ti≠i1
 a7:ti≠i2
 a8:to≠i1
 a9:to≠i2
 a10:i1≠i2
structure Off(l z to i1 i2:Addr): Prop where
 z:l≠z
 o:l≠to
 i:l≠i1
 j:l≠i2
theorem qlo{b1 b2:Bool}{z ti to i1 i2 l1 l2:Addr}{k1 k2:Nat}{xs ys:Array Value}{x y p q:Value}{Q:Value->Shared->Prop}(D:Z5 z ti to i1 i2)(m1:Off l1 z to i1 i2)(m2:Off l2 z to i1 i2)
  (hz:IsZip s.heap z ti to .none) (ht:IsPair s.heap ti (.ref i1) (.ref i2)) (hp:IsPair s.heap to p q)
  (h1:SI b1 s.heap i1 l1 k1) (h2:SI b2 s.heap i2 l2 k2) (o1:SO b1 s.heap l1 xs) (o2:SO b2 s.heap l2 ys) (hx:xs[k1]? = some x) (hy:ys[k2]? = some y)
  (hQ:∀h',IsZip h' z ti to (rawInt s.heap.objs.size)->IsPair h' to x y->SI b1 h' i1 l1 (k1+1)->SI b2 h' i2 l2 (k2+1)->IsPair h' s.heap.objs.size x y->h'.objs.size=s.heap.objs.size+1 ->
   (∀c o,c≠z->c≠to->c≠i1->c≠i2->s.heap.get? c=some o->h'.get? c=some o)->Q (.ref s.heap.objs.size) {s with heap:=h'}) :
  wpAny (model prog w) A (Builtin.«zip.__next__» ⟨[.ref z],[]⟩) (fun fin s'=>∃v,fin=.done (.ret v)/\Q v s') E s:=by
 show wpAny _ _ (field (.ref z) 2 >>= _) _ _ _;refine g0 (um hz rfl (x:=.bool false) rfl ?_);show wpAny _ _ (field (.ref z) 3 >>= _) _ _ _;refine g0 (um hz rfl (x:=.ref ti) rfl (g0 (ui ht rfl ?_)));show wpAny _ _ (Builtin.SmallTypes.ownedTupleIsFree (.ref z) >>= _) _ _ _;refine g0 ?_;unfold Builtin.SmallTypes.ownedTupleIsFree;refine g0 (um hz rfl (x:=.none) rfl (g9 ?_));simp only [pz];refine g0 (g04 (g0 (um hz rfl (x:=.ref to) rfl (g0 (g13 hz (by simp) fun g1 hz1 u1=>?_)))));have hz1':IsZip g1 z ti to .ellipsis:=hz1;refine g0 ?_;simp only [List.zipIdx_cons,List.zipIdx_nil,g2m,g6c];refine g0 (g0 (g4m ?_));show wpAny _ _ (Builtin.SmallTypes.nextOf (.ref i1) >>= _) _ _ _;refine g0 (qc0 (h1.ext u1.extBut D.a3) (o1.ext u1.extBut m1.z) hx fun g2 n1 u2=>g9 ?_);have hp2:IsPair g2 to p q:=u2.extBut _ _ D.a8 (u1.extBut _ _ D.a2 hp);refine g0 (ui hp2 rfl (g0 (g3w hp2 fun g3 hp3 u3=>?_)));have hp3':IsPair g3 to x q:=hp3;refine g0 (wpAny_letGo (g9 (g0 (g0 (g4m ?_)))));show wpAny _ _ (Builtin.SmallTypes.nextOf (.ref i2) >>= _) _ _ _;refine g0 (qc0 (((h2.ext u1.extBut D.a4).ext u2.extBut D.a10.symm).ext u3.extBut D.a9.symm) (((o2.ext u1.extBut m2.z).ext u2.extBut m2.i).ext u3.extBut m2.o) hy fun g4 n2 u4=>g9 ?_);have hp4:IsPair g4 to x q:=u4.extBut _ _ D.a9 hp3';refine g0 (ui hp4 rfl (g0 (g3w hp4 fun g5 hp5 u5=>?_)));have hp5':IsPair g5 to x y:=hp5;refine g0 (wpAny_letGo (g9 (g9 (g0 (ui hp5' rfl (g0 (wpAny_newTuple ?_)))))));have hsz:g5.objs.size=s.heap.objs.size:=by rw [u5.1,u4.1,u3.1,u2.1,u1.1]
 have hz5:IsZip g5 z ti to .ellipsis:=u5.extBut _ _ D.a2.symm (u4.extBut _ _ D.a4.symm (u3.extBut _ _ D.a2.symm (u2.extBut _ _ D.a3.symm hz1')));have kp:∀c o,c≠z->c≠to->c≠i1->c≠i2->s.heap.get? c=some o->g5.get? c=some o:=fun c o c1 c2 c3 c4 e=>u5.extBut _ _ c2 (u4.extBut _ _ c4 (u3.extBut _ _ c2 (u2.extBut _ _ c3 (u1.extBut _ _ c1 e))));have j1:SI b1 g5 i1 l1 (k1+1):=((n1.ext u3.extBut D.a8.symm).ext u4.extBut D.a10).ext u5.extBut D.a8.symm;have j2:SI b2 g5 i2 l2 (k2+1):=n2.ext u5.extBut D.a9.symm;have hzl:z<g5.objs.size:=m4 hz5;show wpAny _ _ (Builtin.SmallTypes.ownedTupleHandOut (.ref z) (.ref g5.objs.size) >>= _) _ _ _;refine g0 ?_;unfold Builtin.SmallTypes.ownedTupleHandOut;have hz6:IsZip (g5.push {cls:=.type "tuple",data:=.seq #[x,y]}) z ti to .ellipsis:=gc _ hz5;refine g0 (g13 hz6 (by simp) fun g7 hz7 u7=>?_);have hz7':IsZip g7 z ti to (rawInt g5.objs.size):=hz7;refine g13 hz7' (by simp) fun g8 hz8 u8=>?_;have hz8':IsZip g8 z ti to (rawInt g5.objs.size):=hz8;have up:∀c o,c≠z->g5.get? c=some o->g8.get? c=some o:=fun c o c1 e=>u8.extBut _ _ c1 (u7.extBut _ _ c1 (gc _ e));have hT:IsPair g8 g5.objs.size x y:=u8.extBut _ _ (u9 hzl) (u7.extBut _ _ (u9 hzl) (gr _ rfl));have hl8:g8.objs.size=g5.objs.size+1:=by rw [u8.1,u7.1,t9]
 rw [hsz] at hz8' hT hl8;refine g9 ⟨_,rfl,?_⟩;show Q (.ref g5.objs.size) _;rw [hsz];exact hQ g8 hz8' (up _ _ D.a2 hp5') (j1.keep fun o e=>up _ o D.a3 e) (j2.keep fun o e=>up _ o D.a4 e) hT hl8 fun c o c1 c2 c3 c4 e=>up c o c1 (kp c o c1 c2 c3 c4 e)
theorem qod{b1 b2:Bool}{z ti to i1 i2 l1 l2:Addr}{k1 k2:Nat}{xs ys:Array Value}{p q:Value}{Q:Fin->Shared->Prop}(hh:A.handled=none)(D:Z5 z ti to i1 i2)(m1:Off l1 z to i1 i2)(m2:Off l2 z to i1 i2)
  (hz:IsZip s.heap z ti to .none) (ht:IsPair s.heap ti (.ref i1) (.ref i2)) (hp:IsPair s.heap to p q)
  (h1:SI b1 s.heap i1 l1 k1) (h2:SI b2 s.heap i2 l2 k2) (o1:SO b1 s.heap l1 xs) (o2:SO b2 s.heap l2 ys) (hend:xs[k1]? = none\/ys[k2]? = none)
  (hE:∀h' e,(∀c o,c≠z->c≠to->c≠i1->c≠i2->s.heap.get? c=some o->h'.get? c=some o)->(∃o,h'.get? e=some o/\o.cls=.type "StopIteration")->E (.ref e) {s with heap:=h'}) :
  wpAny (model prog w) A (Builtin.«zip.__next__» ⟨[.ref z],[]⟩) Q E s:=by
 show wpAny _ _ (field (.ref z) 2 >>= _) _ _ _;refine g0 (um hz rfl (x:=.bool false) rfl ?_);show wpAny _ _ (field (.ref z) 3 >>= _) _ _ _;refine g0 (um hz rfl (x:=.ref ti) rfl (g0 (ui ht rfl ?_)));show wpAny _ _ (Builtin.SmallTypes.ownedTupleIsFree (.ref z) >>= _) _ _ _;refine g0 ?_;unfold Builtin.SmallTypes.ownedTupleIsFree;refine g0 (um hz rfl (x:=.none) rfl (g9 ?_));simp only [pz];refine g0 (g04 (g0 (um hz rfl (x:=.ref to) rfl (g0 (g13 hz (by simp) fun g1 hz1 u1=>?_)))));have hz1':IsZip g1 z ti to .ellipsis:=hz1;refine g0 ?_;simp only [List.zipIdx_cons,List.zipIdx_nil,g2m,g6c];refine g0 (g0 (g4m ?_));show wpAny _ _ (Builtin.SmallTypes.nextOf (.ref i1) >>= _) _ _ _;cases hx:xs[k1]? with
 | none=>
  refine g0 (qi2 hh (h1.ext u1.extBut D.a3) (o1.ext u1.extBut m1.z) hx fun g2 e u2 he=>?_);obtain⟨oe,y1,y2⟩:=he;have hz2:IsZip g2 z ti to .ellipsis:=u2 _ _ D.a3.symm hz1';have ne:e≠z:=fun x=>by subst x;rw [hz2] at y1;cases y1;simp at y2
  exact g13 hz2 (by simp) fun g3 _ u3=>hE g3 e (fun c o c1 _ c3 _ x=>u3.extBut _ _ c1 (u2 _ _ c3 (u1.extBut _ _ c1 x))) ⟨oe,u3.extBut _ _ ne y1,y2⟩
 | some x=>
  have hy:ys[k2]? = none:=by rcases hend with h|h;rw [hx] at h;cases h;exact h
  refine g0 (qc0 (h1.ext u1.extBut D.a3) (o1.ext u1.extBut m1.z) hx fun g2 n1 u2=>g9 ?_);have hp2:IsPair g2 to p q:=u2.extBut _ _ D.a8 (u1.extBut _ _ D.a2 hp);refine g0 (ui hp2 rfl (g0 (g3w hp2 fun g3 hp3 u3=>?_)));refine g0 (wpAny_letGo (g9 (g0 (g0 (g4m ?_)))));show wpAny _ _ (Builtin.SmallTypes.nextOf (.ref i2) >>= _) _ _ _;refine g0 (qi2 hh (((h2.ext u1.extBut D.a4).ext u2.extBut D.a10.symm).ext u3.extBut D.a9.symm) (((o2.ext u1.extBut m2.z).ext u2.extBut m2.i).ext u3.extBut m2.o) hy fun g4 e u4 he=>?_);obtain⟨oe,y1,y2⟩:=he;have hz4:IsZip g4 z ti to .ellipsis:=u4 _ _ D.a4.symm (u3.extBut _ _ D.a2.symm (u2.extBut _ _ D.a3.symm hz1'));have ne:e≠z:=fun x=>by subst x;rw [hz4] at y1;cases y1;simp at y2
  exact g13 hz4 (by simp) fun g5 _ u5=>hE g5 e (fun c o c1 c2 c3 c4 x=>u5.extBut _ _ c1 (u4 _ _ c4 (u3.extBut _ _ c2 (u2.extBut _ _ c3 (u1.extBut _ _ c1 x))))) ⟨oe,u5.extBut _ _ ne y1,y2⟩
theorem qj0{b1 b2:Bool}{z ti to i1 i2 l1 l2:Addr}{k1 k2:Nat}{xs ys:Array Value}{x y p q:Value}{Q:Option Value->Shared->Prop}(D:Z5 z ti to i1 i2)(m1:Off l1 z to i1 i2)(m2:Off l2 z to i1 i2)
  (hz:IsZip s.heap z ti to .none) (ht:IsPair s.heap ti (.ref i1) (.ref i2)) (hp:IsPair s.heap to p q)
  (h1:SI b1 s.heap i1 l1 k1) (h2:SI b2 s.heap i2 l2 k2) (o1:SO b1 s.heap l1 xs) (o2:SO b2 s.heap l2 ys) (hx:xs[k1]? = some x) (hy:ys[k2]? = some y)
  (hQ:∀h',IsZip h' z ti to (rawInt s.heap.objs.size)->IsPair h' to x y->SI b1 h' i1 l1 (k1+1)->SI b2 h' i2 l2 (k2+1)->IsPair h' s.heap.objs.size x y->h'.objs.size=s.heap.objs.size+1 ->
   (∀c o,c≠z->c≠to->c≠i1->c≠i2->s.heap.get? c=some o->h'.get? c=some o)->Q (some (.ref s.heap.objs.size)) {s with heap:=h'}) :
  wpAny (model prog w) A (pyNext (.ref z)) Q E s:=by
 have ty:s.TypeIs (.ref z) "zip" :=⟨_,hz,rfl⟩
 unfold pyNext;exact g0 (g0s (pf (name:=Str.ofString "__next__") ty g3x (ng g3x ty F.entry_zip_next
  (qlo D m1 m2 hz ht hp h1 h2 o1 o2 hx hy fun h' c1 c2 c3 c4 c5 c6 c7=>g9 (hQ h' c1 c2 c3 c4 c5 c6 c7)) (F.args_zip_next_1 _))))
theorem qdl{b1 b2:Bool}{z ti to i1 i2 l1 l2:Addr}{k1 k2:Nat}{xs ys:Array Value}{p q:Value}{Q:Option Value->Shared->Prop}(hh:A.handled=none)(D:Z5 z ti to i1 i2)(m1:Off l1 z to i1 i2)(m2:Off l2 z to i1 i2)
  (hz:IsZip s.heap z ti to .none) (ht:IsPair s.heap ti (.ref i1) (.ref i2)) (hp:IsPair s.heap to p q)
  (h1:SI b1 s.heap i1 l1 k1) (h2:SI b2 s.heap i2 l2 k2) (o1:SO b1 s.heap l1 xs) (o2:SO b2 s.heap l2 ys) (hend:xs[k1]? = none\/ys[k2]? = none)
  (hQ:∀h',(∀c o,c≠z->c≠to->c≠i1->c≠i2->s.heap.get? c=some o->h'.get? c=some o)->Q none {s with heap:=h'}):wpAny (model prog w) A (pyNext (.ref z)) Q E s:=by
 have ty:s.TypeIs (.ref z) "zip" :=⟨_,hz,rfl⟩
 unfold pyNext;refine g0 (g0s (pf (name:=Str.ofString "__next__") ty g3x (ng g3x ty F.entry_zip_next
  (qod hh D m1 m2 hz ht hp h1 h2 o1 o2 hend fun h' e hk he=>?_) (F.args_zip_next_1 _))))
 obtain⟨o,y1,y2⟩:=he;exact g0 (g0g (T:="StopIteration") (b:=true) ⟨o,y1,y2⟩ isSubtype_stop (g9 (hQ _ hk)))
theorem qd0{b:Bool}{l:Addr}{xs:Array Value}{Q:Value->Shared->Prop}(h:SO b s.heap l xs)(q:Q (.ref s.heap.objs.size) {s with heap:=s.heap.push {cls:=.type (itN b),data:=.fields #[.ref l,.int 0 0]} }):
  wpAny (model prog w) A (pyIter (.ref l)) Q E s:=by
 cases b with
 | true=>exact g20 h q
 | false=>exact g2v h q
end
def zh1(b1:Bool)(h:Heap)(l1:Addr): Heap:=h.push {cls:=.type (itN b1),data:=.fields #[.ref l1,.int 0 0]}
def zh2(b1 b2:Bool)(h:Heap)(l1 l2:Addr): Heap:=(zh1 b1 h l1).push {cls:=.type (itN b2),data:=.fields #[.ref l2,.int 0 0]}
def zh3(b1 b2:Bool)(h:Heap)(l1 l2:Addr): Heap:=(zh2 b1 b2 h l1 l2).push {cls:=.type "tuple",data:=.seq #[.ref h.objs.size,.ref (zh1 b1 h l1).objs.size]}
def zh4(b1 b2:Bool)(h:Heap)(l1 l2:Addr): Heap:=(zh3 b1 b2 h l1 l2).push {cls:=.type "tuple",data:=.seq #[.none,.none]}
def zh5(b1 b2:Bool)(h:Heap)(l1 l2:Addr): Heap:=(zh4 b1 b2 h l1 l2).push {cls:=.type "zip",data:=.fields #[.none,.bool false,.bool false,.ref (zh2 b1 b2 h l1 l2).objs.size,.ref (zh3 b1 b2 h l1 l2).objs.size]}
theorem SO.push{b:Bool}{h:Heap}{l:Addr}{xs:Array Value}(x:SO b h l xs)(o:Obj): SO b (h.push o) l xs:=let⟨u,e,r⟩:=x; ⟨u,gc _ e,r⟩
theorem qj1(b1 b2:Bool)(l1 l2:Addr)(xs ys:Array Value):
  Meets (Builtin.«zip.__new__» ⟨[.type "zip",.ref l1,.ref l2],[]⟩) (fun _ R s=>SO b1 s.heap l1 xs/\SO b2 s.heap l2 ys/\R (.ok (.ret (.ref (zh4 b1 b2 s.heap l1 l2).objs.size))) {s with heap:=zh5 b1 b2 s.heap l1 l2}):=
 .of_wp fun prog w A R s h=>by
  obtain⟨hp,gg,dd,tk,os⟩:=s;obtain⟨ha,hb,h⟩:=h;have hsub:=sub_zip;have f1:SO b1 (Shared.heap ⟨hp,gg,dd,tk,os⟩) l1 xs:=ha;have f2:SO b2 (Shared.heap ⟨hp.push {cls:=.type (itN b1),data:=.fields #[.ref l1,.int 0 0]},gg,dd,tk,os⟩) l2 ys:=SO.push hb _
  wp_walk using qd0 f1,qd0 f2
  exact⟨_,rfl,h⟩
section
variable{X:Cx}{pins:List (Addr×Obj)}{σ : St}{H:Hp}{s:Shared}{h':Heap}
theorem qi3{fp:List Addr}{t':Nat}(I:Inv X pins σ H s)(hf:∀b∈fp,q17 X pins H b)(k:∀b o,b∉fp->s.heap.get? b=some o->h'.get? b=some o): Inv X pins σ H {s with heap:=h',toks:=t'}:=by
 have nin:∀b u,H b=some u->b∉fp:=fun b u e hb=>by rw [(hf b hb).1] at e;cases e
 refine I.step (g':=s.gens) (d':=s.drawn) (ch:=fp) (fun b hb=>?_) (fun b o _ _ hc e _=>k b o hc e) (fun b o _ _ hc e _=>⟨o.slots,k b o hc e⟩) (fun _ _ _ _ n=>n)
  (fun b o hc e=>⟨o,k b o hc e⟩) (fun _ _ e=>e) (fun _ _ _ e=>e) (fun b ps e=>⟨#[],by rw [e];simp⟩) (fun m hm=>?_) (fun b u e=>?_) I.bare
 ·obtain⟨_,f1,_,f3,f4,f5⟩:=hf b hb
  exact⟨f3,f1,f4,f5⟩
 ·obtain⟨o,es,ep,ho,r⟩:=hm
  exact⟨o,es,ep,k _ o (fun z=>(hf _ z).2.1 rfl) ho,r⟩
 ·refine(I.hok b u e).stay (fun c v hc q=>k c v ?_ q) (fun _ q=>q) fun _ _ q=>q
  rcases hc with z|z
  ·rw [z];exact nin b u e
  ·exact nin c _ z
theorem adopt{p:Addr}{o:HO}(I:Inv X pins σ H s)(f:q17 X pins H p)(new:ObjOk X.prog X.w (upd H p o) s.heap p o): Inv X pins σ (upd H p o) s:=by
 have hp:=f.1;obtain⟨_,f1,_,f3,f4,f5⟩:=f;have ne:∀ {b:Addr} {u:HO},H b=some u->upd H p o b=some u:=fun {b u} e=>by rw [z6 (xf e hp)];exact e
 refine I.step (h':=s.heap) (g':=s.gens) (t':=s.toks) (d':=s.drawn) (ch:=[p]) (fun b hb=>?_) (fun b o _ _ hc e _=>e) (fun b o _ _ hc e _=>⟨o.slots,e⟩) (fun b o hc e n=>?_)
  (fun b o hc e=>⟨o,e⟩) (fun _ _ e=>ne e) (fun _ _ _ e=>ne e) (fun b ps e=>⟨#[],by rw [ne e];simp⟩) (fun m hm=>hm) (fun b u e=>?_) I.bare
 ·obtain rfl:b=p:=by simpa using hb
  exact⟨f3,f1,f4,f5⟩
 ·rw [z6 (fun z=>hc (by simp [z]))];exact n
 ·by_cases hb:b=p
  ·subst hb;rw [zg] at e;cases e;exact new
  ·rw [z6 hb] at e
   exact(I.hok b u e).stay (fun c v _ q=>q) (fun c q=>ne q) fun c xs q=>ne q
def Sq:Bool->Frag->Hp->Addr->List V->Prop
 | true=>SqL
 | false=>SqT
theorem q8u{b:Bool}{a:Addr}{xs:List V}(I:Inv X pins σ H s)(h:Sq b X.K H a xs): ∃its:List Value,Vals xs its/\SO b s.heap a its.toArray:=by
 cases b with
 | true=>obtain⟨its,r,⟨o,n,e,c,_,d⟩,_⟩:=I.list h;exact⟨its,r,o,e,c,n,d⟩
 | false=>obtain⟨its,r,⟨o,e,c,n,d⟩,_⟩:=I.tuple h;exact⟨its,r,o,e,c,n,d⟩
theorem qlp{b:Bool}{a:Addr}{xs ys:List V}(I:Inv X pins σ H s)(h:Sq b X.K H a xs)(h':Sq b X.K H a ys): xs=ys:=by
 cases b with
 | true=>exact I.list_inj h h'
 | false=>exact I.tuple_inj h h'
theorem q1i{b:Bool}{K:Frag}{F H:Hp}{a:Addr}{xs:List V}(e:Same F H)(h:Sq b K F a xs): Sq b K H a xs:=by
 cases b with
 | true=>exact e.seq h
 | false=>exact qq e h
theorem q33{b:Bool}{a c:Addr}{xs:List V}(I:Inv X pins σ H s)(h:Sq b X.K H a xs)(f:q17 X pins H c): a≠c:=by
 obtain⟨f0,f1,f2,f3,_⟩:=f;have inK:∀ {o:Obj},X.K.lookup a=some o->a≠c:=fun {o} hk z=>by
  subst z;have hb:X.base.get? a=some o:=I.mod.kin a o hk;rcases f3 with q|q
  ·exact I.ok.noex a o hb q
  ·exact absurd (m5 (m4 hb) (mm I.ok.bsz q)) (g0r _)
 have trk:∀ {u:HO},H a=some u->a≠c:=fun {u} e z=>by subst z;rw [f0] at e;cases e
 cases b with
 | true=>
  rcases h with(h|⟨o,h⟩)|⟨o,its,n,hk,_⟩
  ·exact trk h
  ·exact trk h
  ·exact inK hk
 | false=>
  rcases h with(h|⟨o,h⟩)|⟨o,its,n,hk,_⟩
  ·exact trk h
  ·exact trk h
  ·exact inK hk
end
def Itz(K:Frag)(b1:Bool)(a1:Addr)(b2:Bool)(a2:Addr): It:=
 ⟨fun i H=>∃xs ys x y,Sq b1 K H a1 xs/\Sq b2 K H a2 ys/\xs[i]? = some x/\ys[i]? = some y,
  fun i H v H'=>∃p x y,H p=none/\(∀xs,Sq b1 K H a1 xs->xs[i]? = some x)/\(∀ys,Sq b2 K H a2 ys->ys[i]? = some y)/\v=.ref p/\H'=upd H p (.tup [x,y]),
  fun i H=>∃xs ys,Sq b1 K H a1 xs/\Sq b2 K H a2 ys/\(xs.length<=i\/ys.length<=i)⟩
theorem qoe{P:Program}{w:World}{K:Frag}{elts:List Expr}{x1}{tp:Pos}{b1 b2:Bool}{a1 a2 z ti to i1 i2:Addr}(D:Z5 z ti to i1 i2):
  Turn P w K (.Tuple elts x1 tp) (Itz K b1 a1 b2 a2) [z,ti,to,i1,i2] z
   (fun i h=>IsZip h z ti to .none/\IsPair h ti (.ref i1) (.ref i2)/\(∃p q,IsPair h to p q)/\SI b1 h i1 a1 i/\SI b2 h i2 a2 i) where
 mem:=by simp
 obj:=fun i h ⟨c1,c2,⟨p,q,c3⟩,⟨o4,c4,_,d4⟩,⟨o5,c5,_,d5⟩⟩ b hb=>by
  simp only [mh,ux,g2c] at hb;rcases hb with rfl|rfl|rfl|rfl|rfl
  ·exact⟨_,c1,fun v z=>by cases z⟩
  ·exact⟨_,c2,fun v z=>by cases z⟩
  ·exact⟨_,c3,fun v z=>by cases z⟩
  ·exact⟨_,c4,fun v z=>by rw [d4] at z;cases z⟩
  ·exact⟨_,c5,fun v z=>by rw [d5] at z;cases z⟩
 keep:=fun i h h' ⟨c1,c2,⟨p,q,c3⟩,c4,c5⟩ k=>⟨k _ (by simp) _ c1,k _ (by simp) _ c2,⟨p,q,k _ (by simp) _ c3⟩,c4.keep fun o e=>k _ (by simp) o e,c5.keep fun o e=>k _ (by simp) o e⟩
 item:=by
  intro X hP hw hK hc i pins s σ H E I hf st hg;subst hP hw hK;obtain⟨xs,ys,x,y,q1,q2,hx,hy⟩:=hg;obtain⟨its1,v1,o1⟩:=q8u I q1;obtain⟨its2,v2,o2⟩:=q8u I q2;obtain⟨u1,hu1,ru1⟩:=v1.get hx;obtain⟨u2,hu2,ru2⟩:=v2.get hy;obtain⟨c1,c2,⟨p,q,c3⟩,c4,c5⟩:=st;have off:∀ {b:Bool} {a:Addr} {ws:List V},Sq b X.K H a ws->Off a z to i1 i2:=fun h=>⟨q33 I h (hf _ (by simp)),q33 I h (hf _ (by simp)),q33 I h (hf _ (by simp)),q33 I h (hf _ (by simp))⟩
  refine qj0 D (off q1) (off q2) c1 c2 c3 c4 c5 o1 o2 (x:=u1) (y:=u2) (by simpa using hu1) (by simpa using hu2) fun g n1 n2 n3 n4 n5 n6 n7=>?_;refine⟨_,rfl,wpAny_letOwnedTupleGo_zip n1 fun g2 m1 sb=>?_⟩;have hsz:z<s.heap.objs.size:=m4 c1;have kp:∀c o,c∉[z,ti,to,i1,i2]->s.heap.get? c=some o->g2.get? c=some o:=fun c o hc e=>by
   simp only [mh,ux,g2c,g6d] at hc;exact sb.extBut _ _ hc.1 (n7 c o hc.1 hc.2.2.1 hc.2.2.2.1 hc.2.2.2.2 e)
  have I1:Inv X pins σ H {s with heap:=g2}:=qi3 (t':=s.toks) I hf kp;have fp:q17 X pins H s.heap.objs.size:=I.fpOk (gw _) I.fresh;have hT:IsPair g2 s.heap.objs.size u1 u2:=sb.extBut _ _ (u9 hsz) n5;have I2:Inv X pins σ (upd H s.heap.objs.size (.tup [x,y])) {s with heap:=g2}:=
   adopt I1 fp ⟨by show 2<=sizeLine;decide,[u1,u2],.cons ru1 (.cons ru2 .nil),⟨_,hT,rfl,rfl,_,rfl⟩⟩
  refine⟨.ref s.heap.objs.size,_,I2,rfl,⟨_,x,y,I.fresh,fun ws h=>?_,fun ws h=>?_,rfl,rfl⟩,⟨m1,?_,⟨u1,u2,sb.extBut _ _ D.a2 n2⟩,n3.ext sb.extBut D.a3,n4.ext sb.extBut D.a4⟩,fun b hb=>?_⟩
  ·rw [qlp I h q1];exact hx
  ·rw [qlp I h q2];exact hy
  ·exact sb.extBut _ _ D.a1 (n7 _ _ D.a1 D.a5 D.a6 D.a7 c2)
  ·have hb0:=(hf b hb).1
   have:b≠s.heap.objs.size:=by
    simp only [mh,ux,g2c] at hb;rcases hb with rfl|rfl|rfl|rfl|rfl
    ·exact md hsz
    ·exact md (m4 c2)
    ·exact md (m4 c3)
    ·obtain⟨_,e,_⟩:=c4;exact md (m4 e)
    ·obtain⟨_,e,_⟩:=c5;exact md (m4 e)
   rw [z6 this];exact hb0
 done:=by
  intro X hP hw hK hc i pins s σ H E I hf st hg;subst hP hw hK;obtain⟨xs,ys,q1,q2,hend⟩:=hg;obtain⟨its1,v1,o1⟩:=q8u I q1;obtain⟨its2,v2,o2⟩:=q8u I q2;obtain⟨c1,c2,⟨p,q,c3⟩,c4,c5⟩:=st;have off:∀ {b:Bool} {a:Addr} {ws:List V},Sq b X.K H a ws->Off a z to i1 i2:=fun h=>⟨q33 I h (hf _ (by simp)),q33 I h (hf _ (by simp)),q33 I h (hf _ (by simp)),q33 I h (hf _ (by simp))⟩
  refine qdl (I.ok.hd hc) D (off q1) (off q2) c1 c2 c3 c4 c5 o1 o2 ?_ fun g n7=>⟨rfl,qi3 (t':=s.toks) I hf fun c o hc e=>?_⟩
  ·have l1:=v1.length
   have l2:=v2.length;rcases hend with h|h
   ·exact .inl (by simp;lia)
   ·exact .inr (by simp;lia)
  ·simp only [mh,ux,g2c,g6d] at hc
   exact n7 c o hc.1 hc.2.2.1 hc.2.2.2.1 hc.2.2.2.2 e
 self:=fun A i s Q E st h=>wpAny_pyIter_zip st.1 h
def q81(xs ys:List D): List D:=List.zipWith (fun a b=>.tup [a,b]) xs ys
theorem qr9{K:Frag}{F:Hp}{b1 b2:Bool}{a1 a2:Addr}{xs ys:List V}{ds es:List D}(h1:Sq b1 K F a1 xs)(h2:Sq b2 K F a2 ys)(r1:RepL K F ds xs)(r2:RepL K F es ys): ItD K F (q81 ds es) (Itz K b1 a1 b2 a2) where
 go:=fun i F' H s1 s2 hi=>by
  have hi':i<ds.length/\i<es.length:=by unfold q81 at hi;rw [List.length_zipWith] at hi;lia
  exact⟨xs,ys,xs[i]'(by rw [<- r1.length];exact hi'.1),ys[i]'(by rw [<- r2.length];exact hi'.2),q1i (s1.trans s2) h1,q1i (s1.trans s2) h2,by simp,by simp⟩
 yld:=fun i d F' H x H' s1 s2 hi ⟨p,x1,y1,hp,q1,q2,e1,e2⟩=>by
  subst e1 e2;unfold q81 at hi;rw [List.getElem?_zipWith] at hi;cases z1:ds[i]? with
  | none=>rw [z1] at hi;cases hi
  | some d1=>
   cases z2:es[i]? with
   | none=>rw [z1,z2] at hi;cases hi
   | some d2=>
    rw [z1,z2] at hi;cases hi;obtain⟨v1,k1,k2⟩:=r1.get z1;obtain⟨v2,k3,k4⟩:=r2.get z2;have w1:=q1 xs (q1i (s1.trans s2) h1);have w2:=q2 ys (q1i (s1.trans s2) h2);rw [k1] at w1;cases w1;rw [k3] at w2;cases w2;have gn:Grow F' H (upd F' p (.tup [x1,y1])) (upd H p (.tup [x1,y1])):=Grow.new s2 hp;exact⟨_,gn,rep_tup.mpr ⟨p,_,rfl,SqT.of zg,.cons ((k2.mono s1).mono gn.ff) (.cons ((k4.mono s1).mono gn.ff) .nil)⟩⟩
 stop:=fun i F' H s1 s2 hi=>by
  unfold q81 at hi;rw [List.length_zipWith] at hi;refine⟨xs,ys,q1i (s1.trans s2) h1,q1i (s1.trans s2) h2,?_⟩;rw [<- r1.length, <- r2.length];lia
section
variable{X:Cx}{pos:Pos}{elts:List Expr}{x1:Nat}{tp:Pos}
def qxc(K:Frag)(ta:TA): TI:=fun σ H R=>ta σ H fun vs H1=>∃b1 a1 xs b2 a2 ys,vs=[.ref a1,.ref a2]/\Sq b1 K H1 a1 xs/\Sq b2 K H1 a2 ys/\R (Itz K b1 a1 b2 a2) H1
theorem qlq:bootBuiltins "zip" = some (.type "zip"):=by decide +kernel
theorem qu3{a b:Expr}{ta:TA}{p:Pos}(hg:Gl X "zip")(hm:X.mg "zip" = none)(ha:PA X [a,b] ta)(hs:starEach [a,b] X.env=[(false,eval a X.env),(false,eval b X.env)]:=by rfl)(hs2:starEach [b] X.env=[(false,eval b X.env)]:=by rfl):
  PI X (.Tuple elts x1 tp) (.Call (.Name "zip" p) [a,b] [] pos) (qxc X.K ta):=by
 intro pins s σ H R I h;refine Call_ (q2y I hg hm qlq (uq (thn (ha pos pins s σ H _ I h) fun us s1 ⟨vs,H1,I1,r1,q1⟩=>?_) (by rw [hs,hs2]) (by rw [hs2];rfl)));obtain⟨b1,a1,xs,b2,a2,ys,rfl,k1,k2,q⟩:=q1;obtain⟨u1,u2,rfl,e1,e2⟩:=r1.two;cases e1;cases e2;obtain⟨its1,v1,o1⟩:=q8u I1 k1;obtain⟨its2,v2,o2⟩:=q8u I1 k2;refine callType_new F.called_zip (by decide) (F.typeCall_zip_2 _ _) (F.newCall_zip_2 _ _) (fun obj=>F.args_object_init_3 obj _ _) F.entry_zip_new (qj1 b1 b2 a1 a2 its1.toArray its2.toArray) ⟨o1,o2,?_⟩;have z1:(zh1 b1 s1.heap a1).objs.size=s1.heap.objs.size+1:=t9 ..;have z2:(zh2 b1 b2 s1.heap a1 a2).objs.size=s1.heap.objs.size+2:=by unfold zh2;rw [t9,z1]
 have z3:(zh3 b1 b2 s1.heap a1 a2).objs.size=s1.heap.objs.size+3:=by unfold zh3;rw [t9,z2]
 have z4:(zh4 b1 b2 s1.heap a1 a2).objs.size=s1.heap.objs.size+4:=by unfold zh4;rw [t9,z3]
 have g5:(zh5 b1 b2 s1.heap a1 a2).get? (zh4 b1 b2 s1.heap a1 a2).objs.size=some {cls:=.type "zip",data:=.fields #[.none,.bool false,.bool false,.ref (zh2 b1 b2 s1.heap a1 a2).objs.size,.ref (zh3 b1 b2 s1.heap a1 a2).objs.size]}:=gr _ rfl;have g4:(zh5 b1 b2 s1.heap a1 a2).get? (zh3 b1 b2 s1.heap a1 a2).objs.size=some {cls:=.type "tuple",data:=.seq #[.none,.none]}:=gc _ (gr _ rfl);have g3:(zh5 b1 b2 s1.heap a1 a2).get? (zh2 b1 b2 s1.heap a1 a2).objs.size=some {cls:=.type "tuple",data:=.seq #[.ref s1.heap.objs.size,.ref (zh1 b1 s1.heap a1).objs.size]}:=gc _ (gc _ (gr _ rfl));have g2:(zh5 b1 b2 s1.heap a1 a2).get? (zh1 b1 s1.heap a1).objs.size=some {cls:=.type (itN b2),data:=.fields #[.ref a2,.int 0 0]}:=gc _ (gc _ (gc _ (gr _ rfl)));have g1:(zh5 b1 b2 s1.heap a1 a2).get? s1.heap.objs.size=some {cls:=.type (itN b1),data:=.fields #[.ref a1,.int 0 0]}:=gc _ (gc _ (gc _ (gc _ (gr _ rfl))));have kp:∀c o,s1.heap.get? c=some o->(zh5 b1 b2 s1.heap a1 a2).get? c=some o:=fun c o e=>gc _ (gc _ (gc _ (gc _ (gc _ e))));have I2:Inv X pins σ H1 {s1 with heap:=zh5 b1 b2 s1.heap a1 a2}:=I1.kept (t':=s1.toks) kp;refine⟨⟨_,g5,rfl⟩,wpAny_pyIter_zip g5 ?_⟩;refine⟨_,_,_,_,H1,rfl,I2,qoe (b1:=b1) (b2:=b2) (a1:=a1) (a2:=a2) (i1:=s1.heap.objs.size) (i2:=(zh1 b1 s1.heap a1).objs.size) ?_,⟨g5,g3,⟨_,_,g4⟩,⟨_,g1,rfl,rfl⟩,⟨_,g2,rfl,rfl⟩⟩,fun c hc=>?_,q⟩
 ·constructor <;> (first|exact md (by lia)|exact u9 (by lia))
 ·have hge:s1.heap.objs.size<=c:=by
   simp only [mh,ux,g2c] at hc;rcases hc with rfl|rfl|rfl|rfl|rfl <;> lia
  exact I1.fpOk hge (I1.hok.fresh hge)
def qj2(fa:FA): FA:=fun ρ =>(fa ρ).bind fun ds=>match ds with
 | [x,y]=>(q5n x).bind fun xs=>(q5n y).map fun ys=>q81 xs ys
 | _=>none
theorem qi4{K:Frag}{F:Hp}{d:D}{ds:List D}{v:V}(h:q5n d=some ds)(r:Rep K F d v): ∃b a xs,v=.ref a/\Sq b K F a xs/\RepL K F ds xs:=by
 cases d <;> simp only [q5n] at h <;> first|(cases h;done)|skip
 ·cases h
  obtain⟨a,xs,rfl,h3,h4⟩:=rep_tup.mp r;exact⟨false,a,xs,rfl,h3,h4⟩
 ·cases h
  obtain⟨a,xs,rfl,h3,h4⟩:=rep_lst.mp r;exact⟨true,a,xs,rfl,h3,h4⟩
theorem qu4{a b:Expr}{fa:FA}{p:Pos}(hg:Gl X "zip")(hm:X.mg "zip" = none)(ha:PA X [a,b] (tDA X.K fa))(hs:starEach [a,b] X.env=[(false,eval a X.env),(false,eval b X.env)]:=by rfl)(hs2:starEach [b] X.env=[(false,eval b X.env)]:=by rfl):
  PI X (.Tuple elts x1 tp) (.Call (.Name "zip" p) [a,b] [] pos) (tDI X.K (qj2 fa)):=q7z (qu3 hg hm ha hs hs2) fun σ H R ⟨F0,H0,F, ρ,ds,r,hf,q⟩=>by
 obtain⟨es,h1,h2⟩:=gb.mp hf;refine⟨F0,H0,F, ρ,es,r,h1,fun vs F' H' g' r'=>?_⟩
 split at h2
 ·rename_i x y
  obtain⟨xs,k1,h2⟩:=gb.mp h2;obtain⟨ys,k2,h2⟩:=gv.mp h2;subst h2;obtain⟨v1,t,rfl,e1,e2⟩:=r'.cons_inv;obtain⟨v2,t2,rfl,e3,e4⟩:=e2.cons_inv;cases e4.nil_inv;obtain⟨b1,a1,us,rfl,s1,l1⟩:=qi4 k1 e1;obtain⟨b2,a2,ws,rfl,s2,l2⟩:=qi4 k2 e3;exact⟨b1,a1,us,b2,a2,ws,rfl,q1i g'.fh s1,q1i g'.fh s2,q _ F' H' g' (qr9 s1 s2 l1 l2)⟩
 ·cases h2
end
section
variable{X:Cx}{e:Expr}{es:List Expr}{kws:List Keyword}{pos:Pos}{f g:FE}{fa fk:FA}
def qxd(n m:Nat)(fa fk:FA): FA:=fun ρ =>(fa ρ).bind fun ds=>(fk ρ).bind fun es=>if ds.length=n/\es.length=m then some (ds++es) else none
theorem qw6{K:Frag}{fd:FuncData}{ps:List Str}{dv:List Value}(n:Nat)(hn:n+dv.length=ps.length)(h:∀(s:Shared) (us:List Value),K.In s.heap->us.length=n->BindsTo s fd ⟨us,[]⟩ (ps.zip (us++dv))): Binds K fd ps dv:=
 fun s us hk hl=>h s us hk (by rw [mw] at hl;omega)
def qw7(ar:Nat)(op:List D->Option D): List D->Option D:=fun ds=>if ds.length=ar then op ds else none
end
structure Cal(P:Program)(w:World)(K:Frag)(mg:Str->Option Value)(base:Heap)(x:Str)(k:Nat)(ps:List Str)(ar:Nat)(op:List D->Option D)(fn:Addr)(fd:FuncData): Prop where
 ok:FnOk P w K mg base CX0 k fn fd ps (spD K ar op)
 mg:mg x=some (.ref fn)
 kp:PySem.W.keepIn K (.ref fn)=true
section
variable{X:Cx}{e:Expr}{es:List Expr}{kws:List Keyword}{pos p:Pos}{fa fk:FA}{k ar k':Nat}{fn:Addr}{fd:FuncData}{ps ks:List Str}{op:List D->Option D}{x:Str}
theorem qw(C:Cal X.prog X.w X.K X.mg X.base x k ps ar op fn fd)(b:Binds X.K fd ps [])(hr:Room k' X.A)(hk:k<=k')(hg:Gl X x)(ha:PA X (e :: es) (tDA X.K fa))(hdb:(x==("__debug__" : Str))=false:=by decide)
  (he:starEach (e :: es) X.env=(false,eval e X.env) :: starEach es X.env:=by rfl) (hpl:(backTo pos (starEach es X.env)).any (·.1)=false:=by rfl):PE X (.Call (.Name x p) (e :: es) [] pos) (tD X.K (qi (qt ar [] op) fa)):=
 qhx C.ok (hr.mono hk) hg C.mg C.kp b .nil (fun H=>.nil) ha hdb he hpl
theorem qra{dvs:List V}{dds:List D}{dv:List Value}(C:Cal X.prog X.w X.K X.mg X.base x k ps ar op fn fd)(b:Binds X.K fd ps dv)(hd:Vals dvs dv)(hdd:∀H,RepL X.K H dds dvs)(hr:Room k' X.A)(hk:k<=k')(hg:Gl X x)(ha:PA X (e :: es) (tDA X.K fa))(hdb:(x==("__debug__" : Str))=false:=by decide)
  (he:starEach (e :: es) X.env=(false,eval e X.env) :: starEach es X.env:=by rfl) (hpl:(backTo pos (starEach es X.env)).any (·.1)=false:=by rfl):PE X (.Call (.Name x p) (e :: es) [] pos) (tD X.K (qi (qt ar dds op) fa)):=
 qhx C.ok (hr.mono hk) hg C.mg C.kp b hd hdd ha hdb he hpl
theorem qrb{i:Int}(hg:Gl X x)(hm:∃t,X.mg x=some (.int i t))(hdb:(x==("__debug__" : Str))=false:=by decide): PE X (.Name x p) (tD X.K (eC (.int i))):=by
 obtain⟨t,hm⟩:=hm;exact q6q (qqm hg hm (v:=.int i) ⟨t,rfl⟩ hdb) fun _=>rep_int.mpr rfl
def q9u:D->Option D
 | .int i=>some (.int (-i))
 | _=>none
theorem qlr{f:FE}(ha:PE X e (tD X.K f)): PE X (.UnaryOp .USub e pos) (tD X.K (eUn q9u f)):=by
 intro pins s σ H Q I h;obtain⟨F0,H0,F, ρ,d,r,hf,q⟩:=h;obtain⟨d',h1,h2⟩:=gb.mp hf;cases d' <;> simp only [q9u] at h2 <;> first|(cases h2;done)|skip
 cases h2;refine UnaryOp_ (thn (ha pins s σ H (fun v H'=>∃F',Grow F H F' H'/\Rep X.K F' (.int _) v) I ⟨F0,H0,F, ρ,_,r,h1,fun v F' H' g' r'=>⟨F',g',r'⟩⟩) fun v s1 ⟨x,H1,I1,r1,F',g',r'⟩=>?_);cases rep_int.mp r';obtain⟨t,rfl⟩:=r1;exact neg_int ⟨.int _,H1,I1.tok _,⟨_,rfl⟩,q _ F' H1 g' (rep_int.mpr rfl)⟩
end
structure Fun2(K:Frag)(x qual:Str)(st:Stmt)(dV:Value)(f:Addr)(fd:FuncData): Prop where
 ex:∃(oc:Value) (od:Option Addr) (kV doc pm:Value) (an:Option Addr) (cdv ct:Value) (osl:Array (Option Value)),
  fd=PySem.W.fnOf x qual (q1f st) (qz st) (qh st) dV kV doc pm an cdv ct/\K.lookup f=some ⟨oc,od,.func fd,osl⟩/\PySem.W.codeIn K cdv qual=true
 kp:PySem.W.keepIn K (.ref f)=true
section
variable{P:Program}{w:World}{K:Frag}{mg:Str->Option Value}{base:Heap}{x qual:Str}{st:Stmt}{dV:Value}{f:Addr}{fd:FuncData}{N ps:List Str}
theorem Fun2.ok{k:Nat}{u:FS}(F:Fun2 K x qual st dV f fd)(S:FnScope N ps (qh st))
  (hb:∀(cdv:Value) (A:Around) (outer:List Env) (s:Shared) (H:Hp) (E:XK),Room k (A.deeper (envOfC qual (qh st) s.heap.objs.size f cdv))->PSs (zw CX0 P w K mg base N qual (qh st) f cdv A outer s H E).nox (qz st) (tDS K u)) :
  FnOk P w K mg base CX0 (k+1) f fd ps (spD K ps.length (zh N.length u)):=by
 obtain⟨oc,od,kV,doc,pm,an,cdv,ct,osl,rfl,lk,hcd⟩:=F.ex;exact qw2 lk hcd S fun A outer s H E hr=>hb cdv A outer s H E hr
theorem Fun2.okn{k n ar k1:Nat}{u:FS}(F:Fun2 K x qual st dV f fd)(S:FnScope N ps (qh st))(hn:N.length=n)(ha:ps.length=ar)(hk:k+1=k1)
  (hb:∀(cdv:Value) (A:Around) (outer:List Env) (s:Shared) (H:Hp) (E:XK),Room k (A.deeper (envOfC qual (qh st) s.heap.objs.size f cdv))->PSs (zw CX0 P w K mg base N qual (qh st) f cdv A outer s H E).nox (qz st) (tDS K u)) :
  FnOk P w K mg base CX0 k1 f fd ps (spD K ar (zh n u)):=by
 subst hn ha hk;exact F.ok S hb
theorem q8v{oc:Value}{od an:Option Addr}{osl:Array (Option Value)}{kV doc pm cdv ct:Value}(l:K.lookup f=some ⟨oc,od,.func (PySem.W.fnOf x qual (q1f st) (qz st) (qh st) dV kV doc pm an cdv ct),osl⟩)
  (c:PySem.W.codeIn K cdv qual=true) (k:PySem.W.keepIn K (.ref f)=true):Fun2 K x qual st dV f (PySem.W.fnOf x qual (q1f st) (qz st) (qh st) dV kV doc pm an cdv ct):=⟨⟨oc,od,kV,doc,pm,an,cdv,ct,osl,rfl,l,c⟩,k⟩
theorem Fun2.bindsTo(F:Fun2 K x qual st dV f fd){P:FuncData->Prop}(h:∀(kV doc pm:Value) (an:Option Addr) (cdv ct:Value),P (PySem.W.fnOf x qual (q1f st) (qz st) (qh st) dV kV doc pm an cdv ct)): P fd:=by
 obtain⟨oc,od,kV,doc,pm,an,cdv,ct,osl,rfl,lk,hcd⟩:=F.ex;exact h kV doc pm an cdv ct
end
def qdz(K:Frag): Sp:=fun vs H Q _=>∃(a:Addr) (ns:List Int) (F:Hp),vs=[.ref a]/\SameT F H/\SqL K F a (ns.map V.int)/\ns.length<=63/\∀H',Q (.bl true) H'
theorem qu5{P:Program}{w:World}{K:Frag}{mg:Str->Option Value}{base:Heap}{k:Nat}{f:Addr}{fd:FuncData}{x:Str}{op:List D->Option D}(F:FnOk P w K mg base CX0 k f fd [x] (spD K 1 op))(h:∀ns:List Int,ns.length<=63->op [.lst (ns.map .int)]=some (.bl true)):
  FnOk P w K mg base CX0 k f fd [x] (qdz K):=F.imp fun vs H Q E ⟨a,ns,Fz,e,fz,hS,hl,q⟩=>by
 subst e;exact⟨Fz,[.lst (ns.map .int)],.bl true,fz,.cons (rep_lst.mpr ⟨a,_,rfl,hS,RepL.ints.mpr rfl⟩) .nil,rfl,h ns hl,fun v F' H' g' r'=>by rw [rep_bl.mp r'];exact q H'⟩
theorem qu6(ht:Lam.tab=[]){l:PySem.W.OpenLaw}{k:Nat}{x:Str}{q:Program}{loose:List Str}{XP:(Str->Option Value)->Heap->Prop}{YP:World->Heap->Prop}{d:DefRec}{K:Params->Frag}(hn:l.most=some 63)(hdf:d.params.defaults=[])(hk:Room k callerA)
  (hY:∀(w:World) (h:Heap),YP w h->(K w.params).In h)
  (F:∀(w:World) (mg:Str->Option Value) (fa:Addr) (h:Heap),(K w.params).In h->h.Ns mainGlobals mg->mg d.name=some (.ref fa) ->
   ∃fd:FuncData,(∀(s:Shared) (u:Value),BindsTo s fd ⟨[u],[]⟩ [(x,u)])/\∀base:Heap,(K w.params).In base->base.Ns mainGlobals mg->FnOk l.prog w (K w.params) mg base CX0 k fa fd [x] (qdz (K w.params))) :
  PySem.W.WalkO q loose XP YP l.row.toRowW d [] (fun f vs=>PySem.call f vs):=
 L2.qr0 (n:=63) (k:=k) (x:=x) (CX:=fun _=>CX0) (sp:=fun w=>qdz (K w.params)) hn (by decide) hdf hk hY F (fun _ H a ns hl _ hS=>⟨a,ns,H,rfl,⟨.refl _,fun p hp=>(by rw [ht] at hp;cases hp),fun p hp=>(by rw [ht] at hp;cases hp)⟩,hS,hl,fun _=>rfl⟩) fun _ _ _ _ _ z=>z
section
variable{X:Cx}{pos:Pos}{f g:FE}{a b:Expr}
abbrev oLt':=oLt
theorem qls:OpR X (compareOp .Lt) (rD X.K oLt'):=qvx
end
section
variable{X:Cx}{pos:Pos}{f g k:FE}{a b c:Expr}
theorem q8w{pins:List (Addr×Obj)}{σ : St}{H:Hp}{s:Shared}(I:Inv X pins σ H s): sysModules<s.heap.objs.size:=
 g26 (by decide) (I.mod.glob.keeps I.bk).lt
def q8x:D->D->Bool
 | .non,.non=>true
 | .bl a,.bl b=>a==b
 | _,_=>false
def oIs(neg:Bool): D->D->Option D
 | x,.non=>some (.bl (if neg then !q8x x .non else q8x x .non))
 | x,.bl b=>some (.bl (if neg then !q8x x (.bl b) else q8x x (.bl b)))
 | _,_=>none
theorem qw8{M:Model}{A:Around}{E:Value->Shared->Prop}{s:Shared}{Q:Value->Shared->Prop}{v:Value}{c:Bool}(hv:∀id,v ≠ .builtin id)(h:Q (.bool (v == .bool c)) s): wpAny M A (compareOp .Is v (.bool c)) Q E s:=by
 cases v <;> first|exact g9 h|exact absurd rfl (hv _)
theorem qu7{K:Frag}{F:Hp}{d:D}{x:V}{v:Value}(r:Rep K F d x)(rv:RelV x v): ∀id,v ≠ .builtin id:=by
 intro id;cases d with
 | non=>cases rep_non.mp r;cases rv;intro z;cases z
 | bl b=>cases rep_bl.mp r;cases rv;intro z;cases z
 | int i=>cases rep_int.mp r;obtain⟨t,rfl⟩:=rv;intro z;cases z
 | str i=>cases rep_str.mp r;obtain⟨t,rfl⟩:=rv;intro z;cases z
 | tup ds=>obtain⟨p,xs,rfl,_⟩:=rep_tup.mp r;cases rv;intro z;cases z
 | lst ds=>obtain⟨p,xs,rfl,_⟩:=rep_lst.mp r;cases rv;intro z;cases z
 | dct ks vs=>obtain⟨p,xs,rfl,_⟩:=rep_dct.mp r;cases rv;intro z;cases z
 | dtt ks vs=>obtain⟨p,xs,ys,ep,rfl,_⟩:=rep_dtt.mp r;cases rv;intro z;cases z
 | dt2 ks=>obtain⟨p,xs,ep,rfl,_⟩:=rep_dt2.mp r;cases rv;intro z;cases z
 | obj C=>obtain⟨p,dx,_,rfl,_⟩:=rep_obj.mp r;cases rv;intro z;cases z
 | exc C _=>obtain⟨p,_,rfl,_⟩:=rep_exc.mp r;cases rv;intro z;cases z
theorem qof{K:Frag}{F:Hp}{d:D}{x:V}{v:Value}(r:Rep K F d x)(rv:RelV x v): (v==Value.none)=q8x d .non:=by
 cases d with
 | non=>cases rep_non.mp r;cases rv;rfl
 | bl b=>cases rep_bl.mp r;cases rv;rfl
 | int i=>cases rep_int.mp r;obtain⟨t,rfl⟩:=rv;rfl
 | str i=>cases rep_str.mp r;obtain⟨t,rfl⟩:=rv;rfl
 | tup ds=>obtain⟨p,xs,rfl,_⟩:=rep_tup.mp r;cases rv;rfl
 | lst ds=>obtain⟨p,xs,rfl,_⟩:=rep_lst.mp r;cases rv;rfl
 | dct ks vs=>obtain⟨p,xs,rfl,_⟩:=rep_dct.mp r;cases rv;rfl
 | dtt ks vs=>obtain⟨p,xs,ys,ep,rfl,_⟩:=rep_dtt.mp r;cases rv;rfl
 | dt2 ks=>obtain⟨p,xs,ep,rfl,_⟩:=rep_dt2.mp r;cases rv;rfl
 | obj C=>obtain⟨p,dx,_,rfl,_⟩:=rep_obj.mp r;cases rv;rfl
 | exc C _=>obtain⟨p,_,rfl,_⟩:=rep_exc.mp r;cases rv;rfl
theorem qrc{K:Frag}{F:Hp}{d:D}{x:V}{v:Value}{c:Bool}(r:Rep K F d x)(rv:RelV x v): (v==Value.bool c)=q8x d (.bl c):=by
 cases d with
 | non=>cases rep_non.mp r;cases rv;rfl
 | bl b=>cases rep_bl.mp r;cases rv;cases b <;> cases c <;> rfl
 | int i=>cases rep_int.mp r;obtain⟨t,rfl⟩:=rv;rfl
 | str i=>cases rep_str.mp r;obtain⟨t,rfl⟩:=rv;rfl
 | tup ds=>obtain⟨p,xs,rfl,_⟩:=rep_tup.mp r;cases rv;rfl
 | lst ds=>obtain⟨p,xs,rfl,_⟩:=rep_lst.mp r;cases rv;rfl
 | dct ks vs=>obtain⟨p,xs,rfl,_⟩:=rep_dct.mp r;cases rv;rfl
 | dtt ks vs=>obtain⟨p,xs,ys,ep,rfl,_⟩:=rep_dtt.mp r;cases rv;rfl
 | dt2 ks=>obtain⟨p,xs,ep,rfl,_⟩:=rep_dt2.mp r;cases rv;rfl
 | obj C=>obtain⟨p,dx,_,rfl,_⟩:=rep_obj.mp r;cases rv;rfl
 | exc C _=>obtain⟨p,_,rfl,_⟩:=rep_exc.mp r;cases rv;rfl
theorem qj3(_hc:X.calm=true): OpR X (compareOp .Is) (rD X.K (oIs false)):=fun pins s σ H x y v u Q I rx ry ⟨F,d1,d2,d,q1,q2,q3,q4,q5⟩=>by
 cases d2 <;> simp only [oIs] at q4 <;> first|(cases q4;done)|skip
 ·cases rep_non.mp q3
  cases ry;refine is_none_gen ⟨.bl _,H,I,rfl,?_⟩;rw [qof q2 rx];cases q4;exact q5 _ F H (.refl q1) (rep_bl.mpr rfl)
 ·cases rep_bl.mp q3
  cases ry;refine qw8 (qu7 q2 rx) ⟨.bl _,H,I,rfl,?_⟩;rw [qrc q2 rx];cases q4;exact q5 _ F H (.refl q1) (rep_bl.mpr rfl)
end
theorem qc1:fillsNumberSlot (.type "tuple") "mul" = pure false:=
 PySem.fillsNumberSlot_seq (id:="tuple.__mul__") (r:=some (.builtin "tuple.__rmul__")) g2d.lookup (by decide +kernel) F.slot_tuple_rmul.lookup (by decide +kernel)
theorem qj4:seqRepeat? (.type "tuple")=pure (some (.builtin "tuple.__mul__")):=by
 unfold seqRepeat?;rw [PySem.seqSlot_of (T:="tuple") (name:="__mul__") g2d.lookup (by decide +kernel),PySem.seqSlot_of (T:="tuple") (name:="__rmul__") F.slot_tuple_rmul.lookup (by decide +kernel)]
 rfl
theorem qog(i:Int)(t:Tok)(l:Addr)(xs:Array Value)(n:Nat)(dd:Option Addr)(sl:Array (Option Value)):
  Meets (Builtin.«int.__rmul__» ⟨[.int i t,.ref l],[]⟩) (fun _ R s=>s.heap.get? l=some {cls:=.type "tuple",dict:=dd,data:=.seq xs n,slots:=sl}/\R (.ok (.ret Value.notImplemented)) s):=
 .of_wp fun prog w A R s h=>by
  obtain⟨hp,g,d,tk,os⟩:=s;obtain⟨hl,h⟩:=h
  wp_walk
  exact⟨_,rfl,h⟩
theorem qem(i:Int)(t:Tok)(l:Addr)(xs:Array Value)(n:Nat)(dd:Option Addr)(sl:Array (Option Value))(h0:¬(decide (i < -(2 ^ 63)) || decide (i>=2 ^ 63))=true)(h1:(xs.isEmpty || i==1)=true):
  Meets (Builtin.«tuple.__mul__» ⟨[.ref l,.int i t],[]⟩) (fun _ R s=>s.heap.get? l=some {cls:=.type "tuple",dict:=dd,data:=.seq xs n,slots:=sl}/\R (.ok (.ret (.ref l))) s):=
 .of_wp fun prog w A R s h=>by
  obtain⟨hp,g,d,tk,os⟩:=s;obtain⟨hl,h⟩:=h;have f1:=g5f;have f2:=g1d
  wp_walk using uj hl
  refine g3y (gz h0) ?_
  wp_walk using uj hl
  exact⟨_,rfl,h⟩
theorem qen(i:Int)(t:Tok)(l:Addr)(xs:Array Value)(n:Nat)(dd:Option Addr)(sl:Array (Option Value))(h0:¬(decide (i < -(2 ^ 63)) || decide (i>=2 ^ 63))=true)(h1:¬(xs.isEmpty || i==1)=true)(h2:(decide (i<=0) || xs.isEmpty)=true):
  Meets (Builtin.«tuple.__mul__» ⟨[.ref l,.int i t],[]⟩) (fun _ R s=>s.heap.get? l=some {cls:=.type "tuple",dict:=dd,data:=.seq xs n,slots:=sl}/\R (.ok (.ret (.ref s.heap.objs.size))) {s with heap:=s.heap.push {cls:=.type "tuple",data:=.seq #[]} }):=
 .of_wp fun prog w A R s h=>by
  obtain⟨hp,g,d,tk,os⟩:=s;obtain⟨hl,h⟩:=h;have f1:=g5f;have f2:=g1d
  wp_walk using uj hl
  refine g3y (gz h0) ?_
  wp_walk using uj hl
  exact⟨_,rfl,h⟩
theorem qeo(i:Int)(t:Tok)(l:Addr)(xs:Array Value)(n:Nat)(dd:Option Addr)(sl:Array (Option Value))(h0:¬(decide (i < -(2 ^ 63)) || decide (i>=2 ^ 63))=true)(h1:¬(xs.isEmpty || i==1)=true)(h2:¬(decide (i<=0) || xs.isEmpty)=true)
  (h3:¬((xs.size:Int)*i>(2 ^ 63-1) / 8)) (h4:¬Builtin.Tuple.tupleTooMany ((xs.size:Int)*i)=true) (h5:((List.replicate i.toNat xs).foldl (· ++ ·) #[]).size<=sizeLine) :
  Meets (Builtin.«tuple.__mul__» ⟨[.ref l,.int i t],[]⟩) (fun _ R s=>s.heap.get? l=some {cls:=.type "tuple",dict:=dd,data:=.seq xs n,slots:=sl}/\R (.ok (.ret (.ref s.heap.objs.size))) {s with heap:=s.heap.push {cls:=.type "tuple",data:=.seq ((List.replicate i.toNat xs).foldl (· ++ ·) #[])} }):=
 .of_wp fun prog w A R s h=>by
  obtain⟨hp,g,d,tk,os⟩:=s;obtain⟨hl,h⟩:=h;have f1:=g5f;have f2:=g1d
  wp_walk using uj hl
  refine g3y (gz h0) ?_
  wp_walk using uj hl
  refine g3y (gz h3) ?_
  wp_walk using uj hl
  exact⟨_,rfl,h⟩
theorem qep(xs:Array Value): ∀(n:Nat) (acc:Array Value),((List.replicate n xs).foldl (· ++ ·) acc).toList=acc.toList++(List.replicate n xs.toList).flatten
 | 0,acc=>by simp
 | n+1,acc=>by
  rw [g0v,List.foldl_cons,qep xs n (acc++xs),g0v,g21,Array.toList_append,uh]
theorem qd1(xs:List Value)(n:Nat): (List.replicate n xs.toArray).foldl (· ++ ·) #[]=(List.replicate n xs).flatten.toArray:=by
 apply Array.toList_inj.mp;rw [qep];simp
section
variable{prog:Program}{w:World}{A:Around}{E:Value->Shared->Prop}{s:Shared}
theorem qrd{t:Addr}{vs:List Value}{i:Int}{u:Tok}{Q:Value->Shared->Prop}(ht:IsTup s.heap t vs.toArray)(h0 : -(2 ^ 62)<i)(h1:i<2 ^ 62)(hz:vs.length*i.toNat<=1000000)
  (q1:(vs=[]\/i=1)->Q (.ref t) s) (q2:¬(vs=[]\/i=1)->Q (.ref s.heap.objs.size) {s with heap:=s.heap.push {cls:=.type "tuple",data:=.seq (List.replicate i.toNat vs).flatten.toArray} }) :
  wpAny (model prog w) A (binaryOp .Mult (.ref t) (.int i u)) Q E s:=by
 obtain⟨⟨cls,dd,data,sl⟩,ho,hc,n,hd⟩:=id ht;simp only at hc hd;subst hc hd;have ty:s.TypeIs (.ref t) "tuple" :=⟨_,ho,rfl⟩
 have b0:¬(decide (i < -(2 ^ 63)) || decide (i>=2 ^ 63))=true:=by
  simp only [g1n,nk,g6d]
  constructor <;> lia
 refine wpAny_binaryOp_repeat_ref (T:="tuple") (U:="int") (by decide) ty (fun s'=>typeIs_int s' i u) qc1 F.fills_int_mul F.slot_int_rmul qj4 F.slot_int_index.lookup
  (g3v F.slot_int_rmul (typeIs_int s i u) F.entry_int_rmul (F.args_int_rmul_2 _ _) (qog i u t vs.toArray n dd sl) ⟨ho,rfl,ty,?_⟩)
 have em:vs.toArray.isEmpty=true↔vs=[]:=by simp
 by_cases c1:(vs.toArray.isEmpty || i==1)=true
 ·have c1':vs=[]\/i=1:=by simpa using c1
  exact g3v g2d ty g4w (g4f _ _) (qem i u t vs.toArray n dd sl b0 c1) ⟨ho,q1 c1'⟩
 ·have c1':¬(vs=[]\/i=1):=by simpa using c1
  have q:=q2 c1'
  by_cases c2:(decide (i<=0) || vs.toArray.isEmpty)=true
  ·have i0:i<=0:=by
    rcases g1n _ _ ▸ c2 with z|z
    ·exact tf z
    ·exact absurd (.inl (em.mp z)) c1'
   have e:(List.replicate i.toNat vs).flatten.toArray = #[]:=by
    rw [show i.toNat=0 by lia];rfl
   rw [e] at q;exact g3v g2d ty g4w (g4f _ _) (qen i u t vs.toArray n dd sl b0 c1 c2) ⟨ho,q⟩
  ·have c2':0<i:=by
    have:¬i<=0:=fun z=>c2 (by rw [gq z];rfl);lia
   have ei:(vs.toArray.size:Int)*i=((vs.length*i.toNat:Nat):Int):=by
    rw [Int.natCast_mul,g1i (by lia),gm]
   have el:(List.replicate i.toNat vs).flatten.length=vs.length*i.toNat:=by
    rw [List.length_flatten,List.map_replicate,g63,g6l]
   rw [<- qd1] at q;refine g3v g2d ty g4w (g4f _ _) (qeo i u t vs.toArray n dd sl b0 c1 c2 ?_ ?_ ?_) ⟨ho,q⟩
   ·rw [ei];lia
   ·rw [ei]
    unfold Builtin.Tuple.tupleTooMany;have:sizeLine=16777216:=g1v;rw [this,nk];lia
   ·rw [qd1,gm,el]
    exact jo hz
end
section
variable{X:Cx}
def qoh:D->D->Option D
 | .tup xs,.int n=>if decide (-(2 ^ 62)<n)&&decide (n<2 ^ 62)&&decide (xs.length*n.toNat<=lim) then some (.tup (List.replicate n.toNat xs).flatten) else none
 | _,_=>none
theorem qeq{xs:List V}{us:List Value}(r:Vals xs us): ∀n:Nat,Vals (List.replicate n xs).flatten (List.replicate n us).flatten
 | 0=>.nil
 | n+1=>by rw [g0v,g0v,g21,g21];exact r.append (qeq r n)
theorem qer{K:Frag}{H:Hp}{ds:List D}{xs:List V}(r:RepL K H ds xs): ∀n:Nat,RepL K H (List.replicate n ds).flatten (List.replicate n xs).flatten
 | 0=>.nil
 | n+1=>by rw [g0v,g0v,g21,g21];exact r.append (qer r n)
theorem qu8:OpR X (binaryOp .Mult) (rD X.K qoh):=fun pins s σ H x y v u Q I rx ry ⟨F,d1,d2,d,q1,q2,q3,q4,q5⟩=>by
 unfold qoh at q4
 split at q4
 ·rename_i ds n
  split at q4
  ·rename_i hc
   cases q4;simp only [mf,nk] at hc;obtain⟨⟨c1,c2⟩,c3⟩:=hc;obtain⟨p,xs,rfl,z1,z2⟩:=rep_tup.mp q2;cases rep_int.mp q3;cases rx;obtain⟨t,rfl⟩:=ry;obtain⟨its,r1,p1,hz⟩:=I.tuple (qq q1 z1);have lx:=r1.length;have ld:=z2.length;refine qrd p1 c1 c2 (by rw [<- lx, <- ld];exact c3) (fun hq=>?_) fun hq=>?_
   ·have e:(List.replicate n.toNat ds).flatten=ds:=by
     rcases hq with z|z
     ·have:ds=[]:=g5s.mp (by rw [ld,lx,z];rfl)
      subst this;simp
     ·subst z;simp [List.replicate]
    rw [e] at q5;exact⟨.ref p,H,I,rfl,q5 _ F H (.refl q1) q2⟩
   ·have hn:H s.heap.objs.size=none:=I.hok.fresh (gw _)
    have rr:=qeq r1 n.toNat;have el:(List.replicate n.toNat xs).flatten.length=ds.length*n.toNat:=by
     rw [List.length_flatten,List.map_replicate,g63,g6l,ld]
    refine⟨.ref s.heap.objs.size,_,I.laid (t':=s.toks) (o:=.tup (List.replicate n.toNat xs).flatten) (fun b ob q=>gc _ q) (gw _) ⟨by rw [el];exact jo c3,_,rr,TupX.new _ _⟩,rfl,?_⟩;have gn:=Grow.new (o:=.tup (List.replicate n.toNat xs).flatten) q1 hn;exact q5 _ _ _ gn (rep_tup.mpr ⟨_,_,rfl,SqT.of zg,(qer z2 n.toNat).mono gn.ff⟩)
  ·cases q4
 ·cases q4
def zt:D->D->Option D:=fun x y=>(oMul x y).or (qoh x y)
theorem je:OpR X (binaryOp .Mult) (rD X.K zt):=qaq qto qu8
end
section
variable{prog:Program}{w:World}{A:Around}{E:Value->Shared->Prop}{s:Shared}
end
section
variable{X:Cx}{pos:Pos}{elts:List Expr}{x1:Nat}{tp:Pos}
end
section
variable{X:Cx}{st:Stmt}
def qb0:FS:=fun _=>none
theorem q9v:PS X st (tDS X.K qb0):=fun pins s σ H D I ⟨F0,H0,F, ρ,fl, ρ',r,hf,q⟩=>by cases hf
abbrev oBand:=oI (fun _ _=>true) fun i j=>Builtin.bitAnd i j
abbrev oBor:=oI (fun _ _=>true) fun i j=>Builtin.bitOr i j
theorem q45:OpR X (binaryOp .BitAnd) (rD X.K oBand):=qar qt9
theorem q1r:OpR X (binaryOp .BitOr) (rD X.K oBor):=qar qvk
theorem q82:∀ {l m:List Int},l.Perm m->l.Pairwise (· <= ·)->m.Pairwise (· <= ·)->l=m
 | [],m,p,_,_=>(p.nil_eq).symm ▸ rfl
 | x :: l,[],p,_,_=>by cases p.length_eq
 | x :: l,y :: m,p,.cons h1 h2,.cons k1 k2=>by
  have e:x=y:=by
   have hx:x∈y :: m:=p.mem_iff.mp gi;have hy:y∈x :: l:=p.mem_iff.mpr gi;rcases mh.mp hx with e|hx
   ·exact e
   ·rcases mh.mp hy with e|hy
    ·exact e.symm
    ·exact Int.le_antisymm (h1 y hy) (k1 x hx)
  subst e;rw [q82 (List.perm_cons _ |>.mp p) h2 k2]
theorem q2z:∀ {us:List Value} {ns:List Int},IntsAre us ns->Vals (ns.map V.int) us
 | _,_,.nil=>.nil
 | _,_,.cons n t h=>.cons ⟨t,rfl⟩ (q2z h)
theorem boot_sorted:bootBuiltins "sorted" = some (.builtin "sorted"):=by decide +kernel
end
end DL
namespace Srt
end Srt
namespace DL
open PySem PySem.Spec PyProof.Rows L2 Srt PySem.W
variable[Lam][Pin]
set_option maxRecDepth 8000 in
omit [Lam] [Pin] in
theorem qoi(l:Addr)(items:Array Value)(n:Nat)(b:Addr)(items2:Array Value)(n2:Nat)(sl:Array (Option Value))(hc0:¬(!items.isEmpty&&Builtin.List.listTooLong (items.size+items2.size))=true)(hc1:items.size<=sizeLine)(hs2:items.size+items2.size<=sizeLine+1):
  Meets (Builtin.«list.extend» ⟨[.ref l,.ref b],[]⟩) (fun _ R s=>s.heap.get? l=some {cls:=.type "list",dict:=none,data:=.seq items n,slots:= #[]}/\s.heap.get? b=some {cls:=.type "list",dict:=none,data:=.seq items2 n2,slots:=sl} /\
   R (.ok (.ret Value.none)) {s with heap:=s.heap.update l (Obj.mapSeq fun x=>x++items2),toks:=s.toks}):=
 .of_wp fun prog w A R s h=>by
  obtain⟨hp,g,d,tk,os⟩:=s;obtain⟨hl,hb,h⟩:=h;have hz':(items++items2).size<=sizeLine+1:=by rw [Array.size_append];exact hs2
  have f3:=sub_list_list
  wp_walk using(g5x hl rfl (hz:=hc1) (_hz':=hz')),g2l hl,g2l hb
  exact⟨_,rfl,h⟩
section
variable{X:Cx}
omit [Lam] [Pin] in
theorem qre:MtM X "list.extend" (fun x vs H Q=>∃l b xs zs,x=.ref l/\vs=[.ref b]/\H l=some (.lst xs)/\SqL X.K H b zs/\xs.length+zs.length<=sizeLine/\Q .non (upd H l (.lst (xs++zs)))):=by
 intro pins s σ H x vs v us Q I rx rv h;obtain⟨l,b,xs,zs,rfl,rfl,hH,hB,hz,q⟩:=h;cases rx;obtain⟨u,rfl,ru⟩:=rv.one;cases ru;obtain⟨z,its,n,r,hl,e⟩:=I.lstM hH;obtain⟨its2,r2,⟨o,n2,e2,c1,c2,c3⟩,hl2⟩:=I.list hB;obtain⟨oc,od,oda,osl⟩:=o;dsimp only at c1 c2 c3;subst c1 c2 c3;have hl1:=r.length;have hl3:=r2.length;have hsz:its.toArray.size+its2.toArray.size<=sizeLine:=by rw [gm,gm];lia
 have hlong:¬(!its.toArray.isEmpty&&Builtin.List.listTooLong (its.toArray.size+its2.toArray.size))=true:=by
  rw [qnr hsz,Bool.and_false];exact m9
 refine g3v F.slot_list_extend ⟨_,e,rfl⟩ F.entry_list_extend (F.args_list_extend_2 _ _)
  (qoi l its.toArray n b its2.toArray n2 osl hlong (by rw [gm];lia) (by lia)) ⟨e,e2,?_⟩
 refine⟨.non,_,I.lset (its':=its++its2) hH e (by simp) (r.append r2) ?_,rfl,q⟩;rw [mw];lia
def qc2(i:Nat)(f:FE): FS:=fun ρ =>(q7x i ρ).bind fun ds=>(f ρ).bind fun d=>match d with
 | .lst es=>if ds.length+es.length<=lim then some (.nx, ρ.set i (some (.ow (ds++es)))) else none
 | _=>none
theorem qlt{i:Nat}{x:Str}{e:Expr}{f:FE}{px apos cpos pos:Pos}(hv:PE X (.Name x px) (q9p i))(he:PE X e (tD X.K f))
  (hbase:attributeBase (.Name x px) "extend" X.env (eval (.Name x px) X.env)=eval (.Name x px) X.env:=by rfl)
  (hfew:((backTo cpos (starEach [e] X.env)).all (fun x=> !x.1)&&(backToKw cpos (keywordEach [] X.env)).all (fun x=>x.1.isSome)&&decide ([e].length+([]:List Keyword).length+(if([]:List Keyword).isEmpty then 0 else 1)<30))=true:=by rfl)
  (hline:(apos.endLine==cpos.line)=true:=by rfl) (hse:starEach [e] X.env=(false,eval e X.env) :: starEach [] X.env:=by rfl)
  (hs:swapsWith (.Call (.Attribute (.Name x px) "extend" apos) [e] [] cpos) none pos.line X.env=pure false:=by rfl):PS X (.Expr (.Call (.Attribute (.Name x px) "extend" apos) [e] [] cpos) pos) (tDS X.K (qc2 i f)):=
 q0k (qhn (qq7 g5r PySem.F.slot_list_extend PySem.F.type_list_extend qre hv (q1e he q47 hse) hbase hfew hline hse rfl) hs) fun D σ H ⟨F0,H0,F, ρ,fl, ρ',r,hf,q⟩=>by
  obtain⟨ds,h1,hf⟩:=gb.mp hf;obtain⟨d,h2,h3⟩:=gb.mp hf;have h1:=qcx h1;cases d <;> simp only at h3 <;> first|(cases h3;done)|skip
  rename_i es
  split at h3
  ·rename_i hl
   cases h3;obtain⟨a,xs,e1,e2,e3,e4,e5⟩:=r.ow i ds h1;refine⟨.ref a,e1,.inl ⟨rfl,xs,SqL.of e2⟩,F0,H0,F, ρ,_,r,h2,fun v F' H' g' r'=>?_⟩;have r2:=r.grow g';obtain⟨b,zs,rfl,k1,k2⟩:=rep_lst.mp r';refine⟨a,b,xs,zs,rfl,rfl,g'.hh.lst _ _ e2,g'.fh.seq k1,mm (by rw [<- e5.length, <- k2.length];exact hl) (by decide),?_⟩;exact q _ F' _ g'.ff (r2.wrt h1 e1 ((e5.mono g'.ff).append k2))
  ·cases h3
end
end DL
namespace DL
open PySem PySem.Spec PyProof.Rows L2
variable[Lam][Pin]
section
variable{X:Cx}
abbrev oDivB:=oI (fun _ j=>decide (0<j)&&decide (j<1606938044258990275541962092341162602522202993782792835301376)) fun i j=>i / j
theorem qoj:OpR X (binaryOp .FloorDiv) (rI (fun _ j=>0<j/\j<1606938044258990275541962092341162602522202993782792835301376) fun i j=>.int (i / j)):=opI fun i j _ _ _ _ _ hc q=>by
 have h1:(0:Int)<j:=hc.1;have h2:j<1606938044258990275541962092341162602522202993782792835301376:=hc.2;refine floordiv_int (by lia) (by rw [g2h i (by lia)];exact q) (.inl (PyProof.noPylong_of_log2 ?_));have h3:j.natAbs<2 ^ 200:=by lia
 exact m5 ((Nat.log2_lt (by lia)).mpr h3) (by decide)
theorem q46:OpR X (binaryOp .FloorDiv) (rD X.K oDivB):=q6r qoj fun i j h=>q1g h
end
end DL
namespace DL
open PySem PySem.Spec PyProof.Rows L2
section
variable{prog:Program}{w:World}{A:Around}{E:Value->Shared->Prop}
end
variable[Lam][Pin]
section
variable{X:Cx}{es:List Expr}{pos:Pos}
end
end DL
namespace DL
open PySem PySem.Spec PyProof.Rows L2
variable[Lam][Pin]
section
variable{X:Cx}{pins:List (Addr×Obj)}{σ : St}{F H:Hp}{s:Shared}
theorem qb1(I:Inv X pins σ H s)(fh:Same F H)(A:Around): ∀ {ds es:List D} {xs ys:List V} {us vs:List Value},vt ds es=true->A.units+y9 ds<cLine->RepL X.K F ds xs->RepL X.K F es ys->Vals xs us->Vals ys vs ->
   ∀j (h1:j<us.length) (h2:j<vs.length),SeqAt.EqAt A s us[j] vs[j] (eqJ ds es j)
 | [],es,xs,ys,us,vs,_,_,k1,_,w1,_,j,h1,_=>by
  cases k1.nil_inv;cases w1;exact absurd h1 (nv _)
 | d :: ds,es,xs,ys,us,vs,ho,hd,k1,k2,w1,w2,j,h1,h2=>by
  obtain⟨x,r,rfl,a1,a2⟩:=k1.cons_inv;cases w1 with
  | cons p1 p2=>
   cases es with
   | nil=>cases k2.nil_inv;cases w2;exact absurd h2 (nv _)
   | cons e es=>
    obtain⟨y,r',rfl,b1,b2⟩:=k2.cons_inv;cases w2 with
    | cons p3 p4=>
     simp only [vt,mf] at ho;simp only [y9] at hd;cases j with
     | zero=>
      have e0:eqJ (d :: ds) (e :: es) 0=eqD d e:=by simp [eqJ]
      rw [e0];exact qaz I fh A ho.1 (by lia) a1 b1 p1 p3
     | succ j=>
      have e0:eqJ (d :: ds) (e :: es) (j+1)=eqJ ds es j:=by simp [eqJ]
      rw [e0];exact qb1 I fh A ho.2 (by lia) a2 b2 p2 p4 j (by simpa using h1) (by simpa using h2)
def q9w:D->D->Option D
 | .tup ds,.tup es=>if vt ds es&&decide (y9 ds<=60) then some (.bl (!eqL ds es)) else none
 | _,_=>none
theorem qu9(hu:X.A.units+64<cLine): OpR X (compareOp .NotEq) (rD X.K q9w):=by
 intro pins s σ H x y v u Q I rx ry h;obtain⟨F,d1,d2,d,fh,r1,r2,ho,q⟩:=h;unfold q9w at ho
 split at ho
 ·rename_i ds es
  split at ho
  ·rename_i hc
   cases ho;rw [mf] at hc;obtain⟨a,xs,rfl,k1,k2⟩:=rep_tup.mp r1;obtain⟨b,ys,rfl,k3,k4⟩:=rep_tup.mp r2;cases rx;cases ry;obtain⟨i1,v1,t1,_⟩:=I.tuple (qq fh k1);obtain⟨i2,v2,t2,_⟩:=I.tuple (qq fh k3);have hq:=qb1 I fh X.A.in1 hc.1 (by have:=tf hc.2;show X.A.units+1+y9 ds<cLine;lia) k2 k4 v1 v2;have:=SeqAt.RcNeAt.tuples (A:=X.A) (e:=eqJ ds es) (show s.heap.IsTuple a i1.toArray from t1) (show s.heap.IsTuple b i2.toArray from t2) (by lia) (fun j h1 h2=>by simpa using hq j (by simpa using h1) (by simpa using h2));simp only [gm, <- v1.length, <- v2.length, <- k2.length, <- k4.length,k7] at this;exact this X.prog X.w _ _ ⟨.bl _,H,I,rfl,q _ F H (.refl fh) (rep_bl.mpr rfl)⟩
  ·cases ho
 ·cases ho
abbrev q6x:D->D->Option D:=fun x y=>(q4b x y).or (q9w x y)
theorem qlu(hu:X.A.units+64<cLine): OpR X (compareOp .NotEq) (rD X.K q6x):=qaq q4c (qu9 hu)
end
end DL
namespace Srt
end Srt
namespace DL
open PySem PySem.Spec PyProof.Rows L2 Srt PySem.W
variable[Lam][Pin]
structure ClsOk(K:Frag)(x:Str)(C:Addr): Prop where
 ns:PySem.W.nsIn K mainGlobals x=some (some (.ref C))
 makes:PySem.W.makesIn K C=true
 init:PySem.W.findIn K (.ref C) "__init__" = some (some (.builtin "object.__init__"))
 kp:PySem.W.keepIn K (.ref C)=true
 cls:Cls K C
 n:qo1 K C
structure CalM(P:Program)(w:World)(K:Frag)(mg:Str->Option Value)(base:Heap)(x m:Str)(C:Addr)(k:Nat)(ps:List Str)(ar:Nat)(op:List D->Option D)(fn:Addr)(fd:FuncData): Prop where
 ok:FnOk P w K mg base CX0 k fn fd ps (spD K ar op)
 me:Meth K C m fn
theorem qlv{K:Frag}{C:Addr}{T:String}(hm:PySem.W.kitMeta T=true)(h:PySem.W.subIn K (.ref C) (.type T)=some false): PySem.W.kitOne K (.ref C) (.type T)=some false:=by
 unfold PySem.W.kitOne PySem.W.kitCls;rw [ma (fun z=>by have:=eq_of_beq z;cases this)];dsimp only;rw [m8 hm];exact h
theorem qrf{K:Frag}{C:Addr}(h1:PySem.W.subIn K (.ref C) (.type "int")=some false)(h2:PySem.W.subIn K (.ref C) (.type "bool")=some false)(h3:PySem.W.subIn K (.ref C) (.type "tuple")=some false)
  (h4:PySem.W.subIn K (.ref C) (.type "list")=some false) (h5:PySem.W.subIn K (.ref C) (.type "str")=some false) (h6:PySem.W.subIn K (.ref C) (.type "dict")=some false) :
  ∀T:String,T∈["int","bool","tuple","list","str","dict"]->PySem.W.kitOne K (.ref C) (.type T)=some false:=by
 intro T hT;simp only [mh,ux,g2c] at hT;rcases hT with rfl|rfl|rfl|rfl|rfl|rfl <;> exact qlv (by decide +kernel) (by assumption)
section
variable{X:Cx}{pins:List (Addr×Obj)}{σ : St}{F H:Hp}{s:Shared}
theorem qlw{C:Addr}{Q:VK}(makes:PySem.W.makesIn X.K C=true)(init:PySem.W.findIn X.K (.ref C) "__init__" = some (some (.builtin "object.__init__")))(I:Inv X pins σ H s)
  (h:Q (.ref (s.heap.objs.size+1)) (upd (upd H s.heap.objs.size (.own (s.heap.objs.size+1))) (s.heap.objs.size+1) (.ins C s.heap.objs.size []))):wpAny (model X.prog X.w) X.A (call (.ref C) []) (EP X pins σ Q) X.xe s:=by
 have I2:=Inv.made (C:=C) I;have kin:=I.kIn;obtain⟨hh,g,d,t,os⟩:=s;have Y:=makes_of (M:=model X.prog X.w) kin makes;refine g52 (make_core Y (looks_findIn kin init) (fun self=>Looks.of_pure (oi_bind self)) (.inr ⟨rfl,rfl⟩) ?_);have hx:((hh.push emptyDict).push (instObj C hh.objs.size)).get? (hh.objs.size+1)=some (instObj C hh.objs.size):=by
  have:hh.objs.size+1=(hh.push emptyDict).objs.size:=(g37 _ _).symm;rw [this];exact gr _ rfl
 have t1:Looks (model X.prog X.w) ((hh.push emptyDict).push (instObj C hh.objs.size)) (typeOf (.ref (hh.objs.size+1))) (.ref C):=(Looks.ld hx).andThen .now;have t2:Looks (model X.prog X.w) ((hh.push emptyDict).push (instObj C hh.objs.size)) (isInstance (.ref (hh.objs.size+1)) (.type "object")) true:=t1.andThen (Y.top.keeps fun b o e=>gc _ (gc _ e));refine g2b oi_plain entry_oi (@check_slot (model X.prog X.w) _ _ _ "object.__init__" "object" "__init__" (.ref (hh.objs.size+1)) [] [] _ oi_kind oi_split t2 (oi_args (.ref (hh.objs.size+1))) ?_);rw [oi_run];exact g9 (And.intro rfl ⟨V.ref (hh.objs.size+1),_,I2,rfl,h⟩)
theorem qua{x:Str}{C:Addr}{p pos:Pos}(O:ClsOk X.K x C)(hm:X.mg x=some (.ref C))(hg:Gl X x)(hdb:(x==("__debug__" : Str))=false:=by decide): PE X (.Call (.Name x p) [] [] pos) (tD X.K (eC (.obj x))):=by
 intro pins s σ H Q I h;obtain⟨F0,H0,F, ρ,d,r,hf,q⟩:=h;cases hf;refine g2s (qbs I hg hm ?_ hdb);refine PySem.W.callWith_K0 I.kIn O.kp (qlw O.makes O.init I ?_);have n0:H s.heap.objs.size=none:=I.hok.fresh (gw _);have n1:H (s.heap.objs.size+1)=none:=I.hok.fresh (g1w _);have fh:=r.fh;have g1:Grow F H F (upd H s.heap.objs.size (.own (s.heap.objs.size+1))):=Grow.own fh n0;have n1':upd H s.heap.objs.size (.own (s.heap.objs.size+1)) (s.heap.objs.size+1)=none:=by rw [z6 (u9 (ph _))];exact n1
 have g2:=Grow.new (o:=.ins C s.heap.objs.size []) g1.fh n1';exact q _ _ _ (g1.trans g2) (rep_obj.mpr ⟨s.heap.objs.size+1,s.heap.objs.size,C,rfl,zg,O.ns,O.n⟩)
def isO(x:Str): D->Bool
 | .obj y=>x==y
 | _=>false
def qc3(x:Str)(ar:Nat)(op:List D->Option D)(g:FE)(fa:FA): FE:=fun ρ =>(g ρ).bind fun d=>(fa ρ).bind fun ds=>if isO x d then qt ar [] op (d :: ds) else none
theorem qlx{x m:Str}{C:Addr}{o e:Expr}{es:List Expr}{apos pos:Pos}{k k' ar:Nat}{fn:Addr}{fd:FuncData}{ps:List Str}{op:List D->Option D}{g:FE}{fa:FA}{pl:Sem Bool}(O:ClsOk X.K x C)
  (M:CalM X.prog X.w X.K X.mg X.base x m C k ps ar op fn fd) (b:Binds X.K fd ps []) (hr:Room k' X.A) (hk:k<=k') (ho:PE X o (tD X.K g)) (ha:PA X (e :: es) (tDA X.K fa))
  (hst:starEach (e :: es) X.env=(false,eval e X.env) :: starEach es X.env:=by rfl) (hpl:(backTo pos (starEach es X.env)).any (·.1)=false:=by rfl)
  (ht:eval (.Call (.Attribute o m apos) (e :: es) [] pos) X.env=(do
   let ov <- eval o X.env
   standAt apos.atName
   let(f,first) <- holding [ov] (getMethod ov m pl)
   callWith pos f first (backTo pos (starEach (e :: es) X.env)) (backToKw pos (keywordEach [] X.env))):=by rfl) :
  PE X (.Call (.Attribute o m apos) (e :: es) [] pos) (tD X.K (qc3 x ar op g fa)):=
 ju (qqv (pl:=pl) ho O.cls M.me M.ok (hr.mono hk) b .nil qq8 ha hst hpl ht) fun σ H Q ⟨F0,H0,F, ρ,d,r,hf,q⟩=>by
  obtain⟨d1,h1,hf⟩:=gb.mp hf;obtain⟨ds,h2,hf⟩:=gb.mp hf
  split at hf
  ·rename_i hi
   obtain rfl:d1=.obj x:=by
    cases d1 <;> simp only [isO] at hi <;> first|(cases hi;done)|skip
    rw [(by simpa using hi:x=_)]
   refine⟨F0,H0,F, ρ,.obj x,r,h1,fun v F1 H1 g1 r1=>?_⟩;obtain⟨a,dx,C',rfl,e1,e2,e3⟩:=rep_obj.mp r1;have hC:C'=C:=by
    have:=e2.symm.trans O.ns;cases this;rfl
   subst hC;refine⟨a,dx,[],rfl,g1.fh _ _ e1,rfl,F0,H0,F1, ρ,ds,r.grow g1,h2,fun vs F2 H2 g2 r2=>?_⟩;unfold qt at hf
   split at hf
   ·rename_i hl
    refine⟨F2,(.obj x :: ds)++[],d,r.sameT (g1.trans g2),(RepL.cons (r1.mono g2.ff) r2).append .nil,hl,hf,fun v F3 H3 g3 r3=>q v F3 H3 (g1.trans (g2.trans g3)) r3⟩
   ·cases hf
  ·cases hf
end
end DL
namespace Js
open PySem
theorem qj5(A B:List Nat)(j:Nat)(hA:∀x∈A,x<j)(hB:∀x∈B,j<=x): ∀fuel lo hi,lo<=A.length->A.length<=hi->hi<=A.length+B.length->hi-lo<=fuel ->
  SetTable.below.go (A++B).toArray j fuel lo hi=A.length
 | 0,lo,hi,h1,h2,_,h3=>by unfold SetTable.below.go;lia
 | fuel+1,lo,hi,h1,h2,h4,h3=>by
  unfold SetTable.below.go
  by_cases c:lo<hi
  ·rw [m8 c]
   show(if(A++B).toArray.getD ((lo+hi) / 2) j<j then _ else _)=_;have hm:(lo+hi) / 2<hi:=by lia
   have hm2:lo<=(lo+hi) / 2:=by lia
   by_cases d:(lo+hi) / 2<A.length
   ·have e:(A++B).toArray.getD ((lo+hi) / 2) j=A[(lo+hi) / 2]:=by
     simp [Array.getD,g5g d];lia
    rw [e,m8 (hA _ (g2e d))];exact qj5 A B j hA hB fuel _ _ (by lia) h2 h4 (by lia)
   ·have hb:(lo+hi) / 2-A.length<B.length:=by lia
    have e:(A++B).toArray.getD ((lo+hi) / 2) j=B[(lo+hi) / 2-A.length]:=by
     have hlt:(lo+hi) / 2<A.length+B.length:=by lia
     simp [Array.getD,g54 (Nat.le_of_not_lt d),hlt]
    rw [e,ma (Nat.not_lt.mpr (hB _ (g2e hb)))];exact qj5 A B j hA hB fuel _ _ h1 (by lia) (by lia) (by lia)
  ·rw [ma c];lia
theorem below_at{A B:List Nat}{j:Nat}(hA:∀x∈A,x<j)(hB:∀x∈B,j<=x): SetTable.below (A++B).toArray j=A.length:=by
 unfold SetTable.below;exact qj5 A B j hA hB _ 0 _ (g08 _) (by simp) (by simp) (by simp)
theorem cut(j:Nat): ∀l:List Nat,l.Pairwise (· < ·)->∃A B,l=A++B/\(∀x∈A,x<j)/\(∀x∈B,j<=x)
 | [],_=>⟨[],[],rfl,by simp,by simp⟩
 | x :: l,h=>by
  by_cases c:x<j
  ·obtain⟨A,B,e,a,b⟩:=cut j l (g1p.mp h).2
   exact⟨x :: A,B,by rw [e];rfl,by intro y hy;rcases mh.mp hy with rfl|hy;exact c;exact a y hy,b⟩
  ·exact⟨[],x :: l,rfl,by simp,by
    intro y hy;rcases mh.mp hy with rfl|hy
    ·lia
    ·have:=(g1p.mp h).1 y hy;lia⟩
theorem q9i{α : Type}(A B:List α)(x : α): SetTable.insertAt (A++B).toArray A.length x=(A++x :: B).toArray:=by
 unfold SetTable.insertAt;apply Array.ext';simp
theorem has_none(j:Nat): SetTable.has #[] j=false:=by unfold SetTable.has;simp
theorem qes{t:SetTable}{l:List Nat}{j:Nat}(ep:t.place=l.toArray)(ed:t.dummies = #[])(hr:l.Pairwise (· < ·))(h:j∉l): t.slot j=.empty:=by
 obtain⟨A,B,rfl,hA,hB⟩:=cut j l hr;unfold SetTable.slot;rw [ep,ed,below_at hA hB,has_none];have:((A++B).toArray[A.length]? == some j)=false:=by
  cases B with
  | nil=>simp
  | cons b B=>
   have:b≠j:=fun e=>h (by simp [e]);simp [this]
 simp only [this];rfl
theorem qrg{t:SetTable}{l:List Nat}{j:Nat}(ep:t.place=l.toArray)(ed:t.dummies = #[])(hr:l.Pairwise (· < ·))(h:j∈l): ∃i,t.slot j=.live i:=by
 obtain⟨A,B,rfl,hA,hB⟩:=cut j l hr;unfold SetTable.slot;rw [ep,below_at hA hB];have:((A++B).toArray[A.length]? == some j)=true:=by
  rcases u6.mp h with h|h
  ·have:=hA j h;lia
  ·cases B with
   | nil=>simp at h
   | cons b B=>
    have hb:=hB b (gi ..);have:b=j:=by
     rcases mh.mp h with rfl|h
     ·rfl
     ·have:=(g1p.mp (g2f.mp hr).2.1).1 j h;lia
    simp [this]
 simp only [this, ↓reduceIte];exact⟨_,rfl⟩
def orb:Nat->Nat->Nat
 | 0,i=>i
 | d+1,i=>orb d ((i*5+1)%8)
theorem qrh:∀i<8,∀j<8,∃d<8,orb d i=j:=by decide
theorem qxe{t:SetTable}(hm:t.mask=7){i pt:Nat}(hp:pt<32)(hi:i<8): t.advance {j:=i,more:=0,i:=i,perturb:=pt,dummy:=none} = {j:=(i*5+1)%8,more:=0,i:=(i*5+1)%8,perturb:=0,dummy:=none}:=by
 have e0:pt / 32=0:=by lia
 have e1:SetTable.runEnd 7 ((i*5+1)%8)=(i*5+1)%8:=by unfold SetTable.runEnd;rw [ma (by lia)]
 unfold SetTable.advance;rw [ma (by simp),hm];unfold SetTable.leap;simp only [e0,g5h];show({j:=(i*5+1)%8,more:=SetTable.runEnd 7 ((i*5+1)%8)-(i*5+1)%8,i:=(i*5+1)%8,perturb:=0,dummy:=none}:SetTable.Probe)=_;rw [e1,Nat.sub_self]
theorem go7{t:SetTable}{l:List Nat}{h:Int}(ep:t.place=l.toArray)(ed:t.dummies = #[])(hr:l.Pairwise (· < ·))(hm:t.mask=7): ∀(k:Nat) (i pt:Nat),pt<32->i<8->(∃d<k,orb d i∉l) ->
  ∃j,SetTable.probe.go t (fun _=>h+1) h k {j:=i,more:=0,i:=i,perturb:=pt,dummy:=none}=some (.empty j none)/\j∉l/\j<8
 | 0,i,pt,_,_,⟨d,hd,_⟩=>by lia
 | k+1,i,pt,hp,hi,⟨d,hd,hn⟩=>by
  unfold SetTable.probe.go
  by_cases c:i∈l
  ·obtain⟨x,e⟩:=qrg ep ed hr c
   have hne:(h+1==h)=false:=by simp;lia
   simp only [e,hne,m6, ↓reduceIte];rw [qxe hm hp hi];refine go7 ep ed hr hm k _ 0 (by lia) (g3z _ (by lia)) ?_;cases d with
   | zero=>exact absurd c hn
   | succ d=>exact⟨d,by lia,hn⟩
  ·simp only [qes ep ed hr c]
   exact⟨i,rfl,c,hi⟩
theorem q9x{α : Type}[DecidableEq α]: ∀ {a l:List α},a.Nodup->a ⊆ l->a.length<=l.length
 | [],_,_,_=>by simp
 | x :: a,l,hn,hs=>by
  have hx:x∈l:=hs (gi ..);have h2:a ⊆ l.erase x:=fun y hy=>(List.mem_erase_of_ne (fun e:y=x=>(uk.mp hn).1 (e ▸ hy))).mpr (hs (gj _ hy));have:=q9x (uk.mp hn).2 h2;rw [List.length_erase_of_mem hx] at this;have:0<l.length:=List.length_pos_of_mem hx;simp only [n8];lia
theorem qj6:∀(l:List Nat),(∀j<8,j∈l)->8<=l.length:=by
 intro l h;have:(List.range 8) ⊆ l:=fun j hj=>h j (tw.mp hj);have h2:=q9x g3l this
 simpa using h2
theorem qw9{t:SetTable}{l:List Nat}{n:Nat}(ep:t.place=l.toArray)(ed:t.dummies = #[])(hr:l.Pairwise (· < ·))(hm:t.mask=7)(hl:l.length<8)(hn:n<12):
  ∃j,t.freeSlot (n:Int)=some (j,false)/\j∉l/\j<8:=by
 have hb:SetTable.bits (n:Int)=n:=by unfold SetTable.bits;lia
 have hi:n%8<8:=g3z _ (by lia);have hex:∃d<10*SetTable.turns t.mask,orb d (n%8)∉l:=by
  have:∃j,j<8/\j∉l:=g0j fun c=>by
   have:=qj6 l (fun j hj=>g0j fun d=>c ⟨j,hj,d⟩);lia
  obtain⟨j,hj,hnj⟩:=this;obtain⟨d,hd,e⟩:=qrh _ hi j hj;refine⟨d,?_,by rw [e];exact hnj⟩;rw [hm];unfold SetTable.turns;lia
 have hst:t.probeStart (n:Int) = {j:=n%8,more:=0,i:=n%8,perturb:=n,dummy:=none}:=by
  unfold SetTable.probeStart;rw [hb,hm];have e1:SetTable.runEnd 7 (n%(7+1))=n%8:=by unfold SetTable.runEnd;rw [ma (by lia)]
  simp only [e1];simp
 obtain⟨j,e,h1,h2⟩:=go7 (h:=(n:Int)) ep ed hr hm (10*SetTable.turns t.mask) (n%8) n (by lia) hi hex;refine⟨j,?_,h1,h2⟩;unfold SetTable.freeSlot SetTable.probe;rw [hst,e]
 rfl
theorem qub{t:SetTable}{l:List Nat}{n:Nat}(ep:t.place=l.toArray)(ed:t.dummies = #[])(hr:l.Pairwise (· < ·))(hm:15<=t.mask)(hn:n<12)(hnl:n∉l):
  t.freeSlot (n:Int)=some (n,false):=by
 have hb:SetTable.bits (n:Int)=n:=by unfold SetTable.bits;lia
 have hmod:n%(t.mask+1)=n:=Nat.mod_eq_of_lt (by lia);unfold SetTable.freeSlot SetTable.probe SetTable.probeStart;rw [hb];simp only [hmod];have:10*SetTable.turns t.mask=(10*SetTable.turns t.mask-1)+1:=by unfold SetTable.turns;lia
 rw [this];unfold SetTable.probe.go;simp only [qes ep ed hr hnl]
 rfl
def el(p:Nat×Nat): Int×Value:=((p.1:Int),.int (p.1:Int) p.2)
structure Tb(t:SetTable)(ks:List (Nat×Nat)): Prop where
 dm:t.dummies = #[]
 pl:t.plain=true
 nd:(ks.map Prod.fst).Nodup
 lt:∀p∈ks,p.1<12
 sz:t.place.toList.length=ks.length
 rs:t.place.toList.Pairwise (· < ·)
 mz:(t.mask=7/\(∀p∈t.place.toList,p<8))\/((t.mask=15\/t.mask=31\/t.mask=63)/\t.place.toList=ks.map Prod.fst)
theorem Tb.n12{t:SetTable}{ks:List (Nat×Nat)}(T:Tb t ks): ks.length<=12:=by
 have:=q9x (l:=List.range 12) T.nd (fun x hx=>by
  obtain⟨p,hp,rfl⟩:=mi.mp hx;exact tw.mpr (T.lt p hp))
 simpa using this
theorem Tb.fits{t:SetTable}{ks:List (Nat×Nat)}(T:Tb t ks)(h:t.mask=7->ks.length<8): t.fits ks.length=true:=by
 have h1:t.place.size=ks.length:=by rw [<- T.sz];simp
 have h2:=T.n12;unfold SetTable.fits SetTable.fill;rw [T.dm,h1];have:ks.length<=t.mask:=by
  rcases T.mz with⟨e,_⟩|⟨e,_⟩
  ·have:=h e;lia
  ·lia
 simp [this]
theorem toArr(a:Array Nat): a=a.toList.toArray:=by simp
theorem quc{A B:List Nat}{j:Nat}(h:(A++B).Pairwise (· < ·))(hA:∀x∈A,x<j)(hB:∀x∈B,j<=x)(hj:j∉A++B): (A++j :: B).Pairwise (· < ·):=by
 have hB':∀x∈B,j<x:=fun x hx=>by
  have:=hB x hx;have:x≠j:=fun e=>hj (by rw [<- e];exact nh _ hx);lia
 obtain⟨a,b,c⟩:=g2f.mp h;refine g2f.mpr ⟨a,g1p.mpr ⟨hB',b⟩,fun x hx y hy=>?_⟩;rcases mh.mp hy with rfl|hy
 ·exact hA x hx
 ·exact c x hx y hy
theorem qok:∀ {l:List Nat},l.Pairwise (· < ·)->l.Nodup:=fun h=>List.Pairwise.imp (fun a=>md a) h
theorem lay{t:SetTable}{ks:List (Nat×Nat)}(T:Tb t ks){n k:Nat}(hn:n<12)(hnk:n∉ks.map Prod.fst)(h7:t.mask=7->ks.length<7):
  ∃t' ks',layNew t (ks.map el).toArray (n:Int) (.int (n:Int) k)=((ks'.map el).toArray,t',false,false)/\Tb t' ks'/\ks'.Perm ((n,k) :: ks)/\t'.mask=t.mask/\t'.led=t.led/\t'.finger=t.finger/\t'.moves=t.moves:=by
 have key:∃j,t.freeSlot (n:Int)=some (j,false)/\j∉t.place.toList/\((t.mask=7/\j<8)\/((t.mask=15\/t.mask=31\/t.mask=63)/\j=n)):=by
  rcases T.mz with⟨e,_⟩|⟨e,ep⟩
  ·obtain⟨j,h1,h2,h3⟩:=qw9 (n:=n) (toArr t.place) T.dm T.rs e (by rw [T.sz];have:=h7 e;lia) hn
   exact⟨j,h1,h2,.inl ⟨e,h3⟩⟩
  ·exact⟨n,qub (toArr t.place) T.dm T.rs (by lia) hn (by rw [ep];exact hnk),by rw [ep];exact hnk,.inr ⟨e,rfl⟩⟩
 obtain⟨j,hf,hj,hm⟩:=key;obtain⟨A,B,eAB,hA,hB⟩:=cut j _ T.rs;have hp:t.place=(A++B).toArray:=by rw [<- eAB]
 have hbel:SetTable.below t.place j=A.length:=by rw [hp];exact below_at hA hB
 have hlen:A.length<=ks.length:=by have:=T.sz;rw [eAB,mw] at this;lia
 let ks':=ks.take A.length++(n,k) :: ks.drop A.length
 let t':SetTable:={t with place:=(A++j :: B).toArray,dummies:= #[]}
 have hput:t.put j=(t',A.length):=by
  unfold SetTable.put;simp only [hbel,T.dm,has_none,m6, ↓reduceIte];rw [hp,q9i]
 have hins:SetTable.insertAt (ks.map el).toArray A.length ((n:Int),Value.int (n:Int) k)=(ks'.map el).toArray:=by
  have e:ks.map el=(ks.take A.length).map el++(ks.drop A.length).map el:=by rw [<- p5,g16]
  have el1:((ks.take A.length).map el).length=A.length:=by simp [hlen]
  have:=q9i ((ks.take A.length).map el) ((ks.drop A.length).map el) ((n:Int),Value.int (n:Int) k);rw [el1] at this;rw [e,this];simp [ks',el]
 have hperm:ks'.Perm ((n,k) :: ks):=by
  have:=@List.perm_middle _ (n,k) (ks.take A.length) (ks.drop A.length);rwa [g16] at this
 have hrs:(A++j :: B).Pairwise (· < ·):=quc (by rw [<- eAB];exact T.rs) hA hB (by rw [<- eAB];exact hj);have T':Tb t' ks':=by
  refine⟨rfl,T.pl,?_,?_,?_,by simpa [t'] using hrs,?_⟩
  ·refine((hperm.map Prod.fst).nodup_iff).mpr ?_
   exact uk.mpr ⟨hnk,T.nd⟩
  ·intro p hp
   rcases mh.mp (hperm.mem_iff.mp hp) with rfl|h
   ·exact hn
   ·exact T.lt p h
  ·rw [hperm.length_eq]
   have:=T.sz;rw [eAB] at this;simp only [mw] at this;simp [t'];lia
  ·rcases hm with⟨e,hj8⟩|⟨e,rfl⟩
   ·refine .inl ⟨e,fun p hp=>?_⟩
    have hp':p∈A++j :: B:=by simpa [t'] using hp
    rcases T.mz with⟨_,hq⟩|⟨e',_⟩
    ·rw [eAB] at hq
     rcases u6.mp hp' with h|h
     ·exact hq p (g3s _ h)
     ·rcases mh.mp h with rfl|h
      ·exact hj8
      ·exact hq p (nh _ h)
    ·lia
   ·refine .inr ⟨e,?_⟩
    rcases T.mz with⟨e',_⟩|⟨_,ep⟩
    ·lia
    ·have e1:A=(ks.map Prod.fst).take A.length:=by rw [<- ep,eAB];simp
     have e2:B=(ks.map Prod.fst).drop A.length:=by rw [<- ep,eAB];simp
     show(A++j :: B).toArray.toList=ks'.map Prod.fst;simp only [ks',p5,gf,g4n,g4o];rw [<- e1, <- e2]
 have h7':t'.mask=7->ks'.length<8:=fun e=>by rw [hperm.length_eq];have:=h7 e;simp;lia
 have hfit:t'.fits (ks'.map el).toArray.size=true:=by
  have:=T'.fits h7'
  simpa using this
 refine⟨t',ks',?_,T',hperm,rfl,rfl,rfl,rfl⟩;unfold layNew;simp only [hf,hput,hins];unfold SetTable.orStandIn;rw [m8 hfit,hfit]
 rfl
theorem qol{mask:Nat}{owner:Array (Option Nat)}{i pt f:Nat}(h:owner.getD i (some 0)=none): SetTable.layClean.free mask owner (f+1) i pt=some i:=by
 unfold SetTable.layClean.free;have hr:SetTable.runEnd mask i+1-i=(SetTable.runEnd mask i-i)+1:=by
  unfold SetTable.runEnd;split <;> lia
 rw [hr,g1x];have:(List.find? (fun k=>(owner.getD (i+k) (some 0)).isNone) (0 :: List.map Nat.succ (List.range (SetTable.runEnd mask i-i))))=some 0:=by
  rw [List.find?_cons];simp only [g5h,h,Option.isNone_none]
 rw [this];rfl
def Own(mask:Nat)(hs:List Nat)(c:Nat)(owner:Array (Option Nat)): Prop:=owner.size=mask+1/\∀j,j<=mask->∀k,owner[j]? = some (some k)↔(k<c/\hs[k]? = some j)
theorem qet(mask:Nat)(hm:15<=mask)(hs:List Nat)(hnd:hs.Nodup)(hlt:∀x∈hs,x<12): ∀(r:List Nat) (c:Nat) (owner:Array (Option Nat)),hs.drop c=r->c<=hs.length->Own mask hs c owner ->
  ∃ ow,(r.map (Int.ofNat)).foldl (fun acc h=>do
    let(owner,k) <- acc
    let j <- SetTable.layClean.free mask owner (SetTable.turns mask) (SetTable.bits h%(mask+1)) (SetTable.bits h)
    pure (owner.setIfInBounds j (some k),k+1)) (some (owner,c))=some (ow,hs.length)/\Own mask hs hs.length ow
 | [],c,owner,hd,hc,ho=>by
  have:c=hs.length:=by have:=nz List.length hd;simp at this;lia
  subst this;exact⟨owner,rfl,ho⟩
 | x :: r,c,owner,hd,hc,ho=>by
  have hcl:c<hs.length:=by have:=nz List.length hd;simp at this;lia
  have hx:hs[c]? = some x:=by
   have:=nz (fun l=>l[0]?) hd
   simpa using this
  have hxm:x∈hs:=uw hx;have hx12:=hlt x hxm;have hb:SetTable.bits (Int.ofNat x)=x:=by unfold SetTable.bits;simp;lia
  have hmod:x%(mask+1)=x:=Nat.mod_eq_of_lt (by lia);have hnone:owner.getD x (some 0)=none:=by
   have hlt':x<owner.size:=by rw [ho.1];lia
   simp only [Array.getD,hlt', ↓reduceDIte,Array.getInternal_eq_getElem];cases e:owner[x] with
   | none=>rfl
   | some k=>
    have:owner[x]? = some (some k):=by rw [g55 hlt',e]
    obtain⟨h1,h2⟩:=(ho.2 x (by lia) k).mp this;have hkl:k<hs.length:=by lia
    rw [ml hkl] at h2;rw [ml hcl] at hx;have:=(g59 hnd).mp ((mq h2).trans (mq hx).symm);lia
  have hfree:SetTable.layClean.free mask owner (SetTable.turns mask) (SetTable.bits (Int.ofNat x)%(mask+1)) (SetTable.bits (Int.ofNat x))=some x:=by
   rw [hb,hmod];have:SetTable.turns mask=(mask+14)+1:=by unfold SetTable.turns;lia
   rw [this];exact qol hnone
  rw [gf,List.foldl_cons];have hstep:(do
    let(owner,k) <- some (owner,c)
    let j <- SetTable.layClean.free mask owner (SetTable.turns mask) (SetTable.bits (Int.ofNat x)%(mask+1)) (SetTable.bits (Int.ofNat x))
    pure (owner.setIfInBounds j (some k),k+1):Option (Array (Option Nat)×Nat))=some (owner.setIfInBounds x (some c),c+1):=by
   show(SetTable.layClean.free mask owner (SetTable.turns mask) (SetTable.bits (Int.ofNat x)%(mask+1)) (SetTable.bits (Int.ofNat x))).bind _=_;rw [hfree];rfl
  refine qet mask hm hs hnd hlt r (c+1) (owner.setIfInBounds x (some c)) ?_ hcl ⟨by simp [ho.1],fun j hj k=>?_⟩ |> fun⟨ow,a,b⟩=>⟨ow,?_,b⟩
  ·rw [<- List.tail_drop,hd];rfl
  ·rw [Array.getElem?_setIfInBounds]
   have hxs:x<owner.size:=by rw [ho.1];lia
   by_cases e:x=j
   ·subst e
    rw [m8 rfl,m8 hxs]
    constructor
    ·intro h;have:c=k:=by simpa using h
     subst this;exact⟨by lia,hx⟩
    ·rintro⟨h1,h2⟩
     have hkl:k<hs.length:=by lia
     rw [ml hkl] at h2;rw [ml hcl] at hx;have:=(g59 hnd).mp ((mq h2).trans (mq hx).symm);rw [this]
   ·rw [ma e,ho.2 j hj k]
    constructor
    ·rintro⟨h1,h2⟩;exact⟨by lia,h2⟩
    ·rintro⟨h1,h2⟩
     refine⟨?_,h2⟩;have:k≠c:=fun e2=>by subst e2;rw [hx] at h2;exact e (mq h2)
     lia
  ·rw [<- a];exact nz (fun z=>List.foldl _ z _) hstep
theorem qeu{mask:Nat}(hm:15<=mask){hs:List Nat}(hnd:hs.Nodup)(hlt:∀x∈hs,x<12): ∃ow,SetTable.layClean mask (hs.map Int.ofNat).toArray=some ow/\Own mask hs hs.length ow:=by
 obtain⟨ow,a,b⟩:=qet mask hm hs hnd hlt hs 0 (Array.replicate (mask+1) none) rfl (g08 _) ⟨by simp,fun j hj k=>by simp [Array.getElem?_replicate]⟩;refine⟨ow,?_,b⟩;unfold SetTable.layClean;rw [List.foldl_toArray',a]
 ·rfl
 ·simp
theorem qom{mask:Nat}{hs:List Nat}(hnd:hs.Nodup)(hlt:∀x∈hs,x<=mask){ow:Array (Option Nat)}(ho:Own mask hs hs.length ow):
  let live:=(List.range (mask+1)).filterMap fun j=>(ow.getD j none).map (j, ·)
  (live.map Prod.fst).Pairwise (· < ·)/\(∀p∈live,hs[p.2]? = some p.1)/\(live.map Prod.snd).Perm (List.range hs.length):=by
 intro live;have hmem:∀p:Nat×Nat,p∈live↔hs[p.2]? = some p.1:=by
  intro p;obtain⟨j,k⟩:=p;simp only [live,g4b,tw,gv];have hg:∀j,j<=mask->(ow.getD j none=some k↔hs[k]? = some j):=fun j hj=>by
   have hlt':j<ow.size:=by rw [ho.1];lia
   have:ow.getD j none=some k↔ow[j]? = some (some k):=by
    simp [Array.getD,hlt']
   rw [this,ho.2 j hj k];exact⟨fun h=>h.2,fun h=>⟨(mv.mp h).1,h⟩⟩
  constructor
  ·rintro⟨j',hj',k',e,e2⟩
   injection e2 with e3 e4
   subst e3;subst e4;exact(hg _ (by lia)).mp e
  ·intro h
   have hj:=hlt j (uw h);exact⟨j,by lia,k,(hg j hj).mpr h,rfl⟩
 have hf:live.map Prod.fst=(List.range (mask+1)).filter (fun j=>(ow.getD j none).isSome):=by
  simp only [live];generalize List.range (mask+1)=l
  induction l with
  | nil=>rfl
  | cons a l ih=>
   rw [g0u,n9];cases e:ow.getD a none with
   | none=>simpa using ih
   | some k=>simpa using ih
 have hpw:(live.map Prod.fst).Pairwise (· < ·):=by
  rw [hf];exact uy _ g64
 refine⟨hpw,fun p hp=>(hmem p).mp hp,?_⟩;have hn2:(live.map Prod.snd).Nodup:=by
  have h1:=qok hpw;refine tq.mpr ?_;have h1':=tq.mp h1;refine g0l ?_ h1';intro p q hp hq hne e;have a:=(hmem p).mp hp;have b:=(hmem q).mp hq;rw [e,b] at a;exact hne (mq a).symm
 refine(g4p hn2 g3l).mpr fun k=>?_;rw [tw,mi]
 constructor
 ·rintro⟨p,hp,rfl⟩
  exact(mv.mp ((hmem p).mp hp)).1
 ·intro hk
  exact⟨(hs[k],k),(hmem _).mpr (ml hk),rfl⟩
theorem range_all{α : Type}: ∀l:List α,(List.range l.length).filterMap (l[·]?)=l
 | []=>rfl
 | a :: l=>by
  rw [n8,g1x,g0u];simp only [g1k,g2u];have:((fun x=>(a :: l)[x]?) ∘ Nat.succ)=(l[·]?):=by funext i;simp
  rw [this,range_all l]
theorem q9y{mask f m:Nat}{led:Bool}(hm:mask=15\/mask=31\/mask=63){ks:List (Nat×Nat)}(hnd:(ks.map Prod.fst).Nodup)(hlt:∀p∈ks,p.1<12):
  ∃t order ks',SetTable.laid mask f m led true ((ks.map el).toArray.map (·.1))=some (t,order)/\order.filterMap ((ks.map el).toArray[·]?)=(ks'.map el).toArray/\ks'.Perm ks/\Tb t ks'/\t.mask=mask/\t.led=led /\
   coversAll order ks.length=true:=by
 have hlt':∀x∈ks.map Prod.fst,x<12:=fun x hx=>by obtain⟨p,hp,rfl⟩:=mi.mp hx;exact hlt p hp
 obtain⟨ow,a,b⟩:=qeu (mask:=mask) (by lia) hnd hlt';obtain⟨h1,h2,h3⟩:=qom hnd (fun x hx=>by have:=hlt' x hx;lia) b;generalize hlv:((List.range (mask+1)).filterMap fun j=>(ow.getD j none).map (j, ·))=live at h1 h2 h3;have ehs:(ks.map el).toArray.map (·.1)=((ks.map Prod.fst).map Int.ofNat).toArray:=by
  simp [el,Function.comp_def]
 have h3':(live.map Prod.snd).Perm (List.range ks.length):=by simpa using h3
 let ks':=live.filterMap (fun p=>ks[p.2]?)
 have hk2:∀p∈live,∃q,ks[p.2]? = some q/\q.1=p.1:=fun p hp=>by
  have:=h2 p hp;rw [mj,gv] at this;exact this
 have hfst:ks'.map Prod.fst=live.map Prod.fst:=by
  simp only [ks'];clear h3 h3' h1 hlv h2
  induction live with
  | nil=>rfl
  | cons p l ih=>
   obtain⟨q,e,e2⟩:=hk2 p (gi ..);rw [g0u,e,gf,gf,e2,ih (fun r hr=>hk2 r (gj _ hr))]
 have hperm:ks'.Perm ks:=by
  have e1:ks'=(live.map Prod.snd).filterMap (ks[·]?):=by rw [g2u];rfl
  rw [e1];refine(List.Perm.filterMap _ h3').trans ?_;rw [range_all]
 refine⟨{mask:=mask,place:=(live.map (·.1)).toArray,dummies:= #[],finger:=f,led:=led,moves:=m,plain:=true},(live.map (·.2)).toArray,ks',?_,?_,hperm,?_,rfl,rfl,?_⟩
 ·unfold SetTable.laid
  rw [ehs,a];simp only [Option.bind_eq_bind,gd,hlv]
  rfl
 ·rw [List.filterMap_toArray]
  congr 1
  rw [g2u];have e3:((fun x=>(ks.map el).toArray[x]?) ∘ fun x:Nat×Nat=>x.2)=fun p=>(ks[p.2]?).map el:=by
   funext p;simp
  rw [e3];simp only [ks'];rw [List.map_filterMap]
 ·refine⟨rfl,rfl,?_,?_,?_,?_,.inr ⟨hm,?_⟩⟩
  ·exact((hperm.map Prod.fst).nodup_iff).mpr hnd
  ·exact fun p hp=>hlt p (hperm.mem_iff.mp hp)
  ·have:=nz List.length hfst
   simpa using this.symm
  ·simpa using h1
  ·simpa using hfst.symm
 ·unfold coversAll
  rw [List.isPerm_iff]
  simpa using h3'
theorem qb2{α : Type}: ∀(l:List α) {i:Nat} (hi:i<l.length),([l[i]]++l.eraseIdx i).Perm l
 | [],i,hi=>by simp at hi
 | a :: l,0,hi=>by simp
 | a :: l,i+1,hi=>by
  have:=qb2 l (i:=i) (by simpa using hi);simp only [List.getElem_cons_succ,List.eraseIdx_cons_succ,g5i,g05] at this ⊢;exact(List.Perm.swap _ _ _).trans (List.Perm.cons _ this)
theorem qd2{α : Type}(nx:Nat->Nat): ∀(f k:Nat) (l:List α) (out:Array α),l.length<=f->((pickOrder.go nx f k l out).toList).Perm (out.toList++l)
 | 0,k,l,out,h=>by
  have:l=[]:=by cases l <;> simp_all
  subst this;simp [pickOrder.go]
 | f+1,k,[],out,h=>by simp [pickOrder.go]
 | f+1,k,a :: l,out,h=>by
  have hi:nx k%(a :: l).length<(a :: l).length:=g3z _ (by simp);unfold pickOrder.go;rw [ml hi];refine(qd2 nx f (k+1) _ _ (by rw [List.length_eraseIdx];simp only [hi,pz];simp at h ⊢;lia)).trans ?_;rw [Array.toList_push,uh];exact List.Perm.append_left _ (qb2 _ hi)
theorem q6d{α : Type}(nx:Nat->Nat)(xs:Array α): ((pickOrder nx xs).toList).Perm xs.toList:=by
 unfold pickOrder;have:=qd2 nx xs.size 0 xs.toList #[] (by simp)
 simpa using this
theorem q5p{n:Nat}(h:8<=n)(h2:n<64): (SetTable.sizeAbove n=16/\n<16)\/(SetTable.sizeAbove n=32/\16<=n/\n<32)\/(SetTable.sizeAbove n=64/\32<=n):=by
 have:∀n<64,8<=n->((SetTable.sizeAbove n=16/\n<16)\/(SetTable.sizeAbove n=32/\16<=n/\n<32)\/(SetTable.sizeAbove n=64/\32<=n)):=by decide +kernel
 exact this n h2 h
abbrev byT(w:World): Bool:=w.params.followText "set-order"
structure SI(w:World)(h:Heap)(a:Addr)(t:SetTable)(ks:List (Nat×Nat)): Prop where
 ob:∃o ep,h.get? a=some o/\o.ExactSet/\o.data=.set (ks.map el).toArray ep t
 tb:Tb t ks
 ld:t.led = !byT w
section
variable{prog:Program}{w:World}{A:Around}{E:Value->Shared->Prop}{s:Shared}{a:Addr}{t:SetTable}{ks:List (Nat×Nat)}
theorem q6y{n:Nat}(h:n<12): (intKind prog w).hash (n:Int)=(n:Int):=by
 have:∀n<12,hashInt ((n:Nat):Int)=((n:Nat):Int):=by decide
 exact this n h
theorem elems(hl:∀p∈ks,p.1<12): ElemsOf (intKind prog w) (ks.map el):=by
 intro e he;obtain⟨p,hp,rfl⟩:=mi.mp he;exact⟨⟨(p.1:Int),g40 _ _ _ _,(q6y (hl p hp)).symm⟩,rfl⟩
theorem q6z(T:Tb t ks)(h7:t.mask=7->ks.length<8): t.fits (ks.map el).toArray.size=true:=by
 have:=T.fits h7;simpa using this
theorem qri{n:Nat}(h:n∈ks.map Prod.fst): ∃j,List.findIdx? (fun e=>(intKind prog w).is (n:Int) e.2) (ks.map el)=some j:=by
 obtain⟨p,hp,rfl⟩:=mi.mp h;cases e:List.findIdx? (fun e=>(intKind prog w).is (p.1:Int) e.2) (ks.map el) with
 | some j=>exact⟨j,rfl⟩
 | none=>
  have:=g56.mp e (el p) (td hp);have h2:(intKind prog w).is (p.1:Int) (el p).2=true:=g40 _ _ _ _;rw [h2] at this;exact absurd this (by decide)
theorem qon{n:Nat}(h:n∉ks.map Prod.fst): List.findIdx? (fun e=>(intKind prog w).is (n:Int) e.2) (ks.map el)=none:=by
 refine g56.mpr fun e he=>?_;obtain⟨p,hp,rfl⟩:=mi.mp he;cases e:(intKind prog w).is (n:Int) (el p).2 with
 | false=>rfl
 | true=>
  have:=(intKind prog w).inj (el p).2 _ _ e (g40 _ _ (p.1:Int) p.2);have:n=p.1:=by lia
  exact absurd (td hp) (this ▸ h)
def Step(t:SetTable)(ks:List (Nat×Nat))(p:Nat×Nat)(t':SetTable)(ks':List (Nat×Nat)): Prop:=
 Tb t' ks'/\t'.led=t.led/\if p.1∈ks.map Prod.fst then ks'=ks/\t'=t else
  ks'.Perm (p :: ks)/\t'.mask=(if(ks.length+1)*5>=t.mask*3 then SetTable.sizeAbove ((ks.length+1)*4)-1 else t.mask)
theorem qrj{h:Heap}{o:Obj}{es es':Array (Int×Value)}{ep:Nat}{t t':SetTable}(ho:h.get? a=some o)(hd:o.data=.set es ep t):
  (h.update a (Obj.putSet es' t')).get? a=some {o with data:=.set es' (ep+1) t'}:=by
 have:=g0h (Obj.putSet es' t') ho (by rw [putSet_of es' t' hd];rfl);rw [putSet_of es' t' hd] at this;exact this
theorem SI.put{h:Heap}{t':SetTable}{ks':List (Nat×Nat)}(S:SI w h a t ks)(T':Tb t' ks')(hl:t'.led=t.led): SI w (h.update a (Obj.putSet (ks'.map el).toArray t')) a t' ks':=by
 obtain⟨o,ep,ho,hx,hd⟩:=S.ob;exact⟨⟨_,_,qrj ho hd,hx,rfl⟩,T',by rw [hl];exact S.ld⟩
theorem size_le(T:Tb t ks): (ks.map el).toArray.size<=sizeLine:=by
 have:=T.n12;rw [g1v];simp;lia
theorem qly{n k:Nat}{Q:Bool->Shared->Prop}(S:SI w s.heap a t ks)(hn:n<12)(h7:t.mask=7->ks.length<7)
  (h:∀h' t' ks',Heap.SameBut a s.heap h'->SI w h' a t' ks'->Step t ks (n,k) t' ks'->Q (!(decide (n∈ks.map Prod.fst))) {s with heap:=h'}) :
  wpAny (model prog w) A (setAddHashed a (.int (n:Int) k) (n:Int)) Q E s:=by
 obtain⟨o,ep,ho,hx,hd⟩:=id S.ob;have T:=S.tb;have hf:t.fits (ks.map el).toArray.size=true:=q6z T (fun e=>by have:=h7 e;lia);have hel:ElemsOf (intKind prog w) (ks.map el).toArray.toList:=by simpa using elems T.lt
 have hn12:=T.n12;unfold setAddHashed setAddHashedIn;refine nt (g0 (g3a ho hd hf ?_));dsimp only;rw [byScan_of (knd:=intKind prog w) rfl (by unfold scanBound;simp;lia) hel];simp only [↓reduceIte];unfold setAddByScan;refine g0 ?_;refine g0 (g04 ?_);have hsc:=@wpAny_setScan_of prog w Int _ (intKind prog w) A E s a o (ks.map el).toArray ep t (.int (n:Int) k) (n:Int) true;rw [q6y hn] at hsc;refine g0 (hsc (g40 _ _ _ _) ho hd hf hel ?_)
 by_cases hm:n∈ks.map Prod.fst
 ·obtain⟨j,hj⟩:=qri (prog:=prog) (w:=w) hm
  have hj':List.findIdx? (fun e=>(intKind prog w).is (n:Int) e.2) (ks.map el).toArray.toList=some j:=by simpa using hj
  rw [hj'];dsimp only;refine g9 (g9 ?_);have e:s = {s with heap:=s.heap}:=by cases s;rfl
  have:=h s.heap t ks (g1z a s.heap) S ⟨T,rfl,by rw [m8 hm];exact⟨rfl,rfl⟩⟩;rw [gq hm] at this;rw [e];exact this
 ·have hj':List.findIdx? (fun e=>(intKind prog w).is (n:Int) e.2) (ks.map el).toArray.toList=none:=by simpa using qon (prog:=prog) (w:=w) hm
  rw [hj'];dsimp only;obtain⟨t1,ks1,hL,T1,p1,m1,l1,f1,v1⟩:=lay T (k:=k) hn hm h7;rw [hL];dsimp only;have hgw:∀(b:Bool) {s₁:Shared} {Q':Unit->Shared->Prop},Q' () s₁->wpAny (model prog w) A (match b with|true=>rule "set.scan.the-table-gave-way" | false=>pure ()) Q' E s₁:=
   fun b s₁ Q' hq=>by cases b <;> first|exact g9 hq|exact g04 hq
  refine g0 (hgw false ?_);rw [T1.pl];simp only [↓reduceIte];rw [hashByValue_scannable 8 rfl];refine g0 (g9 ?_);simp only [plainKind, ↓reduceIte];have S1:SI w (s.heap.update a (Obj.putSet (ks1.map el).toArray t1)) a t1 ks1:=S.put T1 l1;have hsb1:=t5 s.heap a (Obj.putSet (ks1.map el).toArray t1);have hlen:ks1.length=ks.length+1:=by rw [p1.length_eq];rfl
  have htf:t1.tooFull=decide ((ks.length+1)*5>=t.mask*3):=by
   unfold SetTable.tooFull SetTable.fill;have:t1.place.size=ks.length+1:=by rw [<- hlen, <- T1.sz];simp
   rw [T1.dm,this,m1];simp
  refine g0 (g22 ho hd ?_ (size_le T1))
  by_cases hfull:(ks.length+1)*5>=t.mask*3
  ·rw [htf,gq hfull]
   simp only [g27,Bool.and_self, ↓reduceIte];have hn1:=T1.n12;have hg:SetTable.grown (ks1.map el).toArray.size=(ks.length+1)*4:=by
    unfold SetTable.grown;simp only [gm,gh,hlen];rw [ma (by lia)]
   have hsa:SetTable.sizeAbove ((ks.length+1)*4)-1=15\/SetTable.sizeAbove ((ks.length+1)*4)-1=31\/SetTable.sizeAbove ((ks.length+1)*4)-1=63:=by
    have hm7:7<=t.mask:=by rcases T.mz with⟨e,_⟩|⟨e,_⟩ <;> lia
    rcases q5p (n:=(ks.length+1)*4) (by lia) (by lia) with h|h|h <;> lia
   obtain⟨t2,ord,ks2,e2,f2,p2,T2,m2,l2,c2⟩:=q9y (f:=t1.finger) (m:=t1.movedTo (SetTable.sizeAbove ((ks.length+1)*4)-1)) (led:=t1.led) hsa T1.nd T1.lt;have hrl:t1.relaid ((ks1.map el).toArray.map (·.1)) (SetTable.grown (ks1.map el).toArray.size)=some (t2,ord):=by
    unfold SetTable.relaid;rw [hg,T1.pl];exact e2
   have hlen2:ks2.length=ks1.length:=p2.length_eq;have hra:relayAll t1 (ks1.map el).toArray (SetTable.grown (ks1.map el).toArray.size)=((ks2.map el).toArray,t2,false):=by
    unfold relayAll;rw [hrl];dsimp only;rw [f2];have hc:coversAll ord (ks1.map el).toArray.size=true:=by simpa using c2
    have hft:t2.fits (ks2.map el).toArray.size=true:=q6z T2 (fun e=>by lia);rw [hc,hft];rfl
   rw [hra];dsimp only;refine g0 (hgw false ?_);obtain⟨o1,ep1,ho1,hx1,hd1⟩:=id S1.ob;refine g0 (g22 ho1 hd1 ?_ (size_le T2));refine g9 ?_;dsimp only;refine g9 ?_;have:=h _ t2 ks2 (hsb1.trans (t5 _ a _)) (S1.put T2 l2) ⟨T2,l2.trans l1,by
    rw [ma hm,m8 hfull];exact⟨p2.trans p1,m2⟩⟩
   rw [gz hm] at this;exact this
  ·rw [htf,gz hfull]
   simp only [g27,g0f,m6, ↓reduceIte];refine g9 ?_;have:=h _ t1 ks1 hsb1 S1 ⟨T1,l1,by rw [ma hm,ma hfull];exact⟨p1,m1⟩⟩;rw [gz hm] at this;exact g9 this
end
theorem q9z{α β : Type}[DecidableEq α]{f : α -> β}: ∀ {l:List β} {ks:List α},l.Perm (ks.map f)->∃ls:List α,ls.Perm ks/\l=ls.map f
 | [],ks,h=>by
  have:ks=[]:=by simpa using h.symm
  exact⟨[],by rw [this],rfl⟩
 | x :: l,ks,h=>by
  have hx:x∈ks.map f:=h.mem_iff.mp (gi ..);obtain⟨p,hp,rfl⟩:=mi.mp hx;have h1:=List.perm_cons_erase hp;have h2:(f p :: l).Perm (f p :: (ks.erase p).map f):=h.trans (h1.map f);obtain⟨ls,a,e⟩:=q9z (List.Perm.cons_inv h2);exact⟨p :: ls,(List.Perm.cons _ a).trans h1.symm,by rw [e];rfl⟩
section
variable{prog:Program}{w:World}{A:Around}{E:Value->Shared->Prop}{s:Shared}{a b:Addr}{t u:SetTable}{ks ls:List (Nat×Nat)}
theorem SI.state{Q:(Array (Int×Value)×Nat×SetTable)->Shared->Prop}(S:SI w s.heap a t ks)(h7:t.mask=7->ks.length<8)
  (h:∀ep,(∃o,s.heap.get? a=some o/\o.ExactSet/\o.data=.set (ks.map el).toArray ep t)->Q ((ks.map el).toArray,ep,t) s):wpAny (model prog w) A (setState a) Q E s:=by
 obtain⟨o,ep,ho,hx,hd⟩:=S.ob;exact g3a ho hd (q6z S.tb h7) (h ep ⟨o,ho,hx,hd⟩)
theorem SI.keep{h h':Heap}(S:SI w h a t ks)(e:∀o,h.get? a=some o->h'.get? a=some o): SI w h' a t ks:=by
 obtain⟨o,ep,ho,r⟩:=S.ob;exact⟨⟨o,ep,e o ho,r⟩,S.tb,S.ld⟩
theorem qb3{es:Array (Int×Value)}{t':SetTable}{ord:Array Nat}{es':Array (Int×Value)}{α : Type}{F:Array (Int×Value)×SetTable->Sem α}{Q : α -> Shared->Prop}(e:ord.filterMap (es[·]?)=es')(hs:es'.size=es.size)
  (h:wpAny (model prog w) A (F (es',t')) Q E s) :
  wpAny (model prog w) A ((do
   let some (t,order):=some (t',ord)|unsupported "internal:set-table-without-room"
   let es':=order.filterMap (es[·]?)
   if es'.size != es.size then unsupported "internal:set-table-lost-an-element"
   pure (es',t):Sem (Array (Int×Value)×SetTable)) >>= F) Q E s:=by
 refine g0 ?_;dsimp only;rw [e];have:(es'.size != es.size)=false:=by simp [hs]
 rw [this];simp only [m6, ↓reduceIte];exact g9 h
theorem qoo{wanted:Nat}{Q:Unit->Shared->Prop}(S:SI w s.heap a t ks)(h7:t.mask=7->ks.length<8)(hw:8<=wanted)(hw2:wanted<64)
  (h:∀h' t' ks',Heap.SameBut a s.heap h'->SI w h' a t' ks'->t'.mask=SetTable.sizeAbove wanted-1->ks'.Perm ks->Q () {s with heap:=h'}) :
  wpAny (model prog w) A (setRelay a wanted) Q E s:=by
 unfold setRelay;refine g0 (S.state h7 fun ep ⟨o,ho,hx,hd⟩=>?_);dsimp only;have hc:=q5p hw hw2;have hsz:¬(SetTable.sizeAbove wanted>sizeLine):=by rw [g1v];lia
 rw [ma hsz];obtain⟨t2,ord,ks2,e2,f2,p2,T2,m2,l2,c2⟩:=q9y (f:=t.finger) (m:=t.movedTo (SetTable.sizeAbove wanted-1)) (led:=t.led) (mask:=SetTable.sizeAbove wanted-1) (by lia) S.tb.nd S.tb.lt;have hrl:t.relaid ((ks.map el).toArray.map (·.1)) wanted=some (t2,ord):=by
  unfold SetTable.relaid;rw [S.tb.pl];exact e2
 rw [hrl];refine qb3 f2 (by simp [p2.length_eq]) ?_;dsimp only;refine g22 ho hd ?_ (size_le T2);exact h _ t2 ks2 (t5 _ a _) (S.put T2 l2) m2 p2
theorem wp_walk{Q:Array (Int×Value)->Shared->Prop}(S:SI w s.heap a t ks)(h7:t.mask=7->ks.length<8)
  (h:∀ls:List (Nat×Nat),ls.Perm ks->Q (ls.map el).toArray s):wpAny (model prog w) A (setWalk a) Q E s:=by
 unfold setWalk;refine g0 (S.state h7 fun ep _=>?_);dsimp only;unfold setsByText;refine g0 (g0 (t7 (g9 ?_)))
 by_cases hb:byT w=true
 ·refine p8 (fun _=>?_) (fun c=>absurd hb c)
  refine g0 (t7 (g9 ?_));have hp:=q6d ((⟨(model prog w).prog,(model prog w).w.params⟩:Setting).params.setOrder a ep) (ks.map el).toArray;generalize pickOrder ((⟨(model prog w).prog,(model prog w).w.params⟩:Setting).params.setOrder a ep) (ks.map el).toArray=xs at hp;have hp':xs.toList.Perm (ks.map el):=by simpa using hp
  obtain⟨ls,hl,e⟩:=q9z hp';have:=h ls hl;rw [<- e] at this;exact this
 ·refine p8 (fun c=>absurd c hb) (fun _=>?_)
  refine p8 (fun c=>?_) (fun _=>?_)
  ·have c':(!t.plain&&decide ((ks.map el).toArray.size>1))=true:=c
   rw [S.tb.pl] at c';simp at c'
  ·have hld:t.led=true:=by rw [S.ld];simpa using hb
   show wpAny _ _ ((do if !t.led&&(ks.map el).toArray.size>1 then unsupported "set:maker-not-led" : Sem Unit) >>= fun _=>pure (ks.map el).toArray) _ _ _;rw [hld];simp only [tx,g48,m6, ↓reduceIte];exact g0 (g9 (g9 (h ks (g6e _))))
end
section
variable{prog:Program}{w:World}{A:Around}{E:Value->Shared->Prop}{s:Shared}{a b:Addr}{t u:SetTable}{ks ls:List (Nat×Nat)}
theorem qlz{os:List Addr}{f:Option Addr}{Q:Array (Int×Value)->Shared->Prop}(S:SI w s.heap a t ks)(h7:t.mask=7->ks.length<8)
  (h:∀ls:List (Nat×Nat),ls.Perm ks->Q (ls.map el).toArray s):wpAny (model prog w) A (setWalkUnseen a os f) Q E s:=by
 unfold setWalkUnseen;refine g0 (S.state h7 fun ep _=>?_);dsimp only;refine g0 ?_;unfold setsByText;refine g0 (t7 (g9 ?_));dsimp only;refine p8 (fun _=>?_) (fun c=>?_)
 ·exact wp_walk S h7 h
 ·refine absurd ?_ c
  have:t.led = !(model prog w).w.params.followText "set-order" :=S.ld;rw [this,S.tb.pl];cases(model prog w).w.params.followText "set-order" <;> simp
theorem qi5{ep:Nat}{ob:Obj}{each:Sem Unit}(hab:a≠b)(hob:∀ {s':Shared} {Q:(Array (Int×Value)×Nat×SetTable)->Shared->Prop},s'.heap.get? b=some ob->Q ((ls.map el).toArray,ep,u) s'->wpAny (model prog w) A (setState b) Q E s')
  (hea:∀ {s':Shared} {Q:Unit->Shared->Prop},s'.heap.get? b=some ob->Q () s'->wpAny (model prog w) A each Q E s') :
  ∀(r:List (Nat×Nat)) (s:Shared) (t:SetTable) (ks:List (Nat×Nat)) (Q:Unit->Shared->Prop),(∀p∈r,p.1<12)->SI w s.heap a t ks->(ks.length+r.length)*5<t.mask*3->s.heap.get? b=some ob ->
  (∀h' t' ks',Heap.SameBut a s.heap h'->SI w h' a t' ks'->t'.mask=t.mask->(∀n,n∈ks'.map Prod.fst↔n∈ks.map Prod.fst\/n∈r.map Prod.fst)->ks'.length<=ks.length+r.length->Q () {s with heap:=h'}) ->
  wpAny (model prog w) A (forIn (r.map el) PUnit.unit fun(x:Int×Value) (_:PUnit)=>do
   let _ <- holding [x.2] (setAddHashed a x.2 x.1)
   each
   if(<- setState b).2.1 != ep then unsupported "set.changed-during-merge"
   pure (ForInStep.yield PUnit.unit)) Q E s
 | [],s,t,ks,Q,hr,S,hm,hb,h=>by
  simp only [g0e,g6c];refine g9 ?_;have:=h s.heap t ks (g1z _ _) S rfl (fun n=>by simp) (by simp);exact this
 | p :: r,s,t,ks,Q,hr,S,hm,hb,h=>by
  simp only [gf,g2m];have hp:=hr p (gi ..);have hml:(ks.length+1+r.length)*5<t.mask*3:=by simp only [n8] at hm;lia
  refine g0 ?_;refine g0 (nt (qly (n:=p.1) (k:=p.2) S hp (fun e=>by lia) fun h' t' ks' hsb S' st=>?_));have hb':h'.get? b=some ob:=by rw [hsb.2 b (fun e=>hab e.symm)];exact hb
  obtain⟨T',l',c⟩:=st;have hlen:ks'.length<=ks.length+1/\t'.mask=t.mask/\(∀n,n∈ks'.map Prod.fst↔n∈ks.map Prod.fst\/n=p.1):=by
   split at c
   ·rename_i hin
    obtain⟨rfl,rfl⟩:=c;exact⟨by lia,rfl,fun n=>⟨.inl,fun h=>h.elim id (fun e=>e ▸ hin)⟩⟩
   ·obtain⟨c1,c2⟩:=c
    rw [ma (by lia)] at c2;refine⟨by rw [c1.length_eq];simp,c2,fun n=>?_⟩;rw [(c1.map Prod.fst).mem_iff,gf,mh];exact Or.comm
  refine g0 (hea (s':={s with heap:=h'}) hb' ?_);refine g0 (hob (s':={s with heap:=h'}) hb' ?_);dsimp only;rw [ma (by simp)];refine g9 ?_;refine qi5 hab hob hea r {s with heap:=h'} t' ks' Q (fun q hq=>hr q (gj _ hq)) S' (by rw [hlen.2.1];lia) hb' fun h2 t2 ks2 sb2 S2 m2 i2 l2=>?_;refine h h2 t2 ks2 (hsb.trans sb2) S2 (m2.trans hlen.2.1) (fun n=>?_) (by simp only [n8];lia);rw [i2 n,hlen.2.2 n,gf,mh,or_assoc]
theorem qrk{m:Nat}{Q:Unit->Shared->Prop}(S:SI w s.heap a t ks)(h7:t.mask=7->ks.length<8)(hm:m<=12)
  (h:∀h' t' ks',Heap.SameBut a s.heap h'->SI w h' a t' ks'->ks'.Perm ks->(ks.length+m)*5<t'.mask*3 ->
   ((ks.length+m)*5<t.mask*3/\t'.mask=t.mask\/t'.mask=SetTable.sizeAbove ((ks.length+m)*2)-1/\t.mask*3<=(ks.length+m)*5)->Q () {s with heap:=h'}) :
  wpAny (model prog w) A (setRoomFor a m) Q E s:=by
 unfold setRoomFor;refine g0 (S.state h7 fun ep _=>?_);dsimp only;have hsz:t.place.size=ks.length:=by rw [<- S.tb.sz];simp
 have hfl:t.fill=ks.length:=by unfold SetTable.fill;rw [S.tb.dm,hsz];simp
 have hn:=S.tb.n12;unfold SetTable.roomFor;rw [hfl,hsz];have hmk:=S.tb.mz
 by_cases c:(ks.length+m)*5>=t.mask*3
 ·rw [m8 c]
  dsimp only;refine qoo S h7 (by rcases hmk with⟨e,_⟩|⟨e,_⟩ <;> lia) (by lia) fun h' t' ks' sb S' m' p'=>?_;have hc:=q5p (n:=(ks.length+m)*2) (by rcases hmk with⟨e,_⟩|⟨e,_⟩ <;> lia) (by lia);exact h h' t' ks' sb S' p' (by lia) (.inr ⟨m',c⟩)
 ·rw [ma c]
  dsimp only;refine g9 ?_;exact h s.heap t ks (g1z _ _) S (g6e _) (by lia) (.inl ⟨by lia,rfl⟩)
theorem qev{each:Sem Unit}{Q:Unit->Shared->Prop}(hab:a≠b)(S:SI w s.heap a t ks)(hbm:ks=[]->t.mask=7)(h7:t.mask=7->ks.length<8)(U:SI w s.heap b u ls)(hu:ls.length<5->u.mask=7)(hu7:u.mask=7->ls.length<8)
  (hea:∀ {s':Shared} {Q:Unit->Shared->Prop},s'.heap.get? b=s.heap.get? b->Q () s'->wpAny (model prog w) A each Q E s')
  (h:∀h' t' ks',Heap.SameBut a s.heap h'->SI w h' a t' ks'->(t'.mask=7->ks'.length<8)->(∀n,n∈ks'.map Prod.fst↔n∈ks.map Prod.fst\/n∈ls.map Prod.fst)->(ks=[]->ks'=[]->t'.mask=7)->Q () {s with heap:=h'}) :
  wpAny (model prog w) A (setMerge a b each) Q E s:=by
 unfold setMerge;have hne:(a==b)=false:=by simpa using hab
 rw [hne];simp only [m6, ↓reduceIte];have hn:=S.tb.n12;have hnu:=U.tb.n12;refine g0 (U.state hu7 fun ep ⟨o,ho,hx,hd⟩=>?_);dsimp only
 by_cases he:ls=[]
 ·subst he
  have:((([]:List (Nat×Nat)).map el).toArray).isEmpty=true:=rfl;rw [m8 this];refine g9 ?_;exact h s.heap t ks (g1z _ _) S h7 (fun n=>by simp) (fun e _=>hbm e)
 ·have:((ls.map el).toArray).isEmpty=false:=by cases ls <;> simp_all
  rw [this];simp only [m6, ↓reduceIte];have hsz:((ls.map el).toArray).size=ls.length:=by simp
  rw [hsz];refine g0 (qrk S h7 hnu fun h1 t1 ks1 sb1 S1 p1 r1 q1=>?_);have U1:SI w h1 b u ls:=U.keep fun o e=>by rw [sb1.2 b (fun e=>hab e.symm)];exact e
  have ho1:h1.get? b=some o:=by rw [sb1.2 b (fun e=>hab e.symm)];exact ho
  have hl1:ks1.length=ks.length:=p1.length_eq;have hpos:0<ls.length:=List.length_pos_iff.mpr he;refine g0 (SI.state (s:={s with heap:=h1}) S1 (fun e=>by lia) fun ep1 ⟨o1,ho1',hx1,hd1⟩=>?_);dsimp only;have hfl:t1.fill=ks.length:=by unfold SetTable.fill;rw [S1.tb.dm, <- hl1, <- S1.tb.sz];simp
  unfold SetTable.road;rw [hfl,U.tb.dm]
  by_cases hk:ks=[]
  ·subst hk
   have hk1:ks1=[]:=by simpa using hl1
   subst hk1;simp only [g41,g4x,m6, ↓reduceIte];have hld:(t1.led&&u.led) = !byT w:=by rw [S1.ld,U.ld];simp
   have hpl:(t1.plain&&u.plain)=true:=by rw [S1.tb.pl,U.tb.pl];rfl
   by_cases hmk:t1.mask=u.mask
   ·have hc:((t1.mask==u.mask)&&(#[]:Array Nat).isEmpty)=true:=by simp [hmk]
    rw [hc];simp only [↓reduceIte];refine g22 (s:={s with heap:=h1}) ho1' hd1 ?_ (size_le U.tb);rw [hld,hpl];have T':Tb {u with dummies:= #[],finger:=t1.finger,led:= !byT w,moves:=t1.moves,plain:=true} ls:=⟨rfl,rfl,U.tb.nd,U.tb.lt,U.tb.sz,U.tb.rs,U.tb.mz⟩
    refine h _ _ ls (sb1.trans (t5 _ a _)) (S1.put T' (by rw [S1.ld])) hu7 (fun n=>by simp) (fun _ e=>absurd e he)
   ·have hc:((t1.mask==u.mask)&&(#[]:Array Nat).isEmpty)=false:=by simp [hmk]
    rw [hc];simp only [m6, ↓reduceIte];have ht7:=hbm rfl;have hm1:t1.mask=15\/t1.mask=31\/t1.mask=63:=by
     rcases S1.tb.mz with⟨e,_⟩|⟨e,_⟩
     ·exfalso
      have:ls.length<5:=by rw [e] at r1;simp at r1;lia
      exact hmk (e.trans (hu this).symm)
     ·exact e
    obtain⟨t2,ord,ks2,e2,f2,p2,T2,m2,l2,c2⟩:=q9y (f:=t1.finger) (m:=t1.moves) (led:=t1.led&&u.led) (mask:=t1.mask) hm1 U.tb.nd U.tb.lt;rw [hpl,e2];refine qb3 f2 (by simp [p2.length_eq]) ?_;dsimp only;refine g22 (s:={s with heap:=h1}) ho1' hd1 ?_ (size_le T2);refine h _ t2 ks2 (sb1.trans (t5 _ a _)) (S1.put T2 (by rw [l2,hld,S1.ld])) (fun e=>by lia) (fun n=>?_) (fun _ e=>?_)
    ·rw [(p2.map Prod.fst).mem_iff];simp
    ·rw [e] at p2;exact absurd (by simpa using p2.symm) he
  ·have hfn:(ks.length != 0)=true:=by simp [hk]
   rw [hfn];simp only [↓reduceIte];refine g0 (qlz (s:={s with heap:=h1}) U1 hu7 fun xs px=>?_);rw [<- g2x];have hxl:xs.length=ls.length:=px.length_eq;have key:=qi5 (prog:=prog) (w:=w) (A:=A) (E:=E) (ls:=ls) (u:=u) (ep:=ep) (ob:=o) (each:=each) hab (fun {s'} {Q'} e q=>g3a e hd (q6z U.tb hu7) q) (fun {s'} {Q'} e q=>hea (by rw [e,ho]) q)
    xs {s with heap:=h1} t1 ks1 (fun _ s'=>wpAny (model prog w) A (pure ()) Q E s') (fun p hp=>U.tb.lt p (px.mem_iff.mp hp)) S1 (by rw [hl1,hxl];exact r1) ho1 (fun h2 t2 ks2 sb2 S2 m2 i2 l2=>?_)
   ·exact g0 key
   ·refine g9 ?_
    refine h h2 t2 ks2 (sb1.trans sb2) S2 (fun e=>by lia) (fun n=>?_) (fun e=>absurd e hk);rw [i2 n,(p1.map Prod.fst).mem_iff,(px.map Prod.fst).mem_iff]
end
theorem qew:entryFor table "set.__or__" = some Builtin.«frozenset.__or__» :=
 entryFor_alias (id':="frozenset.__or__") (by kernel_rfl) rfl (by decide +kernel) (by kernel_rfl)
theorem qi6:isSubtype (.type "set") (.type "set")=pure true:=by rw [g28];kernel_rfl
section
variable{prog:Program}{w:World}{A:Around}{E:Value->Shared->Prop}{s:Shared}{a b:Addr}{t u:SetTable}{ks ls:List (Nat×Nat)}
theorem SI.typeIs(S:SI w s.heap a t ks): s.TypeIs (.ref a) "set" :=let⟨o,_,ho,hc,_⟩:=S.ob; ⟨o,ho,hc.1⟩
def ye(w:World): Obj:={cls:=.type "set",dict:=none,data:=.set #[] 0 (.fresh 0 0 (!byT w))}
theorem qop{led:Bool}: Tb (.fresh 0 0 led) []:=⟨rfl,rfl,by simp,by simp,by simp [SetTable.fresh],by simp [SetTable.fresh],.inl ⟨rfl,by simp [SetTable.fresh]⟩⟩
theorem qex{h:Heap}(ho:h.get? a=some (ye w)): SI w h a (.fresh 0 0 (!byT w)) []:=⟨⟨_,0,ho,⟨rfl,rfl,rfl⟩,rfl⟩,qop,rfl⟩
theorem qm0{Q:Value->Shared->Prop}(h:Q (.ref s.heap.objs.size) {s with heap:=s.heap.push (ye w)}): wpAny (model prog w) A (newSet (.type "set")) Q E s:=by
 unfold newSet setsByText;refine g0 (g0 (t7 (g9 ?_)));dsimp only;simp only [newObj];exact g0 (wpAny_alloc (g9 h))
theorem qey(S:SI w s.heap a t ks){Q:Bool->Shared->Prop}(h:Q true s): wpAny (model prog w) A (Builtin.Frozenset.isAnySet (.ref a)) Q E s:=by
 unfold Builtin.Frozenset.isAnySet;show wpAny _ _ (isInstance (.ref a) (.type "set") >>= fun b=>_) _ _ _;refine g0 (g0g S.typeIs qi6 ?_);exact g9 h
theorem qwa{Q:Value->Shared->Prop}(hab:a≠b)(S:SI w s.heap a t ks)(hs:ks.length<5->t.mask=7)(hs7:t.mask=7->ks.length<8)(U:SI w s.heap b u ls)(hu:ls.length<5->u.mask=7)(hu7:u.mask=7->ls.length<8)
  (h:∀h' t' ks',(∀c o,c<s.heap.objs.size->s.heap.get? c=some o->h'.get? c=some o)->SI w h' s.heap.objs.size t' ks'->(t'.mask=7->ks'.length<8)->(∀n,n∈ks'.map Prod.fst↔n∈ks.map Prod.fst\/n∈ls.map Prod.fst)->Q (.ref s.heap.objs.size) {s with heap:=h'}) :
  wpAny (model prog w) A (binaryOp .BitOr (.ref a) (.ref b)) Q E s:=by
 refine wpAny_binaryOp_same S.typeIs U.typeIs F.fills_set_or F.slot_set_or (ng F.slot_set_or S.typeIs qew ?_ (F.args_set_or_2 _ _));have hla:a<s.heap.objs.size:=let⟨o,_,ho,_⟩:=S.ob;m4 ho
 have hlb:b<s.heap.objs.size:=let⟨o,_,ho,_⟩:=U.ob;m4 ho
 show wpAny _ _ ((Builtin.Frozenset.slot1 "__or__" ⟨[.ref a,.ref b],[]⟩) >>= _) _ _ _;refine g0 (g9 ?_);dsimp only;refine g0 ?_;show wpAny _ _ (Builtin.Frozenset.isAnySet (.ref a) >>= _) _ _ _;refine g0 (qey S ?_);refine qey U ?_;simp only [tx,m6, ↓reduceIte];refine g0 (g9 ?_);refine g0 ?_;show wpAny _ _ (Builtin.Frozenset.copyOf a >>= _) _ _ _;refine g0 ?_;unfold Builtin.Frozenset.copyOf Builtin.Frozenset.baseOf;refine g0 (g0 (g0g S.typeIs qi6 (g9 ?_)));simp only [↓reduceIte];refine g0 (qm0 ?_);refine g0 (g9 ?_);have hget:(s.heap.push (ye w)).get? s.heap.objs.size=some (ye w):=gr _ rfl;have old:∀c o,s.heap.get? c=some o->(s.heap.push (ye w)).get? c=some o:=fun c o e=>gc _ e;refine g0 (qev (s:={s with heap:=s.heap.push (ye w)}) (u9 hla) (qex hget) (fun _=>rfl) (fun _=>by simp) (S.keep (old a)) hs hs7 (fun _ q=>g9 q) fun h1 t1 ks1 sb1 S1 z1 i1 g1=>?_);refine g9 ?_;have old1:∀c o,c<s.heap.objs.size->s.heap.get? c=some o->h1.get? c=some o:=fun c o hc e=>by
  rw [sb1.2 c (md hc)];exact old c o e
 have hbne:((Value.ref b) != (Value.ref a))=true:=by simp [my hab]
 rw [m8 hbne];have U1:SI w h1 b u ls:=U.keep fun o e=>old1 b o hlb e;refine g0 (g9 ?_);refine g0 (nt ?_);unfold Builtin.Frozenset.updateFrom;refine g0 (qey (s:={s with heap:=h1}) U1 ?_);simp only [↓reduceIte];refine g0 (g9 ?_);unfold Builtin.Frozenset.merge;obtain⟨ob,ep,hob,hxb,hdb⟩:=id U1.ob;refine g0 (wpAny_setEpoch_of (s:={s with heap:=h1}) hob hdb (q6z U.tb hu7) ?_);refine qev (s:={s with heap:=h1}) (u9 hlb) S1 (fun e=>g1 rfl e) z1 U1 hu hu7 (fun {s'} {Q'} e q=>?_) fun h2 t2 ks2 sb2 S2 z2 i2 g2=>?_
 ·unfold Builtin.Frozenset.unchanged
  have e':s'.heap.get? b=some ob:=e.trans hob;refine g0 (wpAny_setEpoch_of e' hdb (q6z U.tb hu7) ?_);rw [ma (by simp)];exact g9 q
 ·refine g9 (g9 ⟨_,rfl,by simp,?_⟩)
  refine h h2 t2 ks2 (fun c o hc e=>?_) S2 z2 (fun n=>?_)
  ·rw [sb2.2 c (md hc)];exact old1 c o hc e
  ·rw [i2 n,i1 n];simp
end
def MR(t:SetTable)(ks:List (Nat×Nat)): Prop:=(ks.length<5->t.mask=7)/\(5<=ks.length->t.mask=31)
theorem MR.step{t t':SetTable}{ks ks':List (Nat×Nat)}{p:Nat×Nat}(m:MR t ks)(st:Step t ks p t' ks'): MR t' ks':=by
 obtain⟨T',l',c⟩:=st
 split at c
 ·obtain⟨rfl,rfl⟩:=c;exact m
 ·obtain⟨c1,c2⟩:=c
  have hl:ks'.length=ks.length+1:=by rw [c1.length_eq];rfl
  have h12:=T'.n12
  by_cases h5:ks.length<4
  ·rw [m.1 (by lia),ma (by lia)] at c2
   exact⟨fun _=>c2,fun h=>by lia⟩
  ·by_cases h6:ks.length=4
   ·rw [m.1 (by lia),h6] at c2
    have:t'.mask=31:=by rw [c2];decide
    exact⟨fun h=>by lia,fun _=>this⟩
   ·rw [m.2 (by lia),ma (by lia)] at c2
    exact⟨fun h=>by lia,fun _=>c2⟩
theorem Step.mem{t t':SetTable}{ks ks':List (Nat×Nat)}{p:Nat×Nat}(st:Step t ks p t' ks')(n:Nat): n∈ks'.map Prod.fst↔n∈ks.map Prod.fst\/n=p.1:=by
 obtain⟨T',l',c⟩:=st
 split at c
 ·rename_i hin
  obtain⟨rfl,rfl⟩:=c;exact⟨.inl,fun h=>h.elim id (fun e=>e ▸ hin)⟩
 ·rw [(c.1.map Prod.fst).mem_iff,gf,mh]
  exact Or.comm
def iv(p:Nat×Nat): Value:=.int (p.1:Int) p.2
section
variable{prog:Program}{w:World}{A:Around}{R:Result->Shared->Prop}{I:Addr}{fp wr:List Addr}{G:Array GenState->Array GenState->Prop}{P:Nat->Value->Prop}{St:Nat->Shared->Prop}
theorem qoq(qs:List (Nat×Nat))(hq:∀p∈qs,p.1<12)(W:WalksS prog w A.in1 I fp wr G qs.length P St)(S:Addr)(hSf:S∉fp)
  (hval:∀i v,P i v->∃p,qs[i]? = some p/\v=iv p) :
  ∀(k i:Nat) (s:Shared) (t:SetTable) (ks:List (Nat×Nat)),qs.length-i=k->i<=qs.length->St i s ->
   SI w s.heap S t ks->MR t ks->(∀n,n∈ks.map Prod.fst↔n∈(qs.take i).map Prod.fst) ->
   (∀s' t' ks',Moved (S :: wr) G s s'->SI w s'.heap S t' ks'->MR t' ks'->(∀n,n∈ks'.map Prod.fst↔n∈qs.map Prod.fst)->R (.ok (.ret .none)) s') ->
   codeAny (model prog w) A (.builtin "set.update.loop" ⟨[.ref S,.ref I],[]⟩) R s:=by
 have hSw:S∉wr:=fun h=>hSf (W.sub _ h);have hsub:∀b∈wr,b∈S :: wr:=fun b hb=>gj _ hb;intro k
 induction k with
 | zero=>
  intro i s t ks hk hi hst hS hM hmem hR;have hin:i=qs.length:=by lia
  subst hin;refine uo g2y ?_;rw [ud g14 _];show wpAny _ A.in1 (pyNext (.ref I) >>= _) _ _ s;refine g0 (W.done s _ _ hst fun s' hm=>?_);show wpAny _ A.in1 (ret Value.none) _ _ s';exact g9 (hR s' t ks (hm.mono hsub) (hS.keep fun o e=>hm.heap S _ hSw e) hM (by simpa using hmem))
 | succ k ih=>
  intro i s t ks hk hi hst hS hM hmem hR;have hlt:i<qs.length:=by lia
  refine uo g2y ?_;rw [ud g14 _];show wpAny _ A.in1 (pyNext (.ref I) >>= _) _ _ s;refine g0 (W.item i s _ _ hlt hst fun v s' hP hst' hm=>?_);obtain⟨p,hp,rfl⟩:=hval i v hP;have hp12:=hq p (uw hp);have hS':SI w s'.heap S t ks:=hS.keep fun o e=>hm.heap S _ hSw e;show wpAny _ A.in1 (holding [iv p] (setAdd S (iv p)) >>= _) _ _ s';refine g0 (nt ?_);unfold setAdd;refine nt ?_;refine g0 ((intKind prog w).pyHash (k:=(p.1:Int)) (g40 _ _ _ _) ?_);rw [q6y hp12];refine qly (s:={s' with toks:=s'.toks+1}) hS' hp12 (fun e=>g0j fun c=>by have:=hM.2 (by lia);lia) fun h' t' ks' hsb S2 st=>?_;refine g9 ⟨g19 g14 _,ih (i+1) _ t' ks' (by lia) hlt (W.frame _ s' _ _ hst' (g1w _) fun b hb o e=>?_) S2 (hM.step st) (fun n=>?_) fun s'' t'' ks'' hm'' hS'' hM'' hi''=>?_⟩
  ·rw [hsb.2 b (fun h:b=S=>hSf (by rw [<- h];exact hb))];exact e
  ·rw [st.mem n,hmem n]
   have:qs.take (i+1)=qs.take i++[p]:=by
    rw [g38,hp];rfl
   rw [this,p5,u6];simp
  ·refine hR s'' t'' ks'' (Moved.trans W.gtrans ((hm.mono hsub).then_heap (g1w _) fun b o hb e=>?_) hm'') hS'' hM'' hi''
   rw [hsb.2 b (fun h:b=S=>hb (by rw [h];exact gi))];exact e
end
theorem sub_tuple_set:isSubtype (.type "tuple") (.type "set")=pure false:=by rw [g28];kernel_rfl
theorem sub_tuple_frozenset:isSubtype (.type "tuple") (.type "frozenset")=pure false:=by rw [g28];kernel_rfl
section
variable{prog:Program}{w:World}{A:Around}{E:Value->Shared->Prop}{s:Shared}
theorem qm1(a:Value){Q₁:Value->Shared->Prop}(h:Q₁ (.ref s.heap.objs.size) {s with heap:=s.heap.push (ye w)}):
  codeAny (model prog w) A (.call (.builtin "set.__new__") ⟨[.type "set",a],[]⟩) (wants Q₁ E) s:=by
 refine codeAny_of_tree ?_;show wpAny _ A.in1 (do checkBuiltinCall "set.__new__" ⟨[.type "set",a],[]⟩;again (.builtin "set.__new__" ⟨[.type "set",a],[]⟩)) _ _ s;refine g0 (g62 (F.newCall_set_1 a) (g9 ⟨g19 F.plain_set_new _,uo F.entry_set_new ?_⟩));rw [ud F.plain_set_new _];unfold Builtin.«set.__new__» Builtin.Frozenset.newClass;have hsub:=sub_set_self;obtain⟨hp,g,d,tk,os⟩:=s;dsimp only
 wp_walk
 refine t7 (g9 ?_);dsimp only;simp only [newObj];refine g0 (wpAny_alloc (g9 ?_));exact g9 h
set_option maxHeartbeats 3200000 in
theorem qc4{l:Addr}(qs:List (Nat×Nat))(hq:∀p∈qs,p.1<12){Q:Value->Shared->Prop}
  (hh:A.handled=none) (hl:s.heap.IsTuple l (qs.map iv).toArray)
  (h:∀(h':Heap) (tk:Nat) t ks,SI w h' s.heap.objs.size t ks->MR t ks->(∀n,n∈ks.map Prod.fst↔n∈qs.map Prod.fst)->s.toks<=tk ->
   (∀b o,b<s.heap.objs.size->s.heap.get? b=some o->h'.get? b=some o)->Q (.ref s.heap.objs.size) {s with heap:=h',toks:=tk}) :
  wpAny (model prog w) A (call (.type "set") [.ref l]) Q E s:=by
 obtain⟨c,tl,hmro⟩:=g1e.mro;have hmade:=g1e.made;have hsub:=g1e.sub;refine g52 (codeAny_of_tree ?_);show wpAny _ _ (callAny (.type "set") _) _ _ _;refine g9 ⟨Code.quiet_builtin _ (by decide +kernel),uo F.entry_type_call ?_⟩;rw [Around.under_plain (weight_type_call_type "set" [.ref l] []) rfl];have h1:=g1e.notType;have h2:=g1e.canCreate;have hct:=F.typeCall_set_1 (.ref l)
 repeat (any_goals (first|assumption|wp_step))
 refine g3u (qm1 (.ref l) (E:=E) (Q₁:=fun obj s₁=>obj=.ref s.heap.objs.size/\s₁ = {s with heap:=s.heap.push (ye w)}) ⟨rfl,rfl⟩) fun r s₁ hr=>?_;cases r with
 | error e=>exact hr
 | ok fl=>
  cases fl with
  | ret obj=>
   obtain⟨rfl,rfl⟩:=hr;have hS:(s.heap.push (ye w)).get? s.heap.objs.size=some (ye w):=gr _ rfl;have hT:Shared.TypeIs {s with heap:=s.heap.push (ye w)} (.ref s.heap.objs.size) "set" :=⟨_,hS,rfl⟩
   have hli:=g1e.init.lookup;have hbi:=g1e.init.bind (.ref s.heap.objs.size)
   repeat (any_goals (first|assumption|wp_step))
   refine g3u (g2b (R:=wants (fun r s₂=>r=.none/\∃h' tk t ks,s₂ = {s with heap:=h',toks:=tk}/\SI w h' s.heap.objs.size t ks/\MR t ks/\(∀n,n∈ks.map Prod.fst↔n∈qs.map Prod.fst)/\s.toks<=tk /\
     (∀b o,b<s.heap.objs.size->s.heap.get? b=some o->h'.get? b=some o)) E) g1e.init.plain F.entry_set_init (check_set_init_1 hT ?_)) fun r₂ s₂ hr₂=>?_
   ·have hl1:(s.heap.push (ye w)).IsTuple l (qs.map iv).toArray:=hl.push _
    obtain⟨ol,hol,hcl,hdl⟩:=id hl1;have hsls:=sub_tuple_set;have hslf:=sub_tuple_frozenset;have hne:(Value.type "tuple" == Value.type "dict")=false:=by decide
    have hTl:Shared.TypeIs {s with heap:=s.heap.push (ye w)} (.ref l) "tuple" :=⟨_,hol,hcl⟩
    unfold Builtin.«set.__init__» noKeywords Builtin.Frozenset.updateFrom;generalize hPI:pyIter=PI
    wp_walk
    subst hPI;refine g2v hl1 ?_;refine g0 (wpAny_runValue ?_);have hlS:l<s.heap.objs.size:=let⟨_,h0,_⟩:=hl;m4 h0
    have hh3:A.in1.in1.in1.handled=none:=by simp [hh]
    have hneI:l≠(s.heap.push (ye w)).objs.size:=by
     rw [t9];exact md (g23 hlS)
    have hSf:s.heap.objs.size∉[(s.heap.push (ye w)).objs.size,l]:=by
     rw [t9];simp only [mh,ur,ux,g2c,g6d];exact⟨md (ph _),u9 hlS⟩
    have hval:∀(i:Nat) (v:Value),(qs.map iv).toArray[i]? = some v->∃p,qs[i]? = some p/\v=iv p:=fun i v hv=>by
     simp only [List.getElem?_toArray,mj,gv] at hv;obtain⟨p,e1,e2⟩:=hv;exact⟨p,e1,e2.symm⟩
    have W:=(Walks.tuple (prog:=prog) (w:=w) hh3 (s.heap.push (ye w)).objs.size l hneI (qs.map iv).toArray).toS;have hsz:(qs.map iv).toArray.size=qs.length:=by simp
    rw [hsz] at W;refine qoq qs hq W s.heap.objs.size hSf hval (qs.length-0) 0 _ (.fresh 0 0 (!byT w)) [] (by lia) (g08 _)
     ⟨⟨_,gr _ rfl,rfl,rfl⟩,(hl1.push _)⟩ (qex (gc _ hS)) ⟨fun _=>rfl,fun h=>by simp at h⟩ (fun n=>by simp) fun s' t' ks' hm hS' hM' hi'=>?_
    obtain⟨h',g',d',tk',os'⟩:=s';have eg:g'=s.gens:=hm.gens;have ed:d'=s.drawn:=hm.drawn;have eo:os'=s.os:=hm.os;have etk:s.toks<=tk':=hm.toks;subst eg;subst ed;subst eo;show wpAny _ _ _ _ _ _;refine g9 ?_;show wpAny _ _ (ret Value.none) _ _ _;refine g9 ⟨rfl,h',tk',t',ks',rfl,hS',hM',hi',etk,fun b o hb e=>?_⟩;have hb1:b≠s.heap.objs.size:=md hb;have hb2:b≠(s.heap.push (ye w)).objs.size:=by
     rw [t9];exact md (g23 hb)
    exact hm.heap b o (by simp only [mh,ur,ux,g2c,g6d];exact⟨hb1,hb2⟩) (gc _ (gc _ e))
   ·cases r₂ with
    | error e=>exact hr₂
    | ok fl₂=>
     cases fl₂ with
     | ret r=>
      obtain⟨rfl,h',tk,t,ks,rfl,hS',hM',hi',htk',hk'⟩:=hr₂
      repeat (any_goals (first|assumption|wp_step))
      exact h _ _ _ _ hS' hM' hi' htk' hk'
     | _=>exact hr₂.elim
  | _=>exact hr.elim
end
theorem qez:Manifest.owners.lookup (String.ofList ['r','o','t','a','r','e','t','i','_','t','e','s'].reverse)=some Manifest.sig_set_iterator:=by kernel_rfl
theorem slot_si_next:Slot "set_iterator" "__next__" "set_iterator.__next__" :=
 .of (owner:="set_iterator") (n:="__next__") (by rw [g1q,g0i];kernel_rfl) (by decide +kernel) (by decide +kernel) (by decide +kernel)
  (by first|exact .inl (by decide +kernel)|exact .inr (by decide +kernel)) (by rw [g28];kernel_rfl)
theorem q7m:entryFor table "set_iterator.__next__" = some Builtin.«set_iterator.__next__» :=entryFor_of_tree (by kernel_rfl)
theorem q83(a:Value): argsOk "set_iterator.__next__" ⟨[a],[]⟩:=by
 unfold argsOk;rw [signature?_of (id:="set_iterator.__next__") (n:=['_','_','t','x','e','n','_','_']) (o:=['r','o','t','a','r','e','t','i','_','t','e','s']) (by kernel_rfl) qez];kernel_rfl
theorem q84:Slot "set_iterator" "__iter__" "set_iterator.__iter__" :=
 .of (owner:="set_iterator") (n:="__iter__") (by rw [g1q,g0i];kernel_rfl) (by decide +kernel) (by decide +kernel) (by decide +kernel)
  (by first|exact .inl (by decide +kernel)|exact .inr (by decide +kernel)) (by rw [g28];kernel_rfl)
theorem qdm:entryFor table "set_iterator.__iter__" = some Builtin.«dict_keyiterator.__iter__» :=
 entryFor_alias (id':="dict_keyiterator.__iter__") (by kernel_rfl) rfl (by decide +kernel) (by kernel_rfl)
theorem qf0(a:Value): argsOk "set_iterator.__iter__" ⟨[a],[]⟩:=by
 unfold argsOk;rw [signature?_of (id:="set_iterator.__iter__") (n:=['_','_','r','e','t','i','_','_']) (o:=['r','o','t','a','r','e','t','i','_','t','e','s']) (by kernel_rfl) qez];kernel_rfl
theorem qc5:entryFor table "set.__iter__" = some Builtin.«frozenset.__iter__» :=
 entryFor_alias (id':="frozenset.__iter__") (by kernel_rfl) rfl (by decide +kernel) (by kernel_rfl)
def SIt(h:Heap)(it a:Addr)(slot i n ep:Nat): Prop:=∃o,h.get? it=some o/\o.cls=.type "set_iterator" /\ o.data=.fields #[.int slot 0,.int i 0,.ref a,.int n 0,.int ep 0]
def Row(w:World)(a:Addr)(ep:Nat)(ks vals:List (Nat×Nat)): Prop:=
 (byT w=true->(vals.map el).toArray=pickOrder (w.params.setOrder a ep) (ks.map el).toArray)/\(byT w=false->vals=ks)
theorem qud(w:World)(a:Addr)(ep:Nat)(ks:List (Nat×Nat)): ∃vals,Row w a ep ks vals/\vals.Perm ks:=by
 cases hb:byT w
 ·exact⟨ks,⟨by simp [hb],fun _=>rfl⟩,g6e _⟩
 ·have hp:=q6d (w.params.setOrder a ep) (ks.map el).toArray
  generalize hx:pickOrder (w.params.setOrder a ep) (ks.map el).toArray=xs at hp;have hp':xs.toList.Perm (ks.map el):=by simpa using hp
  obtain⟨ls,hl,e⟩:=q9z hp';refine⟨ls,⟨fun _=>?_,by simp [hb]⟩,hl⟩;rw [hx, <- e]
def SAt(w:World)(h:Heap)(a:Addr)(t:SetTable)(ks:List (Nat×Nat))(ep:Nat): Prop:=
 (∃o,h.get? a=some o/\o.ExactSet/\o.data=.set (ks.map el).toArray ep t)/\Tb t ks/\t.led=(!byT w)/\(t.mask=7->ks.length<8)
def Far(w:World)(t:SetTable)(slot i:Nat): Prop:=byT w=false->(∀x∈t.place.toList.take i,x<slot)/\(∀x∈t.place.toList.drop i,slot<=x)
section
variable{prog:Program}{w:World}{A:Around}{E:Value->Shared->Prop}{s:Shared}{a it:Addr}{t:SetTable}{ks vals:List (Nat×Nat)}{ep slot i:Nat}
theorem SAt.typeIs(S:SAt w s.heap a t ks ep): s.TypeIs (.ref a) "set" :=let⟨⟨o,ho,hc,_⟩,_⟩:=S; ⟨o,ho,hc.1⟩
theorem SIt.typeIs{n:Nat}(S:SIt s.heap it a slot i n ep): s.TypeIs (.ref it) "set_iterator" :=let⟨o,ho,hc,_⟩:=S; ⟨o,ho,hc⟩
theorem SAt.state{Q:(Array (Int×Value)×Nat×SetTable)->Shared->Prop}(S:SAt w s.heap a t ks ep)(h:Q ((ks.map el).toArray,ep,t) s): wpAny (model prog w) A (setState a) Q E s:=by
 obtain⟨⟨o,ho,hc,hd⟩,T,l,h7⟩:=S;exact g3a ho hd (q6z T h7) h
theorem SAt.keep{h h':Heap}(S:SAt w h a t ks ep)(e:∀o,h.get? a=some o->h'.get? a=some o): SAt w h' a t ks ep:=by
 obtain⟨⟨o,ho,r⟩,q⟩:=S;exact⟨⟨o,e o ho,r⟩,q⟩
theorem qor{Q:Value->Shared->Prop}(S:SAt w s.heap a t ks ep)(h:Q (.ref s.heap.objs.size) {s with heap:=s.heap.push {cls:=.type "set_iterator",data:=.fields #[.int 0 0,.int 0 0,.ref a,.int ks.length 0,.int ep 0]} }):
  wpAny (model prog w) A (pyIter (.ref a)) Q E s:=by
 refine g4y S.typeIs F.slot_set_iter (ng F.slot_set_iter S.typeIs qc5 ?_ (F.args_set_iter_1 _));unfold Builtin.«frozenset.__iter__»;refine g0 (m:=Builtin.Frozenset.slot0 "__iter__" _) (g9 ?_);refine g0 ?_;unfold Builtin.Frozenset.sizeOf setEntries;refine g0 (g0 (S.state (g9 (g9 ?_))));refine g0 ?_;unfold setDrawn setsByText;refine g0 (S.state ?_);dsimp only;refine g0 (g0 (t7 (g9 (g9 ?_))));refine p8 (fun c=>?_) (fun _=>?_)
 ·have c':(!byT w&&(!t.plain&&decide ((ks.map el).toArray.size>1)))=true:=c
  rw [S.2.1.pl] at c';simp at c'
 refine g0 (g9 ?_);refine g0 ?_;unfold setEpoch;refine g0 (S.state (g9 ?_));have hsz:(ks.map el).toArray.size=ks.length:=by simp
 rw [hsz];refine g0 (t8 (g9 ⟨_,rfl,"set_iterator",_,⟨_,gr _ rfl,rfl⟩,slot_si_next.lookup,?_⟩));exact h
theorem qb4{h:Heap}{o:Obj}{vs:Array Value}{x:Value}{j:Nat}(ho:h.get? it=some o)(hd:o.data=.fields vs):
  ∃o',(h.update it (Obj.mapFields (·.setIfInBounds j x))).get? it=some o'/\o'.cls=o.cls/\o'.data=.fields (vs.setIfInBounds j x):=
 ⟨_,g0h _ ho (Obj.isFreed_of_fields (g2w hd _)),Obj.cls_mapFields ..,g2w hd _⟩
theorem next_item{Q:Option Value->Shared->Prop}{p:Nat×Nat}(I:SIt s.heap it a slot i ks.length ep)(S:SAt w s.heap a t ks ep)(R:Row w a ep ks vals)(F:Far w t slot i)(hp:vals[i]? = some p)
  (h:∀h' slot',SIt h' it a slot' (i+1) ks.length ep->Far w t slot' (i+1)->Heap.SameBut it s.heap h'->Q (some (.int (p.1:Int) p.2)) {s with heap:=h'}) :
  wpAny (model prog w) A (pyNext (.ref it)) Q E s:=by
 obtain⟨o,ho,hc,hd⟩:=id I;unfold pyNext;refine g0 (g0s (pf (name:=Str.ofString "__next__") I.typeIs slot_si_next
  (ng slot_si_next I.typeIs q7m ?_ (q83 _))))
 unfold Builtin.«set_iterator.__next__»;refine g0 (m:=slotArgs "__next__" 0 _) (g9 ?_);dsimp only;refine g0 (g4a ho hd ?_);dsimp only;unfold setEntries;refine g0 (g0 (S.state (g9 ?_)));have hsz:(((ks.map el).toArray.size:Int) != (ks.length:Int))=false:=by simp
 dsimp only;rw [hsz];simp only [m6, ↓reduceIte,nj];have key:∃slot',Far w t slot' (i+1)/\∀ {Q':Option (Value×Nat)->Shared->Prop} {E':Value->Shared->Prop},Q' (some (.int (p.1:Int) p.2,slot')) s->wpAny (model prog w) A.in1 (setNext a slot i ep) Q' E' s:=by
  cases hb:byT w
  ·have hv:vals=ks:=R.2 hb
   rw [hv] at hp;obtain⟨f1,f2⟩:=F hb;have hpl:t.place=(t.place.toList.take i++t.place.toList.drop i).toArray:=by simp
   have hi:i<ks.length:=(mv.mp hp).1;have hi':i<t.place.toList.length:=by rw [S.2.1.sz];exact hi
   have hbel:SetTable.below t.place slot=i:=by
    rw [hpl,below_at f1 f2];simp at hi' ⊢;lia
   have hpj:t.place[i]? = some (t.place.toList[i]):=by rw [<- g29];exact ml hi'
   have hei:(ks.map el).toArray[i]? = some (el p):=by simp [hp]
   have hdr:t.place.toList.drop i=t.place.toList[i] :: t.place.toList.drop (i+1):=g2n hi';have htk:t.place.toList.take (i+1)=t.place.toList.take i++[t.place.toList[i]]:=by
    rw [g38,ml hi'];rfl
   have hrs:=S.2.1.rs;rw [<- g16 i t.place.toList,hdr] at hrs;obtain⟨r1,r2,r3⟩:=g2f.mp hrs;refine⟨t.place.toList[i]+1,fun _=>⟨fun x hx=>?_,fun x hx=>?_⟩,fun {Q'} {E'} q=>?_⟩
   ·rw [htk] at hx
    rcases u6.mp hx with h|h
    ·have:=r3 x h _ (gi ..);lia
    ·have:=ur.mp h;lia
   ·have:=(g1p.mp r2).1 x hx;lia
   ·unfold setNext setsByText
    refine g0 (S.state ?_);dsimp only;refine g0 (g0 (t7 (g9 ?_)));refine p8 (fun c=>?_) (fun _=>?_)
    ·have c':byT w=true:=c
     rw [hb] at c';exact absurd c' (by decide)
    refine p8 (fun c=>?_) (fun _=>?_)
    ·have c':(!t.plain&&decide ((ks.map el).toArray.size>1))=true:=c
     rw [S.2.1.pl] at c';simp at c'
    have hld:t.led=true:=by rw [S.2.2.1,hb];rfl
    show wpAny _ _ ((do if !t.led && !(ks.map el).toArray.isEmpty then unsupported "set:maker-not-led" : Sem Unit) >>= fun _=>_) _ _ _;rw [hld];simp only [tx,g48,m6, ↓reduceIte];refine g0 (g9 (g9 ?_));rw [hbel,hei,hpj];exact q
  ·have hv:=R.1 hb
   refine⟨slot,fun c=>?_,fun {Q'} {E'} q=>?_⟩
   ·rw [hb] at c;exact absurd c (by decide)
   ·unfold setNext setsByText
    refine g0 (S.state ?_);dsimp only;refine g0 (g0 (t7 (g9 ?_)));refine p8 (fun _=>?_) (fun c=>absurd hb c);rw [ma (by simp)];refine g0 ?_;unfold setWalk setsByText;refine g0 (S.state ?_);dsimp only;refine g0 (g0 (t7 (g9 ?_)));refine p8 (fun _=>?_) (fun c=>absurd hb c);refine g0 (t7 (g9 (g9 ?_)));have:(pickOrder (w.params.setOrder a ep) (ks.map el).toArray)[i]? = some (el p):=by rw [<- hv];simp [hp]
    show Q' (((pickOrder (w.params.setOrder a ep) (ks.map el).toArray)[i]?).map fun e=>(e.2,slot)) s;rw [this];exact q
 obtain⟨slot',F',kn⟩:=key;refine g0 (kn ?_);dsimp only;refine g0 (g36 ho hd (by simp) ?_);obtain⟨o1,ho1,hc1,hd1⟩:=qb4 (x:=rawInt slot') (j:=0) ho hd;refine g0 (g36 (s:={s with heap:=s.heap.update it (Obj.mapFields (·.setIfInBounds 0 (rawInt slot')))}) ho1 hd1 (by simp) (g9 ⟨_,rfl,g9 (h _ slot' ?_ F' ((t5 ..).trans (t5 ..)))⟩));obtain⟨o2,ho2,hc2,hd2⟩:=qb4 (x:=rawInt (i+1)) (j:=1) ho1 hd1;exact⟨o2,ho2,hc2.trans (hc1.trans hc),by rw [hd2];simp [rawInt]⟩
theorem next_end{Q:Option Value->Shared->Prop}(hh:A.handled=none)(hi:i=ks.length)(I:SIt s.heap it a slot i ks.length ep)(S:SAt w s.heap a t ks ep)(R:Row w a ep ks vals)(hvl:vals.length=ks.length)(F:Far w t slot i)
  (h:∀h',Heap.ExtBut it s.heap h'->Q none {s with heap:=h'}) :
  wpAny (model prog w) A (pyNext (.ref it)) Q E s:=by
 obtain⟨o,ho,hc,hd⟩:=id I;unfold pyNext;refine g0 (g0s (pf (name:=Str.ofString "__next__") I.typeIs slot_si_next
  (ng slot_si_next I.typeIs q7m ?_ (q83 _))))
 unfold Builtin.«set_iterator.__next__»;refine g0 (m:=slotArgs "__next__" 0 _) (g9 ?_);dsimp only;refine g0 (g4a ho hd ?_);dsimp only;unfold setEntries;refine g0 (g0 (S.state (g9 ?_)));have hsz:(((ks.map el).toArray.size:Int) != (ks.length:Int))=false:=by simp
 dsimp only;rw [hsz];simp only [m6, ↓reduceIte,nj];have key:∀ {Q':Option (Value×Nat)->Shared->Prop} {E':Value->Shared->Prop},Q' none s->wpAny (model prog w) A.in1 (setNext a slot i ep) Q' E' s:=by
  intro Q' E' q;unfold setNext setsByText;refine g0 (S.state ?_);dsimp only;refine g0 (g0 (t7 (g9 ?_)));cases hb:byT w
  ·refine p8 (fun c=>?_) (fun _=>?_)
   ·have c':byT w=true:=c
    rw [hb] at c';exact absurd c' (by decide)
   refine p8 (fun c=>?_) (fun _=>?_)
   ·have c':(!t.plain&&decide ((ks.map el).toArray.size>1))=true:=c
    rw [S.2.1.pl] at c';simp at c'
   have hld:t.led=true:=by rw [S.2.2.1,hb];rfl
   show wpAny _ _ ((do if !t.led && !(ks.map el).toArray.isEmpty then unsupported "set:maker-not-led" : Sem Unit) >>= fun _=>_) _ _ _;rw [hld];simp only [tx,g48,m6, ↓reduceIte];refine g0 (g9 (g9 ?_));obtain⟨f1,f2⟩:=F hb;have hpl:t.place=(t.place.toList.take i++t.place.toList.drop i).toArray:=by simp
   have hbel:SetTable.below t.place slot=i:=by
    rw [hpl,below_at f1 f2];have:=S.2.1.sz;simp at this ⊢;lia
   have hei:(ks.map el).toArray[i]? = none:=by simp [hi]
   rw [hbel,hei];exact q
  ·refine p8 (fun _=>?_) (fun c=>absurd hb c)
   rw [ma (by simp)];refine g0 ?_;unfold setWalk setsByText;refine g0 (S.state ?_);dsimp only;refine g0 (g0 (t7 (g9 ?_)));refine p8 (fun _=>?_) (fun c=>absurd hb c);refine g0 (t7 (g9 (g9 ?_)));have:(pickOrder (w.params.setOrder a ep) (ks.map el).toArray)[i]? = none:=by rw [<- R.1 hb];simp [hi,hvl]
   show Q' (((pickOrder (w.params.setOrder a ep) (ks.map el).toArray)[i]?).map fun e=>(e.2,slot)) s;rw [this];exact q
 refine g0 (key ?_);dsimp only;refine g0 (g36 ho hd (by simp) ?_);show wpAny _ _ (newExc (.type "StopIteration") [] >>= _) _ _ _;refine g0 ?_;simp only [newExc,newTuple];refine g0 (t8 ?_ (by size_fits));refine g0 (m:=firstArgMember _ _) (g62 (a:=Value.none) (by first|rfl|(simp only [firstArgMember];rfl)) ?_);refine t8 ?_ (by size_fits);simp only [raiseNew];refine g0 (g4l ?_)
 first|rw [show A.in1.handled=none from hh]|rw [hh]
 refine g0 (g9 (wpAny_throw ?_));refine g0 (g0g (T:="StopIteration") (b:=true) ⟨_,gr _ rfl,rfl⟩ isSubtype_stop ?_);exact g9 (h _ (((t5 ..).extBut.push _).push _))
theorem qm2(hh:A.handled=none)(hne:a≠it)(R:Row w a ep ks vals)(hvl:vals.length=ks.length):
  Walks prog w A it [it,a] [it] ks.length (fun i v=>∃p,vals[i]? = some p/\v=.int (p.1:Int) p.2) (fun i h=>∃slot,SIt h it a slot i ks.length ep/\SAt w h a t ks ep/\Far w t slot i) where
 sub:=fun b hb=>by simp at hb;simp [hb]
 frame:=fun i h h' st hk=>by
  obtain⟨slot,⟨o,ho,r⟩,S,F⟩:=st;exact⟨slot,⟨o,hk it (by simp) o ho,r⟩,S.keep (fun o e=>hk a (by simp) o e),F⟩
 item:=fun i s Q E hi st hQ=>by
  obtain⟨slot,I,S,F⟩:=st;have hi':i<vals.length:=by lia
  refine next_item I S R F (ml hi') fun h' slot' I' F' sb=>?_;exact hQ _ h' s.toks ⟨_,ml hi',rfl⟩ ⟨slot',I',S.keep (fun o e=>sb.extBut a o hne e),F'⟩ fun b o hb e=>sb.extBut b o (fun h=>hb (by simp [h])) e
 done:=fun s Q E st hQ=>by
  obtain⟨slot,I,S,F⟩:=st;exact next_end hh rfl I S R hvl F fun h' he=>hQ h' s.toks fun b o hb e=>he b o (fun h=>hb (by simp [h])) e
 self:=fun i s Q E st hQ=>by
  obtain⟨slot,I,S,F⟩:=st;refine g4y I.typeIs q84 (ng q84 I.typeIs qdm ?_ (qf0 _));show wpAny _ _ (ret (.ref it)) _ _ s;exact g9 ⟨_,rfl,"set_iterator",_,I.typeIs,slot_si_next.lookup,hQ⟩
end
end Js
namespace Js
open PySem PyProof.Rows
section
variable{prog:Program}{w:World}{A:Around}{E:Value->Shared->Prop}{s:Shared}{a:Addr}{t:SetTable}{ks vals:List (Nat×Nat)}{ep:Nat}
theorem qos{Q:Bool->Shared->Prop}(hT:s.TypeIs (.ref a) "set")(h:Q false s): wpAny (model prog w) A (Builtin.List.listLengthHint (.ref a)) Q E s:=by
 unfold Builtin.List.listLengthHint;refine g0 (g2o hT F.slot_set_len.lookup ?_);generalize hid:("set.__len__" : String)=id0;dsimp only;rw [show splitId id0=some ("set","__len__") from by subst hid;decide +kernel];subst hid;dsimp only;refine g0 (g0g (T:="set") (b:=true) hT (by rw [g28];kernel_rfl) ?_);refine p8 (fun hab=>absurd hab (by decide)) (fun _=>?_);refine p8 (fun _=>?_) (fun hab=>absurd (by decide +kernel) hab);refine g0 (g12 hT ?_);exact g9 h
def iv'(p:Nat×Nat): Value:=.int (p.1:Int) p.2
theorem qot{vals:List (Nat×Nat)}{n:Nat}{acc:Array Value}(hn:vals.length=n)(h:ItemsOf (fun i v=>∃p,vals[i]? = some p/\v=.int (p.1:Int) p.2) acc n): acc.toList=vals.map iv':=by
 apply List.ext_getElem?;intro i
 by_cases hi:i<n
 ·have h1:i<acc.size:=by rw [h.1];exact hi
  have e:acc[i]? = some acc[i]:=g55 h1;obtain⟨p,hp,hv⟩:=h.2 i _ e;rw [g29,e,mj,hp,hv];rfl
 ·rw [g29,Array.getElem?_eq_none (by rw [h.1];omega),mj,g6f (by omega)];rfl
theorem qgx{Q:List Value->Shared->Prop}(hh:A.handled=none)(S:SAt w s.heap a t ks ep)
  (h:∀(s':Shared) (vals:List (Nat×Nat)),vals.Perm ks->(∀b o,b<s.heap.objs.size->s.heap.get? b=some o->s'.heap.get? b=some o)->s.heap.objs.size<=s'.heap.objs.size->s'.gens=s.gens->s'.drawn=s.drawn->s'.os=s.os->s.toks<=s'.toks->Q (vals.map iv') s') :
  wpAny (model prog w) A (collect (.ref a)) Q E s:=by
 have hla:a<s.heap.objs.size:=let⟨⟨o,ho,_⟩,_⟩:=S;m4 ho
 unfold collect;refine g0 (wpAny_runValue (uo F.entry_proto_collect ?_));rw [ud F.plain_proto_collect _];show wpAny _ A.in1 (newList [] >>= fun l=>again (.builtin "list.__iadd__" ⟨[l,.ref a],[]⟩)) _ _ s;refine g0 (t8 ?_);refine g9 ⟨g19 F.plain_list_iadd _,uo F.entry_list_iadd ?_⟩;rw [ud F.plain_list_iadd _]
 let lo:Obj:={cls:=.type "list",data:=.seq ([]:List Value).toArray}
 have S1:SAt w (s.heap.push lo) a t ks ep:=S.keep fun o e=>gc _ e;show wpAny _ A.in1 (Builtin.List.listExtendWith (.ref s.heap.objs.size) (.ref a) (.ref s.heap.objs.size)) _ _ _;unfold Builtin.List.listExtendWith;refine g0 (g12 S1.typeIs ?_);have h1:Builtin.List.listSameRef (.ref s.heap.objs.size) (.ref a)=false:=by simp [Builtin.List.listSameRef];exact u9 hla
 have h2:(Value.type "set" == Value.type "list")=false:=by decide
 have h3:(Value.type "set" == Value.type "tuple")=false:=by decide
 simp only [h1,h2,h3,Bool.or_false,m6,t6]
 let io:Obj:={cls:=.type "set_iterator",data:=.fields #[.int 0 0,.int 0 0,.ref a,.int ks.length 0,.int ep 0]}
 refine g0 (qor (s:={s with heap:=s.heap.push lo}) S1 ?_);have hsz1:(s.heap.push lo).objs.size=s.heap.objs.size+1:=t9 ..;have S2:SAt w ((s.heap.push lo).push io) a t ks ep:=S1.keep fun o e=>gc _ e;refine g0 (nt (qos (s:={s with heap:=(s.heap.push lo).push io}) S2.typeIs ?_));refine p8 (fun _=>?_) (fun hab=>absurd (by decide +kernel) hab);refine g0 (g04 ?_);have hL1:((s.heap.push lo).push io).get? s.heap.objs.size=some lo:=gc _ (gr _ rfl);refine g0 ?_;show wpAny _ A.in1 (updateSeq s.heap.objs.size (·.push .none) >>= fun _=>updateSeq s.heap.objs.size (·.pop)) _ _ _;refine g0 (g5x (s:={s with heap:=(s.heap.push lo).push io}) hL1 rfl ?_);have hL2:=g0h (Obj.mapSeq (·.push Value.none)) hL1 rfl;refine g5x hL2 rfl ?_;have hL3:=g0h (Obj.mapSeq (·.pop)) hL2 rfl
 let h3':=(((s.heap.push lo).push io).update s.heap.objs.size (Obj.mapSeq (·.push Value.none))).update s.heap.objs.size (Obj.mapSeq (·.pop))
 have oth:∀b o,b≠s.heap.objs.size->((s.heap.push lo).push io).get? b=some o->h3'.get? b=some o:=
  fun b o hb e=>(g10 _ _ (my hb)).trans ((g10 _ _ (my hb)).trans e)
 obtain⟨vals,hR,hvp⟩:=qud w a ep ks;have hvl:vals.length=ks.length:=hvp.length_eq;have W:=(qm2 (prog:=prog) (w:=w) (A:=A.in1) (it:=(s.heap.push lo).objs.size) (t:=t) (vals:=vals) (by simpa using hh) (by rw [hsz1];exact md (g23 hla)) hR hvl).toS;have hIt:SIt h3' (s.heap.push lo).objs.size a 0 0 ks.length ep:=⟨io,oth _ _ (by rw [hsz1];exact Nat.succ_ne_self _) (gr _ rfl),rfl,rfl⟩
 have hn12:=S.2.1.n12;refine g9 ⟨g19 F.plain_extend_loop _,codeAny_extend_loopS W (by rw [g1v];omega) s.heap.objs.size (by rw [hsz1];simp only [mh,ux,g2c,g6d];exact⟨md (ph _),u9 hla⟩) _ ks.length 0 _ _ _ rfl (g08 _)
  ⟨0,hIt,S2.keep fun o e=>oth a o (md hla) e,fun _=>⟨by simp,by simp⟩⟩ hL3 (ItemsOf.nil _) fun s' acc' c' hm hS' hacc=>?_⟩
 show wpAny _ A (load s.heap.objs.size >>= _) _ _ s';refine g0 (wpAny_load hS' ?_);refine g9 ?_;rw [qot hvl hacc];refine h s' vals hvp (fun b o hb e=>hm.heap b o (by rw [hsz1];simp only [mh,ux,g2c,g6d];exact⟨md hb,md (g23 hb)⟩) (oth b o (md hb) (gc _ (gc _ e)))) (g11 (m4 hS')) hm.gens hm.drawn hm.os hm.toks
theorem qj7{Q:Value->Shared->Prop}(hh:A.handled=none)(S:SAt w s.heap a t ks ep)
  (h:∀(h':Heap) (tk:Nat) (c:Addr) (out:List Value) (ns':List Int) (e:Nat),IntsAre out ns'->ns'.Perm (ks.map fun p=>(p.1:Int))->ns'.Pairwise (· <= ·)->(∀b o,b<s.heap.objs.size->s.heap.get? b=some o->h'.get? b=some o) ->
   s.heap.objs.size<=c->h'.get? c=some (seqObj "list" out.toArray e)->s.toks<=tk->Q (.ref c) {s with heap:=h',toks:=tk}) :
  wpAny (model prog w) A (call (.builtin "sorted") [.ref a]) Q E s:=by
 refine Calls.call_function_entry kind_sorted plain_sorted entry_sorted (args_sorted1 _) ?_;unfold Builtin.«sorted»;refine g0 (m:=checkCount "sorted" 1 1 _) (g9 ?_);have hn12:=S.2.1.n12;refine g0 (qgx (A:=A.in1) (by simpa using hh) S fun s1 vals hp hk hz hg hd ho ht=>?_);have hvl:vals.length=ks.length:=hp.length_eq;refine g0 (wpAny_newList ?_);have hoL:(s1.heap.push (seqObj "list" (vals.map iv').toArray 0)).get? s1.heap.objs.size=some (seqObj "list" (vals.map iv').toArray 0):=gr _ rfl;have hI:IntsAre (vals.map iv') (vals.map fun p=>(p.1:Int)):=by
  clear hoL hvl hp
  induction vals with
  | nil=>exact .nil
  | cons p l ih=>exact .cons _ _ ih
 refine g0 (nt (ng slot_list_sort ⟨_,hoL,rfl⟩ entry_list_sort (list_sort_tree (s:={s1 with heap:=s1.heap.push (seqObj "list" (vals.map iv').toArray 0)}) hoL hI (by simp;omega) fun out ns' a1 a2 a3=>⟨_,rfl,?_⟩) (args_list_sort _)));refine g9 ⟨_,rfl,?_⟩;obtain⟨h1,g1,d1,t1,o1⟩:=s1;dsimp only at hk hz hg hd ho ht hoL;subst hg;subst hd;subst ho;have hz1:(h1.push (seqObj "list" (vals.map iv').toArray 0)).objs.size=h1.objs.size+1:=t9 ..;have e1:=get?_update_seq hoL (fun _=> #[]);have e2:=gc (seqObj "tuple" (vals.map iv').toArray 0) e1;have e3:=gc (seqObj "list" #[] 0) e2;have e4:=get?_update_seq e3 (fun _=>out);refine h (sortedHeap (h1.push (seqObj "list" (vals.map iv').toArray 0)) h1.objs.size (vals.map iv') out) t1 h1.objs.size out.toList ns' _ a1 (a2.trans (hp.map _)) a3 (fun b ob hb e=>?_) hz (by unfold sortedHeap;simpa using e4) ht;have nb:b≠h1.objs.size:=md (m5 hb hz);unfold sortedHeap;refine(g10 _ _ (my nb)).trans ?_;refine gc _ (gc _ ?_);refine(g10 _ _ (my nb)).trans ?_;exact gc _ (hk b ob hb e)
end
end Js
namespace DL
open PySem PySem.Spec PyProof.Rows L2
variable[Lam][Pin]
def q5q:List D->Option (List Nat)
 | []=>some []
 | .int i :: r=>if 0<=i/\i<12 then(q5q r).map (i.toNat :: ·) else none
 | _ :: _=>none
def qj8:D->D->Option (List D)
 | .tup ds,.tup es=>(q5q ds).bind fun a=>(q5q es).bind fun b=>some (((List.range 12).filter fun n=>decide (n∈a\/n∈b)).map fun n=>D.int (n:Nat))
 | _,_=>none
def qj9(f g:FE): FA:=fun ρ =>(f ρ).bind fun x=>(g ρ).bind fun y=>qj8 x y
def q70(w:World)(a:Addr)(ns:List Nat): HO:=.ext fun h=>∃t ks,Js.SI w h a t ks/\Js.MR t ks/\∀n,n∈ks.map Prod.fst↔n∈ns
def qja(w:World)(a:Addr)(ns:List Nat): HO:=.ext fun h=>∃t ks,Js.SI w h a t ks/\(t.mask=7->ks.length<8)/\∀n,n∈ks.map Prod.fst↔n∈ns
def qxf(K:Frag)(w:World): List V->Hp->VK->Prop:=fun xs H Q=>∃F ds ns,Same F H/\RepL K F [.tup ds] xs/\q5q ds=some ns/\∀a,H a=none->Q (.ref a) (upd H a (q70 w a ns))
def rOr(w:World): R2:=fun x y H Q=>∃a b ns ms,x=.ref a/\y=.ref b/\a≠b/\H a=some (q70 w a ns)/\H b=some (q70 w b ms)/\∀c,H c=none->Q (.ref c) (upd H c (qja w c (ns++ms)))
def qwb(w:World): List V->Hp->VK->Prop:=fun xs H Q=>∃a ns,xs=[.ref a]/\H a=some (qja w a ns)/\∀c,H c=none->Q (.ref c) (upd H c (.lst (((List.range 12).filter fun n=>decide (n∈ns)).map fun n=>V.int (n:Nat))))
omit [Lam] [Pin] in
theorem qd3{K:Frag}{F:Hp}: ∀ {ds:List D} {ys:List V} {its:List Value} {ns:List Nat},q5q ds=some ns->RepL K F ds ys->Vals ys its->∃qs:List (Nat×Nat),its=qs.map Js.iv/\(∀p∈qs,p.1<12)/\qs.map Prod.fst=ns
 | [],ys,its,ns,h,k,r=>by
  cases h;cases k.nil_inv;cases r;exact⟨[],rfl,by simp,rfl⟩
 | .int i :: ds,ys,its,ns,h,k,r=>by
  unfold q5q at h
  split at h
  ·rename_i hi
   obtain⟨ms,h1,rfl⟩:=gv.mp h;obtain⟨x,ys',rfl,a1,a2⟩:=k.cons_inv;cases rep_int.mp a1;cases r with
   | cons b1 b2=>
    obtain⟨qs,e1,e2,e3⟩:=qd3 h1 a2 b2;obtain⟨tk,rfl⟩:=b1;refine⟨(i.toNat,tk) :: qs,?_,?_,by simp [e3]⟩
    ·rw [e1,gf]
     congr 1
     show _=Value.int ((i.toNat:Nat):Int) tk;rw [g1i hi.1]
    ·intro p hp
     rcases mh.mp hp with rfl|hp
     ·show i.toNat<12
      lia
     ·exact e2 p hp
  ·cases h
 | .non :: _,_,_,_,h,_,_=>by cases h
 | .bl _ :: _,_,_,_,h,_,_=>by cases h
 | .str _ :: _,_,_,_,h,_,_=>by cases h
 | .tup _ :: _,_,_,_,h,_,_=>by cases h
 | .lst _ :: _,_,_,_,h,_,_=>by cases h
 | .dct _ _ :: _,_,_,_,h,_,_=>by cases h
 | .dtt _ _ :: _,_,_,_,h,_,_=>by cases h
 | .dt2 _ :: _,_,_,_,h,_,_=>by cases h
 | .obj _ :: _,_,_,_,h,_,_=>by cases h
 | .exc _ _ :: _,_,_,_,h,_,_=>by cases h
section
variable{X:Cx}
theorem qm3(hc:X.calm=true): jy X (.type "set") (qxf X.K X.w):=fun pins s σ H xs us Q I rv ⟨F,ds,ns,fh,rl,hn,q⟩=>by
 obtain⟨x,rfl,rx⟩:=rep1 rl;obtain⟨a,ys,rfl,k1,k2⟩:=rep_tup.mp rx;obtain⟨u,rfl,ru⟩:=vals1 rv;cases ru;obtain⟨its,r1,p1,hz⟩:=I.tuple (qq fh k1);obtain⟨qs,rfl,hq,rfl⟩:=qd3 hn k2 r1;refine Js.qc4 qs hq (I.ok.hd hc) p1 fun h' tk t ks S M m ht old=>?_;have hnn:H s.heap.objs.size=none:=I.hok.fresh (gw _);obtain⟨o,ep,ho,hx,hd⟩:=id S.ob;refine⟨.ref _,_,I.laid (t':=tk) (a:=s.heap.objs.size) (o:=q70 X.w s.heap.objs.size (qs.map Prod.fst)) (fun b ob qb=>old b ob (m4 qb) qb) (gw _) ⟨⟨t,ks,S,M,m⟩,⟨o,ho⟩,fun h1 h2 ⟨t,ks,S,M,m⟩ e=>⟨t,ks,S.keep e,M,m⟩⟩,rfl,q _ hnn⟩
theorem que:OpR X (binaryOp .BitOr) (rOr X.w):=fun pins s σ H x y v u Q I rx ry ⟨a,b,ns,ms,e1,e2,hab,ha,hb,q⟩=>by
 subst e1;subst e2;cases rx;cases ry;obtain⟨⟨t,ks,S,M,m⟩,_,_⟩:=I.hok a _ ha;obtain⟨⟨t',ks',S',M',m'⟩,_,_⟩:=I.hok b _ hb;have m7:∀ {t:SetTable} {ks:List (Nat×Nat)},Js.MR t ks->t.mask=7->ks.length<8:=fun M e=>g0j fun c=>by
  have:=M.2 (by lia);lia
 refine Js.qwa hab S M.1 (m7 M) S' M'.1 (m7 M') fun h2 t2 ks2 old S2 h72 m2=>?_;have hnn:H s.heap.objs.size=none:=I.hok.fresh (gw _);obtain⟨o,ep,ho,hx,hd⟩:=id S2.ob;refine⟨.ref _,_,I.laid (t':=s.toks) (a:=s.heap.objs.size) (o:=qja X.w s.heap.objs.size (ns++ms)) (fun c ob qb=>old c ob (m4 qb) qb) (gw _) ⟨⟨t2,ks2,S2,h72,fun n=>?_⟩,⟨o,ho⟩,fun h1 h2 ⟨t,ks,S,M,m⟩ e=>⟨t,ks,S.keep e,M,m⟩⟩,rfl,q _ hnn⟩;rw [m2 n,m n,m' n,u6]
theorem qrl(hc:X.calm=true): jy X (.builtin "sorted") (qwb X.w):=fun pins s σ H xs us Q I rv ⟨a,ns,e1,ha,q⟩=>by
 subst e1;obtain⟨u,rfl,ru⟩:=vals1 rv;cases ru;obtain⟨⟨t,ks,S,h7,m⟩,_,_⟩:=I.hok a _ ha;obtain⟨o,ep,ho,hx,hd⟩:=id S.ob;refine Js.qj7 (I.ok.hd hc) ⟨⟨o,ho,hx,hd⟩,S.tb,S.ld,h7⟩ fun h' tk c out ns' e hI hp hs old hc' hget ht=>?_;have hnn:H c=none:=I.hok.fresh hc';have hL:ns'=((List.range 12).filter fun n=>decide (n∈ns)).map fun n:Nat=>(n:Int):=by
  refine q82 (hp.trans ?_) hs ?_
  ·have:(ks.map Prod.fst).Perm ((List.range 12).filter fun n=>decide (n∈ns)):=by
    refine(g4p S.tb.nd (uy _ g3l)).mpr fun n=>?_;rw [mn,tw,ue, <- m n];refine⟨fun h=>⟨?_,h⟩,fun h=>h.2⟩;obtain⟨p,hp,rfl⟩:=mi.mp h;exact S.tb.lt p hp
   have h2:=this.map fun n:Nat=>(n:Int)
   rw [ni] at h2;exact h2
  ·rw [tq]
   refine List.Pairwise.imp (fun {a b} h=>?_) (uy _ (g64 (n:=12)));lia
 subst hL;have vo:=q2z hI;rw [ni] at vo;refine⟨.ref c,_,I.laid (t':=tk) (a:=c) (o:=.lst (((List.range 12).filter fun n=>decide (n∈ns)).map fun n=>V.int (n:Nat))) (fun b ob qb=>old b ob (m4 qb) qb) hc' ⟨?_,out,e,vo,hget⟩,rfl,q _ hnn⟩;rw [gh];exact mm (nc _ _) (jo (by simp;decide))
theorem qrm{a b:Expr}{f g:FE}{p p1 p2 q1 q2 q3 pos:Pos}(hc:X.calm=true)(hgs:Gl X "sorted")(hms:X.mg "sorted" = none)(hgt:Gl X "set")(hmt:X.mg "set" = none)(ha:PE X a (tD X.K f))(hb:PE X b (tD X.K g))
  (s1:starEach [a] X.env=(false,eval a X.env) :: starEach [] X.env:=by rfl) (s2:starEach [b] X.env=(false,eval b X.env) :: starEach [] X.env:=by rfl)
  (s3:starEach [.BinOp (.Call (.Name "set" p1) [a] [] q1) .BitOr (.Call (.Name "set" p2) [b] [] q2) q3] X.env=(false,eval (.BinOp (.Call (.Name "set" p1) [a] [] q1) .BitOr (.Call (.Name "set" p2) [b] [] q2) q3) X.env) :: starEach [] X.env:=by rfl)
  (h1:∀pos,(backTo pos (starEach [] X.env)).any (·.1)=false:=by intro _;rfl) :
  PE X (.Call (.Name "sorted" p) [.BinOp (.Call (.Name "set" p1) [a] [] q1) .BitOr (.Call (.Name "set" p2) [b] [] q2) q3] [] pos) (tL X.K (qj9 f g)):=by
 refine ju (q6p (qrl hc) hgs hms boot_sorted (q1e (qq5 que (q7s (qm3 hc) hgt hmt (T:="set") (by rfl) (q1e ha q47 s1) (he:=s1) (hpl:=h1 _)) (q7s (qm3 hc) hgt hmt (T:="set") (by rfl) (q1e hb q47 s2) (he:=s2) (hpl:=h1 _))) q47 s3) (he:=s3) (hpl:=h1 _)) fun σ H Q ⟨F0,H0,F, ρ,ds,r,hf,q⟩=>?_;obtain⟨x,hx,hf⟩:=gb.mp hf;obtain⟨y,hy,hj⟩:=gb.mp hf;unfold qj8 at hj
 split at hj
 ·rename_i xs ys
  obtain⟨ns,hn,hj⟩:=gb.mp hj;obtain⟨ms,hm,hj⟩:=gb.mp hj;cases hj;refine⟨F0,H0,F, ρ,.tup xs,r,hx,fun v F1 H1 g1 r1=>?_⟩;refine⟨F1,xs,ns,g1.fh,.cons r1 .nil,hn,fun c1 hc1=>?_⟩;have g2:Grow F1 H1 F1 (upd H1 c1 (q70 X.w c1 ns)):=Grow.own g1.fh hc1;refine⟨F0,H0,F1, ρ,.tup ys,r.grow (g1.trans g2),hy,fun u F3 H3 g3 r3=>?_⟩;refine⟨F3,ys,ms,g3.fh,.cons r3 .nil,hm,fun c2 hc2=>?_⟩;have g4:Grow F3 H3 F3 (upd H3 c2 (q70 X.w c2 ms)):=Grow.own g3.fh hc2;have e1:H3 c1=some (q70 X.w c1 ns):=g3.hh.ext _ _ zg;have hne:c1≠c2:=xf e1 hc2;refine⟨c1,c2,ns,ms,rfl,rfl,hne,by rw [z6 hne];exact e1,zg,fun c3 hc3=>?_⟩;have g5:Grow F3 (upd H3 c2 (q70 X.w c2 ms)) F3 (upd (upd H3 c2 (q70 X.w c2 ms)) c3 (qja X.w c3 (ns++ms))):=Grow.own g4.fh hc3;refine⟨c3,ns++ms,rfl,zg,fun c4 hc4=>?_⟩;have g6:=Grow.own (o:=.lst (((List.range 12).filter fun n=>decide (n∈ns++ms)).map fun n=>V.int (n:Nat))) g5.fh hc4;have gg:=g1.trans (g2.trans (g3.trans (g4.trans (g5.trans g6))));refine q c4 _ F3 _ gg (g5.fh.free hc4) ((g1.trans (g2.trans (g3.trans (g4.trans g5)))).hh.free hc4) zg ?_
  ·have e:((List.range 12).filter fun n=>decide (n∈ns++ms))=(List.range 12).filter fun n=>decide (n∈ns\/n∈ms):=by
    congr 1;funext n;simp [u6]
   rw [e];have:=(RepL.ints (K:=X.K) (H:=F3) (ns:=((List.range 12).filter fun n=>decide (n∈ns\/n∈ms)).map fun n:Nat=>(n:Int)) (xs:=((List.range 12).filter fun n=>decide (n∈ns\/n∈ms)).map fun n=>V.int (n:Nat))).mpr (by rw [ni];rfl);rw [ni] at this;exact this
 ·cases hj
end
end DL
namespace Js
open PySem
open Sem (wp)
theorem qf1:typeLookup (.type "list") "keys" = pure none:=by rw [g1q,g0i];kernel_rfl
theorem qb5:typeLookup (.type "list") "__getattr__" = pure none:=by rw [g1q,g0i];kernel_rfl
section
variable{prog:Program}{w:World}{A:Around}{E:Value->Shared->Prop}{s:Shared}{a:Addr}
theorem qm4{xs:Array Value}{n:Nat}{u:Tok}{Q:Value->Shared->Prop}{sl:Array (Option Value)}(hx:s.heap.get? a=some {cls:=.type "list",dict:=none,data:=.seq xs n,slots:=sl})(hh:A.handled=none)
  (h:∀h' tk e,Heap.NewAttrErr s.heap h' e (.ref a) "keys" -> E (.ref e) {s with heap:=h',toks:=tk}) :
  wpAny (model prog w) A (call (.builtin "list.__getattribute__") [.ref a,.str "keys" u]) Q E s:=by
 refine ng g2z ⟨_,hx,rfl⟩ F.entry_list_ga ?_ (F.args_list_getattribute_2 _ _);obtain⟨hp,g,d,tk,os⟩:=s;have hT:(⟨hp,g,d,tk,os⟩:Shared).TypeIs (.ref a) "list" :=⟨_,hx,rfl⟩
 have f4:=qf1;unfold Builtin.«object.__getattribute__»
 repeat (any_goals (first|assumption|wp_step))
 exact wpAny_raiseAttrError (by simpa using hh) (fun h' tk e x=>h h' tk e x) (attrMsg_fits (by decide +kernel) (by size_fits))
theorem qm5{xs:Array Value}{n:Nat}{Q:Option Value->Shared->Prop}{sl:Array (Option Value)}(hx:s.heap.get? a=some {cls:=.type "list",dict:=none,data:=.seq xs n,slots:=sl})(hh:A.handled=none)
  (h:∀h' tk,(∀b o,s.heap.get? b=some o->h'.get? b=some o)->Q none {s with heap:=h',toks:=tk}) :
  wpAny (model prog w) A (getAttr? (.ref a) "keys") Q E s:=by
 obtain⟨hp,g,d,tk,os⟩:=s;have hT:(⟨hp,g,d,tk,os⟩:Shared).TypeIs (.ref a) "list" :=⟨_,hx,rfl⟩
 have f1:=sub_AttributeError;have f3:=g2z.lookup;have f4:=g2z.bind (.ref a);have f5:=qb5;unfold getAttr? getAttrBy? getAttrBy
 repeat (any_goals (first|assumption|((with_reducible show wpAny _ _ (call (Value.builtin "list.__getattribute__") _ _) _ _ _);refine qm4 hx (by first|exact hh|simpa using hh) fun h' tk' e x=>?_)|wp_step))
 obtain⟨t',u',he⟩:=x.there
 repeat (any_goals (first|assumption|wp_step))
 exact h _ _ x.keeps
end
end Js
namespace Js
open PySem
theorem q56:entryFor table "dict.update.loop" = some Builtin.«dict.update.loop» :=entryFor_of_tree (by kernel_rfl)
theorem k8:plainId "dict.update.loop" = true:=by decide +kernel
abbrev TK(prog:Program)(w:World):=tupleKind (intKind prog w)
structure Prs{prog:Program}{w:World}{KT:Type}[DecidableEq KT](knd:HeapKind prog w KT)(h:Heap)(vs:List Value)(ps:List (KT×Addr×Value)): Prop where
 len:vs.length=ps.length
 pair:∀(i:Nat) (p:KT×Addr×Value),ps[i]? = some p->∃q,vs[i]? = some (.ref q)/\h.IsTuple q #[.ref p.2.1,p.2.2]
 key:∀p∈ps,knd.is h p.1 p.2.1
theorem q2e{prog:Program}{w:World}{h h':Heap}{k:List Int}{a:Addr}(x:(TK prog w).is h k a)(e:∀o,h.get? a=some o->h'.get? a=some o): (TK prog w).is h' k a:=by
 obtain⟨o,items,n,ho,r⟩:=x;exact⟨o,items,n,e o ho,r⟩
section
variable{prog:Program}{w:World}{A:Around}{R:Result->Shared->Prop}{KT:Type}[DecidableEq KT]{knd:HeapKind prog w KT}
structure Stays(knd:HeapKind prog w KT): Prop where
 keep:∀ {h h':Heap} {k:KT} {a:Addr},knd.is h k a->(∀b o,h.get? b=some o->h'.get? b=some o)->knd.is h' k a
 room:∀A:Around,A.units+8<cLine->knd.room A
theorem qm6{vs:List Value}{ps:List (KT×Addr×Value)}{N I S L:Addr}(Y:Stays knd)(hu:A.units+9<cLine)(hh:A.in1.handled=none)(hSN:N<=S)(hIN:N<=I)(hLN:L<N)(hSI:S≠I)(h0:Heap)(hN:∀b o,h0.get? b=some o->b<N)(P0:Prs knd h0 vs ps)(hl0:h0.IsList L vs.toArray)(hnd:(ps.map (·.1)).Nodup)(hz:ps.length<=sizeLine):
  ∀(k i:Nat) (s:Shared) (j:Int) (tj:Tok),ps.length-i=k->i<=ps.length->s.heap.IsListIter I L i->(∀b o,h0.get? b=some o->s.heap.get? b=some o)->s.heap.DictOfH knd S (ps.take i) ->
   (∀s',s'.gens=s.gens->s'.drawn=s.drawn->s'.os=s.os->s.toks<=s'.toks->(∀b o,h0.get? b=some o->s'.heap.get? b=some o)->s'.heap.DictOfH knd S ps->R (.ok (.ret .none)) s') ->
   codeAny (model prog w) A (.builtin "dict.update.loop" ⟨[.ref S,.ref I,.int j tj,.none],[]⟩) R s:=by
 intro k
 induction k with
 | zero=>
  intro i s j tj hk hi hit hkeep hd hR;have hin:i=ps.length:=by lia
  subst hin;refine uo q56 ?_;rw [ud k8 _];have hls:s.heap.IsList L vs.toArray:=let⟨o,ho,r⟩:=hl0; ⟨o,hkeep L o ho,r⟩
  show wpAny _ A.in1 (pyNext (.ref I) >>= _) _ _ s;refine g0 (wpAny_pyNext_list_end hh hit hls (by simp [P0.len]) fun h' he=>?_);show wpAny _ A.in1 (Builtin.Dict.addKeywords S [] >>= _) _ _ _;refine g0 (g9 (g9 ?_));rw [g02 (gw _)] at hd;refine hR _ rfl rfl rfl (gw _) (fun b o e=>he b o (md (m5 (hN b o e) hIN)) (hkeep b o e)) ?_;obtain⟨o,es,ep,ho,hc,hdd,hes,his,hn⟩:=hd;exact⟨o,es,ep,he S o hSI ho,hc,hdd,hes,fun x hx=>Y.keep (P0.key x hx) fun b o' e=>he b o' (md (m5 (hN b o' e) hIN)) (hkeep b o' e),hn⟩
 | succ k ih=>
  intro i s j tj hk hi hit hkeep hd hR;have hlt:i<ps.length:=by lia
  have hp:ps[i]? = some ps[i]:=ml hlt;obtain⟨q,hq,hqt⟩:=P0.pair i _ hp;have hkey:=P0.key _ (g2e hlt);generalize ps[i]=p at hp hq hqt hkey;refine uo q56 ?_;rw [ud k8 _];have hls:s.heap.IsList L vs.toArray:=let⟨o,ho,r⟩:=hl0; ⟨o,hkeep L o ho,r⟩
  show wpAny _ A.in1 (pyNext (.ref I) >>= _) _ _ s;refine g0 (wpAny_pyNext_list_item hit hls (x:=.ref q) (by simpa using hq) fun h' hit' hs'=>?_);have keep1:∀b o,h0.get? b=some o->h'.get? b=some o:=fun b o e=>hs'.extBut b o (md (m5 (hN b o e) hIN)) (hkeep b o e);have hqt1:h'.IsTuple q #[.ref p.2.1,p.2.2]:=let⟨o,ho,r⟩:=hqt; ⟨o,keep1 q o ho,r⟩
  have hkey1:knd.is h' p.1 p.2.1:=Y.keep hkey fun b o e=>keep1 b o e;have hd1:h'.DictOfH knd S (ps.take i):=by
   obtain⟨o,es,ep,ho,hc,hdd,hes,his,hn⟩:=hd;exact⟨o,es,ep,hs'.extBut S o hSI ho,hc,hdd,hes,fun x hx=>Y.keep (P0.key x (List.mem_of_mem_take hx)) fun b o' e=>keep1 b o' e,hn⟩
  dsimp only;refine g0 (nt ?_);refine g0 (wpAny_tryCatch ?_);unfold Builtin.Dict.pairItems;obtain⟨oq,hoq,hcq,nq,hdq⟩:=hqt1;refine g0 (g12 (s:={s with heap:=h'}) (T:="tuple") ⟨oq,hoq,hcq⟩ ?_);rw [m8 (by decide)];refine g0 (ui (s:={s with heap:=h'}) hoq hdq (g9 ?_));dsimp only [Option.getD_some];refine nt ?_;have hnone:atKey (ps.take i) p.1=none:=by
   refine g3b fun jj pp e=>?_;have hjj:jj<i:=by
    have:=(mv.mp e).1;rw [pj] at this;lia
   have e':ps[jj]? = some (p.1,pp):=by rw [g1c hjj] at e;exact e
   have:=idxH_unique hnd e' (show ps[i]? = some (p.1,p.2) from hp);lia
  refine wpAny_dictSet_heap (s:={s with heap:=h'}) (Y.room A.in1 (by show A.units+1+8<cLine;lia)) hkey1 hd1 (fun h2 hd2 hs2=>?_) (by rw [pj];lia);rw [storedH_new hnone,show ps.take i++[(p.1,p.2.1,p.2.2)]=ps.take (i+1) by rw [g38,hp];rfl] at hd2;have ne2:∀b o,h0.get? b=some o->b≠S:=fun b o e=>md (m5 (hN b o e) hSN);refine g9 ⟨g19 k8 _,ih (i+1) _ _ _ (by lia) hlt ?_ (fun b o e=>?_) hd2 fun s' a1 a2 a3 a4 a5 a6=>?_⟩
  ·obtain⟨o,ho,r⟩:=hit'
   exact⟨o,hs2.extBut I o (my hSI) ho,r⟩
  ·exact hs2.extBut b o (ne2 b o e) (keep1 b o e)
  ·exact hR s' a1 a2 a3 (mm (g5j _ _) a4) a5 a6
end
section
variable{prog:Program}{w:World}{A:Around}{E:Value->Shared->Prop}{s:Shared}{KT:Type}[DecidableEq KT]{knd:HeapKind prog w KT}
theorem q57{L:Addr}{vs:List Value}{n0:Nat}{ps:List (KT×Addr×Value)}{Q:Value->Shared->Prop}(Y:Stays knd)(hu:A.units+16<cLine)(hh:A.handled=none){sl:Array (Option Value)}(hL:s.heap.get? L=some {cls:=.type "list",dict:=none,data:=.seq vs.toArray n0,slots:=sl})(P0:Prs knd s.heap vs ps)(hnd:(ps.map (·.1)).Nodup)(hz:ps.length<=sizeLine)
  (h:∀h' tk,(∀b o,s.heap.get? b=some o->h'.get? b=some o)->h'.DictOfH knd s.heap.objs.size ps->Q (.ref s.heap.objs.size) {s with heap:=h',toks:=tk}) :
  wpAny (model prog w) A (call (.type "dict") [.ref L]) Q E s:=by
 refine callType_codes (Q₁:=fun obj s₁=>obj=.ref s.heap.objs.size/\s₁ = {s with heap:=s.heap.push {cls:=.type "dict",data:=.dict #[]} }) F.kt_called_dict (F.kt_typeCall_dict_1 _) F.entry_dict_init (kt_code_dict_new _ ⟨rfl,rfl⟩) ?_
 rintro obj s₁ ⟨rfl,rfl⟩
 let dO:Obj:={cls:=.type "dict",data:=.dict #[]}
 have hnew:(s.heap.push dO).DictOfH knd s.heap.objs.size []:=Heap.DictOfH.new s.heap;have hTd:Shared.TypeIs {s with heap:=s.heap.push dO} (.ref s.heap.objs.size) "dict" :=⟨dO,gr _ rfl,rfl⟩
 have hL1:(s.heap.push dO).get? L=some {cls:=.type "list",dict:=none,data:=.seq vs.toArray n0,slots:=sl}:=gc _ hL;refine⟨hTd,F.args_dict_init_2 _ _,?_⟩;unfold Builtin.«dict.__init__»;refine g0 ?_;unfold Builtin.Dict.selfAndRest;refine g0 (g3o hTd ?_);show wpAny _ _ (pure (s.heap.objs.size,[Value.ref L])) _ _ _;refine g9 ?_;show wpAny _ _ (Builtin.Dict.updateFrom "dict.__init__" s.heap.objs.size (.ref L) [] .none) _ _ _;unfold Builtin.Dict.updateFrom;refine g0 (g12 (T:="list") ⟨_,hL1,rfl⟩ ?_);rw [m8 (by decide)];refine g0 (qm5 (s:={s with heap:=s.heap.push dO}) hL1 (by simpa using hh) fun h1 tk1 k1=>?_);rw [m8 (by rfl)];refine g0 (g04 ?_);have hL2:h1.IsList L vs.toArray:=⟨_,k1 _ _ hL1,rfl,n0,rfl⟩
 refine g0 (g20 (s:={s with heap:=h1,toks:=tk1}) hL2 ?_)
 let iO:Obj:={cls:=.type "list_iterator",data:=.fields #[.ref L,.int 0 0]}
 have hz1:s.heap.objs.size+1<=h1.objs.size:=m4 (k1 _ _ (gr s.heap (o:=dO) rfl));have hLs:L<s.heap.objs.size:=m4 hL;have keep:∀b o,s.heap.get? b=some o->(h1.push iO).get? b=some o:=fun b o e=>gc _ (k1 b o (gc _ e));have hd0:(h1.push iO).DictOfH knd s.heap.objs.size []:=by
  obtain⟨o,es,ep,ho,hc,hdd,hes,his,hn⟩:=hnew;exact⟨o,es,ep,gc _ (k1 _ _ ho),hc,hdd,hes,fun x hx=>(nomatch hx),hn⟩
 refine g9 ⟨g19 k8 _,qm6 (A:=A.in1) (knd:=knd) (N:=s.heap.objs.size) (I:=h1.objs.size) (S:=s.heap.objs.size) (L:=L) (vs:=vs) (ps:=ps) Y (by show A.units+1+9<cLine;lia) (by simpa using hh) (gw _) (Nat.le_of_succ_le hz1) hLs (md hz1) s.heap (fun b o e=>m4 e) P0 ⟨_,hL,rfl,n0,rfl⟩ hnd hz
  ps.length 0 _ _ _ rfl (g08 _) ⟨iO,gr _ rfl,rfl,rfl⟩ keep hd0 fun s' a1 a2 a3 a4 a5 a6=>?_⟩
 obtain⟨h',g',d',tk',os'⟩:=s';dsimp only at a1 a2 a3 a4 a5 a6;subst a1;subst a2;subst a3;exact⟨rfl,h h' tk' a5 a6⟩
end
theorem qou(prog:Program)(w:World): Stays (TK prog w):=⟨fun x e=>q2e x fun o z=>e _ o z,fun A h=>show A.units<cLine by lia⟩
end Js
namespace DL
open PySem PySem.Spec PyProof.Rows L2
variable[Lam][Pin]
def q4h:List D->Option (List (List Int)×List D)
 | []=>some ([],[])
 | .tup [.tup kd,v] :: r=>(zq kd).bind fun k=>(q4h r).map fun p=>(k :: p.1,v :: p.2)
 | _ :: _=>none
def qe0:List D->Option D
 | [.lst ds]=>(q4h ds).bind fun p=>if p.1.Nodup/\ds.length<=lim then some (.dtt p.1 p.2) else none
 | _=>none
def q5r:D->D->Option D
 | .tup kd,.dtt ks _=>(zq kd).map fun k=>.bl (decide (k∈ks))
 | _,_=>none
omit [Lam] [Pin] in
theorem ints_rep{K:Frag}{F:Hp}: ∀ {kd:List D} {xs:List V} {k:List Int},zq kd=some k->RepL K F kd xs->xs=k.map V.int
 | [],xs,k,h,r=>by cases h;exact r.nil_inv
 | .int i :: kd,xs,k,h,r=>by
  obtain⟨k',h1,rfl⟩:=gv.mp h;obtain⟨x,ys,rfl,a1,a2⟩:=r.cons_inv;rw [rep_int.mp a1,ints_rep h1 a2];rfl
 | .non :: _,_,_,h,_=>by cases h
 | .bl _ :: _,_,_,h,_=>by cases h
 | .str _ :: _,_,_,h,_=>by cases h
 | .tup _ :: _,_,_,h,_=>by cases h
 | .lst _ :: _,_,_,h,_=>by cases h
 | .dct _ _ :: _,_,_,h,_=>by cases h
 | .dtt _ _ :: _,_,_,h,_=>by cases h
 | .dt2 _ :: _,_,_,h,_=>by cases h
 | .obj _ :: _,_,_,h,_=>by cases h
 | .exc _ _ :: _,_,_,h,_=>by cases h
omit [Lam] [Pin] in
theorem items_int{P:Program}{w:World}: ∀ {k:List Int} {us:List Value},Vals (k.map V.int) us->ItemsAre (intKind P w) k us
 | [],_,r=>by cases r;exact .nil
 | i :: k,_,r=>by
  cases r with
  | cons h t=>
   obtain⟨tk,rfl⟩:=h;exact .cons (g40 _ _ _ _) (items_int t)
section
variable{X:Cx}{pins:List (Addr×Obj)}{σ : St}{H F:Hp}{s:Shared}
omit [Lam] [Pin] in
theorem yr(I:Inv X pins σ H s)(fh:Same F H){k:List Int}{a:Addr}(h:SqT X.K F a (k.map V.int)): (Js.TK X.prog X.w).is s.heap k a:=by
 obtain⟨its,r,⟨o,ho,hc,n,hd⟩,_⟩:=I.tuple (qq fh h);exact⟨o,its.toArray,n,ho,hc,hd,by simpa using items_int r⟩
omit [Lam] [Pin] in
theorem qf2 (I:Inv X pins σ H s) (fh:Same F H):∀ {ds:List D} {ys:List V} {its:List Value} {ks:List (List Int)} {vs:List D},q4h ds=some (ks,vs)->RepL X.K F ds ys->Vals ys its ->
  ∃(ps:List (List Int×Addr×Value)) (ws:List V),Js.Prs (Js.TK X.prog X.w) s.heap its ps/\ps.map (·.1)=ks/\(∀p∈ps,SqT X.K F p.2.1 (p.1.map V.int))/\Vals ws (ps.map fun p=>p.2.2)/\RepL X.K F vs ws
 | [],ys,its,ks,vs,h,k,r=>by
  cases h;cases k.nil_inv;cases r;exact⟨[],[],⟨rfl,fun i p e=>by simp at e,fun p hp=>(nomatch hp)⟩,rfl,fun p hp=>(nomatch hp),.nil,.nil⟩
 | d :: ds,ys,its,ks,vs,h,k,r=>by
  unfold q4h at h
  split at h
  ·cases ‹_ :: _=[]›
  ·rename_i kd v r' e
   injection e with e1 e2
   subst e1;subst e2;obtain⟨kk,h1,h2⟩:=gb.mp h;obtain⟨p,h3,h4⟩:=gv.mp h2;cases h4;obtain⟨x,ys',rfl,a1,a2⟩:=k.cons_inv;obtain⟨q,qs,rfl,b1,b2⟩:=rep_tup.mp a1;obtain⟨x1,z1,rfl,c1,c2⟩:=b2.cons_inv;obtain⟨x2,z2,rfl,d1,d2⟩:=c2.cons_inv;cases d2.nil_inv;obtain⟨ka,kxs,rfl,k1,k2⟩:=rep_tup.mp c1;rw [ints_rep h1 k2] at k1;cases r with
   | cons r1 r2=>
    cases r1;obtain⟨uu,hu,⟨oq,hoq,hcq,nq,hdq⟩,_⟩:=I.tuple (qq fh b1);cases hu with
    | cons u1 u2=>
     cases u1;cases u2 with
     | cons u3 u4=>
      cases u4;rename_i uv;obtain⟨ps,ws,P,e1,e2,e3,e4⟩:=qf2 I fh h3 a2 r2;refine⟨(kk,ka,uv) :: ps,x2 :: ws,⟨by simp [P.len],fun i p e=>?_,fun p hp=>?_⟩,by simp [e1],fun p hp=>?_,.cons u3 e3,.cons d1 e4⟩
      ·cases i with
       | zero=>
        simp only [g1k,g1y] at e;subst e;exact⟨q,rfl,oq,hoq,hcq,nq,hdq⟩
       | succ i=>exact P.pair i p (by simpa using e)
      ·rcases mh.mp hp with rfl|hp
       ·exact yr I fh k1
       ·exact P.key p hp
      ·rcases mh.mp hp with rfl|hp
       ·exact k1
       ·exact e2 p hp
  ·cases h
end
section
variable{X:Cx}
theorem qrn(hc:X.calm=true)(hu:X.A.units+64<cLine): jy X (.type "dict") (rC X.K qe0):=fun pins s σ H xs us Q I rv ⟨F,ds,d,fh,rl,ho,q⟩=>by
 unfold qe0 at ho
 split at ho
 ·rename_i ds'
  obtain⟨⟨ks,vs⟩,h1,h2⟩:=gb.mp ho
  split at h2
  ·rename_i hok
   cases h2;obtain⟨x,rfl,rx⟩:=rep1 rl;obtain⟨a,ys,rfl,k1,k2⟩:=rep_lst.mp rx;obtain⟨u,rfl,ru⟩:=vals1 rv;cases ru;obtain⟨its,r1,⟨o,n,e1,e2,e3,e4⟩,hz⟩:=I.list (fh.seq k1);obtain⟨oc,od,oda,osl⟩:=o;dsimp only at e2 e3 e4;subst e2;subst e3;subst e4;obtain⟨ps,ws,P,p1,p2,p3,p4⟩:=qf2 I fh h1 k2 r1;have hl:ps.length<=lim:=by
    rw [<- P.len, <- r1.length, <- k2.length];exact hok.2
   refine Js.q57 (Js.qou _ _) (by lia) (I.ok.hd hc) e1 P (by rw [p1];exact hok.1) (jo hl) fun h' tk old hd=>?_;have hnn:H s.heap.objs.size=none:=I.hok.fresh (gw _);obtain⟨o,es,ep,g1,g2,g3,g4,_,g5⟩:=hd;have de:DE s.heap.objs.size ps ep h':=⟨o,es,g1,g2,g3,g4⟩
   refine⟨.ref _,_,I.laid (t':=tk) (a:=s.heap.objs.size) (o:=.ext (DE s.heap.objs.size ps ep)) old (gw _) ⟨de,⟨o,g1⟩,fun h1 h2 ⟨o,es,z,r⟩ e=>⟨o,es,e o z,r⟩⟩,rfl,?_⟩;have g:=Grow.new (o:=.ext (DE s.heap.objs.size ps ep)) fh hnn;refine q _ _ _ g (rep_dtt.mpr ⟨_,ps,ws,ep,rfl,zg,p1,hok.1,jo hl,g1g.mpr (u9 (q8w I)),fun x hx=>qq g.ff (p2 x hx),p3,p4.mono g.ff⟩)
  ·cases h2
 ·cases ho
theorem qm7(hu:X.A.units+64<cLine): OpR X (compareOp .In) (rD X.K q5r):=fun pins s σ H x y v u Q I rx ry ⟨F,d1,d2,d,fh,r1,r2,ho,q⟩=>by
 unfold q5r at ho
 split at ho
 ·rename_i kd ks vs
  obtain⟨k,h1,rfl⟩:=gv.mp ho;obtain⟨b,kxs,rfl,k1,k2⟩:=rep_tup.mp r1;obtain⟨a,xs,ys,ep,rfl,e1,e2,e3,e4,e5,e6,e7,e8⟩:=rep_dtt.mp r2;cases rx;cases ry;rw [ints_rep h1 k2] at k1;obtain⟨⟨o,es,g1,g2,g3,g4⟩,_,_⟩:=(show ObjOk X.prog X.w H s.heap a _ from I.hok a _ (fh _ _ e1))
  have dd:s.heap.DictOfH (Js.TK X.prog X.w) a xs:=⟨o,es,ep,g1,g2,g3,g4,fun x hx=>yr I fh (e6 x hx),by rw [e2];exact e3⟩
  refine wpAny_in_heap (g1r (by lia)) (yr I fh k1) e5 dd ?_;have:(atKey xs k).isSome=decide (k∈ks):=by
   rw [<- e2,p7,nk]
   constructor
   ·intro h
    obtain⟨p,hp⟩:=g0k.mp h;obtain⟨z,hz,rfl⟩:=gv.mp hp;have:=List.find?_some hz;exact mi.mpr ⟨z,g57 hz,by simpa using this⟩
   ·intro h
    obtain⟨z,hz,rfl⟩:=mi.mp h;obtain⟨i,hi⟩:=g3p.mp hz;rw [g5k (by rw [e2];exact e3) (show xs[i]? = some (z.1,z.2) from hi)]
    rfl
  rw [this];exact⟨.bl _,H,I.tok _,rfl,q _ F H (.refl fh) (rep_bl.mpr rfl)⟩
 ·cases ho
end
section
variable{X:Cx}{pos:Pos}
def q58:D->D->Option D
 | .dtt ks vs,.tup kd=>(zq kd).bind fun k=>if k∈ks then vs[ks.idxOf k]? else none
 | _,_=>none
theorem quf(hu:X.A.units+64<cLine): IxR X (rD X.K q58):=by
 intro value slice pins s σ H x y v u Q I rx ry ⟨F,d1,d2,d,fh,r1,r2,ho,q⟩ hs;unfold q58 at ho
 split at ho
 ·rename_i ks vs kd
  obtain⟨k,h1,ho⟩:=gb.mp ho
  split at ho
  ·rename_i hk
   obtain⟨b,kxs,rfl,k1,k2⟩:=rep_tup.mp r2;obtain⟨a,xs,ys,ep,rfl,e1,e2,e3,e4,e5,e6,e7,e8⟩:=rep_dtt.mp r1;cases rx;cases ry;rw [ints_rep h1 k2] at k1;obtain⟨⟨o,es,g1,g2,g3,g4⟩,_,_⟩:=(show ObjOk X.prog X.w H s.heap a _ from I.hok a _ (fh _ _ e1))
   have dd:s.heap.DictOfH (Js.TK X.prog X.w) a xs:=⟨o,es,ep,g1,g2,g3,g4,fun x hx=>yr I fh (e6 x hx),by rw [e2];exact e3⟩
   obtain⟨w,ew,rw'⟩:=e8.get ho;obtain⟨uu,eu,ruu⟩:=e7.get ew;rw [mj] at eu;obtain⟨z,hz,rfl⟩:=gv.mp eu;have hzk:z.1=k:=by
    have h2:(xs.map (·.1))[ks.idxOf k]? = some z.1:=by rw [mj,hz];rfl
    rw [e2,ml (g2a hk),g4g] at h2;exact(mq h2).symm
   refine tail_any (ops:=[.ref a,.ref b]) (T:="dict") ⟨o,g1,g2.1⟩ PySem.F.slot_dict_getitem.lookup ?_ hs;refine wpAny_getItem_heap (g1r (by lia)) (yr I fh k1) dd (p:=z.2) ?_ ⟨w,H,I.tok _,ruu,q w F H (.refl fh) rw'⟩;rw [<- hzk];exact g5k (by rw [e2];exact e3) (show xs[ks.idxOf k]? = some (z.1,z.2) from hz)
  ·cases ho
 ·cases ho
theorem qb6{a b:Expr}{f g:FE}(hu:X.A.units+64<cLine)(ha:PE X a (tD X.K f))(hb:PE X b (tD X.K g))(hs:qbv b:=by intro _ _;rfl): PE X (.Subscript a b pos) (tD X.K (eOp q58 f g)):=ju (qq6 (quf hu) ha hb hs) fun σ H Q h=>two h
end
end DL
namespace Js
open PySem PyProof.Rows
section
variable{prog:Program}{w:World}{A:Around}{E:Value->Shared->Prop}{s:Shared}
theorem qc6{it d:Addr}{i ep:Nat}{od:Obj}{es:Array DictEntry}{Q:Option Value->Shared->Prop}(hit:s.heap.IsKeyIter it d i es.size ep)(hod:s.heap.get? d=some od)(hdd:od.data=.dict es ep)(hlt:i<es.size)
  (hQ:∀h',h'.IsKeyIter it d (i+1) es.size ep->Heap.SameBut it s.heap h'->Q (some (es[i]'hlt).key) {s with heap:=h'}):wpAny (model prog w) A (pyNext (.ref it)) Q E s:=by
 obtain⟨o,ho,hc,hd⟩:=id hit;unfold pyNext;refine g0 (g0s (pf hit.typeIs g09 (ng g09 hit.typeIs g46 ?_ (g42 _))));unfold Builtin.«dict_keyiterator.__next__»
 wp_delta
 wp_walk using g06 hit.typeIs,g0m hit.typeIs,g4a ho hd,g4z hod hdd,g5y hod hdd,g17 hit.typeIs
 rw [ma (by omega:¬((i:Int)<0)),show((i:Int)).toNat=i from by simp,g5l es i hlt];dsimp only;have hit':(s.heap.update it (Obj.mapFields fun x_1=>x_1.setIfInBounds (0+1) (rawInt ((i:Int)+1)))).IsKeyIter it d (i+1) es.size ep:=by
  obtain⟨c1,c2,c3,c4⟩:=o;dsimp only at hc hd;subst hc hd;exact⟨_,g0h _ ho rfl,rfl,rfl⟩
 have T':Shared.TypeIs {s with heap:=s.heap.update it (Obj.mapFields fun x_1=>x_1.setIfInBounds (0+1) (rawInt ((i:Int)+1)))} (.ref it) "dict_keyiterator" :=hit'.typeIs
 wp_walk using g06 hit.typeIs,g0m hit.typeIs,g17 hit.typeIs
 rw [hd];dsimp only;rw [show(if Builtin.Dict_items.ownsTuple "dict_keyiterator" = true then 2 else 0)=0 from by decide +kernel];rw [m8 (by simp)];rw [ma (show ¬(List.any _ _=true) from by decide +kernel)];refine wpAny_update ho ?_
 wp_walk using g06 T',g0m T',g17 T'
 exact⟨_,rfl,g9 (hQ _ hit' ⟨g0x ..,fun b hb=>g47 _ _ _ _ hb⟩)⟩
theorem qdn{it d:Addr}{ep:Nat}{od:Obj}{es:Array DictEntry}{Q:Option Value->Shared->Prop}(hh:A.handled=none)(hit:s.heap.IsKeyIter it d es.size es.size ep)(hod:s.heap.get? d=some od)(hdd:od.data=.dict es ep)
  (hQ:∀h',Heap.ExtBut it s.heap h'->Q none {s with heap:=h'}):wpAny (model prog w) A (pyNext (.ref it)) Q E s:=by
 obtain⟨o,ho,hc,hd⟩:=id hit;unfold pyNext;refine g0 (g0s (pf hit.typeIs g09 (ng g09 hit.typeIs g46 ?_ (g42 _))));unfold Builtin.«dict_keyiterator.__next__»
 wp_delta
 wp_walk using g06 hit.typeIs,g0m hit.typeIs,g4a ho hd,g4z hod hdd,g5y hod hdd,g17 hit.typeIs
 rw [ma (by omega:¬((es.size:Int)<0)),show((es.size:Int)).toNat=es.size from by simp,Array.getElem?_size];dsimp only
 wp_walk using g06 hit.typeIs,g0m hit.typeIs,g17 hit.typeIs
 rw [hd];dsimp only;rw [show(if Builtin.Dict_items.ownsTuple "dict_keyiterator" = true then 2 else 0)=0 from by decide +kernel];rw [m8 (by simp)];refine wpAny_update ho ?_;have hA1:A.in1.handled=none:=hh
 wp_walk using t8,g4l hA1
 ·dsimp only
  unfold raiseNew
  wp_walk using g4l hA1,wpAny_throw
  refine g62 isSubtype_stop (g9 ?_);exact(hQ _ (((t5 _ _ _).extBut.push _).push _))
 ·exact sizeOk_excFields _ _ _ _ _ _ _ _
 ·show(0:Nat)<=_
  exact g08 _
theorem qm8{d:Addr}{ep:Nat}{od:Obj}{es:Array DictEntry}{Q:Value->Shared->Prop}(hs:(d==sysModules)=false)(hod:s.heap.get? d=some od)(hx:od.ExactDict)(hdd:od.data=.dict es ep)
  (hQ:Q (.ref s.heap.objs.size) {s with heap:=s.heap.push {cls:=.type "dict_keyiterator",data:=.fields #[.ref d,.int 0 0,.int (es.size:Int) 0,.int (ep:Int) 0]} }):wpAny (model prog w) A (pyIter (.ref d)) Q E s:=by
 have hT:s.TypeIs (.ref d) "dict" :=⟨od,hod,hx.1⟩
 refine g4y hT F.slot_dict_iter (ng F.slot_dict_iter hT F.entry_dict_iter ?_ (F.args_dict_iter_1 _));unfold Builtin.«dict.__iter__»
 wp_walk using g3o hT,g4z hod hdd,g5y hod hdd
 exact⟨_,rfl,"dict_keyiterator",_,⟨_,gr _ rfl,rfl⟩,g09.lookup,hQ⟩
end
end Js
namespace DL
open PySem PySem.Spec PyProof.Rows L2
variable[Lam][Pin]
abbrev DX:=List (List Int×Addr×Value)
def Itd(a:Addr)(xs:DX)(ep:Nat): It:=
 ⟨fun i H=>H a=some (.ext (DE a xs ep))/\i<xs.length,fun i H v H'=>H'=H/\∃x,xs[i]? = some x/\v=.ref x.2.1,fun i H=>H a=some (.ext (DE a xs ep))/\xs.length<=i⟩
theorem qm9{P:Program}{w:World}{K:Frag}{tg:Expr}(a it:Addr)(xs:DX)(ep:Nat): Turn P w K tg (Itd a xs ep) [it] it (fun i h=>i<=xs.length/\h.IsKeyIter it a i xs.length ep) where
 mem:=by simp
 obj:=fun i h st b hb=>by
  have e:b=it:=by simpa using hb
  subst e;obtain⟨_,o,e,c,d⟩:=st;exact⟨o,e,fun v z=>by rw [d] at z;cases z⟩
 keep:=fun i h h' st k=>⟨st.1,st.2.at fun o e=>k it (by simp) o e⟩
 item:=by
  intro X hP hw hK hc i pins s σ H E I hf st hg;subst hP hw hK;obtain⟨hq,hi⟩:=hg;obtain⟨⟨o,es,g1,g2,g3,g4⟩,_,_⟩:=(show ObjOk X.prog X.w H s.heap a _ from I.hok a _ hq)
  have hsz:es.size=xs.length:=by rw [<- g03,g4,gh]
  obtain⟨f0,f1,f2,f3,f4,f5⟩:=hf it (by simp);have st2:=st.2;rw [<- hsz] at st2;have hi':i<es.size:=by rw [hsz];exact hi
  refine Js.qc6 st2 g1 g3 hi' fun h' st' sb=>?_;have I1:Inv X pins σ H {s with heap:=h'}:=I.turned (t':=s.toks) (fun b o hb e=>(sb.2 b hb).trans e) f0 f1 f3 f4 f5;obtain⟨o',e,c,d⟩:=id st';have hx:xs[i]? = some xs[i]:=ml hi;have hk:(es[i]'hi').key=.ref xs[i].2.1:=by
   have h2:es.toList[i]? = some (qtm xs[i]):=by rw [g4,mj,hx];rfl
   rw [g29,g5l es i hi'] at h2;rw [mq h2];rfl
  rw [hsz] at st';exact⟨_,rfl,qdw (s:={s with heap:=h'}) e c d (by decide) ⟨.ref xs[i].2.1,H,I1,by rw [hk];rfl,⟨rfl,_,hx,rfl⟩,⟨hi,st'⟩,fun b hb=>(hf b hb).1⟩⟩
 done:=by
  intro X hP hw hK hc i pins s σ H E I hf st hg;subst hP hw hK;obtain⟨hq,hi⟩:=hg;obtain⟨⟨o,es,g1,g2,g3,g4⟩,_,_⟩:=(show ObjOk X.prog X.w H s.heap a _ from I.hok a _ hq)
  have hsz:es.size=xs.length:=by rw [<- g03,g4,gh]
  obtain⟨f0,f1,f2,f3,f4,f5⟩:=hf it (by simp);have st2:=st.2;rw [show i=xs.length from Nat.le_antisymm st.1 hi, <- hsz] at st2;exact Js.qdn (I.ok.hd hc) st2 g1 g3 fun h' eb=>⟨rfl,I.turned (t':=s.toks) (fun b o hb e=>eb b o hb e) f0 f1 f3 f4 f5⟩
 self:=fun _ _ _ _ _ st h=>wpAny_pyIter_keyiter st.2 h
abbrev q8y(ks:List (List Int)): List D:=ks.map fun k=>.tup (k.map .int)
theorem qov{K:Frag}{F:Hp}{a:Addr}{xs:DX}{ep:Nat}{ks:List (List Int)}(h:F a=some (.ext (DE a xs ep)))(e2:xs.map (·.1)=ks)(e6:∀x∈xs,SqT K F x.2.1 (x.1.map V.int)): ItD K F (q8y ks) (Itd a xs ep) where
 go:=fun i F' H s1 s2 hi=>⟨s2 _ _ (s1 _ _ h),by rw [<- e2] at hi;simpa using hi⟩
 yld:=fun i d F' H x H' s1 s2 hi ⟨e,y,hy,hx⟩=>by
  subst e hx e2;rw [mj,mj,hy] at hi;cases hi;exact⟨F',.refl s2,rep_tup.mpr ⟨_,_,rfl,qq s1 (e6 y (uw hy)),RepL.ints.mpr rfl⟩⟩
 stop:=fun i F' H s1 s2 hi=>⟨s2 _ _ (s1 _ _ h),by rw [<- e2] at hi;simpa using hi⟩
section
variable{X:Cx}{pos:Pos}{tg e:Expr}
theorem qro{l:Expr}{tl:TE}(hl:PE X l tl): PI X tg l (fun σ H R=>tl σ H fun x H1=>∃a xs ep,x=.ref a/\H1 a=some (.ext (DE a xs ep))/\(a==sysModules)=false/\R (Itd a xs ep) H1):=by
 intro pins s σ H R I h;refine thn (hl pins s σ H _ I h) fun v s1 ⟨x,H1,I1,r1,q1⟩=>?_;obtain⟨a,xs,ep,e,hq,hm,q⟩:=q1;subst e;cases r1;obtain⟨⟨o,es,g1,g2,g3,g4⟩,_,_⟩:=(show ObjOk X.prog X.w H1 s1.heap a _ from I1.hok a _ hq)
 have hsz:es.size=xs.length:=by rw [<- g03,g4,gh]
 refine Js.qm8 hm g1 g2 g3 ?_;refine⟨s1.heap.objs.size,[s1.heap.objs.size],_,_,H1,rfl,I1.kept (t':=s1.toks) fun b o e=>gc _ e,qm9 a _ xs ep,⟨g08 _,_,gr _ rfl,rfl,by rw [hsz];rfl⟩,fun b hb=>?_,q⟩;have e:b=s1.heap.objs.size:=by simpa using hb
 subst e;exact I1.fpOk (gw _) (I1.hok.fresh (gw _))
def qjb(f:FE): FA:=fun ρ =>(f ρ).bind fun d=>match d with
 | .dtt ks _=>some (q8y ks)
 | _=>none
theorem qma{f:FE}(h:PE X e (tD X.K f)): PI X tg e (tDI X.K (qjb f)):=q7z (qro h) fun σ H R ⟨F0,H0,F, ρ,ds,r,hf,q⟩=>by
 obtain⟨d,h1,h2⟩:=gb.mp hf;refine⟨F0,H0,F, ρ,d,r,h1,fun v F' H' g' r'=>?_⟩
 split at h2
 ·cases h2
  obtain⟨a,xs,ys,ep,rfl,e1,e2,e3,e4,e5,e6,e7,e8⟩:=rep_dtt.mp r';exact⟨a,xs,ep,rfl,g'.fh _ _ e1,e5,q _ F' H' g' (qov e1 e2 e6)⟩
 ·cases h2
end
def q8z:D->List D->Option D
 | .dtt ks vs,[.tup kd]=>(zq kd).bind fun k=>if k∈ks then vs[ks.idxOf k]? else some .non
 | .dtt ks vs,[.tup kd,d0]=>(zq kd).bind fun k=>if k∈ks then vs[ks.idxOf k]? else some d0
 | _,_=>none
def qjc(f:FE)(fa:FA): FE:=fun ρ =>(f ρ).bind fun d=>(fa ρ).bind fun xs=>q8z d xs
section
variable{X:Cx}
theorem qi7{K:Frag}{F:Hp}{ks:List (List Int)}{vs:List D}{xs:DX}{ys:List V}{k:List Int}(e2:xs.map (·.1)=ks)(e3:ks.Nodup)(e7:Vals ys (xs.map fun p=>p.2.2))(e8:RepL K F vs ys){d0 d:D}{v0:V}{u0:Value}(r0:Rep K F d0 v0)(q0:RelV v0 u0)
  (h:(if k∈ks then vs[ks.idxOf k]? else some d0)=some d):∃v,Rep K F d v/\RelV v (((atKey xs k).map (·.2)).getD u0):=by
 split at h
 ·rename_i hk
  obtain⟨w,ew,rw'⟩:=e8.get h;obtain⟨uu,eu,ruu⟩:=e7.get ew;rw [mj] at eu;obtain⟨z,hz,rfl⟩:=gv.mp eu;have hzk:z.1=k:=by
   have h2:(xs.map (·.1))[ks.idxOf k]? = some z.1:=by rw [mj,hz];rfl
   rw [e2,ml (g2a hk),g4g] at h2;exact(mq h2).symm
  have ha:atKey xs k=some z.2:=by
   rw [<- hzk];exact g5k (by rw [e2];exact e3) (show xs[ks.idxOf k]? = some (z.1,z.2) from hz)
  exact⟨w,rw',by rw [ha];exact ruu⟩
 ·rename_i hk
  cases h;have ha:atKey xs k=none:=g3b fun i p e=>hk (by rw [<- e2];exact mi.mpr ⟨_,uw e,rfl⟩);exact⟨v0,r0,by rw [ha];exact q0⟩
theorem qug(hu:X.A.units+64<cLine): MtR X "dict.get" (fun x xs H Q=>∃F d ds r,Same F H/\Rep X.K F d x/\RepL X.K F ds xs/\q8z d ds=some r/\∀v,Rep X.K F r v->Q v H):=by
 intro pins s σ H x vs v us Q I rx rv h;obtain⟨F,d,ds,r,fh,r1,r2,ho,q⟩:=h;unfold q8z at ho
 split at ho
 ·rename_i ks ws kd
  obtain⟨k,h1,ho⟩:=gb.mp ho;obtain⟨x1,rfl,rx1⟩:=rep1 r2;obtain⟨u1,rfl,ru1⟩:=vals1 rv;obtain⟨b,kxs,rfl,k1,k2⟩:=rep_tup.mp rx1;obtain⟨a,xs,ys,ep,rfl,e1,e2,e3,e4,e5,e6,e7,e8⟩:=rep_dtt.mp r1;cases rx;cases ru1;rw [ints_rep h1 k2] at k1;obtain⟨⟨o,es,g1,g2,g3,g4⟩,_,_⟩:=(show ObjOk X.prog X.w H s.heap a _ from I.hok a _ (fh _ _ e1))
  have dd:s.heap.DictOfH (Js.TK X.prog X.w) a xs:=⟨o,es,ep,g1,g2,g3,g4,fun x hx=>yr I fh (e6 x hx),by rw [e2];exact e3⟩
  obtain⟨v,rv,qv⟩:=qi7 e2 e3 e7 e8 (d0:=.non) (v0:=.non) (u0:=.none) (rep_non.mpr rfl) rfl ho;refine call_meetsIn g3q dd.typeIs g65 (PySem.F.args_dict_get_2 _ _) (meetsH_dict_get (Js.TK X.prog X.w) a b e5) ⟨g1r (by lia),k,xs,yr I fh k1,dd,?_⟩;exact⟨v,H,I.tok _,qv,q v rv⟩
 ·rename_i ks ws kd d0
  obtain⟨k,h1,ho⟩:=gb.mp ho;obtain⟨x1,t1,rfl,rx1,r3⟩:=r2.cons_inv;obtain⟨x2,rfl,rx2⟩:=rep1 r3;obtain⟨u1,u2,rfl,ru1,ru2⟩:=rv.two;obtain⟨b,kxs,rfl,k1,k2⟩:=rep_tup.mp rx1;obtain⟨a,xs,ys,ep,rfl,e1,e2,e3,e4,e5,e6,e7,e8⟩:=rep_dtt.mp r1;cases rx;cases ru1;rw [ints_rep h1 k2] at k1;obtain⟨⟨o,es,g1,g2,g3,g4⟩,_,_⟩:=(show ObjOk X.prog X.w H s.heap a _ from I.hok a _ (fh _ _ e1))
  have dd:s.heap.DictOfH (Js.TK X.prog X.w) a xs:=⟨o,es,ep,g1,g2,g3,g4,fun x hx=>yr I fh (e6 x hx),by rw [e2];exact e3⟩
  obtain⟨v,rv,qv⟩:=qi7 e2 e3 e7 e8 rx2 ru2 ho;refine call_meetsIn g3q dd.typeIs g65 (PySem.F.args_dict_get_3 _ _ _) (meetsH_dict_get_default (Js.TK X.prog X.w) a b e5 u2) ⟨g1r (by lia),k,xs,yr I fh k1,dd,?_⟩;exact⟨v,H,I.tok _,qv,q v rv⟩
 ·cases ho
theorem quh{o e:Expr}{es:List Expr}{f:FE}{fa:FA}{apos cpos:Pos}(hu:X.A.units+64<cLine)(ho:PE X o (tD X.K f))(ha:PA X (e :: es) (tDA X.K fa))
  (hbase:attributeBase o "get" X.env (eval o X.env)=eval o X.env:=by rfl)
  (hfew:((backTo cpos (starEach (e :: es) X.env)).all (fun x=> !x.1)&&(backToKw cpos (keywordEach [] X.env)).all (fun x=>x.1.isSome)
   && decide ((e :: es).length+([]:List Keyword).length+(if([]:List Keyword).isEmpty then 0 else 1)<30))=true:=by rfl)
  (hline:(apos.endLine==cpos.line)=true:=by rfl) (hs:starEach (e :: es) X.env=(false,eval e X.env) :: starEach es X.env:=by rfl) (hplain:(backTo cpos (starEach es X.env)).any (·.1)=false:=by rfl) :
  PE X (.Call (.Attribute o "get" apos) (e :: es) [] cpos) (tD X.K (qjc f fa)):=by
 intro pins s σ H Q I ⟨F0,H0,F, ρ,d,r,hf,q⟩;obtain⟨d1,h1,hf⟩:=gb.mp hf;obtain⟨ds,h2,h3⟩:=gb.mp hf;refine wpAny_Call_method_late hbase hfew hline rfl (thn (ho pins s σ H (fun v H1=>∃F1,Grow F H F1 H1/\Rep X.K F1 d1 v) I ⟨F0,H0,F, ρ,d1,r,h1,fun v F1 H1 g1 r1=>⟨F1,g1,r1⟩⟩) fun v s1 ⟨x,H1,I1,rx,F1,g1,r1⟩=>?_);obtain⟨ks,vs,rfl⟩:∃ks vs,d1=.dtt ks vs:=by cases d1 <;> first|exact⟨_,_,rfl⟩|(simp [q8z] at h3)
 obtain⟨a,xs,ys,ep,rfl,e1,e2,e3,e4,e5,e6,e7,e8⟩:=rep_dtt.mp r1;cases rx;obtain⟨⟨ob,es',k1,k2,k3,k4⟩,_,_⟩:=(show ObjOk X.prog X.w H1 s1.heap a _ from I1.hok a _ (g1.fh _ _ e1))
 refine⟨"dict","dict.get",PySem.F.plainAttrs_dict,g3q,PySem.F.type_dict_get,⟨ob,k1,k2.1⟩,fun b e=>by cases e;exact⟨ob,k1,k2.2.1⟩,?_⟩;have hA:=ha cpos pins s1 σ H1 (fun vs H2=>∃F2,Grow F1 H1 F2 H2/\RepL X.K F2 ds vs) I1 ⟨F0,H0,F1, ρ,ds,r.grow g1,h2,fun vs F2 H2 g2 r2=>⟨F2,g2,r2⟩⟩;rw [hs] at hA ⊢;refine Calls.callWith_builtin (by show(false || (backTo cpos (starEach es X.env)).any (·.1))=false;rw [hplain] <;> rfl) (Calls.evalArgs_plain ?_);exact thn hA fun us s2 ⟨ws,H2,I2,rw',F2,g2,r2⟩=>qug hu pins s2 σ H2 (.ref a) ws (.ref a) us Q I2 rfl rw' ⟨F2,.dtt ks vs,ds,d,g2.fh,r1.mono g2.ff,r2,h3,fun v rv=>q v F2 H2 (g1.trans g2) rv⟩
end
section
variable{X:Cx}{e:Expr}{pos:Pos}{f:FE}
end
end DL
namespace Rv
open PySem PyProof.Rows
section
variable{prog:Program}{w:World}{A:Around}{E:Value->Shared->Prop}{s:Shared}{I:Addr}{fp wr:List Addr}{G:Array GenState->Array GenState->Prop}{n:Nat}{P:Nat->Value->Prop}{St:Nat->Shared->Prop}
end
end Rv
namespace DL
open PySem PySem.Spec PyProof.Rows L2
variable[Lam][Pin]
section
variable{X:Cx}{pos:Pos}{tg:Expr}
end
end DL
namespace Rv
open PySem PyProof.Rows
section
variable{prog:Program}{w:World}{A:Around}{s:Shared}{R:Result->Shared->Prop}
variable{I:Addr}{fp wr:List Addr}{G:Array GenState->Array GenState->Prop}{n:Nat}{P:Nat->Value->Prop}{St:Nat->Shared->Prop}
end
section
variable{prog:Program}{w:World}{A:Around}{E:Value->Shared->Prop}{s:Shared}
variable{I:Addr}{fp wr:List Addr}{G:Array GenState->Array GenState->Prop}{n:Nat}{P:Nat->Value->Prop}{St:Nat->Shared->Prop}
end
end Rv
namespace Js
open PySem
open Sem (wp)
theorem qgy:typeLookup (.type "tuple") "keys" = pure none:=by rw [g1q,g0i];kernel_rfl
theorem qc7:typeLookup (.type "tuple") "__getattr__" = pure none:=by rw [g1q,g0i];kernel_rfl
section
variable{prog:Program}{w:World}{A:Around}{E:Value->Shared->Prop}{s:Shared}{a:Addr}
theorem qjd{xs:Array Value}{n:Nat}{u:Tok}{Q:Value->Shared->Prop}{sl:Array (Option Value)}(hx:s.heap.get? a=some {cls:=.type "tuple",dict:=none,data:=.seq xs n,slots:=sl})(hh:A.handled=none)
  (h:∀h' tk e,Heap.NewAttrErr s.heap h' e (.ref a) "keys" -> E (.ref e) {s with heap:=h',toks:=tk}) :
  wpAny (model prog w) A (call (.builtin "tuple.__getattribute__") [.ref a,.str "keys" u]) Q E s:=by
 refine ng g2p ⟨_,hx,rfl⟩ F.entry_tuple_ga ?_ (F.args_tuple_getattribute_2 _ _);obtain⟨hp,g,d,tk,os⟩:=s;have hT:(⟨hp,g,d,tk,os⟩:Shared).TypeIs (.ref a) "tuple" :=⟨_,hx,rfl⟩
 have f4:=qgy;unfold Builtin.«object.__getattribute__»
 repeat (any_goals (first|assumption|wp_step))
 exact wpAny_raiseAttrError (by simpa using hh) (fun h' tk e x=>h h' tk e x) (attrMsg_fits (by decide +kernel) (by size_fits))
theorem qje{xs:Array Value}{n:Nat}{Q:Option Value->Shared->Prop}{sl:Array (Option Value)}(hx:s.heap.get? a=some {cls:=.type "tuple",dict:=none,data:=.seq xs n,slots:=sl})(hh:A.handled=none)
  (h:∀h' tk,(∀b o,s.heap.get? b=some o->h'.get? b=some o)->Q none {s with heap:=h',toks:=tk}) :
  wpAny (model prog w) A (getAttr? (.ref a) "keys") Q E s:=by
 obtain⟨hp,g,d,tk,os⟩:=s;have hT:(⟨hp,g,d,tk,os⟩:Shared).TypeIs (.ref a) "tuple" :=⟨_,hx,rfl⟩
 have f1:=sub_AttributeError;have f3:=g2p.lookup;have f4:=g2p.bind (.ref a);have f5:=qc7;unfold getAttr? getAttrBy? getAttrBy
 repeat (any_goals (first|assumption|((with_reducible show wpAny _ _ (call (Value.builtin "tuple.__getattribute__") _ _) _ _ _);refine qjd hx (by first|exact hh|simpa using hh) fun h' tk' e x=>?_)|wp_step))
 obtain⟨t',u',he⟩:=x.there
 repeat (any_goals (first|assumption|wp_step))
 exact h _ _ x.keeps
end
section
variable{prog:Program}{w:World}{A:Around}{R:Result->Shared->Prop}
theorem qjf{vs:List Value}{ps:List (List Int×Addr×Value)}{N I S L:Addr}(hu:A.units+1<cLine)(hh:A.in1.handled=none)(hSN:N<=S)(hIN:N<=I)(hLN:L<N)(hSI:S≠I)(h0:Heap)(hN:∀b o,h0.get? b=some o->b<N)(P0:Prs (TK prog w) h0 vs ps)(hl0:h0.IsTuple L vs.toArray)(hnd:(ps.map (·.1)).Nodup)(hz:ps.length<=sizeLine):
  ∀(k i:Nat) (s:Shared) (j:Int) (tj:Tok),ps.length-i=k->i<=ps.length->s.heap.IsTupleIter I L i->(∀b o,h0.get? b=some o->s.heap.get? b=some o)->s.heap.DictOfH (TK prog w) S (ps.take i) ->
   (∀s',s'.gens=s.gens->s'.drawn=s.drawn->s'.os=s.os->s.toks<=s'.toks->(∀b o,h0.get? b=some o->s'.heap.get? b=some o)->s'.heap.DictOfH (TK prog w) S ps->R (.ok (.ret .none)) s') ->
   codeAny (model prog w) A (.builtin "dict.update.loop" ⟨[.ref S,.ref I,.int j tj,.none],[]⟩) R s:=by
 intro k
 induction k with
 | zero=>
  intro i s j tj hk hi hit hkeep hd hR;have hin:i=ps.length:=by lia
  subst hin;refine uo q56 ?_;rw [ud k8 _];have hls:s.heap.IsTuple L vs.toArray:=let⟨o,ho,r⟩:=hl0; ⟨o,hkeep L o ho,r⟩
  show wpAny _ A.in1 (pyNext (.ref I) >>= _) _ _ s;refine g0 (wpAny_pyNext_tuple_end hh hit hls (by simp [P0.len]) fun h' he=>?_);show wpAny _ A.in1 (Builtin.Dict.addKeywords S [] >>= _) _ _ _;refine g0 (g9 (g9 ?_));rw [g02 (gw _)] at hd;refine hR _ rfl rfl rfl (gw _) (fun b o e=>he b o (md (m5 (hN b o e) hIN)) (hkeep b o e)) ?_;obtain⟨o,es,ep,ho,hc,hdd,hes,his,hn⟩:=hd;exact⟨o,es,ep,he S o hSI ho,hc,hdd,hes,fun x hx=>q2e (P0.key x hx) fun o' e=>he _ o' (md (m5 (hN _ o' e) hIN)) (hkeep _ o' e),hn⟩
 | succ k ih=>
  intro i s j tj hk hi hit hkeep hd hR;have hlt:i<ps.length:=by lia
  have hp:ps[i]? = some ps[i]:=ml hlt;obtain⟨q,hq,hqt⟩:=P0.pair i _ hp;have hkey:=P0.key _ (g2e hlt);generalize ps[i]=p at hp hq hqt hkey;refine uo q56 ?_;rw [ud k8 _];have hls:s.heap.IsTuple L vs.toArray:=let⟨o,ho,r⟩:=hl0; ⟨o,hkeep L o ho,r⟩
  show wpAny _ A.in1 (pyNext (.ref I) >>= _) _ _ s;refine g0 (wpAny_pyNext_tuple_item hit hls (x:=.ref q) (by simpa using hq) fun h' hit' hs'=>?_);have keep1:∀b o,h0.get? b=some o->h'.get? b=some o:=fun b o e=>hs'.extBut b o (md (m5 (hN b o e) hIN)) (hkeep b o e);have hqt1:h'.IsTuple q #[.ref p.2.1,p.2.2]:=let⟨o,ho,r⟩:=hqt; ⟨o,keep1 q o ho,r⟩
  have hkey1:(TK prog w).is h' p.1 p.2.1:=q2e hkey fun o e=>keep1 _ o e;have hd1:h'.DictOfH (TK prog w) S (ps.take i):=by
   obtain⟨o,es,ep,ho,hc,hdd,hes,his,hn⟩:=hd;exact⟨o,es,ep,hs'.extBut S o hSI ho,hc,hdd,hes,fun x hx=>q2e (P0.key x (List.mem_of_mem_take hx)) fun o' e=>keep1 _ o' e,hn⟩
  dsimp only;refine g0 (nt ?_);refine g0 (wpAny_tryCatch ?_);unfold Builtin.Dict.pairItems;obtain⟨oq,hoq,hcq,nq,hdq⟩:=hqt1;refine g0 (g12 (s:={s with heap:=h'}) (T:="tuple") ⟨oq,hoq,hcq⟩ ?_);rw [m8 (by decide)];refine g0 (ui (s:={s with heap:=h'}) hoq hdq (g9 ?_));dsimp only [Option.getD_some];refine nt ?_;have hnone:atKey (ps.take i) p.1=none:=by
   refine g3b fun jj pp e=>?_;have hjj:jj<i:=by
    have:=(mv.mp e).1;rw [pj] at this;lia
   have e':ps[jj]? = some (p.1,pp):=by rw [g1c hjj] at e;exact e
   have:=idxH_unique hnd e' (show ps[i]? = some (p.1,p.2) from hp);lia
  refine wpAny_dictSet_heap (s:={s with heap:=h'}) (show(TK prog w).room A.in1 from hu) hkey1 hd1 (fun h2 hd2 hs2=>?_) (by rw [pj];lia);rw [storedH_new hnone,show ps.take i++[(p.1,p.2.1,p.2.2)]=ps.take (i+1) by rw [g38,hp];rfl] at hd2;have ne2:∀b o,h0.get? b=some o->b≠S:=fun b o e=>md (m5 (hN b o e) hSN);refine g9 ⟨g19 k8 _,ih (i+1) _ _ _ (by lia) hlt ?_ (fun b o e=>?_) hd2 fun s' a1 a2 a3 a4 a5 a6=>?_⟩
  ·obtain⟨o,ho,r⟩:=hit'
   exact⟨o,hs2.extBut I o (my hSI) ho,r⟩
  ·exact hs2.extBut b o (ne2 b o e) (keep1 b o e)
  ·exact hR s' a1 a2 a3 (mm (g5j _ _) a4) a5 a6
end
section
variable{prog:Program}{w:World}{A:Around}{E:Value->Shared->Prop}{s:Shared}
theorem qa0{L:Addr}{vs:List Value}{n0:Nat}{ps:List (List Int×Addr×Value)}{Q:Value->Shared->Prop}(hu:A.units+4<cLine)(hh:A.handled=none){sl:Array (Option Value)}(hL:s.heap.get? L=some {cls:=.type "tuple",dict:=none,data:=.seq vs.toArray n0,slots:=sl})(P0:Prs (TK prog w) s.heap vs ps)(hnd:(ps.map (·.1)).Nodup)(hz:ps.length<=sizeLine)
  (h:∀h' tk,(∀b o,s.heap.get? b=some o->h'.get? b=some o)->h'.DictOfH (TK prog w) s.heap.objs.size ps->Q (.ref s.heap.objs.size) {s with heap:=h',toks:=tk}) :
  wpAny (model prog w) A (call (.type "dict") [.ref L]) Q E s:=by
 refine callType_codes (Q₁:=fun obj s₁=>obj=.ref s.heap.objs.size/\s₁ = {s with heap:=s.heap.push {cls:=.type "dict",data:=.dict #[]} }) F.kt_called_dict (F.kt_typeCall_dict_1 _) F.entry_dict_init (kt_code_dict_new _ ⟨rfl,rfl⟩) ?_
 rintro obj s₁ ⟨rfl,rfl⟩
 let dO:Obj:={cls:=.type "dict",data:=.dict #[]}
 have hnew:(s.heap.push dO).DictOfH (TK prog w) s.heap.objs.size []:=Heap.DictOfH.new s.heap;have hTd:Shared.TypeIs {s with heap:=s.heap.push dO} (.ref s.heap.objs.size) "dict" :=⟨dO,gr _ rfl,rfl⟩
 have hL1:(s.heap.push dO).get? L=some {cls:=.type "tuple",dict:=none,data:=.seq vs.toArray n0,slots:=sl}:=gc _ hL;refine⟨hTd,F.args_dict_init_2 _ _,?_⟩;unfold Builtin.«dict.__init__»;refine g0 ?_;unfold Builtin.Dict.selfAndRest;refine g0 (g3o hTd ?_);show wpAny _ _ (pure (s.heap.objs.size,[Value.ref L])) _ _ _;refine g9 ?_;show wpAny _ _ (Builtin.Dict.updateFrom "dict.__init__" s.heap.objs.size (.ref L) [] .none) _ _ _;unfold Builtin.Dict.updateFrom;refine g0 (g12 (T:="tuple") ⟨_,hL1,rfl⟩ ?_);rw [m8 (by decide)];refine g0 (qje (s:={s with heap:=s.heap.push dO}) hL1 (by simpa using hh) fun h1 tk1 k1=>?_);rw [m8 (by rfl)];refine g0 (g04 ?_);have hL2:h1.IsTuple L vs.toArray:=⟨_,k1 _ _ hL1,rfl,n0,rfl⟩
 refine g0 (g2v (s:={s with heap:=h1,toks:=tk1}) hL2 ?_)
 let iO:Obj:={cls:=.type "tuple_iterator",data:=.fields #[.ref L,.int 0 0]}
 have hz1:s.heap.objs.size+1<=h1.objs.size:=m4 (k1 _ _ (gr s.heap (o:=dO) rfl));have hLs:L<s.heap.objs.size:=m4 hL;have keep:∀b o,s.heap.get? b=some o->(h1.push iO).get? b=some o:=fun b o e=>gc _ (k1 b o (gc _ e));have hd0:(h1.push iO).DictOfH (TK prog w) s.heap.objs.size []:=by
  obtain⟨o,es,ep,ho,hc,hdd,hes,his,hn⟩:=hnew;exact⟨o,es,ep,gc _ (k1 _ _ ho),hc,hdd,hes,fun x hx=>(nomatch hx),hn⟩
 refine g9 ⟨g19 k8 _,qjf (A:=A.in1) (N:=s.heap.objs.size) (I:=h1.objs.size) (S:=s.heap.objs.size) (L:=L) (vs:=vs) (ps:=ps) (by show A.units+1+1<cLine;lia) (by simpa using hh) (gw _) (Nat.le_of_succ_le hz1) hLs (md hz1) s.heap (fun b o e=>m4 e) P0 ⟨_,hL,rfl,n0,rfl⟩ hnd hz
  ps.length 0 _ _ _ rfl (g08 _) ⟨iO,gr _ rfl,rfl,rfl⟩ keep hd0 fun s' a1 a2 a3 a4 a5 a6=>?_⟩
 obtain⟨h',g',d',tk',os'⟩:=s';dsimp only at a1 a2 a3 a4 a5 a6;subst a1;subst a2;subst a3;exact⟨rfl,h h' tk' a5 a6⟩
end
end Js
namespace DL
open PySem PySem.Spec PyProof.Rows L2
variable[Lam][Pin]
section
variable{X:Cx}{pos:Pos}
def qb7:List D->Option D
 | [.tup ds]=>(q4h ds).bind fun p=>if p.1.Nodup/\ds.length<=lim then some (.dtt p.1 p.2) else none
 | _=>none
theorem qow(hc:X.calm=true)(hu:X.A.units+64<cLine): jy X (.type "dict") (rC X.K qb7):=fun pins s σ H xs us Q I rv ⟨F,ds,d,fh,rl,ho,q⟩=>by
 unfold qb7 at ho
 split at ho
 ·rename_i ds'
  obtain⟨⟨ks,vs⟩,h1,h2⟩:=gb.mp ho
  split at h2
  ·rename_i hok
   cases h2;obtain⟨x,rfl,rx⟩:=rep1 rl;obtain⟨a,ys,rfl,k1,k2⟩:=rep_tup.mp rx;obtain⟨u,rfl,ru⟩:=vals1 rv;cases ru;obtain⟨its,r1,⟨o,e1,e2,e3,n,e4⟩,hz⟩:=I.tupleX (qq fh k1);obtain⟨oc,od,oda,osl⟩:=o;dsimp only at e2 e3 e4;subst e2;subst e3;subst e4;obtain⟨ps,ws,P,p1,p2,p3,p4⟩:=qf2 I fh h1 k2 r1;have hl:ps.length<=lim:=by
    rw [<- P.len, <- r1.length, <- k2.length];exact hok.2
   refine Js.qa0 (by lia) (I.ok.hd hc) e1 P (by rw [p1];exact hok.1) (jo hl) fun h' tk old hd=>?_;have hnn:H s.heap.objs.size=none:=I.hok.fresh (gw _);obtain⟨o,es,ep,g1,g2,g3,g4,_,g5⟩:=hd;have de:DE s.heap.objs.size ps ep h':=⟨o,es,g1,g2,g3,g4⟩
   refine⟨.ref _,_,I.laid (t':=tk) (a:=s.heap.objs.size) (o:=.ext (DE s.heap.objs.size ps ep)) old (gw _) ⟨de,⟨o,g1⟩,fun h1 h2 ⟨o,es,z,r⟩ e=>⟨o,es,e o z,r⟩⟩,rfl,?_⟩;have g:=Grow.new (o:=.ext (DE s.heap.objs.size ps ep)) fh hnn;refine q _ _ _ g (rep_dtt.mpr ⟨_,ps,ws,ep,rfl,zg,p1,hok.1,jo hl,g1g.mpr (u9 (q8w I)),fun x hx=>qq g.ff (p2 x hx),p3,p4.mono g.ff⟩)
  ·cases h2
 ·cases ho
end
section
variable{X:Cx}{pos:Pos}
theorem qmb:PE X (.Dict [] [] pos) (fun σ H Q=>∀a,H a=none->(a==sysModules)=false->Q (.ref a) (upd H a (.ext (DE a [] 0)))):=fun pins s σ H Q I q=>by
 have hn:H s.heap.objs.size=none:=I.hok.fresh (gw _);have hb:=g1g.mpr (my (md (q8w I)));refine wpAny_Dict_empty ⟨.ref s.heap.objs.size,_,I.laid (a:=s.heap.objs.size) (o:=.ext (DE s.heap.objs.size [] 0)) (t':=s.toks) (fun _ _ z=>gc _ z) (gw _)
  ⟨⟨_, #[],gr _ rfl,⟨rfl,rfl,rfl⟩,rfl,rfl⟩,⟨_,gr _ rfl⟩,fun h1 h2 ⟨o,es,z,r⟩ e=>⟨o,es,e o z,r⟩⟩,rfl,q _ hn hb⟩
def qqc(K:Frag): V->V->V->Hp->(Hp->Prop)->Prop:=fun o i v H Q=>∃a b k xs ep,o=.ref a/\i=.ref b/\H a=some (.ext (DE a xs ep))/\SqT K H b (k.map V.int)/\(∀x∈xs,SqT K H x.2.1 (x.1.map V.int)) /\
 (xs.map (·.1)).Nodup/\k∉xs.map (·.1)/\xs.length<=sizeLine/\∀u ep',RelV v u->(∃h,DE a xs ep h)->Q (upd H a (.ext (DE a (xs++[(k,b,u)]) ep')))
theorem qgz{xs:DX}{k:List Int}{b:Addr}{u:Value}(h:k∉xs.map (·.1)): storedH xs k b u=xs++[(k,b,u)]:=by
 have hn:atKey xs k=none:=g3b fun jj pp e=>h (mi.mpr ⟨_,uw e,rfl⟩);exact storedH_new hn b u
theorem qrp(hu:X.A.units+64<cLine): qsw X (qqc X.K):=by
 intro pins s σ H o i v ov iv u Q I ro ri rv h;obtain⟨a,b,k,xs,ep,rfl,rfl,e1,k1,e6,nd,hk,hz,q⟩:=h;cases ro;cases ri;obtain⟨⟨o,es,g1,g2,g3,g4⟩,_,_⟩:=(show ObjOk X.prog X.w H s.heap a _ from I.hok a _ e1)
 have dd:s.heap.DictOfH (Js.TK X.prog X.w) a xs:=⟨o,es,ep,g1,g2,g3,g4,fun x hx=>yr I (.refl _) (e6 x hx),nd⟩
 refine wpAny_setItem_heap (g1r (by lia)) (yr I (.refl _) k1) dd (fun h' dd' sb=>?_) hz;rw [qgz hk] at dd';obtain⟨o',es',ep',z1,z2,z3,z4,_,_⟩:=dd';refine⟨_,I.write (x:=a) (e:=a) (o:=.ext (DE a (xs++[(k,b,u)]) ep')) (by rw [e1];trivial) (.inl rfl) (fun c w hc e=>(sb.2 c hc).trans e) ⟨_,z1⟩ ?_,q u ep' rv ⟨_,o,es,g1,g2,g3,g4⟩⟩;exact⟨⟨o',es',z1,z2,z3,z4⟩,⟨o',z1⟩,fun h1 h2 ⟨o,es,z,r⟩ e=>⟨o,es,e o z,r⟩⟩
omit [Lam] [Pin] in
theorem qox{a c:Addr}{xs:DX}{ep:Nat}{h:Heap}{b:Str}(d:DE a xs ep h)(k:h.CodeRec (.ref c) b): a≠c:=fun z=>by
 subst z;obtain⟨o,es,g1,g2,g3,g4⟩:=d;obtain⟨c,o',vs,t,e0,e1,e2,_⟩:=k;cases e0;rw [g1] at e1;cases e1;rw [g3] at e2;cases e2
theorem qoy{H:Hp}(t:Tab H){p:Addr}{o:HO}{xs:DX}{ep:Nat}(h:H p=some (.ext (DE p xs ep)))(hx:∃h,DE p xs ep h): Tab (upd H p o):=fun q hq=>by
 obtain⟨ps,e,ht,k⟩:=t q hq;obtain⟨h0,hd⟩:=hx;refine⟨ps,by rw [z6 (fun z=>by subst z;rw [h] at e;cases e)];exact e,ht,fun pos cv z=>?_⟩;obtain⟨c, φ,e1,e2,e3⟩:=k pos cv z;refine⟨c, φ,e1,?_,e3⟩
 by_cases hc:c=p
 ·subst hc
  rw [h] at e2;cases e2;exact absurd rfl (qox hd (e3 h0 hd))
 ·rw [z6 hc];exact e2
end
section
variable{K:Frag}{F0 H0 F H F' H':Hp}{σ : St}{ρ : Rho}
theorem q34{i:Nat}(no:vk ρ): vk (ρ.set i none):=fun j b h=>by
 by_cases q:j=i
 ·subst q
  obtain⟨z,_⟩:=zd h;cases z
 ·rw [gu (my q)] at h
  exact no j b h
theorem qui(r:RS K F0 H0 F H σ ρ)(no:vk ρ)(i:Nat)(v:Option V): RS K F0 H0 F H (σ.set i v) (ρ.set i none) where
 t0:=r.t0
 g:=r.g
 len:=by rw [uc,uc];exact r.len
 fz:=fun j e h1=>by
  by_cases q:j=i
  ·subst q
   obtain⟨z,l⟩:=zd h1;cases z
  ·rw [gu (my q)] at h1 ⊢
   exact r.fz j e h1
 ow:=fun i ds h=>(yn (q34 no) h).elim
 dj:=fun i j ds es a _ h=>(yn (q34 no) h).elim
 od:=fun i ds h=>(yo (q34 no) h).elim
 o1:=fun i j ds es h=>(yo (q34 no) h).elim
theorem qqd(r:RS K F0 H0 F H σ ρ)(no:vk ρ){p:Addr}{o:HO}(h1:F p=none)(h2:H0 p=none)(h3:Tab (upd H p o)): RS K F0 H0 F (upd H p o) σ ρ where
 t0:=r.t0
 g :=⟨r.g.ff,⟨fun b u e=>by rw [z6 (fun z=>by subst z;rw [h2] at e;cases e)];exact r.g.hh.lst b u e,fun b u e=>by rw [z6 (fun z=>by subst z;rw [h2] at e;cases e)];exact r.g.hh.ext b u e,fun {b} e=>by
   by_cases z:b=p
   ·subst z;exact h2
   ·rw [z6 z] at e;exact r.g.hh.free e,fun _=>h3,fun b u e=>by rw [z6 (fun z=>by subst z;rw [h2] at e;cases e)];exact r.g.hh.dk b u e⟩,fun b u e=>by rw [z6 (fun z=>by subst z;rw [h1] at e;cases e)];exact r.g.fh b u e,r.g.nw⟩
 len:=r.len
 fz:=r.fz
 ow:=fun i ds h=>(yn no h).elim
 dj:=fun i j ds es a _ h=>(yn no h).elim
 od:=fun i ds h=>(yo no h).elim
 o1:=fun i j ds es h=>(yo no h).elim
theorem quj(r:RS K F0 H0 F H σ ρ)(no:vk ρ){p:Addr}{o:HO}(h1:F p=none)(h2:H0 p=none)(h3:H p=some o): RS K F0 H0 (upd F p o) H σ ρ where
 t0:=r.t0
 g :=⟨r.g.ff.trans (wk h1),r.g.hh,fun b u e=>by
   by_cases q:b=p
   ·subst q;rw [zg] at e;cases e;exact h3
   ·rw [z6 q] at e;exact r.g.fh b u e,fun b hb=>by
   by_cases q:b=p
   ·subst q;exact .inr h2
   ·rw [z6 q] at hb;exact r.g.nw b hb⟩
 len:=r.len
 fz:=fun i d e=>let⟨v,e1,e2⟩:=r.fz i d e; ⟨v,e1,e2.mono (wk h1)⟩
 ow:=fun i ds h=>(yn no h).elim
 dj:=fun i j ds es a _ h=>(yn no h).elim
 od:=fun i ds h=>(yo no h).elim
 o1:=fun i j ds es h=>(yo no h).elim
theorem quk(r:RS K F0 H0 F H σ ρ){i:Nat}{d:D}{v:V}(hv : σ[i]? = some (some v))(h:Rep K F d v): RS K F0 H0 F H σ (ρ.set i (some (.fz d))):=by
 have e : σ.set i (some v) = σ :=by
  apply List.ext_getElem?;intro j
  by_cases q:j=i
  ·subst q
   rw [hv,g0z (mv.mp hv).1]
  ·rw [gu (my q)]
 have:=r.set i h;rw [e] at this;exact this
structure GD(K:Frag)(F H:Hp)(a:Addr)(ks:List (List Int))(vs:List D): Prop where
 ex:∃xs ys ep,H a=some (.ext (DE a xs ep))/\xs.map (·.1)=ks/\(∀x∈xs,SqT K F x.2.1 (x.1.map V.int))/\Vals ys (xs.map fun x=>x.2.2)/\RepL K F vs ys
 f:F a=none
theorem GD.grow{a:Addr}{ks:List (List Int)}{vs:List D}(d:GD K F H a ks vs)(g:Grow F H F' H'): GD K F' H' a ks vs:=by
 obtain⟨⟨xs,ys,ep,e1,e2,e3,e4,e5⟩,f⟩:=d;exact⟨⟨xs,ys,ep,g.hh.ext _ _ e1,e2,fun x hx=>qq g.ff (e3 x hx),e4,e5.mono g.ff⟩,q55 g f e1⟩
theorem GD.rep{a:Addr}{ks:List (List Int)}{vs:List D}(d:GD K F H a ks vs)(hs:(a==sysModules)=false)(nd:ks.Nodup)(hl:ks.length<=sizeLine): ∃o,H a=some o/\Rep K (upd F a o) (.dtt ks vs) (.ref a):=by
 obtain⟨⟨xs,ys,ep,e1,e2,e3,e4,e5⟩,f⟩:=d;have s:=wk (o:=.ext (DE a xs ep)) f;exact⟨_,e1,rep_dtt.mpr ⟨a,xs,ys,ep,rfl,zg,e2,nd,by rw [<- gh (·.1),e2];exact hl,hs,fun x hx=>qq s (e3 x hx),e4,e5.mono s⟩⟩
theorem GD.push{a b:Addr}{ks:List (List Int)}{vs:List D}{k:List Int}{dv:D}{v:V}{u:Value}{xs:DX}{ys:List V}{ep':Nat}(f:F a=none)(e2:xs.map (·.1)=ks)(e3:∀x∈xs,SqT K F x.2.1 (x.1.map V.int))(e4:Vals ys (xs.map fun x=>x.2.2))(e5:RepL K F vs ys)
  (hb:SqT K F b (k.map V.int)) (hv:Rep K F dv v) (hu:RelV v u):GD K F (upd H a (.ext (DE a (xs++[(k,b,u)]) ep'))) a (ks++[k]) (vs++[dv]):=by
 refine⟨⟨xs++[(k,b,u)],ys++[v],ep',zg,by rw [p5,e2];rfl,fun x hx=>?_,?_,e5.append (.cons hv .nil)⟩,f⟩
 ·rcases u6.mp hx with hx|hx
  ·exact e3 x hx
  ·rw [ur.mp hx];exact hb
 ·rw [p5]
  exact e4.append (.cons hu .nil)
def qf3:D->Option (List Int)
 | .tup kd=>zq kd
 | _=>none
def qb8:List D->Option (List (List Int))
 | []=>some []
 | d :: ds=>(qf3 d).bind fun k=>(qb8 ds).map (k :: ·)
def qb9(f:FE)(ρ : Rho)(j:Nat): List D->Option (List D)
 | []=>some []
 | d :: ds=>(f (ρ.set j (some (.fz d)))).bind fun v=>(qb9 f ρ j ds).map (v :: ·)
def qf4(ρ : Rho)(j:Nat)(ds:List D): Rho:=match ds.getLast? with
 | some d=> ρ.set j (some (.fz d))
 | none=> ρ
def qmc(ρ : Rho): Bool:= ρ.all fun b=>match b with
 | some (.ow _)=>false
 | some (.od _)=>false
 | _=>true
omit [Lam] [Pin] in
theorem qoz(h:qmc ρ = true): vk ρ :=fun i b e=>by
 have:=pq.mp h _ (uw e);cases b with
 | fz d=>exact⟨d,rfl⟩
 | ow _=>cases this
 | od _=>cases this
omit [Lam] [Pin] in
theorem qd4:∀ {ds:List D} {ks:List (List Int)},qb8 ds=some ks->ks.length=ds.length/\∀(k:Nat) (d:D),ds[k]? = some d->∃q,ks[k]? = some q/\qf3 d=some q
 | [],ks,h=>by cases h;exact⟨rfl,fun k d e=>by cases e⟩
 | d :: ds,ks,h=>by
  obtain⟨q,h1,h2⟩:=gb.mp h;obtain⟨r,h3,rfl⟩:=gv.mp h2;obtain⟨e1,e2⟩:=qd4 h3;refine⟨by rw [n8,n8,e1],fun k x e=>?_⟩;cases k with
  | zero=>cases e;exact⟨q,rfl,h1⟩
  | succ k=>exact e2 k x e
omit [Lam] [Pin] in
theorem qd5{f:FE}{j:Nat}: ∀ {ds vs:List D},qb9 f ρ j ds=some vs->vs.length=ds.length/\∀(k:Nat) (d:D),ds[k]? = some d->∃q,vs[k]? = some q/\f (ρ.set j (some (.fz d)))=some q
 | [],ks,h=>by cases h;exact⟨rfl,fun k d e=>by cases e⟩
 | d :: ds,ks,h=>by
  obtain⟨q,h1,h2⟩:=gb.mp h;obtain⟨r,h3,rfl⟩:=gv.mp h2;obtain⟨e1,e2⟩:=qd5 h3;refine⟨by rw [n8,n8,e1],fun k x e=>?_⟩;cases k with
  | zero=>cases e;exact⟨q,rfl,h1⟩
  | succ k=>exact e2 k x e
end
abbrev qwc:TE:=fun σ H Q=>∀a,H a=none->(a==sysModules)=false->Q (.ref a) (upd H a (.ext (DE a [] 0)))
theorem take_snoc{α : Type}{l:List α}{k:Nat}{x : α}(h:l[k]? = some x): l.take (k+1)=l.take k++[x]:=by rw [g38,h];rfl
section
variable{X:Cx}{pos:Pos}
theorem qrq{K:Frag}{F:Hp}{d:D}{q:List Int}{x:V}(hq:qf3 d=some q)(hr:Rep K F d x): ∃b,x=.ref b/\SqT K F b (q.map V.int):=by
 unfold qf3 at hq
 split at hq
 ·obtain⟨b,xs,rfl,h1,h2⟩:=rep_tup.mp hr
  rw [ints_rep hq h2] at h1;exact⟨b,rfl,h1⟩
 ·cases hq
end
def sD1(i1 j:Nat)(it:FA)(f1:FE): FS:=fun ρ =>if qmc ρ = true/\i1 < ρ.length/\j < ρ.length then(it (ρ.set i1 none)).bind fun ds=>(qb8 ds).bind fun ks=>if ks.Nodup/\ks.length<=lim then
  (qb9 f1 (ρ.set i1 none) j ds).map fun v1=>(.nx,(qf4 (ρ.set i1 none) j ds).set i1 (some (.fz (.dtt ks v1)))) else none else none
section
variable{X:Cx}{pos:Pos}
theorem qwd{s1 b1:Stmt}{tg iter:Expr}{rest:List Stmt}{i1 j:Nat}{it:FA}{f1:FE}{u:FS}(hj1:i1≠j)
  (hp:PassesOwn (model X.prog X.w) X.A X.env X.xe) (hc:X.calm=true)
  (h1:PS X s1 (qe8 qwc (q53 i1))) (hi:PI X tg iter (tDI X.K it)) (hg:PG X tg (q53 j))
  (hb1:PS X b1 (qe8 (tD X.K f1) (qsy (q9p i1) (q9p j) (qqc X.K)))) (hr:PSs X rest (tDS X.K u))
  (hs:∀x,foldedSetIterable iter X.env x=pure x:=by intro _;rfl):PSs X (s1 :: .For tg iter [b1] [] pos :: rest) (tDS X.K (z0 (sD1 i1 j it f1) u)):=by
 refine q8r (q9q h1 (q9q (ql0 hp hc hi hg (qhm hb1) hs) hr)) fun D σ H ⟨F0,H0,F, ρ,fl, ρ',r,hf,q⟩=>?_;obtain⟨⟨fl1, ρ1⟩,h3,h4⟩:=gb.mp hf;unfold sD1 at h3
 split at h3
 case isFalse=>cases h3
 rename_i hok;obtain⟨hno,l1,lj⟩:=hok;have no:=qoz hno;obtain⟨ds,hit,h3⟩:=gb.mp h3;obtain⟨ks,hks,h3⟩:=gb.mp h3
 split at h3
 case isFalse=>cases h3
 rename_i hnd;obtain⟨v1,hv1,h3⟩:=gv.mp h3;cases h3;obtain⟨kl,kget⟩:=qd4 hks;obtain⟨vl1,vget1⟩:=qd5 hv1;intro a1 n1 m1;have hF1:F a1=none:=r.fh.free n1;have hz1:H0 a1=none:=r.g.hh.free n1;have r2:=qui (qqd r no (o:=.ext (DE a1 [] 0)) hF1 hz1 (r.tab.upd (.inl n1))) no i1 (some (.ref a1));have no2:vk (ρ.set i1 none):=q34 no;have hsl : σ.length = ρ.length:=r.len;have G1:GD X.K F (upd H a1 (.ext (DE a1 [] 0))) a1 [] []:=⟨⟨[],[],0,zg,rfl,nofun,.nil,.nil⟩,hF1⟩
 refine⟨F0,H0,F, ρ.set i1 none,ds,r2,hit,fun J F1 H1 g1 itd=>?_⟩;refine⟨fun k m σ H=>m=ds.length-k/\k<=ds.length/\∃F' ρk,Same F1 F'/\RS X.K F0 H0 F' H σ ρk/\vk ρk/\(∀d, ρk.set j (some (.fz d))=(ρ.set i1 none).set j (some (.fz d)))/\(k=ds.length -> ρk=qf4 (ρ.set i1 none) j ds) /\
  σ[i1]? = some (some (.ref a1))/\GD X.K F' H a1 (ks.take k) (v1.take k),
  ⟨ds.length,by simp,g08 _,F1, ρ.set i1 none,.refl _,r2.grow g1,no2,fun _=>rfl,fun e=>?_,?_,G1.grow g1⟩,?_⟩
 ·have:ds=[]:=g5s.mp e.symm
  subst this;rfl
 ·rw [g0z (by rw [hsl];exact l1)]
 rintro k m σ' H' ⟨rfl,hk,F', ρk,sm,rk,nok,hset,hend,hσ1,d1⟩
 by_cases hlt:k<ds.length
 ·refine .inr ⟨itd.go k F' H' sm rk.fh hlt,fun σ'' H''=>∃F'' ρk,Same F1 F''/\RS X.K F0 H0 F'' H'' σ'' ρk/\vk ρk/\(∀d, ρk.set j (some (.fz d))=(ρ.set i1 none).set j (some (.fz d)))/\(k+1=ds.length -> ρk=qf4 (ρ.set i1 none) j ds) /\
   σ''[i1]? = some (some (.ref a1))/\GD X.K F'' H'' a1 (ks.take (k+1)) (v1.take (k+1)),fun σ'' H'' z=>⟨ds.length-(k+1),by omega,rfl,hlt,z⟩,fun x H2 y=>?_⟩
  have hd:ds[k]? = some ds[k]:=ml hlt;obtain⟨F2,g2,rx⟩:=itd.yld k ds[k] F' H' x H2 sm rk.fh hd y;obtain⟨kq,hkq,hki⟩:=kget k _ hd;obtain⟨w1,hw1,he1⟩:=vget1 k _ hd;obtain⟨b,rfl,hb⟩:=qrq hki rx;have r3:=(rk.grow g2).set j rx;rw [hset] at r3;have no3:vk ((ρ.set i1 none).set j (some (.fz ds[k]))):=q80 no2;have s1':(σ'.set j (some (.ref b)))[i1]? = some (some (.ref a1)):=by rw [gu (my hj1)];exact hσ1
  have sj':(σ'.set j (some (.ref b)))[j]? = some (some (.ref b)):=by
   rw [g0z];have:=r3.len;rw [uc,uc,uc] at this;rw [this];exact lj
  have hkn:kq∉ks.take k:=fun hm=>by
   obtain⟨i,hi⟩:=g3p.mp hm;have hik:i<k:=by
    have:=(mv.mp hi).1;rw [pj] at this;omega
   rw [g1c hik] at hi;obtain⟨z1,z2⟩:=mv.mp hi;obtain⟨z3,z4⟩:=mv.mp hkq;exact(g2q.mp hnd.1 i k z1 z3 hik) (z2.trans z4.symm)
  have hkl:∀ {l:DX},l.map (·.1)=ks.take k->l.length<=sizeLine:=fun {l} e=>by
   have e2:=nz List.length e;rw [gh,pj] at e2;exact jo (by have:=hnd.2;omega)
  have ndk:(ks.take k).Nodup:=List.Sublist.nodup (List.take_sublist _ _) hnd.1;refine⟨F0,H0,F2,_,w1,r3,he1,fun v F3 H3 g3 rv=>?_⟩;have d13:=(d1.grow g2).grow g3;have r4:=r3.grow g3;have hb3:=qq g3.ff hb;obtain⟨⟨xs,ys,ep,e1,e2,e3,e4,e5⟩,f⟩:=d13;refine⟨_,s1',_,sj',a1,b,kq,xs,ep,rfl,rfl,e1,qq r4.fh hb3,fun z hz=>qq r4.fh (e3 z hz),by rw [e2];exact ndk,by rw [e2];exact hkn,hkl e2,fun uu ep' ru hx=>?_⟩;have D1:=GD.push (H:=H3) (ep':=ep') f e2 e3 e4 e5 hb3 rv ru;have r5:=qqd r4 no3 (o:=.ext (DE a1 (xs++[(kq,b,uu)]) ep')) f hz1 (qoy r4.tab e1 hx);refine⟨F3,_,(sm.trans g2.ff).trans g3.ff,r5,no3,fun d=>List.set_set ..,fun e=>?_,s1',?_⟩
  ·have:ds.getLast? = some ds[k]:=by rw [g58, <- e,Nat.add_sub_cancel];exact hd
   unfold qf4;rw [this]
  ·rw [take_snoc hkq,take_snoc hw1]
   exact D1
 ·have e:k=ds.length:=by omega
  subst e;refine .inl ⟨itd.stop _ F' H' sm rk.fh (gw _),?_⟩;rw [g02 (by omega),g02 (by omega)] at d1;have er:=hend rfl;subst er;obtain⟨o1,ho1,rep1⟩:=d1.rep m1 hnd.1 (jo hnd.2);have r8:=quj rk nok d1.f hz1 ho1;exact⟨F0,H0,_,_,fl, ρ',quk r8 hσ1 rep1,h4,q4e ((g1.ff.trans sm).trans (wk d1.f)) q⟩
end
end DL
namespace DL
open PySem PyProof.Rows L2
def rkD:D->Nat
 | .int _=>0
 | .tup _=>1
 | _=>2
mutual
def q1a:D->D->Ordering
 | .int i,.int j=>if i<j then .lt else if j<i then .gt else .eq
 | .tup ds,.tup es=>q1s ds es
 | d,e=>if rkD d<rkD e then .lt else if rkD e<rkD d then .gt else .eq
def q1s:List D->List D->Ordering
 | [],[]=>.eq
 | [],_ :: _=>.lt
 | _ :: _,[]=>.gt
 | d :: ds,e :: es=>match q1a d e with
  | .eq=>q1s ds es
  | o=>o
end
def ltT(d e:D): Bool:=(q1a d e).isLT
def q0g(ds es:List D): Bool:=(q1s ds es).isLT
mutual
/-- ints, and tuples of such -/
def kD:D->Bool
 | .int _=>true
 | .tup ds=>kDL ds
 | _=>false
def kDL:List D->Bool
 | []=>true
 | d :: ds=>kD d&&kDL ds
end
mutual
/-- where Python compares these two, it meets only ints with ints, tuples with tuples -/
def shD:D->D->Bool
 | .int _,.int _=>true
 | .tup ds,.tup es=>shL ds es
 | _,_=>false
def shL:List D->List D->Bool
 | d :: ds,e :: es=>shD d e&&shL ds es
 | _,_=>true
end
def qc8(k:D×D): List (D×D)->List (D×D)
 | []=>[k]
 | y :: r=>if ltT y.1 k.1=true then y :: qc8 k r else k :: y :: r
def q71:List (D×D)->List (D×D)
 | []=>[]
 | x :: r=>qc8 x (q71 r)
theorem swap3{a b:Nat}: (if a<b then Ordering.lt else if b<a then .gt else .eq).swap=if b<a then .lt else if a<b then .gt else .eq:=by
 by_cases h:a<b
 ·rw [m8 h,ma (by omega),m8 h];rfl
 ·by_cases k:b<a
  ·rw [ma h,m8 k,m8 k];rfl
  ·rw [ma h,ma k,ma k,ma h];rfl
theorem swap4{a b:Int}: (if a<b then Ordering.lt else if b<a then .gt else .eq).swap=if b<a then .lt else if a<b then .gt else .eq:=by
 by_cases h:a<b
 ·rw [m8 h,ma (by omega),m8 h];rfl
 ·by_cases k:b<a
  ·rw [ma h,m8 k,m8 k];rfl
  ·rw [ma h,ma k,ma k,ma h];rfl
theorem qf5:∀n,(∀d e:D,sizeOf d<n->q1a e d=(q1a d e).swap)/\(∀ds es:List D,sizeOf ds<n->q1s es ds=(q1s ds es).swap):=by
 intro n
 induction n with
 | zero=>exact⟨fun d e h=>absurd h (nv _),fun d e h=>absurd h (nv _)⟩
 | succ n ih=>
  refine⟨fun d e hn=>?_,fun ds es hn=>?_⟩
  ·cases d <;> cases e <;> simp only [q1a] <;> first
    | exact swap3.symm
    | exact swap4.symm
    | exact ih.2 _ _ (by simp at hn;omega)
  ·cases ds with
   | nil=>cases es <;> simp only [q1s] <;> rfl
   | cons d ds=>
    cases es with
    | nil=>simp only [q1s];rfl
    | cons e es=>
     simp only [q1s];rw [ih.1 d e (by simp at hn;omega),ih.2 ds es (by simp at hn;omega)];cases q1a d e <;> rfl
theorem cmp_swap(d e:D): q1a e d=(q1a d e).swap:=(qf5 (sizeOf d+1)).1 d e (ph _)
theorem q1j(d e:D)(ds es:List D): q0g (d :: ds) (e :: es)=(ltT d e || (!ltT e d&&q0g ds es)):=by
 unfold q0g ltT;rw [cmp_swap d e,q1s];cases q1a d e <;> rfl
theorem q4i(ds:List D): q0g ds []=false:=by cases ds <;> simp only [q0g,q1s] <;> rfl
theorem wx(e:D)(es:List D): q0g [] (e :: es)=true:=by simp only [q0g,q1s];rfl
theorem lt3{a b:Nat}: (if a<b then Ordering.lt else if b<a then .gt else .eq).isLT=decide (a<b):=by
 by_cases h:a<b
 ·simp [h]
 ·by_cases k:b<a <;> simp [h,k]
theorem lt4{a b:Int}: (if a<b then Ordering.lt else if b<a then .gt else .eq).isLT=decide (a<b):=by
 by_cases h:a<b
 ·simp [h]
 ·by_cases k:b<a <;> simp [h,k]
theorem q09(ds es:List D): ltT (.tup ds) (.tup es)=q0g ds es:=by unfold ltT;simp only [q1a];rfl
theorem vp(i j:Int): ltT (.int i) (.int j)=decide (i<j):=by unfold ltT;simp only [q1a];exact lt4
theorem qf6{d e:D}(h:ltT d e=true): ltT e d=false:=by
 unfold ltT at h ⊢;rw [cmp_swap d e];cases q:q1a d e <;> rw [q] at h <;> first|rfl|(cases h;done)
theorem q1t(d e:D): (∃i j,d=.int i/\e=.int j)\/(∃ds es,d=.tup ds/\e=.tup es)\/ltT d e=decide (rkD d<rkD e):=by
 cases d <;> cases e <;> first
  | (left;exact⟨_,_,rfl,rfl⟩)
  | (right;left;exact⟨_,_,rfl,rfl⟩)
  | (right;right;simp only [ltT,q1a];exact lt3)
theorem qjg:∀n,(∀d e f:D,sizeOf d+sizeOf e+sizeOf f<n->ltT e d=false->ltT f e=false->ltT f d=false)/\(∀ds es fs:List D,sizeOf ds+sizeOf es+sizeOf fs<n->q0g es ds=false->q0g fs es=false->q0g fs ds=false):=by
 intro n
 induction n with
 | zero=>exact⟨fun d e f h=>absurd h (nv _),fun d e f h=>absurd h (nv _)⟩
 | succ n ih=>
  refine⟨fun d e f hn h k=>?_,fun ds es fs hn h k=>?_⟩
  ·rcases q1t e d with⟨i,j,rfl,rfl⟩|⟨es,ds,rfl,rfl⟩|g1
   ·rcases q1t f (.int i) with⟨i',j',rfl,z⟩|⟨es,ds,rfl,z⟩|g2
    ·cases z
     simp only [vp,nu] at h k ⊢;omega
    ·cases z
    ·rcases q1t f (.int j) with⟨i',j',rfl,z⟩|⟨es,ds,rfl,z⟩|g3
     ·rw [vp,nu] at k
      simp only [vp,nu] at h ⊢;omega
     ·cases z
     ·rw [g3];simp [rkD]
   ·rcases q1t f (.tup es) with⟨i',j',rfl,z⟩|⟨fs,es',rfl,z⟩|g2
    ·cases z
    ·cases z
     simp only [q09] at h k ⊢;exact ih.2 _ _ _ (by simp at hn;omega) h k
    ·rcases q1t f (.tup ds) with⟨i',j',rfl,z⟩|⟨fs,es',rfl,z⟩|g3
     ·cases z
     ·cases z
      simp only [q09] at h k ⊢;exact ih.2 _ _ _ (by simp at hn;omega) h k
     ·rw [g2] at k;rw [g3];exact k
   ·rcases q1t f e with⟨i,j,rfl,rfl⟩|⟨es,ds,rfl,rfl⟩|g2
    ·rcases q1t (.int i) d with⟨i',j',z,rfl⟩|⟨fs,es',z,rfl⟩|g3
     ·cases z
      rw [vp,nu] at h;simp only [vp,nu] at k ⊢;omega
     ·cases z
     ·rw [g1] at h;rw [g3];exact h
    ·rcases q1t (.tup es) d with⟨i',j',z,rfl⟩|⟨fs,es',z,rfl⟩|g3
     ·cases z
     ·cases z
      simp only [q09] at h k ⊢;exact ih.2 _ _ _ (by simp at hn;omega) h k
     ·rw [g1] at h;rw [g3];exact h
    ·rcases q1t f d with⟨i,j,rfl,rfl⟩|⟨es,ds,rfl,rfl⟩|g3
     ·rw [g1] at h;rw [g2] at k
      cases e <;> simp [rkD] at h k
      rename_i m;have h':ltT (.int m) (.int j)=false:=by rw [g1];simp [rkD]
      have k':ltT (.int i) (.int m)=false:=by rw [g2];simp [rkD]
      simp only [vp,nu] at h' k' ⊢;omega
     ·rw [g1] at h;rw [g2] at k
      cases e <;> simp [rkD] at h k
      rename_i ms;have h':ltT (.tup ms) (.tup ds)=false:=by rw [g1];simp [rkD]
      have k':ltT (.tup es) (.tup ms)=false:=by rw [g2];simp [rkD]
      simp only [q09] at h' k' ⊢;exact ih.2 _ _ _ (by simp at hn;omega) h' k'
     ·rw [g1] at h;rw [g2] at k;rw [g3]
      simp only [nu] at h k ⊢;omega
  ·cases fs with
   | nil=>
    cases es with
    | nil=>exact h
    | cons e es=>rw [wx] at k;cases k
   | cons f fs=>
    cases ds with
    | nil=>rw [q4i]
    | cons d ds=>
     cases es with
     | nil=>rw [wx] at h;cases h
     | cons e es=>
      rw [q1j] at h k ⊢;have z1:sizeOf d+sizeOf e+sizeOf f<n:=by simp at hn;omega
      have z2:sizeOf ds+sizeOf es+sizeOf fs<n:=by simp at hn;omega
      have z3:sizeOf e+sizeOf f+sizeOf d<n:=by simp at hn;omega
      have z4:sizeOf f+sizeOf d+sizeOf e<n:=by simp at hn;omega
      simp only [g43,g6g,Bool.not_eq_false'] at h k ⊢;obtain⟨h1,h2⟩:=h;obtain⟨k1,k2⟩:=k;refine⟨ih.1 d e f z1 h1 k1,?_⟩;rcases h2 with h2|h2
      ·left
       cases q:ltT d f
       ·-- f <= d and e <= f give e <= d
        have:=ih.1 e f d z3 k1 q;rw [this] at h2;cases h2
       ·rfl
      ·rcases k2 with k2|k2
       ·left
        cases q:ltT d f
        ·have:=ih.1 f d e z4 q h1
         rw [this] at k2;cases k2
        ·rfl
       ·right
        exact ih.2 ds es fs z2 h2 k2
theorem qf7{d e f:D}(h:ltT e d=false)(k:ltT f e=false): ltT f d=false:=(qjg (sizeOf d+sizeOf e+sizeOf f+1)).1 d e f (ph _) h k
theorem qmd:∀n,(∀d e:D,sizeOf d<n->kD d=true->kD e=true->ltT d e=false->ltT e d=false->d=e)/\(∀ds es:List D,sizeOf ds<n->kDL ds=true->kDL es=true->q0g ds es=false->q0g es ds=false->ds=es):=by
 intro n
 induction n with
 | zero=>exact⟨fun d e h=>absurd h (nv _),fun d e h=>absurd h (nv _)⟩
 | succ n ih=>
  refine⟨fun d e hn kd ke h k=>?_,fun ds es hn kd ke h k=>?_⟩
  ·cases d <;> simp only [kD] at kd <;> first|(cases kd;done)|skip
   all_goals (cases e <;> simp only [kD] at ke <;> first|(cases ke;done)|skip)
   ·simp only [vp,nu] at h k
    congr 1;omega
   ·simp [ltT,q1a,rkD] at h
   ·simp [ltT,q1a,rkD] at k
   ·simp only [q09] at h k
    rw [ih.2 _ _ (by simp at hn;omega) kd ke h k]
  ·cases ds with
   | nil=>
    cases es with
    | nil=>rfl
    | cons e es=>rw [wx] at h;cases h
   | cons d ds=>
    cases es with
    | nil=>rw [wx] at k;cases k
    | cons e es=>
     rw [q1j] at h k;simp only [kDL,mf] at kd ke;simp only [g43,g6g,Bool.not_eq_false'] at h k;have hd:sizeOf d<n:=by simp at hn;omega
     have hds:sizeOf ds<n:=by simp at hn;omega
     have e1:=ih.1 d e hd kd.1 ke.1 h.1 k.1;have e2:=ih.2 ds es hds kd.2 ke.2 (h.2.resolve_left (by rw [k.1];simp)) (k.2.resolve_left (by rw [h.1];simp));rw [e1,e2]
theorem lt_eq{d e:D}(kd:kD d=true)(ke:kD e=true)(h:ltT d e=false)(k:ltT e d=false): d=e:=(qmd (sizeOf d+1)).1 d e (ph _) kd ke h k
theorem q85(x:D×D): ∀l,(qc8 x l).Perm (x :: l)
 | []=>.refl _
 | y :: r=>by
  unfold qc8
  split
  ·exact((q85 x r).cons y).trans (.swap x y r)
  ·exact .refl _
theorem qba:∀l,(q71 l).Perm l
 | []=>.refl _
 | x :: r=>(q85 x _).trans ((qba r).cons x)
def leT(x y:D×D): Prop:=ltT y.1 x.1=false
theorem qd6(x:D×D): ∀ {l:List (D×D)},l.Pairwise leT->(qc8 x l).Pairwise leT
 | [],_=>.cons (fun _ h=>by cases h) .nil
 | y :: r,.cons h1 h2=>by
  unfold qc8
  split
  ·rename_i hxy
   refine .cons (fun z hz=>?_) (qd6 x h2);rcases mh.mp ((q85 x r).mem_iff.mp hz) with rfl|hz
   ·exact qf6 hxy
   ·exact h1 z hz
  ·rename_i hxy
   have hxy':ltT y.1 x.1=false:=by simpa using hxy
   refine .cons (fun z hz=>?_) (.cons h1 h2);rcases mh.mp hz with rfl|hz
   ·exact hxy'
   ·exact qf7 hxy' (h1 z hz)
theorem qbb:∀l,(q71 l).Pairwise leT
 | []=>.nil
 | x :: r=>qd6 x (qbb r)
theorem qf8:∀ {l m:List (D×D)},l.Perm m->l.Pairwise leT->m.Pairwise leT->(∀x∈l,∀y∈l,ltT x.1 y.1=false->ltT y.1 x.1=false->x=y)->l=m
 | [],m,p,_,_,_=>(p.nil_eq).symm ▸ rfl
 | x :: l,[],p,_,_,_=>by cases p.length_eq
 | x :: l,y :: m,p,.cons h1 h2,.cons k1 k2,hu=>by
  have e:x=y:=by
   have hx:x∈y :: m:=p.mem_iff.mp gi;have hy:y∈x :: l:=p.mem_iff.mpr gi;rcases mh.mp hx with e|hx
   ·exact e
   ·rcases mh.mp hy with e|hy'
    ·exact e.symm
    ·exact hu x gi y hy (k1 x hx) (h1 y hy')
  subst e;rw [qf8 (List.perm_cons _ |>.mp p) h2 k2 (fun a ha b hb=>hu a (gj _ ha) b (gj _ hb))]
theorem qp0{l m:List (D×D)}(p:m.Perm l)(h:m.Pairwise leT)(hu:∀x∈l,∀y∈l,ltT x.1 y.1=false->ltT y.1 x.1=false->x=y): m=q71 l:=
 qf8 (p.trans (qba l).symm) h (qbb l) (fun x hx y hy=>hu x (p.mem_iff.mp hx) y (p.mem_iff.mp hy))
end DL
namespace Srt
open PySem PyProof.Rows
structure Cmp(prog:Program)(w:World)(A:Around)(s:Shared)(κ : SortKind)(G:Value->Prop)(lt:Value->Value->Bool): Prop where
 ask:∀x y,G x->G y->∀Q:Bool->Shared->Prop,Q (lt x y) s->wpAny (model prog w) A (keyLt' κ x y) Q (fun _ _=>False) s
 asy:∀x y,lt x y=true->lt y x=false
 tra:∀x y z,lt y x=false->lt z y=false->lt z x=false
section
variable{prog:Program}{w:World}{A:Around}{E:Value->Shared->Prop}{s:Shared}{κ : SortKind}{G:Value->Prop}{lt:Value->Value->Bool}
def kz(p:Option Keyed): Value:=match p with|some p=>p.1|none=>.none
theorem qrr{C:Cmp prog w A s κ G lt}{st:SortSt}{x y:Keyed}{Q:Option Bool->SortSt->Prop}(hk:kindOf st = κ)(gx:G x.1)(gy:G y.1)(h:Q (some (lt x.1 y.1)) st):
  wpS (model prog w) A E s (lt' x y) Q st:=by
 rw [lt'_eq];refine p9 (wpS_get ?_);rw [hk];exact p9 (wpS_lift (g0s (ug (C.ask _ _ gx gy (fun b s'=>s'=s/\b=lt x.1 y.1) ⟨rfl,rfl⟩) (fun b s' h'=>by
  obtain⟨rfl,rfl⟩:=h';exact⟨rfl,uz h⟩) fun _ _ e=>e.elim)))
theorem qf9{st:SortSt}{xs:Array Keyed}{i:Nat}{Q:Keyed->SortSt->Prop}(hi:i<xs.size)(h:Q xs[i] st): wpS (model prog w) A E s (elem' xs i) Q st:=by
 rw [elem'_eq,g5l xs i hi];exact uz h
end
def le(lt:Value->Value->Bool)(p q:Keyed): Prop:=lt q.1 p.1=false
structure MI(lt:Value->Value->Bool)(la lb o:List Keyed)(ia ib:Nat): Prop where
 perm:o.Perm (la.take ia++lb.take ib)
 ord:o.Pairwise (le lt)
 ua:∀p∈o,∀q∈la.drop ia,le lt p q
 ub:∀p∈o,∀q∈lb.drop ib,le lt p q
section
variable{lt:Value->Value->Bool}{la lb o:List Keyed}{ia ib:Nat}
end
theorem bc{α β : Type}{m:StateT SortSt Sem α}{f g : α -> StateT SortSt Sem β}(h:∀x,f x=g x): m >>= f=m >>= g:=by rw [funext h]
theorem bc2{α β : Type}{m n:StateT SortSt Sem α}{f g : α -> StateT SortSt Sem β}(hm:m=n)(h:∀x,f x=g x): m >>= f=n >>= g:=by rw [hm,funext h]
theorem fc{β : Type}{r:Std.Legacy.Range}{b : β}{f g:Nat -> β -> StateT SortSt Sem (ForInStep β)}(h:∀x u,f x u=g x u): forIn r b f=forIn r b g:=by
 rw [show f=g from funext fun x=>funext fun u=>h x u]
abbrev TI:=Option (Array Keyed)×Array Keyed×Nat×Nat×Nat×Nat
abbrev TG:=Option (Array Keyed)×Array Keyed×Nat×Nat×Nat×Nat×Nat
abbrev TO:=Option (Array Keyed)×Array Keyed×Nat×Nat×Nat
section
variable(a b:Array Keyed)
end
def Eg(st st':SortSt): Prop:=kindOf st'=kindOf st/\arrOf st'=arrOf st/\pendingOf st'=pendingOf st/\failedOf st'=failedOf st
theorem Eg.trans{a b c:SortSt}(h:Eg a b)(k:Eg b c): Eg a c:=⟨k.1.trans h.1,k.2.1.trans h.2.1,k.2.2.1.trans h.2.2.1,k.2.2.2.trans h.2.2.2⟩
section
variable{prog:Program}{w:World}{A:Around}{E:Value->Shared->Prop}{s:Shared}{κ : SortKind}{G:Value->Prop}{lt:Value->Value->Bool}
variable{a b:Array Keyed}
theorem qwe{l:List Keyed}(C:Cmp prog w A s κ G lt)(hr:∀x:Keyed,lt x.1 x.1=false)(sl:l.Pairwise (le lt)){i j:Nat}(hij:i<=j)(hj:j<l.length): le lt (l[i]'(by lia)) l[j]:=by
 rcases Nat.lt_or_ge i j with h|h
 ·exact g2q.mp sl i j (by lia) hj h
 ·have:i=j:=by lia
  subst this;exact hr _
theorem Cmp.irr(C:Cmp prog w A s κ G lt)(x:Value): lt x x=false:=by
 cases e:lt x x
 ·rfl
 ·have:=C.asy _ _ e;rw [e] at this;cases this
end
structure MJ(lt:Value->Value->Bool)(la lb o:List Keyed)(ia ib:Nat): Prop where
 perm:o.Perm (la.drop ia++lb.drop ib)
 ord:o.Pairwise (fun p q=>le lt q p)
 ua:∀p∈o,∀q∈la.take ia,le lt q p
 ub:∀p∈o,∀q∈lb.take ib,le lt q p
section
variable{lt:Value->Value->Bool}{la lb o:List Keyed}{ia ib:Nat}
end
section
variable(a b:Array Keyed)
end
section
variable{prog:Program}{w:World}{A:Around}{E:Value->Shared->Prop}{s:Shared}{κ : SortKind}{G:Value->Prop}{lt:Value->Value->Bool}{a b:Array Keyed}
end
def Kz(xs:Array Keyed)(i:Nat): Value:=kz xs[i]?
theorem q4j{xs ys:Array Keyed}{i j:Nat}(h:xs[i]? = ys[j]?): Kz xs i=Kz ys j:=by unfold Kz;rw [h]
theorem qjh{xs:Array Keyed}{i:Nat}(h:i<xs.size): Kz xs i=xs[i].1:=by unfold Kz;rw [g5l xs i h];rfl
def Asc(lt:Value->Value->Bool)(xs:Array Keyed)(lo hi:Nat): Prop:=∀i j,lo<=i->i<=j->j<hi->lt (Kz xs j) (Kz xs i)=false
def Des(lt:Value->Value->Bool)(xs:Array Keyed)(lo hi:Nat): Prop:=∀i j,lo<=i->i<=j->j<hi->lt (Kz xs i) (Kz xs j)=false
def Eqv(lt:Value->Value->Bool)(x y:Value): Prop:=lt x y=false/\lt y x=false
structure Tr(lo hi:Nat)(st st':SortSt): Prop where
 kind:kindOf st'=kindOf st
 pend:pendingOf st'=pendingOf st
 fail:failedOf st'=failedOf st
 perm:(arrOf st').Perm (arrOf st)
 out:∀k,(k<lo\/hi<=k)->(arrOf st')[k]? = (arrOf st)[k]?
theorem Tr.rfl'(lo hi:Nat)(st:SortSt): Tr lo hi st st:=⟨rfl,rfl,rfl,.refl _,fun _ _=>rfl⟩
theorem Tr.trans{lo hi:Nat}{a b c:SortSt}(h:Tr lo hi a b)(k:Tr lo hi b c): Tr lo hi a c:=⟨k.kind.trans h.kind,k.pend.trans h.pend,k.fail.trans h.fail,k.perm.trans h.perm,fun i hi=>(k.out i hi).trans (h.out i hi)⟩
theorem Tr.size{lo hi:Nat}{a b:SortSt}(h:Tr lo hi a b): (arrOf b).size=(arrOf a).size:=h.perm.size_eq
def Gs(G:Value->Prop)(st:SortSt): Prop:=∀p∈(arrOf st).toList,G p.1
theorem Tr.gs{G:Value->Prop}{lo hi:Nat}{a b:SortSt}(h:Tr lo hi a b)(g:Gs G a): Gs G b:=fun p hp=>g p ((g2i.mp h.perm).mem_iff.mp hp)
theorem Tr.mir{lo hi i j:Nat}{st:SortSt}(h1:lo<=i)(h2:j<=hi)(h3:j<=(arrOf st).size): Tr lo hi st (setArr st (mirror (arrOf st) i j ((j-i) / 2))):=
 ⟨rfl,rfl,rfl,mirror_perm _ _ _ _,fun k hk=>by show(mirror (arrOf st) i j ((j-i) / 2))[k]? = _;rw [getElem?_mirror_all h3,ma (by lia)]⟩
theorem qfa{xs:Array Keyed}{i j:Nat}(hj:j<=xs.size)(k:Nat): Kz (mirror xs i j ((j-i) / 2)) k=if i<=k/\k<j then Kz xs (i+j-1-k) else Kz xs k:=by
 have e:=getElem?_mirror_all (i:=i) hj k
 split
 ·rename_i h;rw [m8 h] at e;exact q4j e
 ·rename_i h;rw [ma h] at e;exact q4j e
abbrev ASt:=Option (Option Nat)×Nat
abbrev DSt:=Option (Option Nat)×Nat×Nat
noncomputable def asL(lo b nr:Nat): StateT SortSt Sem ASt:=
 forIn [b:nr] ((none,b):ASt) fun _ t=>do
  match <- ltAt' (lo+t.2) (lo+t.2-1) with
  | some sm=>if sm=true then pure (.done (none,t.2)) else pure (.yield (none,t.2+1))
  | _=>pure (.done (some none,t.2))
noncomputable def ta3(lo n nr:Nat): StateT SortSt Sem (Option Nat):=do
 reverseSlice' lo (lo+n)
 let t <- asL lo n nr
 match t.1 with
 | some r=>pure r
 | none=>pure (some t.2)
noncomputable def deL(lo n nr:Nat): StateT SortSt Sem DSt:=
 forIn [n:nr] ((none,n,0):DSt) fun _ t=>do
  match <- ltAt' (lo+t.2.1) (lo+t.2.1-1) with
  | some sm=>
   if sm=true then
    if t.2.2>0 then do
     reverseSlice' (lo+t.2.1-(t.2.2+1)) (lo+t.2.1)
     pure (.yield (none,t.2.1+1,0))
    else pure (.yield (none,t.2.1+1,0))
   else do
    match <- ltAt' (lo+t.2.1-1) (lo+t.2.1) with
    | some la=>if la=true then pure (.done (none,t.2.1,t.2.2)) else pure (.yield (none,t.2.1+1,t.2.2+1))
    | _=>pure (.done (some none,t.2.1,t.2.2))
  | _=>pure (.done (some none,t.2.1,t.2.2))
noncomputable def deP(lo n nr:Nat): StateT SortSt Sem (Option Nat):=do
 rule "list.sort.descending-run"
 let t <- deL lo (n+1) nr
 match t.1 with
 | some r=>pure r
 | none=>
  if t.2.2>0 then do
   reverseSlice' (lo+t.2.1-(t.2.2+1)) (lo+t.2.1)
   ta3 lo t.2.1 nr
  else ta3 lo t.2.1 nr
theorem qul(lo nr:Nat): countRun' lo nr=(do
  let t <- asL lo 1 nr
  match t.1 with
  | some r=>pure r
  | none=>
   if(t.2==nr)=true then pure (some t.2)
   else if t.2>1 then do
    match <- ltAt' lo (lo+t.2-1) with
    | some ro=>if ro=true then pure (some t.2) else do
      reverseSlice' lo (lo+t.2)
      deP lo t.2 nr
    | _=>pure none
   else deP lo t.2 nr):=by
 rw [countRun'_eq];dsimp only;refine bc2 rfl fun t=>?_;obtain⟨r,n⟩:=t;cases r with
 | some r=>rfl
 | none=>
  dsimp only;refine g30 rfl (fun _=>rfl) fun _=>g30 rfl (fun _=>bc fun x=>?_) fun _=>?_
  ·cases x with
   | none=>rfl
   | some ro=>
    dsimp only;refine g30 rfl (fun _=>rfl) fun _=>bc fun _=>?_;unfold deP;refine bc fun _=>bc2 rfl fun t=>?_;obtain⟨r2,n2,q2⟩:=t;cases r2 with
    | some r2=>rfl
    | none=>
     dsimp only;refine g30 rfl (fun _=>bc fun _=>?_) fun _=>?_
     ·unfold ta3
      refine bc fun _=>bc2 rfl fun t=>?_;obtain⟨r3,n3⟩:=t;cases r3 <;> rfl
     ·unfold ta3
      refine bc fun _=>bc2 rfl fun t=>?_;obtain⟨r3,n3⟩:=t;cases r3 <;> rfl
  ·unfold deP
   refine bc fun _=>bc2 rfl fun t=>?_;obtain⟨r2,n2,q2⟩:=t;cases r2 with
   | some r2=>rfl
   | none=>
    dsimp only;refine g30 rfl (fun _=>bc fun _=>?_) fun _=>?_
    ·unfold ta3
     refine bc fun _=>bc2 rfl fun t=>?_;obtain⟨r3,n3⟩:=t;cases r3 <;> rfl
    ·unfold ta3
     refine bc fun _=>bc2 rfl fun t=>?_;obtain⟨r3,n3⟩:=t;cases r3 <;> rfl
section
variable{prog:Program}{w:World}{A:Around}{E:Value->Shared->Prop}{s:Shared}{κ : SortKind}{G:Value->Prop}{lt:Value->Value->Bool}
theorem Eqv.symm{x y:Value}(h:Eqv lt x y): Eqv lt y x:=⟨h.2,h.1⟩
theorem Eqv.trans(C:Cmp prog w A s κ G lt){x y z:Value}(h:Eqv lt x y)(k:Eqv lt y z): Eqv lt x z:=⟨C.tra z y x k.1 h.1,C.tra x y z h.2 k.2⟩
theorem qfb(C:Cmp prog w A s κ G lt){x x' y y':Value}(hx:Eqv lt x x')(hy:Eqv lt y y')(h:lt y' x'=false): lt y x=false:=
 C.tra x x' y hx.2 (C.tra x' y' y h hy.1)
theorem wpS_ltK{st:SortSt}(C:Cmp prog w A s κ G lt){i j:Nat}{Q:Option Bool->SortSt->Prop}(hk:kindOf st = κ)(g:Gs G st)(hi:i<(arrOf st).size)(hj:j<(arrOf st).size)
  (h:Q (some (lt (Kz (arrOf st) i) (Kz (arrOf st) j))) st):wpS (model prog w) A E s (ltAt' i j) Q st:=by
 rw [ltAt'_eq];refine p9 (wpS_get ?_);show wpS _ _ _ _ (do let x <- elem' (arrOf st) i;let y <- elem' (arrOf st) j;lt' x y) Q st;rw [qjh hi,qjh hj] at h;exact p9 (qf9 hi (p9 (qf9 hj (qrr (C:=C) hk (g _ (by simp)) (g _ (by simp)) h))))
theorem q90{st:SortSt}{i j:Nat}{Q:Unit->SortSt->Prop}(h:Q () (setArr st (mirror (arrOf st) i j ((j-i) / 2)))): wpS (model prog w) A E s (reverseSlice' i j) Q st:=by
 rw [reverseSlice'_eq];exact wpS_modify h
theorem qp1(C:Cmp prog w A s κ G lt){xs:Array Keyed}{lo x:Nat}(h:Asc lt xs lo (lo+x))(h1:1<=x)(hl:lt (Kz xs (lo+x)) (Kz xs (lo+x-1))=false): Asc lt xs lo (lo+(x+1)):=by
 intro i j h2 h3 h4
 by_cases hj:j<lo+x
 ·exact h i j h2 h3 hj
 ·have:j=lo+x:=by lia
  subst this
  by_cases hi:i=lo+x
  ·subst hi;exact C.irr _
  ·exact C.tra _ _ _ (h i (lo+x-1) h2 (by lia) (by lia)) hl
theorem q72(C:Cmp prog w A s κ G lt){xs:Array Keyed}{lo x:Nat}(h:Des lt xs lo (lo+x))(h1:1<=x)(hl:lt (Kz xs (lo+x-1)) (Kz xs (lo+x))=false): Des lt xs lo (lo+(x+1)):=by
 intro i j h2 h3 h4
 by_cases hj:j<lo+x
 ·exact h i j h2 h3 hj
 ·have:j=lo+x:=by lia
  subst this
  by_cases hi:i=lo+x
  ·subst hi;exact C.irr _
  ·exact C.tra _ _ _ hl (h i (lo+x-1) h2 (by lia) (by lia))
theorem qi8(C:Cmp prog w A s κ G lt){st:SortSt}{lo b nr:Nat}{Q:ASt->SortSt->Prop}(hk:kindOf st = κ)(g:Gs G st)(hz:lo+nr<=(arrOf st).size)(h1:1<=b)(h2:b<=nr)(hs:Asc lt (arrOf st) lo (lo+b))
  (h:∀n,b<=n->n<=nr->Asc lt (arrOf st) lo (lo+n)->(n=nr\/lt (Kz (arrOf st) (lo+n)) (Kz (arrOf st) (lo+n-1))=true)->Q (none,n) st):wpS (model prog w) A E s (asL lo b nr) Q st:=by
 unfold asL;refine g31 (I:=fun x c st'=>st'=st/\c=(none,x)/\Asc lt (arrOf st) lo (lo+x)) ?_ ?_ ⟨rfl,rfl,hs⟩
 ·rintro x c st' hx1 hx2 ⟨rfl,rfl,hs'⟩
  dsimp only;refine p9 (wpS_ltK C hk g (by lia) (by lia) ?_);dsimp only;cases e:lt (Kz (arrOf st') (lo+x)) (Kz (arrOf st') (lo+x-1))
  ·simp only [m6,t6]
   exact uz ⟨rfl,rfl,qp1 C hs' (by lia) e⟩
  ·simp only [pz]
   exact uz (h x hx1 (by lia) hs' (.inr e))
 ·rintro c st' ⟨rfl,rfl,hs'⟩
  rw [show max b nr=nr by lia] at hs' ⊢;exact h nr h2 (gw _) hs' (.inl rfl)
theorem qi9(C:Cmp prog w A s κ G lt){st:SortSt}{lo n nr:Nat}{Q:Option Nat->SortSt->Prop}(hk:kindOf st = κ)(g:Gs G st)(hz:lo+nr<=(arrOf st).size)(h1:1<=n)(h2:n<=nr)(hs:Des lt (arrOf st) lo (lo+n))
  (h:∀m st',Tr lo (lo+nr) st st'->1<=m->m<=nr->Asc lt (arrOf st') lo (lo+m)->Q (some m) st'):wpS (model prog w) A E s (ta3 lo n nr) Q st:=by
 unfold ta3;have hz':lo+n<=(arrOf st).size:=by lia
 refine p9 (q90 ?_);have tr:Tr lo (lo+nr) st (setArr st (mirror (arrOf st) lo (lo+n) ((lo+n-lo) / 2))):=Tr.mir (gw _) (by lia) hz';refine p9 (qi8 C (tr.kind.trans hk) (tr.gs g) (by rw [tr.size];exact hz) h1 h2 ?_ fun m m1 m2 m3 _=>uz (h m _ tr (by lia) m2 m3));intro i j i1 i2 i3;show lt (Kz (mirror (arrOf st) lo (lo+n) ((lo+n-lo) / 2)) j) (Kz (mirror (arrOf st) lo (lo+n) ((lo+n-lo) / 2)) i)=false;rw [qfa hz',qfa hz',m8 (by lia),m8 (by lia)];exact hs _ _ (by lia) (by lia) (by lia)
theorem qc9(C:Cmp prog w A s κ G lt){xs:Array Keyed}{i j:Nat}(hj:j<=xs.size)(he:∀k,i<=k->k<j->Eqv lt (Kz xs k) (Kz xs (j-1)))(k:Nat): Eqv lt (Kz (mirror xs i j ((j-i) / 2)) k) (Kz xs k):=by
 rw [qfa hj]
 split
 ·exact Eqv.trans C (he _ (by lia) (by lia)) (he k (by lia) (by lia)).symm
 ·exact⟨C.irr _,C.irr _⟩
theorem qrs(C:Cmp prog w A s κ G lt){st:SortSt}{lo n nr:Nat}{Q:DSt->SortSt->Prop}(hk:kindOf st = κ)(g:Gs G st)(hz:lo+nr<=(arrOf st).size)(h1:1<=n)(h2:n<=nr)(hs:Des lt (arrOf st) lo (lo+n))
  (h:∀m q st',Tr lo (lo+nr) st st'->n<=m->m<=nr->Des lt (arrOf st') lo (lo+m)->q+1<=m->(∀i,lo+m-(q+1)<=i->i<lo+m->Eqv lt (Kz (arrOf st') i) (Kz (arrOf st') (lo+m-1)))->Q (none,m,q) st') :
  wpS (model prog w) A E s (deL lo n nr) Q st:=by
 unfold deL;refine g31 (I:=fun x c st'=>∃q,c=(none,x,q)/\Tr lo (lo+nr) st st'/\Des lt (arrOf st') lo (lo+x)/\q+1<=x /\
   (∀i,lo+x-(q+1)<=i->i<lo+x->Eqv lt (Kz (arrOf st') i) (Kz (arrOf st') (lo+x-1)))) ?_ ?_
  ⟨0,rfl,Tr.rfl' _ _ _,hs,by lia,fun i i1 i2=>by rw [show i=lo+n-1 by lia];exact⟨C.irr _,C.irr _⟩⟩
 ·rintro x c st' hx1 hx2 ⟨q,rfl,tr,ds,hq,he⟩
  dsimp only;have hz':lo+x<=(arrOf st').size:=by rw [tr.size];lia
  have hk':=tr.kind.trans hk;have g':=tr.gs g;refine p9 (wpS_ltK C hk' g' (by rw [tr.size];lia) (by rw [tr.size];lia) ?_);dsimp only;cases e:lt (Kz (arrOf st') (lo+x)) (Kz (arrOf st') (lo+x-1))
  ·simp only [m6,t6]
   refine p9 (wpS_ltK C hk' g' (by rw [tr.size];lia) (by rw [tr.size];lia) ?_);dsimp only;cases e2:lt (Kz (arrOf st') (lo+x-1)) (Kz (arrOf st') (lo+x))
   ·simp only [m6,t6]
    refine uz ⟨q+1,rfl,tr,q72 C ds (by lia) e2,by lia,fun i i1 i2=>?_⟩;rw [show lo+(x+1)-1=lo+x by lia]
    by_cases hi:i=lo+x
    ·subst hi;exact⟨C.irr _,C.irr _⟩
    ·exact Eqv.trans C (he i (by lia) (by lia)) ⟨e2,e⟩
   ·simp only [pz]
    exact uz (h x q st' tr hx1 (by lia) ds hq he)
  ·simp only [pz]
   have step:∀st'',Tr lo (lo+nr) st st''->(∀k,Eqv lt (Kz (arrOf st'') k) (Kz (arrOf st') k))->∃q',((none,x+1,0):DSt)=(none,x+1,q')/\Tr lo (lo+nr) st st''/\Des lt (arrOf st'') lo (lo+(x+1))/\q'+1<=x+1 /\
     (∀i,lo+(x+1)-(q'+1)<=i->i<lo+(x+1)->Eqv lt (Kz (arrOf st'') i) (Kz (arrOf st'') (lo+(x+1)-1))):=by
    intro st'' tr2 hev;refine⟨0,rfl,tr2,?_,by lia,fun i i1 i2=>by rw [show i=lo+(x+1)-1 by lia];exact⟨C.irr _,C.irr _⟩⟩;have dm:=q72 C ds (by lia) (C.asy _ _ e);intro i j i1 i2 i3;exact qfb C (hev j) (hev i) (dm i j i1 i2 i3)
   split
   ·refine p9 (q90 (uz (step _ (tr.trans (Tr.mir (by lia) (by lia) hz')) (qc9 C hz' ?_))))
    exact he
   ·exact uz (step _ tr fun k=>⟨C.irr _,C.irr _⟩)
 ·rintro c st' ⟨q,rfl,tr,ds,hq,he⟩
  rw [show max n nr=nr by lia] at ds hq he ⊢;exact h nr q st' tr h2 (gw _) ds hq he
theorem qia(C:Cmp prog w A s κ G lt){st:SortSt}{lo n nr:Nat}{Q:Option Nat->SortSt->Prop}(hk:kindOf st = κ)(g:Gs G st)(hz:lo+nr<=(arrOf st).size)(h2:n+1<=nr)(hs:Des lt (arrOf st) lo (lo+(n+1)))
  (h:∀m st',Tr lo (lo+nr) st st'->1<=m->m<=nr->Asc lt (arrOf st') lo (lo+m)->Q (some m) st'):wpS (model prog w) A E s (deP lo n nr) Q st:=by
 unfold deP;refine p9 (wpS_lift (g04 ⟨rfl,?_⟩));refine p9 (qrs C hk g hz (by lia) h2 hs fun m q st' tr m1 m2 ds hq he=>?_);dsimp only;have hz':lo+m<=(arrOf st').size:=by rw [tr.size];lia
 split
 ·have tr2:Tr lo (lo+nr) st' (setArr st' (mirror (arrOf st') (lo+m-(q+1)) (lo+m) ((lo+m-(lo+m-(q+1))) / 2))):=Tr.mir (by lia) (by lia) hz'
  refine p9 (q90 (qi9 C (tr2.kind.trans (tr.kind.trans hk)) (tr2.gs (tr.gs g)) (by rw [tr2.size,tr.size];exact hz) (by lia) m2 ?_ fun k st'' tr3=>h k st'' (tr.trans (tr2.trans tr3))));intro i j i1 i2 i3;have ev:=qc9 C hz' he;exact qfb C (ev j) (ev i) (ds i j i1 i2 i3)
 ·exact qi9 C (tr.kind.trans hk) (tr.gs g) (by rw [tr.size];exact hz) (by lia) m2 ds fun k st'' tr3=>h k st'' (tr.trans tr3)
theorem qrt(C:Cmp prog w A s κ G lt){st:SortSt}{lo nr:Nat}{Q:Option Nat->SortSt->Prop}(hk:kindOf st = κ)(g:Gs G st)(hz:lo+nr<=(arrOf st).size)(h1:1<=nr)
  (h:∀m st',Tr lo (lo+nr) st st'->1<=m->m<=nr->Asc lt (arrOf st') lo (lo+m)->Q (some m) st'):wpS (model prog w) A E s (countRun' lo nr) Q st:=by
 rw [qul];refine p9 (qi8 C hk g hz (gw _) h1 (fun i j i1 i2 i3=>by rw [show i=j by lia];exact C.irr _) fun n n1 n2 as hor=>?_);dsimp only
 split
 ·exact uz (h n st (Tr.rfl' _ _ _) n1 n2 as)
 ·rename_i hne
  have hne':n≠nr:=by simpa using hne
  have hl:=hor.resolve_left hne'
  split
  ·refine p9 (wpS_ltK C hk g (by lia) (by lia) ?_)
   dsimp only;cases e:lt (Kz (arrOf st) lo) (Kz (arrOf st) (lo+n-1))
   ·simp only [m6,t6]
    have hz':lo+n<=(arrOf st).size:=by lia
    have tr:Tr lo (lo+nr) st (setArr st (mirror (arrOf st) lo (lo+n) ((lo+n-lo) / 2))):=Tr.mir (gw _) (by lia) hz';have all:∀k,lo<=k->k<lo+n->Eqv lt (Kz (arrOf st) k) (Kz (arrOf st) (lo+n-1)):=fun k k1 k2=>
     ⟨C.tra _ _ _ (as k (lo+n-1) k1 (by lia) (by lia) |> fun z=>by exact C.tra _ _ _ e (as lo k (gw _) k1 k2)) (C.irr _),as k (lo+n-1) k1 (by lia) (by lia)⟩
    refine p9 (q90 (qia C (tr.kind.trans hk) (tr.gs g) (by rw [tr.size];exact hz) (by lia) ?_ fun m st' tr2=>h m st' (tr.trans tr2)));have ev:=qc9 C hz' all;have ds:Des lt (arrOf st) lo (lo+(n+1)):=by
     refine q72 C (fun i j i1 i2 i3=>?_) (by lia) (C.asy _ _ hl);exact(Eqv.trans C (all i i1 (by lia)) (all j (by lia) i3).symm).1
    intro i j i1 i2 i3;exact qfb C (ev j) (ev i) (ds i j i1 i2 i3)
   ·simp only [pz]
    exact uz (h n st (Tr.rfl' _ _ _) n1 n2 as)
  ·have:n=1:=by lia
   subst this;refine qia C hk g hz (by lia) ?_ h;exact q72 C (fun i j i1 i2 i3=>by rw [show i=j by lia];exact C.irr _) (gw _) (C.asy _ _ hl)
end
theorem qme{xs:Array Keyed}{src d:Nat}(hs:src<xs.size)(hd:d<=src)(k:Nat): Kz (bubble xs src d) k=if k=src-d then Kz xs src else if src-d<k/\k<=src then Kz xs (k-1) else Kz xs k:=by
 have e:=getElem?_bubble hs d hd k
 split
 ·rename_i h;rw [m8 h] at e;exact q4j e
 ·rename_i h;rw [ma h] at e
  split
  ·rename_i h2;rw [m8 h2] at e;exact q4j e
  ·rename_i h2;rw [ma h2] at e;exact q4j e
theorem Tr.bub{lo hi src d:Nat}{st:SortSt}(h1:lo<=src-d)(h2:src<hi)(h3:src<(arrOf st).size)(hd:d<=src): Tr lo hi st (setArr st (bubble (arrOf st) src d)):=
 ⟨rfl,rfl,rfl,bubble_perm _ _ _,fun k hk=>by show(bubble (arrOf st) src d)[k]? = _;rw [getElem?_bubble h3 d hd,ma (by lia),ma (by lia)]⟩
section
variable{prog:Program}{w:World}{A:Around}{E:Value->Shared->Prop}{s:Shared}{κ : SortKind}{G:Value->Prop}{lt:Value->Value->Bool}
theorem qru(C:Cmp prog w A s κ G lt){st:SortSt}{lo n ok:Nat}{Q:Bool->SortSt->Prop}(hk:kindOf st = κ)(g:Gs G st)(hz:lo+n<=(arrOf st).size)(hok:ok<=n)(hs:Asc lt (arrOf st) lo (lo+ok))
  (h:∀st',Tr lo (lo+n) st st'->Asc lt (arrOf st') lo (lo+n)->Q true st'):wpS (model prog w) A E s (binarySort' lo n ok) Q st:=by
 rw [binarySort'_eq];refine p9 (wpS_mono (g31 (I:=fun k c st'=>c=(none,())/\Tr lo (lo+n) st st'/\Asc lt (arrOf st') lo (lo+min k n))
  (Q:=fun c st'=>c=(none,())/\Tr lo (lo+n) st st'/\Asc lt (arrOf st') lo (lo+n)) ?_ ?_ ?_) ?_)
 ·rintro k c st' hk1 hk2 ⟨rfl,tr,as⟩
  rw [show min k n=k by lia] at as;have hk':=tr.kind.trans hk;have g':=tr.gs g;have hz':lo+n<=(arrOf st').size:=by rw [tr.size];exact hz
  refine p9 (wpS_mono (g31 (I:=fun x c st''=>st''=st'/\∃l r,c=(none,l,r)/\l<=r/\r<=k/\r-l<=k-x /\
    (∀i,i<l->lt (Kz (arrOf st') (lo+k)) (Kz (arrOf st') (lo+i))=false)/\(∀i,r<=i->i<k->lt (Kz (arrOf st') (lo+k)) (Kz (arrOf st') (lo+i))=true))
   (Q:=fun c st''=>st''=st'/\∃l r,c=(none,l,r)/\l<=k /\
    (∀i,i<l->lt (Kz (arrOf st') (lo+k)) (Kz (arrOf st') (lo+i))=false)/\(∀i,l<=i->i<k->lt (Kz (arrOf st') (lo+k)) (Kz (arrOf st') (lo+i))=true)) ?_ ?_ ?_) ?_)
  ·rintro x c st'' _ hx ⟨rfl,l,r,rfl,h1,h2,h3,h4,h5⟩
   dsimp only
   by_cases hge:l>=r
   ·rw [m8 hge]
    have:l=r:=by lia
    subst this;exact uz ⟨rfl,l,l,rfl,h2,h4,h5⟩
   ·rw [ma hge]
    refine p9 (wpS_ltK C hk' g' (by lia) (by lia) ?_);dsimp only;cases e:lt (Kz (arrOf st'') (lo+k)) (Kz (arrOf st'') (lo+(l+r) / 2))
    ·simp only [m6,t6]
     refine uz ⟨rfl,(l+r) / 2+1,r,rfl,by lia,by lia,by lia,fun i i1=>?_,h5⟩;exact C.tra _ _ _ (as (lo+i) (lo+(l+r) / 2) (by lia) (by lia) (by lia)) e
    ·simp only [pz]
     refine uz ⟨rfl,l,(l+r) / 2,rfl,by lia,by lia,by lia,h4,fun i i1 i2=>?_⟩;cases e2:lt (Kz (arrOf st'') (lo+k)) (Kz (arrOf st'') (lo+i))
     ·have:=C.tra _ _ _ (as (lo+(l+r) / 2) (lo+i) (by lia) (by lia) (by lia)) e2
      rw [this] at e;cases e
     ·rfl
  ·rintro c st'' ⟨rfl,l,r,rfl,h1,h2,h3,h4,h5⟩
   have:l=r:=by lia
   subst this;exact⟨rfl,l,l,rfl,h2,h4,h5⟩
  ·exact⟨rfl,0,k,rfl,by lia,by lia,by lia,fun i hi=>by lia,fun i i1 i2=>by lia⟩
  ·rintro c st'' ⟨rfl,l,r,rfl,h2,h4,h5⟩
   show wpS _ _ _ _ (do moveDown' (lo+k) (lo+l);pure (ForInStep.yield (none,()))) _ _;rw [moveDown'_eq];have hks:lo+k<(arrOf st'').size:=by lia
   refine p9 (wpS_modify (uz ⟨rfl,tr.trans (Tr.bub (by lia) (by lia) hks (by lia)),?_⟩));rw [show min (k+1) n=k+1 by lia];intro i j i1 i2 i3;show lt (Kz (bubble (arrOf st'') (lo+k) (lo+k-(lo+l))) j) (Kz (bubble (arrOf st'') (lo+k) (lo+k-(lo+l))) i)=false;rw [qme hks (by lia),qme hks (by lia),show lo+k-(lo+k-(lo+l))=lo+l by lia];have q4:∀i,lo<=i->i<lo+l->lt (Kz (arrOf st'') (lo+k)) (Kz (arrOf st'') i)=false:=fun i a b=>by
    have:=h4 (i-lo) (by lia);rwa [show lo+(i-lo)=i by lia] at this
   have q5:∀i,lo+l<=i->i<lo+k->lt (Kz (arrOf st'') i) (Kz (arrOf st'') (lo+k))=false:=fun i a b=>by
    have:=C.asy _ _ (h5 (i-lo) (by lia) (by lia));rwa [show lo+(i-lo)=i by lia] at this
   repeat' split
   all_goals first
    | (exfalso;lia)
    | exact C.irr _
    | exact q4 _ (by lia) (by lia)
    | exact q5 _ (by lia) (by lia)
    | exact as _ _ (by lia) (by lia) (by lia)
 ·rintro c st' ⟨hc,tr,as⟩
  rw [show min (max (max ok 1) n) n=n by lia] at as;exact⟨hc,tr,as⟩
 ·refine⟨rfl,Tr.rfl' _ _ _,fun i j i1 i2 i3=>?_⟩
  by_cases h1:ok=0
  ·rw [show i=j by lia];exact C.irr _
  ·exact hs i j i1 i2 (by lia)
 ·rintro c st' ⟨rfl,tr,as⟩
  exact uz (h st' tr as)
end
section
variable{prog:Program}{w:World}{A:Around}{E:Value->Shared->Prop}{s:Shared}{κ : SortKind}{G:Value->Prop}{lt:Value->Value->Bool}
theorem qrv(C:Cmp prog w A s κ G lt){xs:Array Keyed}{T X R:List Keyed}{lo hi:Nat}(h:xs.toList=T++X++R)(h1:lo=T.length)(h2:hi=lo+X.length): Asc lt xs lo hi↔X.Pairwise (le lt):=by
 have hz:xs.size=T.length+X.length+R.length:=by rw [<- g03,h];simp;lia
 have at_:∀i,(hi:i<X.length)->Kz xs (lo+i)=(X[i]).1:=by
  intro i hi;have hl:lo+i<xs.size:=by lia
  rw [qjh hl, <- Array.getElem_toList]
  congr 1
  simp only [h];rw [g5g (by simp;lia),g54 (by lia)]
  congr 1;lia
 constructor
 ·intro as
  rw [g2q];intro i j hi hj hij;have:=as (lo+i) (lo+j) (by lia) (by lia) (by lia);rw [at_ i hi,at_ j hj] at this;exact this
 ·intro pw i j i1 i2 i3
  have e1:=at_ (i-lo) (by lia);have e2:=at_ (j-lo) (by lia);rw [show lo+(i-lo)=i by lia] at e1;rw [show lo+(j-lo)=j by lia] at e2;rw [e1,e2];exact qwe C (fun x=>C.irr _) pw (by lia) (by lia)
theorem cut(l:List Keyed)(a b:Nat)(h1:a<=b)(h2:b<=l.length): l=l.take a++(l.drop a).take (b-a)++l.drop b:=by
 rw [uh];have e:(l.drop a).take (b-a)++l.drop b=l.drop a:=by
  have:=g16 (b-a) (l.drop a);rw [List.drop_drop,show a+(b-a)=b by lia] at this;exact this
 rw [e,g16]
end
abbrev OU:=Option Unit×Unit
abbrev ON:=Option Unit×Nat
noncomputable def srM(sz pw:Nat): StateT SortSt Sem OU:=
 forIn [0:sz] ((none,()):OU) fun _ _=>do
  let z <- get
  match if(pendingOf z).size>1 then(pendingOf z)[(pendingOf z).size-2]? else none with
  | some (_,_,ol)=>
   if ol<=pw then pure (.done (none,())) else do
    let y <- mergeAt' ((pendingOf z).size-2)
    if(!y)=true then pure (.done (some (),())) else pure (.yield (none,()))
  | _=>pure (.done (none,()))
noncomputable def srP(lo n:Nat): StateT SortSt Sem (ForInStep ON):=do
 modify fun z=>setPending z ((pendingOf z).push (lo,n,0))
 pure (.yield (none,lo+n))
noncomputable def srK(sz lo n:Nat): StateT SortSt Sem (ForInStep ON):=do
 let z <- get
 match(pendingOf z).back? with
 | some (s1,n1,_)=>do
  let t <- srM sz (power' sz (2*s1+n1) (2*s1+n1+n1+n) sz)
  match t.1 with
  | some r=>pure (.done (some r,lo))
  | none=>do
   modify fun z=>setPending z ((pendingOf z).modify ((pendingOf z).size-1) fun x=>(x.1,x.2.1,power' sz (2*s1+n1) (2*s1+n1+n1+n) sz))
   srP lo n
 | _=>srP lo n
noncomputable def srL(sz:Nat)(t:ON): StateT SortSt Sem (ForInStep ON):=
 if t.2>=sz then pure (.done (none,t.2))
 else do
  match <- countRun' t.2 (sz-t.2) with
  | some fo=>
   if fo<minRun' sz sz 0 then do
    rule "list.sort.binary-insertion"
    let y <- binarySort' t.2 (min (sz-t.2) (minRun' sz sz 0)) fo
    if(!y)=true then pure (.done (some (),t.2)) else srK sz t.2 (min (sz-t.2) (minRun' sz sz 0))
   else srK sz t.2 fo
  | _=>pure (.done (some (),t.2))
def srI(z:SortSt): Nat:=if Option.any (fun x=>decide (x<(pendingOf z)[(pendingOf z).size-2+1]?.elim 0 fun x=>x.2.1)) (if(pendingOf z).size-2>0 then Option.map (fun x=>x.2.1) (pendingOf z)[(pendingOf z).size-2-1]? else none)=true then(pendingOf z).size-2-1 else(pendingOf z).size-2
noncomputable def srE(sz:Nat): StateT SortSt Sem OU:=
 forIn [0:sz] ((none,()):OU) fun _ _=>do
  let z <- get
  if(pendingOf z).size<=1 then pure (.done (none,())) else do
   let y <- mergeAt' (srI z)
   if(!y)=true then pure (.done (some (),())) else pure (.yield (none,()))
theorem qrw:sortRuns'=(do
  let z <- get
  let t <- forIn [0:(arrOf z).size] ((none,0):ON) fun _=>srL (arrOf z).size
  match t.1 with
  | some r=>pure r
  | none=>do
   let u <- srE (arrOf z).size
   match u.1 with
   | some r=>pure r
   | none=>pure ()):=by
 rw [sortRuns'_eq];dsimp only;refine bc fun z=>bc2 (fc fun _ t=>?_) fun t=>?_
 ·unfold srL
  refine g30 rfl (fun _=>rfl) fun _=>bc fun x=>?_;have kk:∀n (m:StateT SortSt Sem (ForInStep ON)),m=srK (arrOf z).size t.2 n->m=srK (arrOf z).size t.2 n:=fun _ _ h=>h;cases x with
  | none=>rfl
  | some fo=>
   dsimp only;refine g30 rfl (fun _=>bc fun _=>bc fun y=>g30 rfl (fun _=>rfl) fun _=>?_) fun _=>?_
   all_goals
    unfold srK;refine bc fun z2=>?_;cases(pendingOf z2).back? with
    | none=>rfl
    | some q=>
     obtain⟨s1,n1,p1⟩:=q;dsimp only;refine bc2 rfl fun t2=>?_;obtain⟨r2,u2⟩:=t2;cases r2 <;> rfl
 ·obtain⟨r,n⟩:=t
  cases r with
  | some r=>rfl
  | none=>
   dsimp only;refine bc2 rfl fun u=>?_;obtain⟨r2,u2⟩:=u;cases r2 <;> rfl
section
variable{prog:Program}{w:World}{A:Around}{E:Value->Shared->Prop}{s:Shared}{κ : SortKind}{G:Value->Prop}{lt:Value->Value->Bool}{a₀:Array Keyed}
theorem qfc:∀n,n<64->minRun' n n 0=n:=by decide
structure SJ(κ : SortKind)(a₀:Array Keyed)(st:SortSt): Prop where
 kind:kindOf st = κ
 fail:failedOf st=none
 perm:(arrOf st).Perm a₀
theorem SJ.gs{st:SortSt}(h:SJ κ a₀ st)(g:∀p∈a₀.toList,G p.1): Gs G st:=fun p hp=>g p ((g2i.mp h.perm).mem_iff.mp hp)
theorem SJ.size{st:SortSt}(h:SJ κ a₀ st): (arrOf st).size=a₀.size:=h.perm.size_eq
theorem SJ.tr{lo hi:Nat}{st st':SortSt}(h:SJ κ a₀ st)(t:Tr lo hi st st'): SJ κ a₀ st':=⟨t.kind.trans h.kind,t.fail.trans h.fail,t.perm.trans h.perm⟩
theorem qib{n sz:Nat}{st:SortSt}{Q:ForInStep ON->SortSt->Prop}(h:SJ κ a₀ st)(hp:pendingOf st = #[])
  (hq:∀st',SJ κ a₀ st'->arrOf st'=arrOf st->(pendingOf st').size=1->Q (.yield (none,0+n)) st'):wpS (model prog w) A E s (srK sz 0 n) Q st:=by
 unfold srK;refine p9 (wpS_get ?_);rw [hp];show wpS (model prog w) A E s (srP 0 n) Q st;unfold srP;refine p9 (wpS_modify (uz (hq _ ⟨h.kind,h.fail,h.perm⟩ rfl ?_)));show((pendingOf st).push (0,n,0)).size=1;rw [hp];rfl
theorem qp2(h64:a₀.size<64)(C:Cmp prog w A s κ G lt)(g:∀p∈a₀.toList,G p.1){st:SortSt}{Q:Unit->SortSt->Prop}(hk:kindOf st = κ)(hf:failedOf st=none)(ha:arrOf st=a₀)(hp:pendingOf st = #[])
  (hq:∀st',failedOf st'=none->(arrOf st').Perm a₀->(arrOf st').toList.Pairwise (le lt)->Q () st'):wpS (model prog w) A E s sortRuns' Q st:=by
 have h0:SJ κ a₀ st:=⟨hk,hf,by rw [ha]⟩
 rw [qrw];refine p9 (wpS_get ?_);rw [ha];refine p9 (wpS_mono (g31 (I:=fun x c st'=>SJ κ a₀ st'/\((x=0/\c=(none,0)/\pendingOf st' = #[])\/(c=(none,a₀.size)/\Asc lt (arrOf st') 0 a₀.size/\(pendingOf st').size=1)))
  (Q:=fun c st'=>SJ κ a₀ st'/\c=(none,a₀.size)/\Asc lt (arrOf st') 0 a₀.size/\(pendingOf st').size<=1) ?_ ?_ ⟨h0,.inl ⟨rfl,rfl,hp⟩⟩) ?_)
 ·rintro x c st' _ hx ⟨hs,⟨rfl,rfl,hp'⟩|⟨rfl,as,hp'⟩⟩
  ·unfold srL
   dsimp only;rw [ma (by lia),qfc _ h64];have hz:=hs.size;refine p9 (qrt C hs.kind (hs.gs g) (by lia) (by lia) fun m st2 tr m1 m2 as=>?_);have hs2:=hs.tr tr;have hz2:=hs2.size;have hp2:pendingOf st2 = #[]:=tr.pend.trans hp';dsimp only
   split
   ·refine p9 (wpS_lift (g04 ⟨rfl,?_⟩))
    refine p9 (qru C hs2.kind (hs2.gs g) (by lia) (by lia) as fun st3 tr3 as3=>?_);simp only [tx,m6,t6];have en:min (a₀.size-0) a₀.size=a₀.size:=by lia
    rw [en] at as3 ⊢;refine qib (hs2.tr tr3) (tr3.pend.trans hp2) fun st4 hs4 ea hp4=>⟨hs4,.inr ⟨by rw [g32],by rw [ea];rw [g32] at as3;exact as3,hp4⟩⟩
   ·have em:m=a₀.size:=by lia
    rw [em] at as ⊢;refine qib hs2 hp2 fun st4 hs4 ea hp4=>⟨hs4,.inr ⟨by rw [g32],by rw [ea];rw [g32] at as;exact as,hp4⟩⟩
  ·unfold srL
   dsimp only;rw [m8 (by lia)];exact uz ⟨hs,rfl,as,by lia⟩
 ·rintro c st' ⟨hs,⟨e,rfl,hp'⟩|⟨rfl,as,hp'⟩⟩
  ·have e0:a₀.size=0:=by lia
   rw [e0];exact⟨hs,rfl,fun i j _ _ hj=>by lia,by rw [hp'];simp⟩
  ·exact⟨hs,rfl,as,by lia⟩
 ·rintro c st' ⟨hs,rfl,as,hp'⟩
  dsimp only;have fin:Q () st':=by
   refine hq st' hs.fail hs.perm ?_;have hz:=hs.size;exact(qrv C (T:=[]) (X:=(arrOf st').toList) (R:=[]) (by simp) rfl (by simp;lia)).mp as
  unfold srE;refine p9 (wpS_mono (g31 (I:=fun x c st2=>c=(none,())/\st2=st') (Q:=fun c st2=>c=(none,())/\st2=st') ?_ ?_ ⟨rfl,rfl⟩) ?_)
  ·rintro x c st2 _ hx ⟨rfl,rfl⟩
   refine p9 (wpS_get ?_);rw [m8 hp'];exact uz ⟨rfl,rfl⟩
  ·rintro c st2 ⟨rfl,rfl⟩
   exact⟨rfl,rfl⟩
  ·rintro c st2 ⟨rfl,rfl⟩
   exact uz fin
end
end Srt
namespace Srt
open PySem PySem.SeqAt PySem.AutoSeq1 PySem.MeetsSeq PySem.MeetsSeq2 PySem.MeetsSeq3 PySem.SeqRoads2
def LtAt(A:Around)(s:Shared)(y x:Value)(b:Bool): Prop:=∀(prog:Program) (w:World) (E:Value->Shared->Prop) (Q:Value->Shared->Prop),Q (.bool b) s->wpAny (model prog w) A (richCompare .Lt y x) Q E s
inductive LexAt(A:Around)(s:Shared)(f:Bool): List (Value×Value)->Bool->Prop
 | nil:LexAt A s f [] f
 | eq {x y r b}:EqAt A s x y true->LexAt A s f r b->LexAt A s f ((x,y) :: r) b
 | ne {x y r b}:EqAt A s x y false->LtAt A s x y b->LexAt A s f ((x,y) :: r) b
theorem qum(l b:Addr)(is js:Array Value)(n n2:Nat)(dd dd2:Option Addr)(sl sl2:Array (Option Value)):
  Meets (Builtin.«tuple.__lt__» ⟨[.ref l,.ref b],[]⟩)
   (fun A R s=>s.heap.get? l=some {cls:=.type "tuple",dict:=dd,data:=.seq is n,slots:=sl}/\s.heap.get? b=some {cls:=.type "tuple",dict:=dd2,data:=.seq js n2,slots:=sl2} /\
    ∃c,LexAt A.in1 s (decide (is.size<js.size)) (is.toList.zip js.toList) c/\R (.ok (.ret (.bool c))) s):=
 .of_wp fun prog w A R s h=>by
  obtain⟨hp,g,d,tk,os⟩:=s;obtain⟨hl,hb,c,hc,h⟩:=h;have f2:=g1d
  wp_walk using g2l hl,g2l hb,g2g _ (fun rest b s'=>b.1=none/\s'=⟨hp,g,d,tk,os⟩/\LexAt A.in1 ⟨hp,g,d,tk,os⟩ (decide (is.size<js.size)) rest c) _
  case turn=>
   rintro⟨y,x⟩ rest b s' ⟨hb',rfl,hx⟩
   cases hx with
   | eq e r=>
    refine g0 (e prog w _ _ ?_)
    wp_walk
    exact⟨rfl,rfl,r⟩
   | ne e k=>
    refine g0 (e prog w _ _ ?_);have k':∀ {E:Value->Shared->Prop} {Q:Value->Shared->Prop},Q (.bool c) ⟨hp,g,d,tk,os⟩->wpAny (model prog w) A.in1 (richCompare .Lt y x) Q E ⟨hp,g,d,tk,os⟩:=fun h=>k prog w _ _ h
    wp_walk using k'
    exact⟨_,rfl,h⟩
  case fin=>
   rintro⟨b1,b2⟩ s' ⟨hb',rfl,hx⟩
   simp only at hb';subst hb';cases hx
   wp_walk
   exact⟨_,rfl,by simpa [Builtin.Tuple.tupleCompareSizes] using h⟩
  case h=>
   exact⟨rfl,rfl,hc⟩
theorem LtAt.tuples{A:Around}{s:Shared}{l b:Addr}{is js:Array Value}{c:Bool}(hl:s.heap.IsTuple l is)(hb:s.heap.IsTuple b js)(hu:A.units<cLine)
  (he:LexAt A.in1 s (decide (is.size<js.size)) (is.toList.zip js.toList) c):LtAt A s (.ref l) (.ref b) c:=fun prog w E Q h=>by
 obtain⟨⟨cls,dd,data,sl⟩,ho,hc,n,hd⟩:=id hl;obtain⟨⟨cls2,dd2,data2,sl2⟩,ho2,hc2,n2,hd2⟩:=id hb;simp only at hc hd hc2 hd2;subst hc hd hc2 hd2;exact richCompare_meets_room (op:=.Lt) ⟨_,ho,rfl⟩ ⟨_,ho2,rfl⟩ F.slot_tuple_lt F.entry_tuple_lt (F.args_tuple_lt_2 _ _) (qum l b is js n n2 dd dd2 sl sl2)
  ⟨ho,ho2,c,he,show Value.bool c≠Value.notImplemented/\Q (.bool c) s from⟨(fun x=>nomatch x),h⟩⟩ hu
end Srt
namespace Srt
open PySem PyProof.Rows
def q3o(h:Heap)(a:Addr)(vs:List Value): Heap:=((h.update a (Obj.mapSeq fun _=> #[])).push (seqObj "tuple" vs.toArray 0)).push (seqObj "list" #[] 0)
section
variable{prog:Program}{w:World}{A:Around}{E:Value->Shared->Prop}{s:Shared}{κ : SortKind}{G:Value->Prop}{lt:Value->Value->Bool}
theorem qmf{a:Addr}{vs:List Value}{n:Nat}{P:PySem.Fin->Shared->Prop}(ho:s.heap.get? a=some (seqObj "list" vs.toArray n))(hz:vs.length<=sizeLine)(h64:vs.length<64)
  (hkind:2<=vs.length->∀Q:SortKind->Shared->Prop,Q κ {s with heap:=q3o s.heap a vs}->wpAny (model prog w) A (keyKind' vs.toArray) Q E {s with heap:=q3o s.heap a vs})
  (C:2<=vs.length->Cmp prog w A {s with heap:=q3o s.heap a vs} κ G lt) (g:∀v∈vs,G v)
  (h:∀out:List Value,out.Perm vs->out.Pairwise (fun x y=>lt y x=false)->P (.done (.ret .none)) {s with heap:=sortedHeap s.heap a vs out.toArray}) :
  wpAny (model prog w) A (Builtin.«list.sort» ⟨[.ref a],[]⟩) P E s:=by
 rw [list_sort_plain];have ha:a<s.heap.objs.size:=m4 ho;refine g0 (listItems_at ho rfl ?_);refine g0 (listUpdate_at ho rfl ?_ (by simpa using hz) (by simp));obtain⟨e1,ho1⟩:∃e1,(s.heap.update a (Obj.mapSeq fun _=> #[])).get? a=some (seqObj "list" #[] e1):=⟨_,get?_update_seq ho (fun _=> #[])⟩
 refine g0 (seqEpoch_at ho1 rfl ?_);refine g0 (wpAny_newTuple ?_);refine g0 (wpAny_newList ?_);refine nt ?_;have ho6:(q3o s.heap a vs).get? a=some (seqObj "list" #[] e1):=by
  unfold q3o;rw [g1a _ _ _ (by rw [g37,g0x];exact md (g23 ha)),g1a _ _ _ (by rw [g0x];exact md ha)];exact ho1
 show wpAny (model prog w) A _ P E {s with heap:=q3o s.heap a vs};dsimp only;have hsz:vs.toArray.size=vs.length:=by simp
 by_cases h2:vs.toArray.size<2
 ·rw [m8 h2,m8 h2]
  refine g0 (g9 ?_);rw [StateT.run_pure];refine g0 (g9 ?_);dsimp only;refine g0 (seqEpoch_at ho6 rfl ?_);have ez:(Array.map (fun x:Keyed=>x.2) (vs.toArray.zip vs.toArray))=vs.toArray:=by
   apply Array.ext';simp [List.map_snd_zip]
  refine g0 (listUpdate_at ho6 rfl ?_ (by simp) (by show(Array.map (fun x:Keyed=>x.2) (vs.toArray.zip vs.toArray)).size<=_;rw [ez,hsz];lia));simp only [g4x,m6,t6];refine g9 ?_;show P _ {s with heap:=sortedHeap s.heap a vs (Array.map (fun x:Keyed=>x.2) (vs.toArray.zip vs.toArray))};rw [ez];refine h vs (.refl _) ?_
  match vs,hsz,h2 with
  | [],_,_=>exact .nil
  | [_],_,_=>exact List.pairwise_singleton _ _
  | _ :: _ :: _,_,h2=>simp at h2;lia
 ·rw [ma h2,ma h2]
  have h2':2<=vs.length:=by lia
  refine g0 (hkind h2' _ ?_);have gp:∀p∈(vs.toArray.zip vs.toArray).toList,G p.1:=fun p hp=>by
   have:p∈vs.zip vs:=by simpa using hp
   exact g _ (mem_zip_self this).2
  refine g0 (ug (qp2 (by simpa using h64) (a₀:=vs.toArray.zip vs.toArray) (st:=SortSt.mk' κ (vs.toArray.zip vs.toArray) #[] 7 none)
   (Q:=fun _ st'=>failedOf st'=none/\(arrOf st').Perm (vs.toArray.zip vs.toArray)/\(arrOf st').toList.Pairwise (le lt)) (C h2') gp rfl rfl rfl rfl fun st' a1 a2 a3=>⟨a1,a2,a3⟩) ?_ fun _ _ e=>e)
  rintro⟨⟨⟩,st'⟩ s' ⟨rfl,hf,hp,hs⟩
  dsimp only;have hl:(arrOf st').toList.Perm (vs.zip vs):=by
   have:=g2i.mp hp
   simpa using this
  have e2:(arrOf st').map (·.2)=((arrOf st').toList.map (·.1)).toArray:=by
   apply Array.ext';rw [Array.toList_map];exact g1j fun p hp'=>((mem_zip_self (hl.mem_iff.mp hp')).1).symm
  have hp2:((arrOf st').toList.map (·.1)).Perm vs:=by
   have:=hl.map (·.1);rwa [List.map_fst_zip (gw _)] at this
  refine g0 (seqEpoch_at ho6 rfl ?_);refine g0 (listUpdate_at ho6 rfl ?_ (by simp) (by show(Array.map (fun x:Keyed=>x.2) (arrOf st')).size<=_;rw [e2,gm,hp2.length_eq];lia));rw [hf];simp only [g4x,m6,t6];refine g9 ?_;show P _ {s with heap:=sortedHeap s.heap a vs ((arrOf st').map (·.2))};rw [e2];exact h _ hp2 (tq.mpr hs)
def q73(h:Heap)(vs:List Value): Heap:=((h.push (seqObj "list" #[] 0)).update h.objs.size (Obj.mapSeq (· ++ vs.toArray))).push (seqObj "list" vs.toArray 0)
theorem qji{l:Addr}{vs:List Value}{Q:Value->Shared->Prop}(hl:s.heap.IsList l vs.toArray)(hz:vs.length<=sizeLine)(h64:vs.length<64)
  (hkind:2<=vs.length->∀Q:SortKind->Shared->Prop,Q κ {s with heap:=q3o (q73 s.heap vs) (s.heap.objs.size+1) vs}->wpAny (model prog w) A.in1.in1 (keyKind' vs.toArray) Q E {s with heap:=q3o (q73 s.heap vs) (s.heap.objs.size+1) vs})
  (C:2<=vs.length->Cmp prog w A.in1.in1 {s with heap:=q3o (q73 s.heap vs) (s.heap.objs.size+1) vs} κ G lt) (g:∀v∈vs,G v)
  (h:∀out:List Value,out.Perm vs->out.Pairwise (fun x y=>lt y x=false)->Q (.ref (s.heap.objs.size+1)) {s with heap:=sortedAll s.heap vs out.toArray}) :
  wpAny (model prog w) A (call (.builtin "sorted") [.ref l]) Q E s:=by
 refine Calls.call_function_entry kind_sorted plain_sorted entry_sorted (args_sorted1 _) ?_;unfold Builtin.«sorted»;refine g0 (m:=checkCount "sorted" 1 1 _) (g9 ?_);refine g0 (collect_list hl ?_ hz);refine g0 (wpAny_newList ?_);have hsz:((s.heap.push (seqObj "list" #[] 0)).update s.heap.objs.size (Obj.mapSeq (· ++ vs.toArray))).objs.size=s.heap.objs.size+1:=by
  rw [g0x,g37]
 have hoL:(q73 s.heap vs).get? (s.heap.objs.size+1)=some (seqObj "list" vs.toArray 0):=by
  unfold q73;rw [<- hsz];exact gr _ rfl
 show wpAny _ _ _ _ _ {s with heap:=q73 s.heap vs};rw [hsz];refine g0 (nt (ng slot_list_sort ⟨_,hoL,rfl⟩ entry_list_sort (qmf (κ := κ) (G:=G) (lt:=lt) hoL hz h64 hkind C g fun out a1 a2=>⟨_,rfl,?_⟩) (args_list_sort _)));exact g9 ⟨_,rfl,h out a1 a2⟩
end
end Srt
namespace DL
open PySem PySem.Spec PyProof.Rows L2 Srt
variable[Lam][Pin]
theorem qmg:∀n,(∀d e:D,sizeOf d<n->shD d e=true->okE d e=true/\eqD d e=(!ltT d e && !ltT e d))/\(∀ds es:List D,sizeOf ds<n->shL ds es=true->vt ds es=true/\eqL ds es=(!q0g ds es && !q0g es ds)):=by
 intro n
 induction n with
 | zero=>exact⟨fun d e h=>absurd h (nv _),fun d e h=>absurd h (nv _)⟩
 | succ n ih=>
  refine⟨fun d e hn h=>?_,fun ds es hn h=>?_⟩
  ·cases d <;> cases e <;> simp only [shD] at h <;> first|(cases h;done)|skip
   ·refine⟨by simp [okE,flat,flD],?_⟩
    rw [vp,vp];simp only [eqD,eqF];rename_i i j
    by_cases e1:i=j
    ·subst e1;simp
    ·have:(i==j)=false:=by simpa using e1
     rw [this]
     by_cases e2:i<j
     ·simp [e2]
     ·have e3:j<i:=by lia
      simp [e3]
   ·rw [q09,q09]
    simp only [okE,eqD];exact ih.2 _ _ (by simp at hn;lia) h
  ·cases ds with
   | nil=>cases es <;> simp [vt,eqL,q4i,wx]
   | cons d ds=>
    cases es with
    | nil=>simp [vt,eqL,q4i,wx]
    | cons e es=>
     simp only [shL,mf] at h;obtain⟨a1,a2⟩:=ih.1 d e (by simp at hn;lia) h.1;obtain⟨b1,b2⟩:=ih.2 ds es (by simp at hn;lia) h.2;refine⟨by simp only [vt,a1,b1,g4q],?_⟩;rw [q1j,q1j];simp only [eqL,a2,b2];cases e1:ltT d e <;> cases e2:ltT e d <;> simp
theorem qwf{d e:D}(h:shD d e=true): okE d e=true:=((qmg (sizeOf d+1)).1 d e (ph _) h).1
theorem qqe{d e:D}(h:shD d e=true): eqD d e=(!ltT d e && !ltT e d):=((qmg (sizeOf d+1)).1 d e (ph _) h).2
section
variable{X:Cx}{pins:List (Addr×Obj)}{σ : St}{F H:Hp}{s:Shared}
theorem qca{A:Around}(I:Inv X pins σ H s)(fh:Same F H)(f:Bool): ∀ {ds es:List D} {xs ys:List V} {us vs:List Value},(∀d∈ds,∀e x y u v,shD d e=true->A.units+q19 d<cLine->Rep X.K F d x->Rep X.K F e y->RelV x u->RelV y v->LtAt A s u v (ltT d e)) ->
  shL ds es=true->A.units+y9 ds<cLine->RepL X.K F ds xs->RepL X.K F es ys->Vals xs us->Vals ys vs->f=decide (ds.length<es.length)->LexAt A s f (us.zip vs) (q0g ds es)
 | [],es,xs,ys,us,vs,_,_,_,k1,k2,w1,w2,hf=>by
  cases k1.nil_inv;cases w1;cases es with
  | nil=>rw [q4i];simp only [List.zip_nil_left];rw [show false=f by rw [hf];simp];exact .nil
  | cons e es=>rw [wx];simp only [List.zip_nil_left];rw [show true=f by rw [hf];simp];exact .nil
 | d :: ds,[],xs,ys,us,vs,_,_,_,k1,k2,w1,w2,hf=>by
  cases k2.nil_inv;cases w2;rw [q4i];simp only [List.zip_nil_right];rw [show false=f by rw [hf];simp];exact .nil
 | d :: ds,e :: es,xs,ys,us,vs,ih,hs,hu,k1,k2,w1,w2,hf=>by
  obtain⟨x,r,rfl,a1,a2⟩:=k1.cons_inv;obtain⟨y,r',rfl,b1,b2⟩:=k2.cons_inv;cases w1 with
  | cons p1 p2=>
   cases w2 with
   | cons p3 p4=>
    simp only [shL,mf] at hs;simp only [y9] at hu;rw [List.zip_cons_cons];have he:=qaz I fh A (qwf hs.1) (by lia) a1 b1 p1 p3;have hl:=ih d gi e x y _ _ hs.1 (by lia) a1 b1 p1 p3;rw [qqe hs.1] at he;rw [q1j];cases e1:ltT d e
    ·cases e2:ltT e d
     ·rw [e1,e2] at he
      simp only [g4k,g27,g0f];exact .eq he (qca I fh f (fun d' hd'=>ih d' (gj _ hd')) hs.2 (by lia) a2 b2 p2 p4 (by rw [hf];simp))
     ·rw [e1,e2] at he
      rw [e1] at hl;exact .ne he hl
    ·rw [e1] at he hl
     exact .ne he hl
theorem qun(I:Inv X pins σ H s)(fh:Same F H): ∀ {d e:D} {x y:V} {u v:Value} (A:Around),shD d e=true->A.units+q19 d<cLine->Rep X.K F d x->Rep X.K F e y->RelV x u->RelV y v->LtAt A s u v (ltT d e):=by
 suffices hh:∀n,(∀d e x y u v (A:Around),sizeOf d<n->shD d e=true->A.units+q19 d<cLine->Rep X.K F d x->Rep X.K F e y->RelV x u->RelV y v->LtAt A s u v (ltT d e)) from
  fun {d e x y u v} A=>hh (sizeOf d+1) d e x y u v A (ph _)
 intro n
 induction n with
 | zero=>intro d e x y u v A h;exact absurd h (nv _)
 | succ n ih=>
  intro d e x y u v A hn hs hu r1 r2 q1 q2;cases d <;> cases e <;> simp only [shD] at hs <;> first|(cases hs;done)|skip
  ·cases rep_int.mp r1
   cases rep_int.mp r2;obtain⟨t,rfl⟩:=q1;obtain⟨t',rfl⟩:=q2;rw [vp];intro prog w E Q h;exact lt_int h
  ·rename_i ds es
   obtain⟨a,xs,rfl,k1,k2⟩:=rep_tup.mp r1;obtain⟨b,ys,rfl,k3,k4⟩:=rep_tup.mp r2;cases q1;cases q2;obtain⟨i1,v1,t1,_⟩:=I.tuple (qq fh k1);obtain⟨i2,v2,t2,_⟩:=I.tuple (qq fh k3);simp only [q19] at hu;rw [q09];refine LtAt.tuples (show s.heap.IsTuple a i1.toArray from t1) (show s.heap.IsTuple b i2.toArray from t2) (by lia) ?_;refine qca I fh _ (fun d hd e x y u v s1 s2 s3 s4 s5 s6=>ih d e x y u v A.in1 ?_ s1 s2 s3 s4 s5 s6) hs (by show A.units+1+y9 ds<cLine;lia) k2 k4 v1 v2 ?_
   ·have:=List.sizeOf_lt_of_mem hd
    simp at hn;lia
   ·rw [gm,gm, <- v1.length, <- v2.length, <- k2.length, <- k4.length]
theorem qp3(I:Inv X pins σ H s)(fh:Same F H): ∀ {d e:D} {x:V},kD d=true->kD e=true->Rep X.K F d x->Rep X.K F e x->d=e:=by
 suffices hh:∀n,(∀d e x,sizeOf d<n->kD d=true->kD e=true->Rep X.K F d x->Rep X.K F e x->d=e) from fun {d e x}=>hh (sizeOf d+1) d e x (ph _)
 intro n
 induction n with
 | zero=>intro d e x h;exact absurd h (nv _)
 | succ n ih=>
  intro d e x hn kd ke r1 r2;cases d <;> simp only [kD] at kd <;> first|(cases kd;done)|skip
  all_goals (cases e <;> simp only [kD] at ke <;> first|(cases ke;done)|skip)
  ·cases rep_int.mp r1
   cases rep_int.mp r2
   rfl
  ·cases rep_int.mp r1
   obtain⟨_,_,z,_⟩:=rep_tup.mp r2;cases z
  ·obtain⟨_,_,z,_⟩:=rep_tup.mp r1
   cases rep_int.mp r2;cases z
  ·rename_i ds es
   obtain⟨a,xs,rfl,k1,k2⟩:=rep_tup.mp r1;obtain⟨b,ys,z,k3,k4⟩:=rep_tup.mp r2;cases z;cases I.tuple_inj (qq fh k1) (qq fh k3);have seq:∀(ds es:List D) (xs:List V),sizeOf ds<n->kDL ds=true->kDL es=true->RepL X.K F ds xs->RepL X.K F es xs->ds=es:=by
    intro ds
    induction ds with
    | nil=>
     intro es xs _ _ _ k1 k2;cases k1.nil_inv;cases es with
     | nil=>rfl
     | cons e es=>obtain⟨_,_,z,_⟩:=k2.cons_inv;cases z
    | cons d ds ihd=>
     intro es xs hs h1 h2 k1 k2;obtain⟨x,r,rfl,a1,a2⟩:=k1.cons_inv;cases es with
     | nil=>cases k2.nil_inv
     | cons e es=>
      obtain⟨x',r',z,b1,b2⟩:=k2.cons_inv;cases z;simp only [kDL,mf] at h1 h2;rw [ih d e x (by simp at hs;lia) h1.1 h2.1 a1 b1,ihd es r (by simp at hs;lia) h1.2 h2.2 a2 b2]
   rw [seq ds es xs (by simp at hn;lia) kd ke k2 k4]
theorem qmh{d e:D}{x y:V}{u:Value}{K:Frag}(kd:kD d=true)(ke:kD e=true)(r1:Rep K F d x)(r2:Rep K F e y)(q1:RelV x u)(q2:RelV y u): x=y:=by
 cases d <;> simp only [kD] at kd <;> first|(cases kd;done)|skip
 all_goals (cases e <;> simp only [kD] at ke <;> first|(cases ke;done)|skip)
 ·cases rep_int.mp r1
  cases rep_int.mp r2;obtain⟨t,rfl⟩:=q1;obtain⟨t',z⟩:=q2;cases z
  rfl
 ·cases rep_int.mp r1
  obtain⟨_,_,rfl,_⟩:=rep_tup.mp r2;obtain⟨t,rfl⟩:=q1;cases q2
 ·obtain⟨_,_,rfl,_⟩:=rep_tup.mp r1
  cases rep_int.mp r2;cases q1;obtain⟨t',z⟩:=q2;cases z
 ·obtain⟨_,_,rfl,_⟩:=rep_tup.mp r1
  obtain⟨_,_,rfl,_⟩:=rep_tup.mp r2;cases q1;cases q2
  rfl
def q6e(K:Frag)(F:Hp)(d:D)(u:Value): Prop:=kD d=true/\∃x,Rep K F d x/\RelV x u
open Classical in
noncomputable def keyOf(K:Frag)(F:Hp)(u:Value): D:=if h:∃d,q6e K F d u then Classical.choose h else .non
theorem qa1(I:Inv X pins σ H s)(fh:Same F H){d:D}{u:Value}(h:q6e X.K F d u): keyOf X.K F u=d:=by
 unfold keyOf;rw [dif_pos ⟨d,h⟩];obtain⟨k1,x,a1,a2⟩:=Classical.choose_spec (⟨d,h⟩:∃d,q6e X.K F d u);obtain⟨k2,y,b1,b2⟩:=h;obtain rfl:=qmh k1 k2 a1 b1 a2 b2;exact qp3 I fh k1 k2 a1 b1
theorem qmi{α β : Type}(f : α -> β){l:List β}{m:List β}(p:l.Perm m): ∀ {L:List α},m=L.map f->∃L':List α,L'.Perm L/\l=L'.map f:=by
 induction p with
 | nil=>intro L h;cases L with
  | nil=>exact⟨[],.refl _,rfl⟩
  | cons a L=>cases h
 | cons x p ih=>
  intro L h;cases L with
  | nil=>cases h
  | cons a L=>
   rw [gf] at h;injection h with h1 h2
   obtain⟨L',p',e⟩:=ih h2;exact⟨a :: L',p'.cons a,by rw [gf, <- e,h1]⟩
 | swap x y r=>
  intro L h
  match L,h with
  | [],h=>cases h
  | [a],h=>injection h with h1 h2;cases h2
  | a :: b :: L,h=>
   rw [gf,gf] at h;injection h with h1 h2
   injection h2 with h2 h3
   exact⟨b :: a :: L,.swap a b L,by rw [gf,gf, <- h1, <- h2, <- h3]⟩
 | trans p q ih1 ih2=>
  intro L h;obtain⟨L2,p2,e2⟩:=ih2 h;obtain⟨L1,p1,e1⟩:=ih1 e2;exact⟨L1,p1.trans p2,e1⟩
end
end DL
namespace DL
open PySem PySem.Spec PyProof.Rows L2 Srt PySem.W
variable[Lam][Pin]
def isI:D->Bool
 | .int _=>true
 | _=>false
def qqf:D->Bool
 | .tup (.int _ :: _)=>true
 | _=>false
def qe1(ks:List D): Bool:=ks.all kD&&(ks.all fun d=>ks.all fun e=>shD d e)&&(ks.all isI || (ks.all qqf&&ks.all fun d=>decide (q19 d<=50)))
section
variable{X:Cx}{pins:List (Addr×Obj)}{σ : St}{F H:Hp}{s:Shared}
theorem qmj{prog:Program}{w:World}{A:Around}{f c:Bool}{Q:Bool->Shared->Prop}{l:List (Value×Value)}(h:LexAt A s f l c): ∀i,1<=i->Q c s->KatLex prog w A true f Q l i s:=by
 induction h with
 | nil=>intro i _ q;exact kat_nil q
 | eq e _ ih=>intro i hi q;exact kat_cons (e prog w _ _ (kat_yes (ih (i+1) (by lia) q)))
 | ne e k=>
  intro i hi q;refine kat_cons (e prog w _ _ (kat_no ?_));have:(true&&i==0)=false:=by simp;lia
  rw [this];exact kat_one _ _ (k prog w _ _ q)
theorem qbc{h:Heap}: ∀ {vs:List Value},(∀v∈vs,∃a o xs n i t,v=.ref a/\h.get? a=some o/\o.cls=.type "tuple" /\ o.data=.seq xs n/\xs[0]? = some (Value.int i t)) ->
  ∃fs:List Value,KatTups h vs fs/\fs.length=vs.length/\∀v∈fs,∃i t,v=Value.int i t
 | [],_=>⟨[],.nil,rfl,fun v hv=>by cases hv⟩
 | v :: vs,hh=>by
  obtain⟨a,o,xs,n,i,t,rfl,h1,h2,h3,h4⟩:=hh v gi;obtain⟨fs,k1,k2,k3⟩:=qbc fun v hv=>hh v (gj _ hv);refine⟨.int i t :: fs,.cons h1 h2 h3 h4 k1,by simp [k2],fun v hv=>?_⟩;rcases mh.mp hv with rfl|hv
  ·exact⟨i,t,rfl⟩
  ·exact k3 v hv
theorem qwg(I:Inv X pins σ H s)(fh:Same F H)(A:Around)(hu:A.units+60<cLine){us:List Value}{ks:List D}(st:∀u∈us,∃d∈ks,q6e X.K F d u)(ok:qe1 ks=true):
  ∃ κ,(2<=us.length->∀(E:Value->Shared->Prop) (Q:SortKind->Shared->Prop),Q κ s->wpAny (model X.prog X.w) A (keyKind' us.toArray) Q E s) /\
   Cmp X.prog X.w A s κ (fun u=>u∈us) (fun u v=>ltT (keyOf X.K F u) (keyOf X.K F v)):=by
 unfold qe1 at ok;rw [mf,mf,g1n,mf] at ok;obtain⟨⟨_,o2⟩,o3⟩:=ok;have sh:∀d∈ks,∀e∈ks,shD d e=true:=fun d hd e he=>pq.mp (pq.mp o2 d hd) e he;rcases o3 with o3|⟨o3,o4⟩
 ·have hin:∀u∈us,∃n t,u=Value.int n t/\keyOf X.K F u=.int n:=fun u hu=>by
   obtain⟨d,hd,hs⟩:=st u hu;have hk:=qa1 I fh hs;have:=pq.mp o3 d hd;cases d <;> simp only [isI] at this <;> first|(cases this;done)|skip
   obtain⟨_,x,r,q⟩:=hs;cases rep_int.mp r;obtain⟨t,rfl⟩:=q;exact⟨_,t,rfl,hk⟩
  refine⟨oneType',fun h2 E Q q=>?_,⟨fun x y gx gy Q q=>?_,fun x y h=>qf6 h,fun x y z h k=>qf7 h k⟩⟩
  ·match us,h2,hin with
   | v₁ :: v₂ :: vs,_,hin=>
    rw [keyKind_ints (intsAre_map _ fun v hv=>let⟨n,t,e,_⟩:=hin v hv; ⟨n,t,e⟩)];exact g9 q
  ·obtain⟨n,t,rfl,e1⟩:=hin x gx
   obtain⟨m,t',rfl,e2⟩:=hin y gy;rw [e1,e2,vp] at q;exact kat_lt_int q
 ·have tups:∀u∈us,∃d∈ks,q6e X.K F d u/\keyOf X.K F u=d/\q19 d<=50/\∃i ds,d=.tup (.int i :: ds):=fun u hu=>by
   obtain⟨d,hd,hs⟩:=st u hu;have hk:=qa1 I fh hs;have:=pq.mp o3 d hd;have h4:=tf (pq.mp o4 d hd);unfold qqf at this
   split at this
   ·exact⟨_,hd,hs,hk,h4,_,_,rfl⟩
   ·cases this
  refine⟨tuples' true,fun h2 E Q q=>?_,⟨fun x y gx gy Q q=>?_,fun x y h=>qf6 h,fun x y z h k=>qf7 h k⟩⟩
  ·obtain⟨fs,k1,k2,k3⟩:=qbc (h:=s.heap) (vs:=us) fun v hv=>by
    obtain⟨d,_,⟨_,x,r,qx⟩,_,_,i,ds,rfl⟩:=tups v hv;obtain⟨a,xs,rfl,q1,q2⟩:=rep_tup.mp r;cases qx;obtain⟨x0,r0,rfl,z1,z2⟩:=q2.cons_inv;cases rep_int.mp z1;obtain⟨its,r1,⟨o,ho,hc,n,hd⟩,_⟩:=I.tuple (qq fh q1);cases r1 with
    | cons p1 p2=>
     obtain⟨t,rfl⟩:=p1;exact⟨a,o,_,n,i,t,rfl,ho,hc,hd,by simp⟩
   refine kat_kind (T:=.type "int") k1 (by lia) (fun v hv=>?_) (by rfl) q;obtain⟨i,t,rfl⟩:=k3 v hv;exact Looks.of_pure rfl
  ·obtain⟨d,hd,⟨_,x',r,qx⟩,e1,dp,i,ds,rfl⟩:=tups x gx
   obtain⟨e,he,⟨_,y',r',qy⟩,e2,dp',j,es,rfl⟩:=tups y gy;rw [e1,e2] at q;have hs:=sh _ hd _ he;obtain⟨a,xs,rfl,q1,q2⟩:=rep_tup.mp r;obtain⟨b,ys,rfl,q3,q4⟩:=rep_tup.mp r';cases qx;cases qy;obtain⟨x0,r0,rfl,z1,z2⟩:=q2.cons_inv;obtain⟨y0,w0,rfl,z3,z4⟩:=q4.cons_inv;have z1':=z1;have z3':=z3;cases rep_int.mp z1;cases rep_int.mp z3;obtain⟨its,r1,⟨o,ho,hc,n,hdt⟩,_⟩:=I.tuple (qq fh q1);obtain⟨its2,r2,⟨o2,ho2,hc2,n2,hdt2⟩,_⟩:=I.tuple (qq fh q3);have l1:=r1.length;have l2:=r2.length;have m1:=q2.length;have m2:=q4.length;cases r1 with
   | cons p1 p2=>
    cases r2 with
    | cons p3 p4=>
     have hp1:=p1;have hp3:=p3;obtain⟨t,rfl⟩:=p1;obtain⟨t',rfl⟩:=p3;simp only [shD,shL,mf] at hs;simp only [q19,y9] at dp;refine kat_lt ho hdt ho2 hdt2 ?_;rw [q09,q1j] at q;have hE:=qaz I fh A (d:=.int i) (e:=.int j) (by simp [okE,flat,flD]) (by simp only [q19];lia) z1' z3' hp1 hp3;rw [qqe (by simp only [shD])] at hE;simp only [List.zip_cons_cons];have lex:=qca I fh (A:=A) (decide (ds.length<es.length)) (fun d _ e x y u v s1 s2 s3 s4 s5 s6=>qun I fh A s1 s2 s3 s4 s5 s6) hs.2 (by lia) z2 z4 p2 p4 rfl;have ef:∀ {m1 m2:List Value},Paired RelV r0 m1->Paired RelV w0 m2->decide ((Value.int i t :: m1).toArray.size<(Value.int j t' :: m2).toArray.size)=decide (ds.length<es.length):=fun a3 a4=>by
      simp only [gm,n8];rw [<- g4j a3, <- g4j a4, <- z2.length, <- z4.length];simp
     rw [ef p2 p4];cases c1:ltT (.int i) (.int j)
     ·cases c2:ltT (.int j) (.int i)
      ·rw [c1,c2] at hE q
       simp only [g4k,g27,g0f] at q;exact kat_cons (hE X.prog X.w _ _ (kat_yes (qmj lex 1 (gw _) q)))
      ·rw [c1,c2] at hE q
       refine kat_cons (hE X.prog X.w _ _ (kat_no ?_));have c1':decide (i<j)=false:=by rw [<- vp];exact c1
       refine oneLt_int ?_;rw [c1'];exact q
     ·rw [c1] at hE q
      refine kat_cons (hE X.prog X.w _ _ (kat_no ?_));have c1':decide (i<j)=true:=by rw [<- vp];exact c1
      refine oneLt_int ?_;rw [c1'];exact q
theorem quo{K:Frag}: ∀ {ds:List D} {ys:List V} {its:List Value},RepL K F ds ys->Vals ys its->∃T:List (V×Value×D),T.map (·.1)=ys/\T.map (·.2.1)=its/\T.map (·.2.2)=ds/\∀t∈T,Rep K F t.2.2 t.1/\RelV t.1 t.2.1
 | [],ys,its,k2,r1=>by
  cases k2.nil_inv;cases r1;exact⟨[],rfl,rfl,rfl,fun t ht=>by cases ht⟩
 | d :: ds,ys,its,k2,r1=>by
  obtain⟨x,r,rfl,a1,a2⟩:=k2.cons_inv;cases r1 with
  | cons b1 b2=>
   rename_i u' us';obtain⟨T,t1,t2,t3,t4⟩:=quo a2 b2;refine⟨(x,u',d) :: T,by simp [t1],by simp [t2],by simp [t3],fun t ht=>?_⟩;rcases mh.mp ht with rfl|ht
   ·exact⟨a1,b1⟩
   ·exact t4 t ht
def qfd:List D->Option (List D)
 | [.lst ds]=>if qe1 ds&&decide (ds.length<64) then some ((q71 (ds.map fun d=>(d,d))).map Prod.snd) else none
 | _=>none
theorem qp4(hu:X.A.units+64<cLine): jy X (.builtin "sorted") (rCL X.K qfd):=fun pins s σ H xs us Q I rv ⟨F,ds,es,fh,rl,ho,q⟩=>by
 unfold qfd at ho
 split at ho
 ·rename_i ds
  split at ho
  ·rename_i hok
   cases ho;obtain⟨x,rfl,rx⟩:=rep1 rl;obtain⟨a,ys,rfl,k1,k2⟩:=rep_lst.mp rx;obtain⟨u,rfl,ru⟩:=vals1 rv;cases ru;obtain⟨its,r1,p1,hz⟩:=I.list (fh.seq k1);obtain⟨T,t1,t2,t3,t4⟩:=quo k2 r1;rw [mf] at hok;have h64:=tf hok.2;have hok:=hok.1;have kds:∀d∈ds,kD d=true:=by
    unfold qe1 at hok;rw [mf,mf] at hok;exact pq.mp hok.1.1
   have st:∀t∈T,q6e X.K F t.2.2 t.2.1:=fun t ht=>⟨kds _ (by rw [<- t3];exact td ht),t.1,t4 t ht⟩
   have hlen:its.length<=sizeLine:=by rw [<- r1.length];exact hz
   have keep:∀b o,s.heap.get? b=some o->(q3o (q73 s.heap its) (s.heap.objs.size+1) its).get? b=some o:=fun b o qb=>by
    have hlt:b<s.heap.objs.size:=m4 qb;unfold q3o q73;have z1:((s.heap.push (seqObj "list" #[] 0)).update s.heap.objs.size (Obj.mapSeq (· ++ its.toArray))).objs.size=s.heap.objs.size+1:=by rw [g0x,g37]
    have ne:∀k,b≠s.heap.objs.size+k:=fun k=>md (m5 hlt (g5j _ _));rw [g1a _ _ _ (by rw [g37,g0x,g37,z1];exact ne 3),g1a _ _ _ (by rw [g0x,g37,z1];exact ne 2),g47 _ _ _ _ (ne 1),
     g1a _ _ _ (by rw [z1];exact ne 1),g47 _ _ _ _ (show b≠s.heap.objs.size from ne 0),g1a _ _ _ (show b≠s.heap.objs.size from ne 0)]
    exact qb
   have I6:Inv X pins σ H {s with heap:=q3o (q73 s.heap its) (s.heap.objs.size+1) its}:=I.kept (t':=s.toks) keep;obtain⟨κ,hk,C⟩:=qwg I6 fh X.A.in1.in1 (by show X.A.units+1+1+60<cLine;lia) (us:=its) (ks:=ds) (fun u hu=>by
    rw [<- t2] at hu;obtain⟨t,ht,rfl⟩:=mi.mp hu;exact⟨t.2.2,by rw [<- t3];exact td ht,st t ht⟩) hok
   refine qji p1.isList hlen (by rw [<- r1.length, <- k2.length];exact h64) (fun h2 Q q=>hk h2 _ Q q) (fun _=>C) (fun v hv=>hv) fun out a1 a2=>?_;obtain⟨T',pT,eT⟩:=qmi (fun t:V×Value×D=>t.2.1) a1 t2.symm;have hT':∀t∈T',Rep X.K F t.2.2 t.1/\RelV t.1 t.2.1:=fun t ht=>t4 t (pT.mem_iff.mp ht);have hk':∀t∈T',keyOf X.K F t.2.1=t.2.2:=fun t ht=>qa1 I fh (st t (pT.mem_iff.mp ht));have eD:T'.map (·.2.2)=(q71 (ds.map fun d=>(d,d))).map Prod.snd:=by
    have e1:T'.map (fun t=>(t.2.2,t.2.2))=q71 (ds.map fun d=>(d,d)):=by
     refine qp0 ?_ ?_ ?_
     ·have:=pT.map (fun t:V×Value×D=>(t.2.2,t.2.2))
      rw [<- t3,ni];exact this
     ·rw [tq]
      rw [eT,tq] at a2;refine g0l (fun {x y} hx hy h=>?_) a2;rw [hk' x hx,hk' y hy] at h;exact h
     ·intro x hx y hy h1 h2
      obtain⟨d,hd,rfl⟩:=mi.mp hx;obtain⟨e,he,rfl⟩:=mi.mp hy;rw [lt_eq (kds d hd) (kds e he) h1 h2]
    rw [<- e1,ni]
    rfl
   have hn:H (s.heap.objs.size+1)=none:=I.hok.fresh (g1w _);have vo:Vals (T'.map (·.1)) out:=by
    rw [eT];clear eT eD pT hk'
    induction T' with
    | nil=>exact .nil
    | cons t T' ih=>exact .cons (hT' t gi).2 (ih fun t ht=>hT' t (gj _ ht))
   have ro:RepL X.K F (T'.map (·.2.2)) (T'.map (·.1)):=by
    clear eT eD pT hk' vo
    induction T' with
    | nil=>exact .nil
    | cons t T' ih=>exact .cons (hT' t gi).1 (ih fun t ht=>hT' t (gj _ ht))
   obtain⟨e,he⟩:=sortedAll_at s.heap its out.toArray;have ll:(T'.map (·.1)).length<=sizeLine:=by
    rw [gh,pT.length_eq, <- gh (f:=fun t:V×Value×D=>t.1) (as:=T),t1];exact hz
   refine⟨.ref (s.heap.objs.size+1),_,I.laid (t':=s.toks) (a:=s.heap.objs.size+1) (o:=.lst (T'.map (·.1))) (fun b ob q=>sortedAll_old q) (g1w _) ⟨ll,out,e,vo,he⟩,rfl,?_⟩;exact q _ _ F _ (Grow.own fh hn) (fh.free hn) hn zg (by rw [<- eD];exact ro)
  ·cases ho
 ·cases ho
end
end DL
namespace Js
open PySem
open Sem (wp)
abbrev PK2:=List Int×List Int
def IsPair(prog:Program)(w:World)(h:Heap)(k:PK2)(a:Addr): Prop:=∃o p q n,h.get? a=some o/\o.cls=.type "tuple" /\ o.data=.seq #[.ref p,.ref q] n/\(TK prog w).is h k.1 p/\(TK prog w).is h k.2 q
section
variable{prog:Program}{w:World}{A:Around}{E:Value->Shared->Prop}{s:Shared}
theorem IsPair.typeIs{k:PK2}{a:Addr}(x:IsPair prog w s.heap k a): s.TypeIs (.ref a) "tuple" :=let⟨o,_,_,_,ho,hc,_⟩:=x; ⟨o,ho,hc⟩
theorem IsPair.inj{h:Heap}{a:Addr}{x y:PK2}(hx:IsPair prog w h x a)(hy:IsPair prog w h y a): x=y:=by
 obtain⟨o,p,q,n,ho,_,hd,h1,h2⟩:=hx;obtain⟨o',p',q',n',ho',_,hd',h1',h2'⟩:=hy;obtain rfl:o=o':=mq (ho.symm.trans ho');rw [hd] at hd';injection hd' with e1 _
 simp only [Array.mk.injEq,g5z,Value.ref.injEq,and_true] at e1;obtain⟨rfl,rfl⟩:=e1;have a1:=(TK prog w).inj h1 h1';have a2:=(TK prog w).inj h2 h2';obtain⟨x1,x2⟩:=x;obtain⟨y1,y2⟩:=y;simp only at a1 a2;rw [a1,a2]
theorem IsPair.keeps{h h':Heap}{k:PK2}{a d:Addr}{o:Obj}{es ep}(x:IsPair prog w h k a)(ho:h.get? d=some o)(hd:o.data=.dict es ep)(hs:Heap.SameBut d h h'): IsPair prog w h' k a:=by
 obtain⟨o',p,q,n,ho',hc,hd',h1,h2⟩:=x;have hne:a≠d:=by
  rintro rfl
  obtain rfl:o'=o:=mq (ho'.symm.trans ho);rw [hd] at hd';exact nomatch hd'
 exact⟨o',p,q,n,(hs.2 a hne).trans ho',hc,hd',(TK prog w).keeps h1 ho hd hs,(TK prog w).keeps h2 ho hd hs⟩
theorem IsPair.stay{h h':Heap}{k:PK2}{a:Addr}(x:IsPair prog w h k a)(e:∀b o,h.get? b=some o->(b=a\/True)->h'.get? b=some o): IsPair prog w h' k a:=by
 obtain⟨o,p,q,n,ho,hc,hd,h1,h2⟩:=x;exact⟨o,p,q,n,e a o ho (.inl rfl),hc,hd,q2e h1 fun o z=>e _ o z (.inr trivial),q2e h2 fun o z=>e _ o z (.inr trivial)⟩
def qqg(k:PK2): Int:=reduceHash (Builtin.Tuple.tupleHashOf [tupleKeyHash (intKind prog w) k.1,tupleKeyHash (intKind prog w) k.2])
def q86(k:PK2): Nat:=(k.1.length+1)+(k.2.length+1)+1
theorem qh0{k:PK2}{a:Addr}{Q:Int->Shared->Prop}(hu:A.units+8<cLine)(hk:IsPair prog w s.heap k a)(h:Q (qqg (prog:=prog) (w:=w) k) {s with toks:=s.toks+q86 k}):
  wpAny (model prog w) A (pyHash (.ref a)) Q E s:=by
 have hT:=hk.typeIs;obtain⟨o,p,q,n,ho,_,hd,h1,h2⟩:=hk;unfold pyHash
 first|unfold pyHashByItsType|skip
 first|refine g0 (wpAny_cRoomFor_or (.inr (by lia)) ?_)|skip
 refine g0 (g2o hT g3c.lookup ?_);show wpAny _ _ (if(some (Value.builtin "tuple.__hash__")==some Value.none)=true then _ else _) Q E s;rw [ma (by rw [beq_builtin_none];exact m9)];refine g0 (g2o hT g3c.lookup ?_);show wpAny _ _ (callSpecialIfBoundUnlessNone? (.ref a) "__hash__" _ >>= _) Q E s;refine g0 (wpAny_callSpecialIfBoundUnlessNone?_slot hT g3c (ng g3c hT F.entry_tuple_hash ?_ (F.args_tuple_hash_1 _)));show wpAny _ _ (Builtin.Tuple.tupleItemsOf (.ref a) >>= _) _ _ s;refine g0 (g4h ho hd ?_);refine g0 ?_;rw [<- g2x];refine g2g _
  (fun rest (b:Array Int) s'=>∃done left:List (List Int×Addr),[(k.1,p),(k.2,q)]=done++left/\rest=left.map (fun z=>Value.ref z.2)/\b.toList=done.map (fun z=>tupleKeyHash (intKind prog w) z.1)/\s' = {s with toks:=s.toks+(done.map fun z=>z.1.length+1).sum})
  _ ?_ ?_ _ _ ⟨[],[(k.1,p),(k.2,q)],rfl,rfl,rfl,rfl⟩
 ·rintro x rest b s' ⟨done,left,e,hl,hb,rfl⟩
  cases left with
  | nil=>cases hl
  | cons z left=>
   simp only [gf,g5z] at hl;obtain⟨rfl,rfl⟩:=hl;have hz:z∈[(k.1,p),(k.2,q)]:=by rw [e];simp
   have hz2:(TK prog w).is s.heap z.1 z.2:=by
    rcases mh.mp hz with rfl|hz
    ·exact h1
    ·rw [ur.mp hz];exact h2
   refine g0 ((TK prog w).pyHash (s:={s with toks:=s.toks+(done.map fun z=>z.1.length+1).sum}) (show A.units+1<cLine by lia) hz2 ?_)
   first
    | exact g9 ⟨done++[z],left,by rw [e];simp,rfl,by simp [hb];rfl,by simp [g4r];rfl⟩
    | exact g0 (g9 (g9 ⟨done++[z],left,by rw [e];simp,rfl,by simp [hb];rfl,by simp [g4r];rfl⟩))
 ·rintro b s' ⟨done,left,e,hl,hb,rfl⟩
  have el:left=[]:=by
   cases left with
   | nil=>rfl
   | cons z l=>cases hl
  rw [el,g1o] at e;rw [<- e] at hb ⊢;show wpAny _ _ (retInt (Builtin.Tuple.tupleHashOf b.toList)) _ _ _;rw [hb];refine wpAny_ret_mkInt ?_;generalize eh:Builtin.Tuple.tupleHashOf (([(k.1,p),(k.2,q)]:List (List Int×Addr)).map (fun z=>tupleKeyHash (intKind prog w) z.1))=hh;have h':Q (reduceHash hh) {s with toks:=s.toks+q86 k}:=by rw [<- eh];exact h
  show wpAny _ _ (if(decide (-(2:Int) ^ 63<=hh)&&decide (hh<2 ^ 63))=true then _ else _) Q E _;unfold reduceHash at h'
  by_cases hr:(decide (-(2:Int) ^ 63<=hh)&&decide (hh<2 ^ 63))=true
  ·rw [m8 hr]
   rw [m8 hr] at h';exact g9 (by simpa [q86,g4r] using h')
  ·rw [ma hr]
   rw [ma hr] at h';exact g0 (g04 (g9 (by simpa [q86,g4r] using h')))
theorem qfe{x y:PK2}{a b:Addr}{P:Fin->Shared->Prop}(hu:A.units+4<cLine)(hx:IsPair prog w s.heap x a)(hy:IsPair prog w s.heap y b)(h:P (.done (.ret (.bool (decide (x=y))))) s):
  wpAny (model prog w) A (Builtin.«tuple.__eq__» ⟨[.ref a,.ref b],[]⟩) P E s:=by
 have hTb:=hy.typeIs;obtain⟨oa,p,q,na,hoa,_,hda,h1,h2⟩:=hx;obtain⟨ob,p',q',nb,hob,_,hdb,h1',h2'⟩:=hy;show wpAny _ _ (isInstance (.ref b) (.type "tuple") >>= _) _ _ s;refine g0 (g0g hTb g3r ?_);simp only [tx,m6,t6];refine g0 (g4h hoa hda ?_);refine g0 (g4h hob hdb ?_);refine g0 ?_;refine g2g _
  (fun rest r s'=>r.1=none/\s'=s/\∃done left:List ((List Int×Addr)×(List Int×Addr)),[((x.1,p),(y.1,p')),((x.2,q),(y.2,q'))]=done++left/\rest=left.map (fun z=>(Value.ref z.1.2,Value.ref z.2.2))/\∀z∈done,z.1.1=z.2.1)
  _ ?_ ?_ _ _ ⟨rfl,rfl,[],[((x.1,p),(y.1,p')),((x.2,q),(y.2,q'))],rfl,rfl,fun z hz=>(nomatch hz)⟩
 ·rintro⟨u,v⟩ rest r s' ⟨hr,rfl,done,left,e,hl,hd⟩
  cases left with
  | nil=>cases hl
  | cons z left=>
   simp only [gf,g5z,Prod.mk.injEq] at hl;obtain⟨⟨rfl,rfl⟩,rfl⟩:=hl;have hz:z∈[((x.1,p),(y.1,p')),((x.2,q),(y.2,q'))]:=by rw [e];simp
   have hz2:(TK prog w).is s'.heap z.1.1 z.1.2/\(TK prog w).is s'.heap z.2.1 z.2.2/\(z.1.1≠z.2.1->x≠y):=by
    rcases mh.mp hz with rfl|hz
    ·exact⟨h1,h1',fun n e=>n (by rw [e])⟩
    ·rw [ur.mp hz];exact⟨h2,h2',fun n e=>n (by rw [e])⟩
   refine g0 ((TK prog w).eqBool (show A.units<cLine by lia) hz2.1 hz2.2.1 ?_)
   by_cases hk:z.1.1=z.2.1
   ·rw [gq hk]
    simp only [tx,m6,t6];refine g9 ⟨rfl,rfl,done++[z],left,by rw [e];simp,rfl,fun c hc=>?_⟩;rcases u6.mp hc with hc|hc
    ·exact hd c hc
    ·rw [ur.mp hc];exact hk
   ·rw [gz hk]
    simp only [g27,pz];have hf:decide (x=y)=false:=gz (hz2.2.2 hk);rw [hf] at h;exact g0 (g9 (g9 (g9 h)))
 ·rintro⟨r1,r2⟩ s' ⟨hr,rfl,done,left,e,hl,hd⟩
  simp only at hr;subst hr;refine g9 ?_;have el:left=[]:=by
   cases left with
   | nil=>rfl
   | cons z l=>cases hl
  rw [el,g1o] at e;have a1:=hd ((x.1,p),(y.1,p')) (by rw [<- e];simp);have a2:=hd ((x.2,q),(y.2,q')) (by rw [<- e];simp);have hxy:x=y:=by
   obtain⟨x1,x2⟩:=x;obtain⟨y1,y2⟩:=y;simp only at a1 a2;rw [a1,a2]
  rw [gq hxy] at h;exact h
theorem qh1{x y:PK2}{a b:Addr}{Q:Bool->Shared->Prop}(hu:A.units+8<cLine)(hx:IsPair prog w s.heap x a)(hy:IsPair prog w s.heap y b)(h:Q (decide (x=y)) s):
  wpAny (model prog w) A (eqBool (.ref a) (.ref b)) Q E s:=by
 unfold eqBool
 try with_reducible refine nt ?_
 show wpAny _ _ (if(Value.ref a==Value.ref b)=true then _ else _) Q E s
 by_cases hab:(Value.ref a==Value.ref b)=true
 ·rw [m8 hab]
  have e:a=b:=by have:=eq_of_beq hab;injection this
  subst e;obtain rfl:=hx.inj hy;exact g0 (g04 (g9 (by simpa using h)))
 ·rw [ma hab]
  exact g0 (wpAny_richCompare_same_room (op:=.Eq) hx.typeIs hy.typeIs g44
   (ng g44 hx.typeIs F.entry_tuple_eq (qfe (show A.units+1+4<cLine by lia) hx hy ⟨_,rfl,(fun e=>nomatch e),g0p h⟩) (F.args_tuple_eq_2 _ _)) (by lia))
theorem qmk{ks:List Int}{a:Addr}{Q:Bool->Shared->Prop}(hk:(TK prog w).is s.heap ks a)(h:Q true s): wpAny (model prog w) A (eqIsQuiet 7 (.ref a)) Q E s:=by
 have hT:=IsTupleKey.typeIs hk;obtain⟨o,items,n,ho,_,hd,hi⟩:=hk;unfold eqIsQuiet;refine g0 (g2o hT g44.lookup ?_);show wpAny _ _ (isInstance (.ref a) (.type "tuple") >>= _) _ _ s;refine g0 (g0g hT g3r ?_);simp only [tx,m6,t6];refine g0 (ui ho hd ?_);refine g0 ?_;show wpAny _ _ (forIn items _ _) _ _ s;rw [<- g2x];refine g2g _ (fun rest r s'=>r.1=none/\s'=s/\∀v∈rest,carriedByValue v=true) _ ?_ ?_ _ _ ⟨rfl,rfl,hi.byValue⟩
 ·rintro v rest r s' ⟨hr,rfl,hall⟩
  rw [eqIsQuiet_byValue _ (hall v gi)];refine g0 (g9 ?_);simp only [tx,m6,t6];exact g9 ⟨rfl,rfl,fun u hu'=>hall u (gj _ hu')⟩
 ·rintro⟨r1,r2⟩ s' ⟨hr,rfl,_⟩
  simp only at hr;subst hr;exact g9 h
theorem qjj{k:PK2}{a:Addr}{Q:Bool->Shared->Prop}(hk:IsPair prog w s.heap k a)(h:Q true s): wpAny (model prog w) A (eqIsQuiet 8 (.ref a)) Q E s:=by
 have hT:=hk.typeIs;obtain⟨o,p,q,n,ho,_,hd,h1,h2⟩:=hk;unfold eqIsQuiet;refine g0 (g2o hT g44.lookup ?_);show wpAny _ _ (isInstance (.ref a) (.type "tuple") >>= _) _ _ s;refine g0 (g0g hT g3r ?_);simp only [tx,m6,t6];refine g0 (ui ho hd ?_);refine g0 ?_;show wpAny _ _ (forIn #[Value.ref p,Value.ref q] _ _) _ _ s;rw [<- g2x];refine g2g _ (fun rest r s'=>r.1=none/\s'=s/\∀v∈rest,v=Value.ref p\/v=Value.ref q) _ ?_ ?_ _ _ ⟨rfl,rfl,by intro v hv;simpa using hv⟩
 ·rintro v rest r s' ⟨hr,rfl,hall⟩
  have hv:=hall v gi;have go:wpAny (model prog w) A (eqIsQuiet 7 v) (fun b s''=>b=true/\s''=s') E s':=by
   rcases hv with rfl|rfl
   ·exact qmk h1 ⟨rfl,rfl⟩
   ·exact qmk h2 ⟨rfl,rfl⟩
  refine g0 (ug go (fun b s'' hb=>?_) fun _ _ z=>z);obtain⟨rfl,rfl⟩:=hb;simp only [tx,m6,t6];exact g9 ⟨rfl,rfl,fun u hu'=>hall u (gj _ hu')⟩
 ·rintro⟨r1,r2⟩ s' ⟨hr,rfl,_⟩
  simp only at hr;subst hr;exact g9 h
end
def PKd(prog:Program)(w:World): HeapKind prog w PK2 where
 is:=IsPair prog w
 hash:=qqg (prog:=prog) (w:=w)
 draws:=q86
 room:=fun A=>A.units+8<cLine
 inj:=fun hx hy=>hx.inj hy
 keeps:=fun x ho hd hs=>x.keeps ho hd hs
 pyHash:=fun hu hk h=>qh0 hu hk h
 eqBool:=fun hu hx hy h=>qh1 hu hx hy h
 quiet:=fun hk h=>qjj hk h
theorem qp5(prog:Program)(w:World): Stays (PKd prog w):=⟨fun x e=>IsPair.stay x fun b o z _=>e b o z,fun A h=>h⟩
end Js
namespace DL
open PySem PySem.Spec PyProof.Rows L2
variable[Lam][Pin]
def q74:List D->Option (List (List Int×List Int))
 | []=>some []
 | .tup [.tup [.tup a,.tup b],.bl true] :: r=>(zq a).bind fun k1=>(zq b).bind fun k2=>(q74 r).map fun p=>(k1,k2) :: p
 | _ :: _=>none
def qbd:List D->Option D
 | [.lst ds]=>(q74 ds).bind fun p=>if p.Nodup/\ds.length<=lim then some (.dt2 p) else none
 | _=>none
def q75:D->D->Option D
 | .tup [.tup a,.tup b],.dt2 ks=>(zq a).bind fun k1=>(zq b).map fun k2=>.bl (decide ((k1,k2)∈ks))
 | _,_=>none
section
variable{X:Cx}{pins:List (Addr×Obj)}{σ : St}{H F:Hp}{s:Shared}
omit [Lam] [Pin] in
theorem qcb(I:Inv X pins σ H s)(fh:Same F H){k:List Int×List Int}{a:Addr}(h:SqP X.K F a k): (Js.PKd X.prog X.w).is s.heap k a:=by
 obtain⟨p,q,h1,h2,h3⟩:=h;obtain⟨its,r,⟨o,ho,hc,n,hd⟩,_⟩:=I.tuple (qq fh h1);obtain⟨u1,u2,rfl,r1,r2⟩:=r.two;cases r1;cases r2;exact⟨o,p,q,n,ho,hc,hd,yr I fh h2,yr I fh h3⟩
omit [Lam] [Pin] in
theorem qff{a b:List D}{k1 k2:List Int}{v:V}(h1:zq a=some k1)(h2:zq b=some k2)(r:Rep X.K F (.tup [.tup a,.tup b]) v): ∃c,v=.ref c/\SqP X.K F c (k1,k2):=by
 obtain⟨c,xs,rfl,c1,c2⟩:=rep_tup.mp r;obtain⟨x1,z1,rfl,d1,d2⟩:=c2.cons_inv;obtain⟨x2,z2,rfl,e1,e2⟩:=d2.cons_inv;cases e2.nil_inv;obtain⟨p,ps,rfl,p1,p2⟩:=rep_tup.mp d1;obtain⟨q,qs,rfl,q1,q2⟩:=rep_tup.mp e1;rw [ints_rep h1 p2] at p1;rw [ints_rep h2 q2] at q1;exact⟨c,rfl,p,q,c1,p1,q1⟩
omit [Lam] [Pin] in
theorem qic (I:Inv X pins σ H s) (fh:Same F H):∀ {ds:List D} {ys:List V} {its:List Value} {ks:List (List Int×List Int)},q74 ds=some ks->RepL X.K F ds ys->Vals ys its ->
  ∃(ps:List ((List Int×List Int)×Addr×Value)),Js.Prs (Js.PKd X.prog X.w) s.heap its ps/\ps.map (·.1)=ks/\(∀p∈ps,SqP X.K F p.2.1 p.1)
 | [],ys,its,ks,h,k,r=>by
  cases h;cases k.nil_inv;cases r;exact⟨[],⟨rfl,fun i p e=>by simp at e,fun p hp=>(nomatch hp)⟩,rfl,fun p hp=>(nomatch hp)⟩
 | d :: ds,ys,its,ks,h,k,r=>by
  unfold q74 at h
  split at h
  ·cases ‹_ :: _=[]›
  ·rename_i da db r' e
   injection e with e1 e2
   subst e1;subst e2;obtain⟨k1,h1,h⟩:=gb.mp h;obtain⟨k2,h2,h⟩:=gb.mp h;obtain⟨p,h3,h4⟩:=gv.mp h;cases h4;obtain⟨x,ys',rfl,a1,a2⟩:=k.cons_inv;obtain⟨q,qs,rfl,b1,b2⟩:=rep_tup.mp a1;obtain⟨x1,z1,rfl,c1,c2⟩:=b2.cons_inv;obtain⟨x2,z2,rfl,d1,d2⟩:=c2.cons_inv;cases d2.nil_inv;obtain⟨ka,rfl,kk⟩:=qff h1 h2 c1;cases r with
   | cons r1 r2=>
    cases r1;obtain⟨uu,hu,⟨oq,hoq,hcq,nq,hdq⟩,_⟩:=I.tuple (qq fh b1);cases hu with
    | cons u1 u2=>
     cases u1;cases u2 with
     | cons u3 u4=>
      cases u4;rename_i uv;obtain⟨ps,P,e1,e2⟩:=qic I fh h3 a2 r2;refine⟨((k1,k2),ka,uv) :: ps,⟨by simp [P.len],fun i p e=>?_,fun p hp=>?_⟩,by simp [e1],fun p hp=>?_⟩
      ·cases i with
       | zero=>
        simp only [g1k,g1y] at e;subst e;exact⟨q,rfl,oq,hoq,hcq,nq,hdq⟩
       | succ i=>exact P.pair i p (by simpa using e)
      ·rcases mh.mp hp with rfl|hp
       ·exact qcb I fh kk
       ·exact P.key p hp
      ·rcases mh.mp hp with rfl|hp
       ·exact kk
       ·exact e2 p hp
  ·cases h
end
section
variable{X:Cx}
theorem qp6(hc:X.calm=true)(hu:X.A.units+64<cLine): jy X (.type "dict") (rC X.K qbd):=fun pins s σ H xs us Q I rv ⟨F,ds,d,fh,rl,ho,q⟩=>by
 unfold qbd at ho
 split at ho
 ·rename_i ds'
  obtain⟨ks,h1,h2⟩:=gb.mp ho
  split at h2
  ·rename_i hok
   cases h2;obtain⟨x,rfl,rx⟩:=rep1 rl;obtain⟨a,ys,rfl,k1,k2⟩:=rep_lst.mp rx;obtain⟨u,rfl,ru⟩:=vals1 rv;cases ru;obtain⟨its,r1,⟨o,n,e1,e2,e3,e4⟩,hz⟩:=I.list (fh.seq k1);obtain⟨oc,od,oda,osl⟩:=o;dsimp only at e2 e3 e4;subst e2;subst e3;subst e4;obtain⟨ps,P,p1,p2⟩:=qic I fh h1 k2 r1;have hl:ps.length<=lim:=by
    rw [<- P.len, <- r1.length, <- k2.length];exact hok.2
   refine Js.q57 (Js.qp5 _ _) (by lia) (I.ok.hd hc) e1 P (by rw [p1];exact hok.1) (jo hl) fun h' tk old hd=>?_;have hnn:H s.heap.objs.size=none:=I.hok.fresh (gw _);obtain⟨o,es,ep,g1,g2,g3,g4,_,g5⟩:=hd;have de:DE2 s.heap.objs.size ps ep h':=⟨o,es,g1,g2,g3,g4⟩
   refine⟨.ref _,_,I.laid (t':=tk) (a:=s.heap.objs.size) (o:=.ext (DE2 s.heap.objs.size ps ep)) old (gw _) ⟨de,⟨o,g1⟩,fun h1 h2 ⟨o,es,z,r⟩ e=>⟨o,es,e o z,r⟩⟩,rfl,?_⟩;have g:=Grow.new (o:=.ext (DE2 s.heap.objs.size ps ep)) fh hnn;refine q _ _ _ g (rep_dt2.mpr ⟨_,ps,ep,rfl,zg,p1,hok.1,jo hl,g1g.mpr (u9 (q8w I)),fun x hx=>(p2 x hx).mono g.ff⟩)
  ·cases h2
 ·cases ho
theorem qrx(hu:X.A.units+64<cLine): OpR X (compareOp .In) (rD X.K q75):=fun pins s σ H x y v u Q I rx ry ⟨F,d1,d2,d,fh,r1,r2,ho,q⟩=>by
 unfold q75 at ho
 split at ho
 ·rename_i da db ks
  obtain⟨k1,h1,ho⟩:=gb.mp ho;obtain⟨k2,h2,rfl⟩:=gv.mp ho;obtain⟨b,rfl,kk⟩:=qff h1 h2 r1;obtain⟨a,xs,ep,rfl,e1,e2,e3,e4,e5,e6⟩:=rep_dt2.mp r2;cases rx;cases ry;obtain⟨⟨o,es,g1,g2,g3,g4⟩,_,_⟩:=(show ObjOk X.prog X.w H s.heap a _ from I.hok a _ (fh _ _ e1))
  have dd:s.heap.DictOfH (Js.PKd X.prog X.w) a xs:=⟨o,es,ep,g1,g2,g3,g4,fun x hx=>qcb I fh (e6 x hx),by rw [e2];exact e3⟩
  refine wpAny_in_heap (show X.A.units+1+8<cLine by lia) (qcb I fh kk) e5 dd ?_;have:(atKey xs (k1,k2)).isSome=decide ((k1,k2)∈ks):=by
   rw [<- e2,p7,nk]
   constructor
   ·intro h
    obtain⟨p,hp⟩:=g0k.mp h;obtain⟨z,hz,rfl⟩:=gv.mp hp;have:=List.find?_some hz;exact mi.mpr ⟨z,g57 hz,by simpa using this⟩
   ·intro h
    obtain⟨z,hz,hzk⟩:=mi.mp h;obtain⟨i,hi⟩:=g3p.mp hz;rw [<- hzk,g5k (by rw [e2];exact e3) (show xs[i]? = some (z.1,z.2) from hi)]
    rfl
  rw [this];exact⟨.bl _,H,I.tok _,rfl,q _ F H (.refl fh) (rep_bl.mpr rfl)⟩
 ·cases ho
end
end DL
namespace Rv
open PySem PyProof.Rows
section
variable{prog:Program}{w:World}{A:Around}{E:Value->Shared->Prop}{s:Shared}{r:Addr}{a b c:Int}{t u v:Tok}{n:Nat}
end
end Rv
namespace DL
open PySem PySem.Spec PyProof.Rows L2
variable[Lam][Pin]
section
variable{X:Cx}{e ie:Expr}{pos:Pos}{f g:FE}
omit [Lam] [Pin] in
theorem qp7{acc:Array Value}{n:Nat}(h:ItemsOf (fun i v=>∃t,v=.int (0+(i:Int)*1) t) acc n): Vals ((List.range n).map fun i:Nat=>V.int (i:Int)) acc.toList:=by
 have key:∀(l:List Value) (k:Nat),(∀(j:Nat) (v:Value),l[j]? = some v->∃t,v=.int ((k+j:Nat):Int) t)->Vals ((List.range' k l.length).map fun i:Nat=>V.int (i:Int)) l:=by
  intro l
  induction l with
  | nil=>intro k _;exact .nil
  | cons a l ih=>
   intro k hk;rw [n8,g0y,gf];obtain⟨t,ht⟩:=hk 0 a rfl;refine .cons ⟨t,by rw [ht];simp⟩ (ih (k+1) fun j v hv=>?_);obtain⟨t,ht⟩:=hk (j+1) v hv;exact⟨t,by rw [ht];congr 1;lia⟩
 have hl:acc.toList.length=n:=by rw [g03];exact h.1
 have:=key acc.toList 0 fun j v hv=>by
  obtain⟨t,ht⟩:=h.2 j v (by simpa using hv);exact⟨t,by rw [ht];congr 1;lia⟩
 rw [hl, <- g1b] at this;exact this
end
def qjk(f:FE): FE:=fun ρ =>(f ρ).bind fun d=>match d with
 | .int j=>if decide (0<=j)&&decide (j<=1000) then some (.lst (z9 0 j.toNat)) else none
 | _=>none
section
variable{X:Cx}{pos:Pos}{f:FE}
theorem qjl{a:Expr}{p p2 q2:Pos}(hc:X.calm=true)(hgt:Gl X "list")(hmt:X.mg "list" = none)(hgr:Gl X "range")(hmr:X.mg "range" = none)(ha:PE X a (tD X.K f))
  (s1:starEach [a] X.env=[(false,eval a X.env)]:=by first|exact q8t rfl|rfl) (s2:starEach [.Call (.Name "range" p2) [a] [] q2] X.env=[(false,eval (.Call (.Name "range" p2) [a] [] q2) X.env)]:=by first|exact q8t rfl|rfl) :
  PE X (.Call (.Name "list" p) [.Call (.Name "range" p2) [a] [] q2] [] pos) (tD X.K (qjk f)):=by
 intro pins s σ H Q I ⟨F0,H0,F, ρ,d,r,hf,q⟩;obtain⟨d',h1,h2⟩:=gb.mp hf
 split at h2
 case h_2=>cases h2
 rename_i j
 split at h2
 case isFalse=>cases h2
 rename_i hj;obtain⟨j0,j1⟩:=q1g hj;cases h2;refine Call_ (q2y I hgt hmt DL.boot_list (uq ?_ (by rw [s2];rfl) (by rfl)));rw [s2];refine Calls.spliced_cons ?_;have hp:PA X [a] (tDA X.K (qc f qg)):=qhw (hs:=by rw [s1];rfl) ha qe;refine Call_ (q2y I hgr hmr boot_range (uq (thn (hp q2 pins s σ H (fun vs H1=>∃F',Grow F H F' H1/\RepL X.K F' [.int j] vs) I ⟨F0,H0,F, ρ,[.int j],r,by simp only [qc,qg,h1,gd,mx],fun vs F' H' g' r'=>⟨F',g',r'⟩⟩) fun us s1' ⟨vs,H1,I1,r1,F',g',q1⟩=>?_) (by rw [s1];rfl) (by rfl)));obtain⟨v1,t,rfl,e1,e2⟩:=q1.cons_inv;cases e2.nil_inv;obtain⟨u1,rfl,e3⟩:=vals1 r1;cases rep_int.mp e1;obtain⟨tk,rfl⟩:=e3;refine call_range_1 (Calls.spliced_nil ?_);have hn:Builtin.Range.rangeSize 0 j 1=((j.toNat:Nat):Int):=by rw [rangeSize_one];split <;> lia
 refine call_list_range (s:={s1' with heap:=s1'.heap.push {cls:=.type "range",data:=.fields #[.int 0 s1'.toks,.int j tk,.int 1 (s1'.toks+1)]},toks:=s1'.toks+1+1}) (I.ok.hd hc) (IsRange.new ..) (small_one (by decide) (by decide) (by lia) (by lia)) hn (by lia) fun h' tk' acc c' hk hget hacc=>?_;have hkp:∀b o,s1'.heap.get? b=some o->h'.get? b=some o:=fun b o e=>hk b o (gc _ e);have rv:=qp7 hacc;have ea:acc=acc.toList.toArray:=by simp
 rw [ea] at hget;dsimp only at hget ⊢;rw [t9] at hget ⊢;have I3:Inv X pins σ (upd H1 (s1'.heap.objs.size+1) (.lst ((List.range j.toNat).map fun i:Nat=>V.int (i:Int)))) {s1' with heap:=h',toks:=tk'}:=
  I1.laid (t':=tk') (a:=s1'.heap.objs.size+1) (o:=.lst ((List.range j.toNat).map fun i:Nat=>V.int (i:Int))) hkp (g1w _) ⟨by rw [gh,g0b,g1v];lia,acc.toList,c',rv,hget⟩
 have g2:Grow F' H1 (upd F' (s1'.heap.objs.size+1) (.lst ((List.range j.toNat).map fun i:Nat=>V.int (i:Int)))) (upd H1 (s1'.heap.objs.size+1) (.lst ((List.range j.toNat).map fun i:Nat=>V.int (i:Int)))):=Grow.new g'.fh (I1.hok.fresh (g1w _));have rl:RepL X.K (upd F' (s1'.heap.objs.size+1) (.lst ((List.range j.toNat).map fun i:Nat=>V.int (i:Int)))) (z9 0 j.toNat) ((List.range j.toNat).map fun i:Nat=>V.int (i:Int)):=by
  have e:z9 0 j.toNat=((List.range j.toNat).map fun i:Nat=>(i:Int)).map D.int:=by
   unfold z9;rw [ni];apply g1j;intro i _;simp only [Function.comp,g5m]
  rw [e];exact RepL.ints.mpr (by rw [ni];rfl)
 exact⟨.ref (s1'.heap.objs.size+1),_,I3,rfl,q _ _ _ (g'.trans g2) (rep_lst.mpr ⟨_,_,rfl,SqL.of zg,rl⟩)⟩
end
end DL
namespace My
open PySem PySem.Spec PyProof.Rows L2 DL
local macro_rules | `(tactic| walk_at "A")=> `(tactic| ((refine qhw (hs:=?hs) ?a ?_);(case hs=>exact q8t rfl)))
local macro_rules | `(tactic| walk_at "L")=> `(tactic| first|exact .inl rfl|exact .inr rfl|assumption)
def top(i:Nat): Stmt:=PySem.Challenge.pw_oftentogether_k33_whole_sayings.main.body.getD i (.Pass ⟨0,0,0,0⟩)
def qup(i j:Nat): Stmt:=match top i with | .ClassDef _ _ _ body _ _ _ _ _ _ _=>body.getD j (.Pass ⟨0,0,0,0⟩)|x=>x
section
variable[Lam]{P:Program}{w:World}{K:Frag}{mg:Str->Option Value}{base:Heap}
abbrev q0m:Stmt:=top 39
noncomputable def q5s:List Str:=["_law_script","_law_k","_law_cell_here"]
theorem wy:(q5s).Nodup:=by decide +kernel
theorem qfg:FnScope q5s ["_law_script","_law_k"] (qh q0m):=⟨rfl,rfl,rfl,wy,rfl,by decide +kernel,by decide +kernel⟩
noncomputable def wa:FS:=(z0 (zr 2 (eOp zp (eOp zt (eC (.int 7)) (eV 1)) (eC (.int 5)))) (z0 (sIf (z7 oGt (qi xi (qc (eV 0) qg)) (eC (.int 0))) (zr 2 (eOp zp (eOp zp (eOp oMod (eOp oIx (eV 0) (eOp oMod (eV 1) (qi xi (qc (eV 0) qg)))) (eC (.int 2147483587))) (eOp zt (eC (.int 11)) (eOp oDivB (eV 1) (qi xi (qc (eV 0) qg))))) (eC (.int 1)))) jv) (z0 (zr 2 (eOp oMod (eOp zp (eOp zp (eOp zt (eV 2) (eOp zp (eC (.int 48271)) (eOp zt (eOp zt (eC (.int 2)) (eV 1)) (eV 1)))) (eOp zt (eV 1) (eC (.int 7919)))) (eC (.int 3))) (eC (.int 2147483629)))) (z0 (zr 2 (eOp oMod (eOp zt (eV 2) (eV 2)) (eC (.int 2147483647)))) (zc (eOp oMod (eOp zt (eV 2) (eOp zp (eC (.int 69621)) (eV 1))) (eC (.int 2147483563))))))))
noncomputable def jx:List D->Option D:=zh 3 wa
theorem qfh{fa:Addr}{dV:Value}{fd:FuncData}(F:Fun2 K "_law_mixed" "_law_mixed" q0m dV fa fd)(n_len:mg "len" = none): FnOk P w K mg base CX0 1 fa fd ["_law_script","_law_k"] (spD K 2 jx):=
 F.okn (k:=0) (n:=3) (ar:=2) (k1:=1) (u:=wa) qfg rfl rfl rfl fun cdv A outer s H E hr=>by
 show PSs (zw CX0 P w K mg base q5s "_law_mixed" (qh q0m) fa cdv A outer s H E).nox (qz q0m) (tDS K wa);unfold wa;refine(ql ?_ ?_);refine(zf (i:=2) ?_ ?_ ?_ ?_ ?_ ?_);exact wy;exact rfl;exact(Or.inl rfl);refine(qk j6 ?_ qf);refine(qk je qf ?_);exact(qa (pv 1));exact rfl;walk_at "L";refine(ql ?_ ?_);refine(jg ?_ (qp ?_) j8);refine(zk qas ?_ qf);refine(zv (xj) rfl n_len DL.j7 ?_);walk_at "A";exact(qa (pv 0));exact qe;refine(zf (i:=2) ?_ ?_ ?_ ?_ ?_ ?_);exact wy;exact rfl;exact(Or.inl rfl);refine(qk j6 ?_ qf);refine(qk j6 ?_ ?_);refine(qk j3 ?_ qf);refine(zi ?_ ?_);exact(qa (pv 0));refine(qk j3 ?_ ?_);exact(qa (pv 1));refine(zv (xj) rfl n_len DL.j7 ?_);walk_at "A";exact(qa (pv 0));exact qe;refine(qk je qf ?_);refine(qk q46 ?_ ?_);exact(qa (pv 1));refine(zv (xj) rfl n_len DL.j7 ?_);walk_at "A";exact(qa (pv 0));exact qe;exact rfl;walk_at "L";refine(ql ?_ ?_);refine(zf (i:=2) ?_ ?_ ?_ ?_ ?_ ?_);exact wy;exact rfl;exact(Or.inl rfl);refine(qk j3 ?_ qf);refine(qk j6 ?_ qf);refine(qk j6 ?_ ?_);refine(qk je ?_ ?_);exact(qa (pv 2));refine(qk j6 qf ?_);refine(qk je ?_ ?_);refine(qk je qf ?_);exact(qa (pv 1));exact(qa (pv 1));refine(qk je ?_ qf);exact(qa (pv 1));exact rfl;walk_at "L";refine(ql ?_ ?_);refine(zf (i:=2) ?_ ?_ ?_ ?_ ?_ ?_);exact wy;exact rfl;exact(Or.inl rfl);refine(qk j3 ?_ qf);refine(qk je ?_ ?_);exact(qa (pv 2));exact(qa (pv 2));exact rfl;walk_at "L";refine(qp ?_);refine(z5 ?_);refine(qk j3 ?_ qf);refine(qk je ?_ ?_);exact(qa (pv 2));refine(qk j6 qf ?_);exact(qa (pv 1))
abbrev q1u:Stmt:=top 40
noncomputable def q76:List Str:=["_law_script","_law_k"]
theorem qh2:(q76).Nodup:=by decide +kernel
theorem qh3:FnScope q76 ["_law_script","_law_k"] (qh q1u):=⟨rfl,rfl,rfl,qh2,rfl,by decide +kernel,by decide +kernel⟩
noncomputable def q0a:FS:=(z0 (sIf (z7 oLt' (eV 1) (qi xi (qc (eV 0) qg))) (zc (eOp oIx (eV 0) (eV 1))) jv) (zc (eC (.int 0))))
noncomputable def xk:List D->Option D:=zh 2 q0a
theorem qh4{fa:Addr}{dV:Value}{fd:FuncData}(F:Fun2 K "_law_cell" "_law_cell" q1u dV fa fd)(n_len:mg "len" = none): FnOk P w K mg base CX0 1 fa fd ["_law_script","_law_k"] (spD K 2 xk):=
 F.okn (k:=0) (n:=2) (ar:=2) (k1:=1) (u:=q0a) qh3 rfl rfl rfl fun cdv A outer s H E hr=>by
 show PSs (zw CX0 P w K mg base q76 "_law_cell" (qh q1u) fa cdv A outer s H E).nox (qz q1u) (tDS K q0a);unfold q0a;refine(ql ?_ ?_);refine(jg ?_ (qp ?_) j8);refine(zk qls ?_ ?_);exact(qa (pv 1));refine(zv (xj) rfl n_len DL.j7 ?_);walk_at "A";exact(qa (pv 0));exact qe;refine(z5 ?_);refine(zi ?_ ?_);exact(qa (pv 0));exact(qa (pv 1));refine(qp ?_);exact(z5 qf)
abbrev kv:Stmt:=top 41
noncomputable def q3p:List Str:=["_law_mark"]
theorem qcc:(q3p).Nodup:=by decide +kernel
theorem qcd:FnScope q3p ["_law_mark"] (qh kv):=⟨rfl,rfl,rfl,qcc,rfl,by decide +kernel,by decide +kernel⟩
theorem qa2:(["_law_ware","_law_mark"]:List Str).Nodup:=by decide +kernel
noncomputable def kx:FS:=(zc (qi ku (qc (eL (zl (iR1 (qc (eC (.int 12)) qg)) [none,some 0] (bN 0) (z7 oEq (eOp oBand (eOp oShr (eV 1) (eV 0)) (eC (.int 1))) (eC (.int 1))) (eV 0))) qg)))
noncomputable def jf:List D->Option D:=zh 1 kx
theorem qce{fa:Addr}{dV:Value}{fd:FuncData}(F:Fun2 K "_law_of_mark" "_law_of_mark" kv dV fa fd)(n_tuple:mg "tuple" = none)(n_range:mg "range" = none): FnOk P w K mg base CX0 1 fa fd ["_law_mark"] (spD K 1 jf):=
 F.okn (k:=0) (n:=1) (ar:=1) (k1:=1) (u:=kx) qcd rfl rfl rfl fun cdv A outer s H E hr=>by
 show PSs (zw CX0 P w K mg base q3p "_law_of_mark" (qh kv) fa cdv A outer s H E).nox (qz kv) (tDS K kx);unfold kx;refine(qp ?_);refine(z5 ?_);refine(xn (wu) rfl n_tuple DL.boot_tuple ?_);walk_at "A";refine(xh ?_);refine(jd (N':=["_law_ware","_law_mark"]) (cap:=[none,some 0]) rfl (zy rfl rfl) (zx rfl) ?_ (fun _ _ _ _ _=>(z8 qa2 rfl (Or.inl rfl) (.inr rfl))) (fun _ _ _ _ _=>(q1o ?_)) (fun _ _ _ _ _=>?_));refine(q1h rfl n_range ?_);walk_at "A";exact qf;exact qe;refine(zk (vc hr.units) ?_ qf);refine(qk q45 ?_ qf);refine(qk qtp ?_ ?_);exact(qa (pv 1));exact(qa (pv 0));exact(qa (pv 0));exact qe
abbrev q35:Stmt:=top 42
noncomputable def q87:List Str:=["_law_number","_law_wares","_law_great"]
theorem qjm:(q87).Nodup:=by decide +kernel
theorem qjn:FnScope q87 ["_law_number","_law_wares","_law_great"] (qh q35):=⟨rfl,rfl,rfl,qjm,rfl,by decide +kernel,by decide +kernel⟩
noncomputable def q36:FS:=(zc (zo (qc (eOp zp (eC (.int 1)) (eOp oMod (eOp oDiv (eV 0) (eC (.int 4096))) (eV 2))) (qc (qi (qt 1 [] jf) (qc (eOp oMod (eV 0) (eOp oShl (eC (.int 1)) (eV 1))) qg)) qg))))
noncomputable def q37:List D->Option D:=zh 3 q36
theorem qjo{fa:Addr}{dV:Value}{fd:FuncData}(F:Fun2 K "_law_run" "_law_run" q35 dV fa fd){av:Addr}{ae:FuncData}(c_20:Cal P w K mg base "_law_of_mark" 1 ["_law_mark"] 1 jf av ae)(b_20:Binds K ae ["_law_mark"] []): FnOk P w K mg base CX0 2 fa fd ["_law_number","_law_wares","_law_great"] (spD K 3 q37):=
 F.okn (k:=1) (n:=3) (ar:=3) (k1:=2) (u:=q36) qjn rfl rfl rfl fun cdv A outer s H E hr=>by
 show PSs (zw CX0 P w K mg base q87 "_law_run" (qh q35) fa cdv A outer s H E).nox (qz q35) (tDS K q36);unfold q36;refine(qp ?_);refine(z5 ?_);refine(j5 ?_);walk_at "A";refine(qk j6 qf ?_);refine(qk j3 ?_ ?_);refine(qk q1l ?_ qf);exact(qa (pv 0));exact(qa (pv 2));walk_at "A";refine(qw c_20 b_20 hr (by decide) rfl ?_);walk_at "A";refine(qk j3 ?_ ?_);exact(qa (pv 0));refine(qk q7u qf ?_);exact(qa (pv 1));exact qe;exact qe
abbrev q1v:Stmt:=top 43
noncomputable def q77:List Str:=["_law_script","_law_wares","_law_most_runs","_law_great","_law_runs","_law_cell_here","_law_base","_law_k","_law_number"]
theorem vn:(q77).Nodup:=by decide +kernel
theorem qh5:FnScope q77 ["_law_script","_law_wares","_law_most_runs"] (qh q1v):=⟨rfl,rfl,rfl,vn,rfl,by decide +kernel,by decide +kernel⟩
noncomputable def ky:FS:=(q3n 4 (qi (qt 3 [] q37) (qc (eV 5) (qc (eV 1) (qc (eV 3) qg)))))
noncomputable def ya:FS:=(z0 (zr 8 (qi (qt 2 [] jx) (qc (eV 0) (qc (eOp zp (eC (.int 10)) (eV 7)) qg)))) (z0 (sIf (z7 oEq (eOp oMod (eV 8) (eC (.int 3))) (eC (.int 0))) (zr 8 (eOp zp (eOp zt (eOp oDiv (eV 8) (eC (.int 4096))) (eC (.int 4096))) (eOp oMod (eOp oBor (eV 8) (eV 6)) (eC (.int 4096))))) jv) (q3n 4 (qi (qt 3 [] q37) (qc (eV 8) (qc (eV 1) (qc (eV 3) qg)))))))
noncomputable def q0b:FS:=(z0 (zr 3 (eOp oIx (eL (q0f (qc (eC (.int 1)) (qc (eC (.int 3)) (qc (eC (.int 9)) (qc (eOp oPow (eC (.int 10)) (eC (.int 12))) qg)))))) (eOp oMod (qi (qt 2 [] jx) (qc (eV 0) (qc (eC (.int 0)) qg))) (eC (.int 4))))) (z0 (q18 4 (q0f qg)) (z0 (sIf (z7 oEq (eOp oMod (qi (qt 2 [] xk) (qc (eV 0) (qc (eC (.int 0)) qg))) (eC (.int 2))) (eC (.int 0))) (wq (jl (eSl (eV 0) (oAt (eC (.int 2))) (oAt (eOp zp (eC (.int 2)) (eV 2))))) (bN 5) ky) (z0 (zr 6 (eOp oMod (qi (qt 2 [] jx) (qc (eV 0) (qc (eC (.int 1)) qg))) (eOp oShl (eC (.int 1)) (eV 1)))) (wq (iR1 (qc (eOp oMod (qi (qt 2 [] jx) (qc (eV 0) (qc (eC (.int 2)) qg))) (eOp zp (eV 2) (eC (.int 1)))) qg)) (bN 7) ya))) (wc 4 (zc (zo (qc (eV 1) (qc (qi ku (qc (eV 4) qg)) qg))))))))
noncomputable def q3x:List D->Option D:=zh 9 q0b
theorem qh6{fa:Addr}{dV:Value}{fd:FuncData}(F:Fun2 K "_law_pile" "_law_pile" q1v dV fa fd){fJ:Addr}{cH:FuncData}(c_19:Cal P w K mg base "_law_mixed" 1 ["_law_script","_law_k"] 2 jx fJ cH)(b_19:Binds K cH ["_law_script","_law_k"] []){aw:Addr}{ab:FuncData}(c_11:Cal P w K mg base "_law_cell" 1 ["_law_script","_law_k"] 2 xk aw ab)(b_11:Binds K ab ["_law_script","_law_k"] []){gB:Addr}{ey:FuncData}(c_24:Cal P w K mg base "_law_run" 2 ["_law_number","_law_wares","_law_great"] 3 q37 gB ey)(b_24:Binds K ey ["_law_number","_law_wares","_law_great"] [])(n_range:mg "range" = none)(n_tuple:mg "tuple" = none): FnOk P w K mg base CX0 3 fa fd ["_law_script","_law_wares","_law_most_runs"] (spD K 3 q3x):=
 F.okn (k:=2) (n:=9) (ar:=3) (k1:=3) (u:=q0b) qh5 rfl rfl rfl fun cdv A outer s H E hr=>by
 show PSs (zw CX0 P w K mg base q77 "_law_pile" (qh q1v) fa cdv A outer s H E).nox (qz q1v) (tDS K q0b);unfold q0b ya ky;refine(ql ?_ ?_);refine(zf (i:=3) ?_ ?_ ?_ ?_ ?_ ?_);exact vn;exact rfl;exact(Or.inl rfl);refine(zi ?_ ?_);refine(xh ?_);refine(wm ?_);walk_at "A";exact qf;walk_at "A";exact qf;walk_at "A";exact qf;walk_at "A";exact(qk q7v qf qf);exact qe;refine(qk j3 ?_ qf);refine(qw c_19 b_19 hr (by decide) rfl ?_);walk_at "A";exact(qa (pv 0));walk_at "A";exact qf;exact qe;exact rfl;walk_at "L";refine(ql ?_ ?_);exact(q6c (i:=4) vn rfl (Or.inl rfl) (wm qe));refine(ql ?_ ?_);refine(jg ?_ (qp ?_) (ql ?_ ?_));refine(zk (vc hr.units) ?_ qf);refine(qk j3 ?_ qf);refine(qw c_11 b_11 hr (by decide) rfl ?_);walk_at "A";exact(qa (pv 0));walk_at "A";exact qf;exact qe;refine(kr pd rfl ?_ (z8 vn rfl (Or.inl rfl) (.inl rfl)) (qp ?_));refine(jb ?_);refine(q4g ?_ (q2d qf) (q2d ?_));exact(qa (pv 0));refine(qk j6 qf ?_);exact(qa (pv 2));refine(q7y (pv 4) ?_);refine(qw c_24 b_24 hr (by decide) rfl ?_);walk_at "A";exact(qa (pv 5));walk_at "A";exact(qa (pv 1));walk_at "A";exact(qa (pv 3));exact qe;refine(zf (i:=6) ?_ ?_ ?_ ?_ ?_ ?_);exact vn;exact rfl;exact(Or.inl rfl);refine(qk j3 ?_ ?_);refine(qw c_19 b_19 hr (by decide) rfl ?_);walk_at "A";exact(qa (pv 0));walk_at "A";exact qf;exact qe;refine(qk q7u qf ?_);exact(qa (pv 1));exact rfl;walk_at "L";refine(qp ?_);refine(kr pd rfl ?_ (z8 vn rfl (Or.inl rfl) (.inl rfl)) (ql ?_ ?_));refine(q1h rfl n_range ?_);walk_at "A";refine(qk j3 ?_ ?_);refine(qw c_19 b_19 hr (by decide) rfl ?_);walk_at "A";exact(qa (pv 0));walk_at "A";exact qf;exact qe;refine(qk j6 ?_ qf);exact(qa (pv 2));exact qe;refine(zf (i:=8) ?_ ?_ ?_ ?_ ?_ ?_);exact vn;exact rfl;exact(Or.inl rfl);refine(qw c_19 b_19 hr (by decide) rfl ?_);walk_at "A";exact(qa (pv 0));walk_at "A";refine(qk j6 qf ?_);exact(qa (pv 7));exact qe;exact rfl;walk_at "L";refine(ql ?_ ?_);refine(jg ?_ (qp ?_) j8);refine(zk (vc hr.units) ?_ qf);refine(qk j3 ?_ qf);exact(qa (pv 8));refine(zf (i:=8) ?_ ?_ ?_ ?_ ?_ ?_);exact vn;exact rfl;exact(Or.inl rfl);refine(qk j6 ?_ ?_);refine(qk je ?_ qf);refine(qk q1l ?_ qf);exact(qa (pv 8));refine(qk j3 ?_ qf);refine(qk q1r ?_ ?_);exact(qa (pv 8));exact(qa (pv 6));exact rfl;walk_at "L";refine(qp ?_);refine(q7y (pv 4) ?_);refine(qw c_24 b_24 hr (by decide) rfl ?_);walk_at "A";exact(qa (pv 8));walk_at "A";exact(qa (pv 1));walk_at "A";exact(qa (pv 3));exact qe;refine(wo 4 (qp ?_));refine(z5 ?_);refine(j5 ?_);walk_at "A";exact(qa (pv 1));walk_at "A";refine(xn (wu) rfl n_tuple DL.boot_tuple ?_);walk_at "A";exact(qa (pv 4));exact qe;exact qe
abbrev q0n:Stmt:=top 44
noncomputable def q5t:List Str:=["_law_pile_here"]
theorem qfi:(q5t).Nodup:=by decide +kernel
theorem qfj:FnScope q5t ["_law_pile_here"] (qh q0n):=⟨rfl,rfl,rfl,qfi,rfl,by decide +kernel,by decide +kernel⟩
theorem q6f:(["_law_many","_law_basket"]:List Str).Nodup:=by decide +kernel
theorem qcf:(["_law_ware"]:List Str).Nodup:=by decide +kernel
noncomputable def q0o:FS:=(zc (eL (zl (jl (eOp oIx (eV 0) (eC (.int 1)))) [none,none] (we 2 (jh (bN 0) (jh (bN 1) wd))) zu (zo (qc (eV 0) (qc (qi q6u (qc (eL (zl (jl (eV 1)) [none] (bN 0) zu (eOp oShl (eC (.int 1)) (eV 0)))) qg)) qg))))))
noncomputable def q2p:List D->Option D:=zh 1 q0o
theorem qfk{fa:Addr}{dV:Value}{fd:FuncData}(F:Fun2 K "_law_marks" "_law_marks" q0n dV fa fd)(n_sum:mg "sum" = none): FnOk P w K mg base CX0 1 fa fd ["_law_pile_here"] (spD K 1 q2p):=
 F.okn (k:=0) (n:=1) (ar:=1) (k1:=1) (u:=q0o) qfj rfl rfl rfl fun cdv A outer s H E hr=>by
 show PSs (zw CX0 P w K mg base q5t "_law_marks" (qh q0n) fa cdv A outer s H E).nox (qz q0n) (tDS K q0o);unfold q0o;refine(qp ?_);refine(z5 ?_);refine(xh ?_);refine(jd (N':=["_law_many","_law_basket"]) (cap:=[none,none]) rfl (zy rfl rfl) (q32 (jw rfl (jw rfl q1p))) ?_ (fun _ _ _ _ _=>(q31 rfl (x6 (z8 q6f rfl (Or.inl rfl) (.inr rfl)) (x6 (z8 q6f rfl (Or.inl rfl) (.inr rfl)) q30)))) (fun _ _ _ _ _=>vi) (fun _ _ _ _ _=>?_));refine(jb ?_);refine(zi ?_ qf);exact(qa (pv 0));refine(j5 ?_);walk_at "A";exact(qa (pv 0));walk_at "A";refine(zv (qay rfl) rfl n_sum DL.boot_sum ?_);walk_at "A";refine(xh ?_);refine(jd (N':=["_law_ware"]) (cap:=[none]) rfl (zy rfl rfl) (zx rfl) ?_ (fun _ _ _ _ _=>(z8 qcf rfl (Or.inl rfl) (.inr rfl))) (fun _ _ _ _ _=>vi) (fun _ _ _ _ _=>?_));refine(jb ?_);exact(qa (pv 1));refine(qk q7u qf ?_);exact(qa (pv 0));exact qe;exact qe
abbrev wz:Stmt:=top 45
noncomputable def q4k:List Str:=["_law_pile_here","_law_marks_here","_law_found","_law_mark"]
theorem q12:(q4k).Nodup:=by decide +kernel
theorem qdo:FnScope q4k ["_law_pile_here"] (qh wz):=⟨rfl,rfl,rfl,q12,rfl,by decide +kernel,by decide +kernel⟩
theorem q59:(["_law_many","_law_own","_law_mark"]:List Str).Nodup:=by decide +kernel
noncomputable def wj:FS:=(q3n 2 (qi q6u (qc (eL (zl (jl (eV 1)) [none,none,some 3] (we 2 (jh (bN 0) (jh (bN 1) wd))) (z7 oEq (eOp oBand (eV 1) (eV 2)) (eV 2)) (eV 0))) qg)))
noncomputable def q1w:FS:=(z0 (zr 1 (qi (qt 1 [] q2p) (qc (eV 0) qg))) (z0 (q18 2 (q0f qg)) (z0 (wq (iR1 (qc (eOp oShl (eC (.int 1)) (eOp oIx (eV 0) (eC (.int 0)))) qg)) (bN 3) wj) (wc 2 (zc (eV 2))))))
noncomputable def q1x:List D->Option D:=zh 4 q1w
theorem qdp{fa:Addr}{dV:Value}{fd:FuncData}(F:Fun2 K "_law_counts" "_law_counts" wz dV fa fd){fK:Addr}{cI:FuncData}(c_18:Cal P w K mg base "_law_marks" 1 ["_law_pile_here"] 1 q2p fK cI)(b_18:Binds K cI ["_law_pile_here"] [])(n_range:mg "range" = none)(n_sum:mg "sum" = none): FnOk P w K mg base CX0 2 fa fd ["_law_pile_here"] (spD K 1 q1x):=
 F.okn (k:=1) (n:=4) (ar:=1) (k1:=2) (u:=q1w) qdo rfl rfl rfl fun cdv A outer s H E hr=>by
 show PSs (zw CX0 P w K mg base q4k "_law_counts" (qh wz) fa cdv A outer s H E).nox (qz wz) (tDS K q1w);unfold q1w wj;refine(ql ?_ ?_);refine(zf (i:=1) ?_ ?_ ?_ ?_ ?_ ?_);exact q12;exact rfl;exact(Or.inl rfl);refine(qw c_18 b_18 hr (by decide) rfl ?_);walk_at "A";exact(qa (pv 0));exact qe;exact rfl;walk_at "L";refine(ql ?_ ?_);exact(q6c (i:=2) q12 rfl (Or.inl rfl) (wm qe));refine(ql ?_ ?_);refine(kr pd rfl ?_ (z8 q12 rfl (Or.inr rfl) (.inl rfl)) (qp ?_));refine(q1h rfl n_range ?_);walk_at "A";refine(qk q7u qf ?_);refine(zi ?_ qf);exact(qa (pv 0));exact qe;refine(q7y (pv 2) ?_);refine(zv (qay rfl) rfl n_sum DL.boot_sum ?_);walk_at "A";refine(xh ?_);refine(jd (N':=["_law_many","_law_own","_law_mark"]) (cap:=[none,none,some 3]) rfl (zy rfl rfl) (q32 (jw rfl (jw rfl q1p))) ?_ (fun _ _ _ _ _=>(q31 rfl (x6 (z8 q59 rfl (Or.inl rfl) (.inr rfl)) (x6 (z8 q59 rfl (Or.inl rfl) (.inr rfl)) q30)))) (fun _ _ _ _ _=>(q1o ?_)) (fun _ _ _ _ _=>?_));refine(jb ?_);exact(qa (pv 1));refine(zk (vc hr.units) ?_ ?_);refine(qk q45 ?_ ?_);exact(qa (pv 1));exact(qa (pv 2));exact(qa (pv 2));exact(qa (pv 0));exact qe;refine(wo 2 (qp ?_));refine(z5 ?_);exact(qa (pv 2))
abbrev q0p:Stmt:=top 46
noncomputable def q5u:List Str:=["_law_script","_law_counts_here","_law_number","_law_least_here"]
theorem q4l:(q5u).Nodup:=by decide +kernel
theorem qfl:FnScope q5u ["_law_script","_law_counts_here"] (qh q0p):=⟨rfl,rfl,rfl,q4l,rfl,by decide +kernel,by decide +kernel⟩
noncomputable def xu:FS:=(z0 (zr 2 (qi (qt 2 [] xk) (qc (eV 0) (qc (eC (.int 1)) qg)))) (z0 (sIf (z7 oLt' (eOp oMod (eV 2) (eC (.int 5))) (eC (.int 2))) (zc (eOp zp (eC (.int 1)) (eOp oMod (eOp oDiv (eV 2) (eC (.int 5))) (eOp oIx (eL (q0f (qc (eC (.int 10)) (qc (eOp oPow (eC (.int 10)) (eC (.int 15))) qg)))) (eOp oMod (eV 2) (eC (.int 5))))))) jv) (z0 (zr 3 (eOp zp (eOp oIx (eV 1) (eOp oMod (eOp oDiv (eV 2) (eC (.int 5))) (qi xi (qc (eV 1) qg)))) (eOp oIx (eL (q0f (qc (eC (.int 0)) (qc (eC (.int 1)) (qc (eUn q9u (eC (.int 1))) qg))))) (eOp oSub (eOp oMod (eV 2) (eC (.int 5))) (eC (.int 2)))))) (zc (qi oMax (qc (eC (.int 1)) (qc (eV 3) qg)))))))
noncomputable def xv:List D->Option D:=zh 4 xu
theorem qfm{fa:Addr}{dV:Value}{fd:FuncData}(F:Fun2 K "_law_least" "_law_least" q0p dV fa fd){aw:Addr}{ab:FuncData}(c_11:Cal P w K mg base "_law_cell" 1 ["_law_script","_law_k"] 2 xk aw ab)(b_11:Binds K ab ["_law_script","_law_k"] [])(n_max:mg "max" = none)(n_len:mg "len" = none): FnOk P w K mg base CX0 2 fa fd ["_law_script","_law_counts_here"] (spD K 2 xv):=
 F.okn (k:=1) (n:=4) (ar:=2) (k1:=2) (u:=xu) qfl rfl rfl rfl fun cdv A outer s H E hr=>by
 show PSs (zw CX0 P w K mg base q5u "_law_least" (qh q0p) fa cdv A outer s H E).nox (qz q0p) (tDS K xu);unfold xu;refine(ql ?_ ?_);refine(zf (i:=2) ?_ ?_ ?_ ?_ ?_ ?_);exact q4l;exact rfl;exact(Or.inl rfl);refine(qw c_11 b_11 hr (by decide) rfl ?_);walk_at "A";exact(qa (pv 0));walk_at "A";exact qf;exact qe;exact rfl;walk_at "L";refine(ql ?_ ?_);refine(jg ?_ (qp ?_) j8);refine(zk qls ?_ qf);refine(qk j3 ?_ qf);exact(qa (pv 2));refine(z5 ?_);refine(qk j6 qf ?_);refine(qk j3 ?_ ?_);refine(qk q1l ?_ qf);exact(qa (pv 2));refine(zi ?_ ?_);refine(xh ?_);refine(wm ?_);walk_at "A";exact qf;walk_at "A";exact(qk q7v qf qf);exact qe;refine(qk j3 ?_ qf);exact(qa (pv 2));refine(ql ?_ ?_);refine(zf (i:=3) ?_ ?_ ?_ ?_ ?_ ?_);exact q4l;exact rfl;exact(Or.inl rfl);refine(qk j6 ?_ ?_);refine(zi ?_ ?_);exact(qa (pv 1));refine(qk j3 ?_ ?_);refine(qk q1l ?_ qf);exact(qa (pv 2));refine(zv (xj) rfl n_len DL.j7 ?_);walk_at "A";exact(qa (pv 1));exact qe;refine(zi ?_ ?_);refine(xh ?_);refine(wm ?_);walk_at "A";exact qf;walk_at "A";exact qf;walk_at "A";exact(qlr qf);exact qe;refine(qk qlf ?_ qf);refine(qk j3 ?_ qf);exact(qa (pv 2));exact rfl;walk_at "L";refine(qp ?_);refine(z5 ?_);refine(zv (qtz rfl) rfl n_max DL.boot_max ?_);walk_at "A";exact qf;walk_at "A";exact(qa (pv 3));exact qe
abbrev q0q:Stmt:=top 51
noncomputable def q5v:List Str:=["_law_script","_law_counts_here","_law_number","_law_far","_law_both","_law_whom"]
theorem q00:(q5v).Nodup:=by decide +kernel
theorem qfn:FnScope q5v ["_law_script","_law_counts_here"] (qh q0q):=⟨rfl,rfl,rfl,q00,rfl,by decide +kernel,by decide +kernel⟩
noncomputable def q0r:FS:=(z0 (zr 2 (qi (qt 2 [] xk) (qc (eV 0) (qc (eC (.int 2)) qg)))) (z0 (zr 3 (eOp oDiv (eV 2) (eC (.int 5)))) (z0 (sIf (z7 oEq (eOp oMod (eV 2) (eC (.int 5))) (eC (.int 0))) (zc (zo (qc (eOp oMod (eV 3) (eC (.int 11))) (qc (eOp zp (eC (.int 1)) (eOp oMod (eOp oDiv (eV 3) (eC (.int 11))) (eC (.int 10)))) qg)))) jv) (z0 (sIf (z7 oEq (eOp oMod (eV 2) (eC (.int 5))) (eC (.int 1))) (zc (zo (qc (eOp oMod (eV 3) (eOp oPow (eC (.int 10)) (eC (.int 15)))) (qc (eOp zp (eC (.int 1)) (eOp oMod (eOp oDivB (eV 3) (eOp oPow (eC (.int 10)) (eC (.int 15)))) (eOp oPow (eC (.int 10)) (eC (.int 15))))) qg)))) jv) (z0 (sIf (z7 oEq (eOp oMod (eV 2) (eC (.int 5))) (eC (.int 4))) (zc (eC .non)) jv) (z0 (zr 4 (eOp oMod (eV 3) (qi xi (qc (eV 1) qg)))) (z0 (zr 5 (eOp oBand (eV 4) (eOp oDiv (eV 3) (eC (.int 4096))))) (z0 (sIf (z7 oEq (eOp oIx (eV 1) (eV 5)) (eC (.int 0))) (zc (zo (qc (eC (.int 1)) (qc (eC (.int 3)) qg)))) jv) (zc (zo (qc (eOp oSub (eOp zp (eOp zt (eC (.int 3)) (eOp oIx (eV 1) (eV 4))) (eOp oMod (eV 2) (eC (.int 5)))) (eC (.int 2))) (qc (eOp zt (eC (.int 3)) (eOp oIx (eV 1) (eV 5))) qg))))))))))))
noncomputable def q2q:List D->Option D:=zh 6 q0r
theorem qfo{fa:Addr}{dV:Value}{fd:FuncData}(F:Fun2 K "_law_bound" "_law_bound" q0q dV fa fd){aw:Addr}{ab:FuncData}(c_11:Cal P w K mg base "_law_cell" 1 ["_law_script","_law_k"] 2 xk aw ab)(b_11:Binds K ab ["_law_script","_law_k"] [])(n_len:mg "len" = none): FnOk P w K mg base CX0 2 fa fd ["_law_script","_law_counts_here"] (spD K 2 q2q):=
 F.okn (k:=1) (n:=6) (ar:=2) (k1:=2) (u:=q0r) qfn rfl rfl rfl fun cdv A outer s H E hr=>by
 show PSs (zw CX0 P w K mg base q5v "_law_bound" (qh q0q) fa cdv A outer s H E).nox (qz q0q) (tDS K q0r);unfold q0r;refine(ql ?_ ?_);refine(zf (i:=2) ?_ ?_ ?_ ?_ ?_ ?_);exact q00;exact rfl;exact(Or.inl rfl);refine(qw c_11 b_11 hr (by decide) rfl ?_);walk_at "A";exact(qa (pv 0));walk_at "A";exact qf;exact qe;exact rfl;walk_at "L";refine(ql ?_ ?_);refine(zf (i:=3) ?_ ?_ ?_ ?_ ?_ ?_);exact q00;exact rfl;exact(Or.inl rfl);refine(qk q1l ?_ qf);exact(qa (pv 2));exact rfl;walk_at "L";refine(ql ?_ ?_);refine(jg ?_ (qp ?_) j8);refine(zk (vc hr.units) ?_ qf);refine(qk j3 ?_ qf);exact(qa (pv 2));refine(z5 ?_);refine(j5 ?_);walk_at "A";refine(qk j3 ?_ qf);exact(qa (pv 3));walk_at "A";refine(qk j6 qf ?_);refine(qk j3 ?_ qf);refine(qk q1l ?_ qf);exact(qa (pv 3));exact qe;refine(ql ?_ ?_);refine(jg ?_ (qp ?_) j8);refine(zk (vc hr.units) ?_ qf);refine(qk j3 ?_ qf);exact(qa (pv 2));refine(z5 ?_);refine(j5 ?_);walk_at "A";refine(qk j3 ?_ ?_);exact(qa (pv 3));exact(qk q7v qf qf);walk_at "A";refine(qk j6 qf ?_);refine(qk j3 ?_ ?_);refine(qk q46 ?_ ?_);exact(qa (pv 3));exact(qk q7v qf qf);exact(qk q7v qf qf);exact qe;refine(ql ?_ ?_);refine(jg ?_ (qp ?_) j8);refine(zk (vc hr.units) ?_ qf);refine(qk j3 ?_ qf);exact(qa (pv 2));exact(z5 qap);refine(ql ?_ ?_);refine(zf (i:=4) ?_ ?_ ?_ ?_ ?_ ?_);exact q00;exact rfl;exact(Or.inl rfl);refine(qk j3 ?_ ?_);exact(qa (pv 3));refine(zv (xj) rfl n_len DL.j7 ?_);walk_at "A";exact(qa (pv 1));exact qe;exact rfl;walk_at "L";refine(ql ?_ ?_);refine(zf (i:=5) ?_ ?_ ?_ ?_ ?_ ?_);exact q00;exact rfl;exact(Or.inl rfl);refine(qk q45 ?_ ?_);exact(qa (pv 4));refine(qk q1l ?_ qf);exact(qa (pv 3));exact rfl;walk_at "L";refine(ql ?_ ?_);refine(jg ?_ (qp ?_) j8);refine(zk (vc hr.units) ?_ qf);refine(zi ?_ ?_);exact(qa (pv 1));exact(qa (pv 5));refine(z5 ?_);refine(j5 ?_);walk_at "A";exact qf;walk_at "A";exact qf;exact qe;refine(qp ?_);refine(z5 ?_);refine(j5 ?_);walk_at "A";refine(qk qlf ?_ qf);refine(qk j6 ?_ ?_);refine(qk je qf ?_);refine(zi ?_ ?_);exact(qa (pv 1));exact(qa (pv 4));refine(qk j3 ?_ qf);exact(qa (pv 2));walk_at "A";refine(qk je qf ?_);refine(zi ?_ ?_);exact(qa (pv 1));exact(qa (pv 5));exact qe
abbrev w4:Stmt:=top 53
noncomputable def q3q:List Str:=["_law_one","_law_other","_law_bound_here","_law_top","_law_bottom"]
theorem q2f:(q3q).Nodup:=by decide +kernel
theorem qcg:FnScope q3q ["_law_one","_law_other","_law_bound_here"] (qh w4):=⟨rfl,rfl,rfl,q2f,rfl,by decide +kernel,by decide +kernel⟩
noncomputable def q13:FS:=(z0 (qau (eOp oIx (eL (q0f (qc (eV 2) (qc (zo (qc (eC (.int 1)) (qc (eC (.int 2)) qg))) qg)))) (qi qiy (qc (eOp (oIs false) (eV 2) (eC .non)) qg))) (we 2 (jh (bN 3) (jh (bN 4) wd)))) (zc (eOp oGe (eOp zt (eV 0) (eV 4)) (eOp zt (eV 3) (eV 1)))))
noncomputable def w6:List D->Option D:=zh 5 q13
theorem qch{fa:Addr}{dV:Value}{fd:FuncData}(F:Fun2 K "_law_reaches" "_law_reaches" w4 dV fa fd)(n_int:mg "int" = none): FnOk P w K mg base CX0 1 fa fd ["_law_one","_law_other","_law_bound_here"] (spD K 3 w6):=
 F.okn (k:=0) (n:=5) (ar:=3) (k1:=1) (u:=q13) qcg rfl rfl rfl fun cdv A outer s H E hr=>by
 show PSs (zw CX0 P w K mg base q3q "_law_reaches" (qh w4) fa cdv A outer s H E).nox (qz w4) (tDS K q13);unfold q13;refine(ql ?_ ?_);refine(qr6 ?_ (q31 rfl (x6 (z8 q2f rfl (Or.inl rfl) (.inl rfl)) (x6 (z8 q2f rfl (Or.inl rfl) (.inl rfl)) q30))));refine(zi ?_ ?_);refine(xh ?_);refine(wm ?_);walk_at "A";exact(qa (pv 2));walk_at "A";refine(j5 ?_);walk_at "A";exact qf;walk_at "A";exact qf;exact qe;exact qe;refine(xn (qu0) rfl n_int DL.boot_int ?_);walk_at "A";refine(q1m (qj3 rfl) ?_ qap);exact(qa (pv 2));exact qe;refine(qp ?_);refine(z5 ?_);refine(q1m q6s ?_ ?_);refine(qk je ?_ ?_);exact(qa (pv 0));exact(qa (pv 4));refine(qk je ?_ ?_);exact(qa (pv 3));exact(qa (pv 1))
abbrev q38:Stmt:=top 56
noncomputable def q88:List Str:=["_law_counts_here","_law_least_here","_law_bound_here","_law_found","_law_whom","_law_what"]
theorem q3y:(q88).Nodup:=by decide +kernel
theorem qjp:FnScope q88 ["_law_counts_here","_law_least_here","_law_bound_here"] (qh q38):=⟨rfl,rfl,rfl,q3y,rfl,by decide +kernel,by decide +kernel⟩
noncomputable def q01:FS:=(sIf (vh (z7 oEq (eOp oBand (eV 4) (eV 5)) (eC (.int 0))) (z7 oGe (eOp oIx (eV 0) (eOp oBor (eV 4) (eV 5))) (eV 1))) (sIf (bT (qi (qt 3 [] w6) (qc (eOp oIx (eV 0) (eOp oBor (eV 4) (eV 5))) (qc (eOp oIx (eV 0) (eV 4)) (qc (eV 2) qg))))) (q3n 3 (zo (qc (eV 4) (qc (eOp oBor (eV 4) (eV 5)) qg)))) jv) jv)
noncomputable def q4m:FS:=(wq (iR2 (qc (eC (.int 1)) (qc (qi xi (qc (eV 0) qg)) qg))) (bN 5) q01)
noncomputable def q5a:FS:=(z0 (q18 3 (q0f qg)) (z0 (wq (iR1 (qc (qi xi (qc (eV 0) qg)) qg)) (bN 4) q4m) (wc 3 (zc (eV 3)))))
noncomputable def q5b:List D->Option D:=zh 6 q5a
theorem qjq{fa:Addr}{dV:Value}{fd:FuncData}(F:Fun2 K "_law_due" "_law_due" q38 dV fa fd){eU:Addr}{bO:FuncData}(c_22:Cal P w K mg base "_law_reaches" 1 ["_law_one","_law_other","_law_bound_here"] 3 w6 eU bO)(b_22:Binds K bO ["_law_one","_law_other","_law_bound_here"] [])(n_range:mg "range" = none)(n_len:mg "len" = none): FnOk P w K mg base CX0 2 fa fd ["_law_counts_here","_law_least_here","_law_bound_here"] (spD K 3 q5b):=
 F.okn (k:=1) (n:=6) (ar:=3) (k1:=2) (u:=q5a) qjp rfl rfl rfl fun cdv A outer s H E hr=>by
 show PSs (zw CX0 P w K mg base q88 "_law_due" (qh q38) fa cdv A outer s H E).nox (qz q38) (tDS K q5a);unfold q5a q4m q01;refine(ql ?_ ?_);exact(q6c (i:=3) q3y rfl (Or.inl rfl) (wm qe));refine(ql ?_ ?_);refine(kr pd rfl ?_ (z8 q3y rfl (Or.inl rfl) (.inl rfl)) (qp ?_));refine(q1h rfl n_range ?_);walk_at "A";refine(zv (xj) rfl n_len DL.j7 ?_);walk_at "A";exact(qa (pv 0));exact qe;exact qe;refine(kr pd rfl ?_ (z8 q3y rfl (Or.inl rfl) (.inl rfl)) (qp ?_));refine(qcz rfl n_range ?_);walk_at "A";exact qf;walk_at "A";refine(zv (xj) rfl n_len DL.j7 ?_);walk_at "A";exact(qa (pv 0));exact qe;exact qe;refine(jg ?_ (qp ?_) j8);refine(PW.pt (q1n ?_ (q2c ?_)));refine(zk (vc hr.units) ?_ qf);refine(qk q45 ?_ ?_);exact(qa (pv 4));exact(qa (pv 5));refine(zk q6s ?_ ?_);refine(zi ?_ ?_);exact(qa (pv 0));refine(qk q1r ?_ ?_);exact(qa (pv 4));exact(qa (pv 5));exact(qa (pv 1));refine(jg ?_ (qp ?_) j8);refine(x5 ?_);refine(qw c_22 b_22 hr (by decide) rfl ?_);walk_at "A";refine(zi ?_ ?_);exact(qa (pv 0));refine(qk q1r ?_ ?_);exact(qa (pv 4));exact(qa (pv 5));walk_at "A";refine(zi ?_ ?_);exact(qa (pv 0));exact(qa (pv 4));walk_at "A";exact(qa (pv 2));exact qe;refine(q7y (pv 3) ?_);refine(j5 ?_);walk_at "A";exact(qa (pv 4));walk_at "A";refine(qk q1r ?_ ?_);exact(qa (pv 4));exact(qa (pv 5));exact qe;refine(wo 3 (qp ?_));refine(z5 ?_);exact(qa (pv 3))
abbrev v7:Stmt:=top 25
noncomputable def q02:List Str:=["one","other","rest"]
theorem y4:(q02).Nodup:=by decide +kernel
theorem q7o:FnScope q02 ["one","other"] (qh v7):=⟨rfl,rfl,rfl,y4,rfl,by decide +kernel,by decide +kernel⟩
noncomputable def x9:FS:=(z0 (zr 2 (eOp oMod (eV 0) (eV 1))) (z0 (zr 0 (eV 1)) (zr 1 (eV 2))))
noncomputable def va:FS:=(z0 (jm (bT (eV 1)) x9 100000) (zc (eV 0)))
noncomputable def yf:List D->Option D:=zh 3 va
theorem q7p{fa:Addr}{dV:Value}{fd:FuncData}(F:Fun2 K "greatest_divisor" "greatest_divisor" v7 dV fa fd): FnOk P w K mg base CX0 1 fa fd ["one","other"] (spD K 2 yf):=
 F.okn (k:=0) (n:=3) (ar:=2) (k1:=1) (u:=va) q7o rfl rfl rfl fun cdv A outer s H E hr=>by
 show PSs (zw CX0 P w K mg base q02 "greatest_divisor" (qh v7) fa cdv A outer s H E).nox (qz v7) (tDS K va);unfold va x9;refine(ql ?_ ?_);refine(q9r 100000 pd ?_ (ql ?_ ?_));refine(x5 ?_);exact(qa (pv 1));refine(zf (i:=2) ?_ ?_ ?_ ?_ ?_ ?_);exact y4;exact rfl;exact(Or.inl rfl);refine(qk j3 ?_ ?_);exact(qa (pv 0));exact(qa (pv 1));exact rfl;walk_at "L";refine(ql ?_ ?_);refine(zf (i:=0) ?_ ?_ ?_ ?_ ?_ ?_);exact y4;exact rfl;exact(Or.inl rfl);exact(qa (pv 1));exact rfl;walk_at "L";refine(qp ?_);refine(zf (i:=1) ?_ ?_ ?_ ?_ ?_ ?_);exact y4;exact rfl;exact(Or.inl rfl);exact(qa (pv 2));exact rfl;walk_at "L";refine(qp ?_);refine(z5 ?_);exact(qa (pv 0))
abbrev q0s:Stmt:=top 5
noncomputable def q5w:List Str:=["thing"]
theorem qfp:(q5w).Nodup:=by decide +kernel
theorem qfq:FnScope q5w ["thing"] (qh q0s):=⟨rfl,rfl,rfl,qfp,rfl,by decide +kernel,by decide +kernel⟩
noncomputable def q0t:FS:=(zc (q5m (q1q .int (eV 0)) (q5m (qbx (q1q .bool (eV 0))) (eOp oGe (eV 0) (eC (.int 0))))))
noncomputable def q0u:List D->Option D:=zh 1 q0t
theorem qfr{fa:Addr}{dV:Value}{fd:FuncData}(F:Fun2 K "is_number" "is_number" q0s dV fa fd)(n_isinstance:mg "isinstance" = none)(n_int:mg "int" = none)(n_bool:mg "bool" = none): FnOk P w K mg base CX0 1 fa fd ["thing"] (spD K 1 q0u):=
 F.okn (k:=0) (n:=1) (ar:=1) (k1:=1) (u:=q0t) qfq rfl rfl rfl fun cdv A outer s H E hr=>by
 show PSs (zw CX0 P w K mg base q5w "is_number" (qh q0s) fa cdv A outer s H E).nox (qz q0s) (tDS K q0t);unfold q0t;refine(qp ?_);refine(z5 ?_);refine(q6b ?_ (q6b ?_ (qat ?_)));refine(q0l .int rfl n_isinstance rfl n_int DL.boot_int ?_);exact(qa (pv 0));refine(qlh ?_);refine(q0l .bool rfl n_isinstance rfl n_bool DL.boot_bool ?_);exact(qa (pv 0));refine(q1m q6s ?_ qf);exact(qa (pv 0))
abbrev q6g:Stmt:=top 26
noncomputable def qci:List Str:=["top","bottom","divisor"]
theorem qfs:(qci).Nodup:=by decide +kernel
theorem qp8:FnScope qci ["top","bottom"] (qh q6g):=⟨rfl,rfl,rfl,qfs,rfl,by decide +kernel,by decide +kernel⟩
noncomputable def q6h:FS:=(z0 (sIf (bOr (wb (bT (qi (qt 1 [] q0u) (qc (eV 0) qg)))) (bOr (wb (bT (qi (qt 1 [] q0u) (qc (eV 1) qg)))) (z7 oEq (eV 1) (eC (.int 0))))) qb0 jv) (z0 (zr 2 (qi (qt 2 [] yf) (qc (eV 0) (qc (eV 1) qg)))) (zc (zo (qc (eOp oDivB (eV 0) (eV 2)) (qc (eOp oDivB (eV 1) (eV 2)) qg))))))
noncomputable def q2g:List D->Option D:=zh 3 q6h
theorem qp9{fa:Addr}{dV:Value}{fd:FuncData}(F:Fun2 K "share" "share" q6g dV fa fd){di:Addr}{ai:FuncData}(c_6:Cal P w K mg base "greatest_divisor" 1 ["one","other"] 2 yf di ai)(b_6:Binds K ai ["one","other"] []){fX:Addr}{aS:FuncData}(c_8:Cal P w K mg base "is_number" 1 ["thing"] 1 q0u fX aS)(b_8:Binds K aS ["thing"] []): FnOk P w K mg base CX0 2 fa fd ["top","bottom"] (spD K 2 q2g):=
 F.okn (k:=1) (n:=3) (ar:=2) (k1:=2) (u:=q6h) qp8 rfl rfl rfl fun cdv A outer s H E hr=>by
 show PSs (zw CX0 P w K mg base qci "share" (qh q6g) fa cdv A outer s H E).nox (qz q6g) (tDS K q6h);unfold q6h;refine(ql ?_ ?_);refine(jg ?_ (qp q9v) j8);refine(PW.pt (q3w ?_ (q3w ?_ (q4d ?_))));refine(yc ?_);refine(x5 ?_);refine(qw c_8 b_8 hr (by decide) rfl ?_);walk_at "A";exact(qa (pv 0));exact qe;refine(yc ?_);refine(x5 ?_);refine(qw c_8 b_8 hr (by decide) rfl ?_);walk_at "A";exact(qa (pv 1));exact qe;refine(zk (vc hr.units) ?_ qf);exact(qa (pv 1));refine(ql ?_ ?_);refine(zf (i:=2) ?_ ?_ ?_ ?_ ?_ ?_);exact qfs;exact rfl;exact(Or.inl rfl);refine(qw c_6 b_6 hr (by decide) rfl ?_);walk_at "A";exact(qa (pv 0));walk_at "A";exact(qa (pv 1));exact qe;exact rfl;walk_at "L";refine(qp ?_);refine(z5 ?_);refine(j5 ?_);walk_at "A";refine(qk q46 ?_ ?_);exact(qa (pv 0));exact(qa (pv 2));walk_at "A";refine(qk q46 ?_ ?_);exact(qa (pv 1));exact(qa (pv 2));exact qe
abbrev q1y:Stmt:=top 31
noncomputable def q78:List Str:=["thing"]
theorem qh7:(q78).Nodup:=by decide +kernel
theorem qh8:FnScope q78 ["thing"] (qh q1y):=⟨rfl,rfl,rfl,qh7,rfl,by decide +kernel,by decide +kernel⟩
noncomputable def q3z:FS:=(z0 (sIf (z7 (oIs false) (eV 0) (eC .non)) (zc (zo (qc (eC (.int 1)) (qc (eC (.int 2)) qg)))) jv) (z0 (sIf (bOr (wb (bT (q1q .tuple (eV 0)))) (z7 q4b (qi xi (qc (eV 0) qg)) (eC (.int 2)))) qb0 jv) (zc (qi (qt 2 [] q2g) (qc (eOp oIx (eV 0) (eC (.int 0))) (qc (eOp oIx (eV 0) (eC (.int 1))) qg))))))
noncomputable def q40:List D->Option D:=zh 1 q3z
theorem qh9{fa:Addr}{dV:Value}{fd:FuncData}(F:Fun2 K "bound_of" "bound_of" q1y dV fa fd){fH:Addr}{aV:FuncData}(c_40:Cal P w K mg base "share" 2 ["top","bottom"] 2 q2g fH aV)(b_40:Binds K aV ["top","bottom"] [])(n_isinstance:mg "isinstance" = none)(n_tuple:mg "tuple" = none)(n_len:mg "len" = none): FnOk P w K mg base CX0 3 fa fd ["thing"] (spD K 1 q40):=
 F.okn (k:=2) (n:=1) (ar:=1) (k1:=3) (u:=q3z) qh8 rfl rfl rfl fun cdv A outer s H E hr=>by
 show PSs (zw CX0 P w K mg base q78 "bound_of" (qh q1y) fa cdv A outer s H E).nox (qz q1y) (tDS K q3z);unfold q3z;refine(ql ?_ ?_);refine(jg ?_ (qp ?_) j8);refine(zk (qj3 rfl) ?_ qap);exact(qa (pv 0));refine(z5 ?_);refine(j5 ?_);walk_at "A";exact qf;walk_at "A";exact qf;exact qe;refine(ql ?_ ?_);refine(jg ?_ (qp q9v) j8);refine(PW.pt (q3w ?_ (q4d ?_)));refine(yc ?_);refine(x5 ?_);refine(q0l .tuple rfl n_isinstance rfl n_tuple DL.boot_tuple ?_);exact(qa (pv 0));refine(zk q4c ?_ qf);refine(zv (xj) rfl n_len DL.j7 ?_);walk_at "A";exact(qa (pv 0));exact qe;refine(qp ?_);refine(z5 ?_);refine(qw c_40 b_40 hr (by decide) rfl ?_);walk_at "A";refine(zi ?_ qf);exact(qa (pv 0));walk_at "A";refine(zi ?_ qf);exact(qa (pv 0));exact qe
abbrev q1z:Stmt:=top 19
noncomputable def q79:List Str:=["pairs","least"]
theorem qha:(q79).Nodup:=by decide +kernel
theorem qhb:FnScope q79 ["pairs","least"] (qh q1z):=⟨rfl,rfl,rfl,qha,rfl,by decide +kernel,by decide +kernel⟩
theorem qdq:(["pair","least"]:List Str).Nodup:=by decide +kernel
noncomputable def q0c:FS:=(zc (qi ku (qc (eL (zl (jl (eV 0)) [none,some 1] (bN 0) (z7 oGe (eOp oIx (eV 0) (eC (.int 1))) (eV 1)) (eV 0))) qg)))
noncomputable def kg:List D->Option D:=zh 2 q0c
theorem qhc{fa:Addr}{dV:Value}{fd:FuncData}(F:Fun2 K "at_least" "at_least" q1z dV fa fd)(n_tuple:mg "tuple" = none): FnOk P w K mg base CX0 1 fa fd ["pairs","least"] (spD K 2 kg):=
 F.okn (k:=0) (n:=2) (ar:=2) (k1:=1) (u:=q0c) qhb rfl rfl rfl fun cdv A outer s H E hr=>by
 show PSs (zw CX0 P w K mg base q79 "at_least" (qh q1z) fa cdv A outer s H E).nox (qz q1z) (tDS K q0c);unfold q0c;refine(qp ?_);refine(z5 ?_);refine(xn (wu) rfl n_tuple DL.boot_tuple ?_);walk_at "A";refine(xh ?_);refine(jd (N':=["pair","least"]) (cap:=[none,some 1]) rfl (zy rfl rfl) (zx rfl) ?_ (fun _ _ _ _ _=>(z8 qdq rfl (Or.inl rfl) (.inr rfl))) (fun _ _ _ _ _=>(q1o ?_)) (fun _ _ _ _ _=>?_));refine(jb ?_);exact(qa (pv 0));refine(zk q6s ?_ ?_);refine(zi ?_ qf);exact(qa (pv 0));exact(qa (pv 1));exact(qa (pv 0));exact qe
abbrev q39:Stmt:=top 7
noncomputable def q89:List Str:=["some"]
theorem qjr:(q89).Nodup:=by decide +kernel
theorem qjs:FnScope q89 ["some"] (qh q39):=⟨rfl,rfl,rfl,qjr,rfl,by decide +kernel,by decide +kernel⟩
theorem qft:(["ware"]:List Str).Nodup:=by decide +kernel
noncomputable def q3a:FS:=(zc (qi q6u (qc (eL (zl (jl (eV 0)) [none] (bN 0) zu (eOp oShl (eC (.int 1)) (eV 0)))) qg)))
noncomputable def k9:List D->Option D:=zh 1 q3a
theorem qjt{fa:Addr}{dV:Value}{fd:FuncData}(F:Fun2 K "mark_of" "mark_of" q39 dV fa fd)(n_sum:mg "sum" = none): FnOk P w K mg base CX0 1 fa fd ["some"] (spD K 1 k9):=
 F.okn (k:=0) (n:=1) (ar:=1) (k1:=1) (u:=q3a) qjs rfl rfl rfl fun cdv A outer s H E hr=>by
 show PSs (zw CX0 P w K mg base q89 "mark_of" (qh q39) fa cdv A outer s H E).nox (qz q39) (tDS K q3a);unfold q3a;refine(qp ?_);refine(z5 ?_);refine(zv (qay rfl) rfl n_sum DL.boot_sum ?_);walk_at "A";refine(xh ?_);refine(jd (N':=["ware"]) (cap:=[none]) rfl (zy rfl rfl) (zx rfl) ?_ (fun _ _ _ _ _=>(z8 qft rfl (Or.inl rfl) (.inr rfl))) (fun _ _ _ _ _=>vi) (fun _ _ _ _ _=>?_));refine(jb ?_);exact(qa (pv 0));refine(qk q7u qf ?_);exact(qa (pv 0));exact qe
abbrev q4n:Stmt:=top 16
noncomputable def qa3:List Str:=["pile"]
theorem qml:(qa3).Nodup:=by decide +kernel
theorem qmm:FnScope qa3 ["pile"] (qh q4n):=⟨rfl,rfl,rfl,qml,rfl,by decide +kernel,by decide +kernel⟩
theorem q9j:(["many","basket"]:List Str).Nodup:=by decide +kernel
noncomputable def q4o:FS:=(zc (eL (zl (jl (eOp oIx (eV 0) (eC (.int 1)))) [none,none] (we 2 (jh (bN 0) (jh (bN 1) wd))) zu (zo (qc (eV 0) (qc (qi (qt 1 [] k9) (qc (eV 1) qg)) qg))))))
noncomputable def q7a:List D->Option D:=zh 1 q4o
theorem qmn{fa:Addr}{dV:Value}{fd:FuncData}(F:Fun2 K "marked" "marked" q4n dV fa fd){dW:Addr}{aC:FuncData}(c_30:Cal P w K mg base "mark_of" 1 ["some"] 1 k9 dW aC)(b_30:Binds K aC ["some"] []): FnOk P w K mg base CX0 2 fa fd ["pile"] (spD K 1 q7a):=
 F.okn (k:=1) (n:=1) (ar:=1) (k1:=2) (u:=q4o) qmm rfl rfl rfl fun cdv A outer s H E hr=>by
 show PSs (zw CX0 P w K mg base qa3 "marked" (qh q4n) fa cdv A outer s H E).nox (qz q4n) (tDS K q4o);unfold q4o;refine(qp ?_);refine(z5 ?_);refine(xh ?_);refine(jd (N':=["many","basket"]) (cap:=[none,none]) rfl (zy rfl rfl) (q32 (jw rfl (jw rfl q1p))) ?_ (fun _ _ _ _ _=>(q31 rfl (x6 (z8 q9j rfl (Or.inl rfl) (.inr rfl)) (x6 (z8 q9j rfl (Or.inl rfl) (.inr rfl)) q30)))) (fun _ _ _ _ _=>vi) (fun _ _ _ _ _=>?_));refine(jb ?_);refine(zi ?_ qf);exact(qa (pv 0));refine(j5 ?_);walk_at "A";exact(qa (pv 0));walk_at "A";refine(qw c_30 b_30 hr (by decide) rfl ?_);walk_at "A";exact(qa (pv 1));exact qe;exact qe
abbrev yg:Stmt:=top 13
noncomputable def q20:List Str:=["some","wares","first"]
theorem q4p:(q20).Nodup:=by decide +kernel
theorem qa4:FnScope q20 ["some","wares"] (qh yg):=⟨rfl,rfl,rfl,q4p,rfl,by decide +kernel,by decide +kernel⟩
theorem q8a:(["ware","some"]:List Str).Nodup:=by decide +kernel
noncomputable def vd:FS:=(z0 (zr 2 (eIf (bT (eV 0)) (eOp zp (eOp oIx (eV 0) (eUn q9u (eC (.int 1)))) (eC (.int 1))) (eC (.int 0)))) (zc (eL (zl (iR2 (qc (eV 2) (qc (eV 1) qg))) [none,some 0] (bN 0) zu (eOp zp (eV 1) (zo (qc (eV 0) qg)))))))
noncomputable def yh:List D->Option D:=zh 3 vd
theorem qa5{fa:Addr}{dV:Value}{fd:FuncData}(F:Fun2 K "one_ware_more" "one_ware_more" yg dV fa fd)(n_range:mg "range" = none): FnOk P w K mg base CX0 1 fa fd ["some","wares"] (spD K 2 yh):=
 F.okn (k:=0) (n:=3) (ar:=2) (k1:=1) (u:=vd) qa4 rfl rfl rfl fun cdv A outer s H E hr=>by
 show PSs (zw CX0 P w K mg base q20 "one_ware_more" (qh yg) fa cdv A outer s H E).nox (qz yg) (tDS K vd);unfold vd;refine(ql ?_ ?_);refine(zf (i:=2) ?_ ?_ ?_ ?_ ?_ ?_);exact q4p;exact rfl;exact(Or.inl rfl);refine(qvy ?_ ?_ qf);refine(x5 ?_);exact(qa (pv 0));refine(qk j6 ?_ qf);refine(zi ?_ ?_);exact(qa (pv 0));exact(qlr qf);exact rfl;walk_at "L";refine(qp ?_);refine(z5 ?_);refine(xh ?_);refine(jd (N':=["ware","some"]) (cap:=[none,some 0]) rfl (zy rfl rfl) (zx rfl) ?_ (fun _ _ _ _ _=>(z8 q8a rfl (Or.inl rfl) (.inr rfl))) (fun _ _ _ _ _=>vi) (fun _ _ _ _ _=>?_));refine(qcz rfl n_range ?_);walk_at "A";exact(qa (pv 2));walk_at "A";exact(qa (pv 1));exact qe;refine(qk j6 ?_ ?_);exact(qa (pv 1));refine(j5 ?_);walk_at "A";exact(qa (pv 0));exact qe
abbrev vv:Stmt:=top 14
noncomputable def q1b:List Str:=["some"]
theorem q9a:(q1b).Nodup:=by decide +kernel
theorem q9b:FnScope q1b ["some"] (qh vv):=⟨rfl,rfl,rfl,q9a,rfl,by decide +kernel,by decide +kernel⟩
theorem q7q:(["place","some"]:List Str).Nodup:=by decide +kernel
noncomputable def vw:FS:=(zc (eL (zl (iR1 (qc (qi xi (qc (eV 0) qg)) qg)) [none,some 0] (bN 0) zu (eOp zp (eSl (eV 1) oNo (oAt (eV 0))) (eSl (eV 1) (oAt (eOp zp (eV 0) (eC (.int 1)))) oNo)))))
noncomputable def vx:List D->Option D:=zh 1 vw
theorem q9c{fa:Addr}{dV:Value}{fd:FuncData}(F:Fun2 K "one_ware_fewer" "one_ware_fewer" vv dV fa fd)(n_range:mg "range" = none)(n_len:mg "len" = none): FnOk P w K mg base CX0 1 fa fd ["some"] (spD K 1 vx):=
 F.okn (k:=0) (n:=1) (ar:=1) (k1:=1) (u:=vw) q9b rfl rfl rfl fun cdv A outer s H E hr=>by
 show PSs (zw CX0 P w K mg base q1b "one_ware_fewer" (qh vv) fa cdv A outer s H E).nox (qz vv) (tDS K vw);unfold vw;refine(qp ?_);refine(z5 ?_);refine(xh ?_);refine(jd (N':=["place","some"]) (cap:=[none,some 0]) rfl (zy rfl rfl) (zx rfl) ?_ (fun _ _ _ _ _=>(z8 q7q rfl (Or.inl rfl) (.inr rfl))) (fun _ _ _ _ _=>vi) (fun _ _ _ _ _=>?_));refine(q1h rfl n_range ?_);walk_at "A";refine(zv (xj) rfl n_len DL.j7 ?_);walk_at "A";exact(qa (pv 0));exact qe;exact qe;refine(qk j6 ?_ ?_);refine(q4g ?_ q6w (q2d ?_));exact(qa (pv 1));exact(qa (pv 0));refine(q4g ?_ (q2d ?_) q6w);exact(qa (pv 1));refine(qk j6 ?_ qf);exact(qa (pv 0))
abbrev q6i:Stmt:=top 22
noncomputable def qcj:List Str:=["layer","wares","known","found","some","longer"]
theorem q4q:(qcj).Nodup:=by decide +kernel
theorem qpa:FnScope qcj ["layer","wares"] (qh q6i):=⟨rfl,rfl,rfl,q4q,rfl,by decide +kernel,by decide +kernel⟩
theorem qju:(["some"]:List Str).Nodup:=by decide +kernel
theorem qjv:(["shorter","known"]:List Str).Nodup:=by decide +kernel
noncomputable def kh:FS:=(sIf (bT (qi qbz (qc (eL (zl (jl (qi (qt 1 [] vx) (qc (eV 5) qg))) [none,some 2] (bN 0) zu (eOp q5r (eV 0) (eV 1)))) qg))) (q3n 3 (eV 5)) jv)
noncomputable def q21:FS:=(wq (jl (qi (qt 2 [] yh) (qc (eV 4) (qc (eV 1) qg)))) (bN 5) kh)
noncomputable def q6j:FS:=(z0 (zr 2 (qi qe0 (qc (eL (zl (jl (eV 0)) [none] (bN 0) zu (zo (qc (eV 0) (qc (eC (.bl true)) qg))))) qg))) (z0 (q18 3 (q0f qg)) (z0 (wq (jl (eV 0)) (bN 4) q21) (wc 3 (zc (eV 3))))))
noncomputable def q91:List D->Option D:=zh 6 q6j
theorem qpb{fa:Addr}{dV:Value}{fd:FuncData}(F:Fun2 K "grown" "grown" q6i dV fa fd){eG:Addr}{ax:FuncData}(c_36:Cal P w K mg base "one_ware_more" 1 ["some","wares"] 2 yh eG ax)(b_36:Binds K ax ["some","wares"] []){dU:Addr}{ao:FuncData}(c_35:Cal P w K mg base "one_ware_fewer" 1 ["some"] 1 vx dU ao)(b_35:Binds K ao ["some"] [])(n_dict:mg "dict" = none)(n_all:mg "all" = none): FnOk P w K mg base CX0 2 fa fd ["layer","wares"] (spD K 2 q91):=
 F.okn (k:=1) (n:=6) (ar:=2) (k1:=2) (u:=q6j) qpa rfl rfl rfl fun cdv A outer s H E hr=>by
 show PSs (zw CX0 P w K mg base qcj "grown" (qh q6i) fa cdv A outer s H E).nox (qz q6i) (tDS K q6j);unfold q6j q21 kh;refine(ql ?_ ?_);refine(zf (i:=2) ?_ ?_ ?_ ?_ ?_ ?_);exact q4q;exact rfl;exact(Or.inr rfl);refine(xn (qrn rfl hr.units) rfl n_dict DL.boot_dict ?_);walk_at "A";refine(xh ?_);refine(jd (N':=["some"]) (cap:=[none]) rfl (zy rfl rfl) (zx rfl) ?_ (fun _ _ _ _ _=>(z8 qju rfl (Or.inl rfl) (.inr rfl))) (fun _ _ _ _ _=>vi) (fun _ _ _ _ _=>?_));refine(jb ?_);exact(qa (pv 0));refine(j5 ?_);walk_at "A";exact(qa (pv 0));walk_at "A";exact kf;exact qe;exact qe;exact rfl;walk_at "L";refine(ql ?_ ?_);exact(q6c (i:=3) q4q rfl (Or.inl rfl) (wm qe));refine(ql ?_ ?_);refine(kr pd rfl ?_ (z8 q4q rfl (Or.inl rfl) (.inl rfl)) (qp ?_));refine(jb ?_);exact(qa (pv 0));refine(kr pd rfl ?_ (z8 q4q rfl (Or.inl rfl) (.inl rfl)) (qp ?_));refine(jb ?_);refine(qw c_36 b_36 hr (by decide) rfl ?_);walk_at "A";exact(qa (pv 4));walk_at "A";exact(qa (pv 1));exact qe;refine(jg ?_ (qp ?_) j8);refine(x5 ?_);refine(zv (qtx rfl) rfl n_all DL.boot_all ?_);walk_at "A";refine(xh ?_);refine(jd (N':=["shorter","known"]) (cap:=[none,some 2]) rfl (zy rfl rfl) (zx rfl) ?_ (fun _ _ _ _ _=>(z8 qjv rfl (Or.inl rfl) (.inr rfl))) (fun _ _ _ _ _=>vi) (fun _ _ _ _ _=>?_));refine(jb ?_);refine(qw c_35 b_35 hr (by decide) rfl ?_);walk_at "A";exact(qa (pv 5));exact qe;refine(q1m (qm7 hr.units) ?_ ?_);exact(qa (pv 0));exact(qa (pv 1));exact qe;refine(q7y (pv 3) ?_);exact(qa (pv 5));refine(wo 3 (qp ?_));refine(z5 ?_);exact(qa (pv 3))
abbrev yt:Stmt:=top 17
noncomputable def q2h:List Str:=["marked_runs","some","mark"]
theorem q5c:(q2h).Nodup:=by decide +kernel
theorem qbe:FnScope q2h ["marked_runs","some"] (qh yt):=⟨rfl,rfl,rfl,q5c,rfl,by decide +kernel,by decide +kernel⟩
theorem q3u:(["many","basket","mark"]:List Str).Nodup:=by decide +kernel
noncomputable def yu:FS:=(z0 (zr 2 (qi (qt 1 [] k9) (qc (eV 1) qg))) (zc (qi q6u (qc (eL (zl (jl (eV 0)) [none,none,some 2] (we 2 (jh (bN 0) (jh (bN 1) wd))) (z7 oEq (eOp oBand (eV 1) (eV 2)) (eV 2)) (eV 0))) qg))))
noncomputable def yw:List D->Option D:=zh 3 yu
theorem qbf{fa:Addr}{dV:Value}{fd:FuncData}(F:Fun2 K "count_marked" "count_marked" yt dV fa fd){dW:Addr}{aC:FuncData}(c_30:Cal P w K mg base "mark_of" 1 ["some"] 1 k9 dW aC)(b_30:Binds K aC ["some"] [])(n_sum:mg "sum" = none): FnOk P w K mg base CX0 2 fa fd ["marked_runs","some"] (spD K 2 yw):=
 F.okn (k:=1) (n:=3) (ar:=2) (k1:=2) (u:=yu) qbe rfl rfl rfl fun cdv A outer s H E hr=>by
 show PSs (zw CX0 P w K mg base q2h "count_marked" (qh yt) fa cdv A outer s H E).nox (qz yt) (tDS K yu);unfold yu;refine(ql ?_ ?_);refine(zf (i:=2) ?_ ?_ ?_ ?_ ?_ ?_);exact q5c;exact rfl;exact(Or.inr rfl);refine(qw c_30 b_30 hr (by decide) rfl ?_);walk_at "A";exact(qa (pv 1));exact qe;exact rfl;walk_at "L";refine(qp ?_);refine(z5 ?_);refine(zv (qay rfl) rfl n_sum DL.boot_sum ?_);walk_at "A";refine(xh ?_);refine(jd (N':=["many","basket","mark"]) (cap:=[none,none,some 2]) rfl (zy rfl rfl) (q32 (jw rfl (jw rfl q1p))) ?_ (fun _ _ _ _ _=>(q31 rfl (x6 (z8 q3u rfl (Or.inl rfl) (.inr rfl)) (x6 (z8 q3u rfl (Or.inl rfl) (.inr rfl)) q30)))) (fun _ _ _ _ _=>(q1o ?_)) (fun _ _ _ _ _=>?_));refine(jb ?_);exact(qa (pv 0));refine(zk (vc hr.units) ?_ ?_);refine(qk q45 ?_ ?_);exact(qa (pv 1));exact(qa (pv 2));exact(qa (pv 2));exact(qa (pv 0));exact qe
abbrev ji:Stmt:=qup 23 1
noncomputable def q0h:List Str:=["self","pile","least","runs","told","layer","pairs"]
theorem xa:(q0h).Nodup:=by decide +kernel
theorem q8b:FnScope q0h ["self","pile","least"] (qh ji):=⟨rfl,rfl,rfl,xa,rfl,by decide +kernel,by decide +kernel⟩
theorem q7b:(["some","runs"]:List Str).Nodup:=by decide +kernel
theorem q7c:(["pair"]:List Str).Nodup:=by decide +kernel
noncomputable def xl:FS:=(z0 (q18 6 (zl (jl (eV 5)) [none,some 3] (bN 0) zu (zo (qc (eV 0) (qc (qi (qt 2 [] yw) (qc (eV 1) (qc (eV 0) qg))) qg))))) (wc 6 (z0 (qc2 4 (eV 6)) (zr 5 (qi (qt 2 [] q91) (qc (eL (zl (jl (qi (qt 2 [] kg) (qc (eV 6) (qc (eV 2) qg)))) [none] (bN 0) zu (eOp oIx (eV 0) (eC (.int 0))))) (qc (eOp oIx (eV 1) (eC (.int 0))) qg)))))))
noncomputable def jk:FS:=(z0 (zr 3 (qi (qt 1 [] q7a) (qc (eV 1) qg))) (z0 (q18 4 (q0f qg)) (z0 (zr 5 (eL (q0f (qc (zo qg) qg)))) (z0 (jm (bT (eV 5)) xl 100000) (wc 6 (wc 4 (zc (qi ku (qc (eV 4) qg)))))))))
noncomputable def yq:List D->Option D:=zh 7 jk
theorem q8c{fa:Addr}{dV:Value}{fd:FuncData}(F:Fun2 K "counted" "Growing.counted" ji dV fa fd){gL:Addr}{cD:FuncData}(c_31:Cal P w K mg base "marked" 2 ["pile"] 1 q7a gL cD)(b_31:Binds K cD ["pile"] []){gO:Addr}{dB:FuncData}(c_7:Cal P w K mg base "grown" 2 ["layer","wares"] 2 q91 gO dB)(b_7:Binds K dB ["layer","wares"] []){eS:Addr}{aA:FuncData}(c_4:Cal P w K mg base "count_marked" 2 ["marked_runs","some"] 2 yw eS aA)(b_4:Binds K aA ["marked_runs","some"] []){dq:Addr}{au:FuncData}(c_2:Cal P w K mg base "at_least" 1 ["pairs","least"] 2 kg dq au)(b_2:Binds K au ["pairs","least"] [])(n_tuple:mg "tuple" = none): FnOk P w K mg base CX0 3 fa fd ["self","pile","least"] (spD K 3 yq):=
 F.okn (k:=2) (n:=7) (ar:=3) (k1:=3) (u:=jk) q8b rfl rfl rfl fun cdv A outer s H E hr=>by
 show PSs (zw CX0 P w K mg base q0h "Growing.counted" (qh ji) fa cdv A outer s H E).nox (qz ji) (tDS K jk);unfold jk xl;refine(ql ?_ ?_);refine(zf (i:=3) ?_ ?_ ?_ ?_ ?_ ?_);exact xa;exact rfl;exact(Or.inr rfl);refine(qw c_31 b_31 hr (by decide) rfl ?_);walk_at "A";exact(qa (pv 1));exact qe;exact rfl;walk_at "L";refine(ql ?_ ?_);exact(q6c (i:=4) xa rfl (Or.inl rfl) (wm qe));refine(ql ?_ ?_);refine(zf (i:=5) ?_ ?_ ?_ ?_ ?_ ?_);exact xa;exact rfl;exact(Or.inl rfl);refine(xh ?_);refine(wm ?_);walk_at "A";exact(j5 qe);exact qe;exact rfl;walk_at "L";refine(ql ?_ ?_);refine(q9r 100000 pd ?_ (ql ?_ ?_));refine(x5 ?_);exact(qa (pv 5));refine(qby (i:=6) rfl xa rfl rfl (N':=["some","runs"]) (cap:=[none,some 3]) (zy rfl rfl) (zx rfl) ?_ (fun _ _ _ _ _=>(z8 q7b rfl (Or.inl rfl) (.inr rfl))) (fun _ _ _ _ _=>vi) (fun _ _ _ _ _=>?_));refine(jb ?_);exact(qa (pv 5));refine(j5 ?_);walk_at "A";exact(qa (pv 0));walk_at "A";refine(qw c_4 b_4 hr (by decide) rfl ?_);walk_at "A";exact(qa (pv 1));walk_at "A";exact(qa (pv 0));exact qe;exact qe;refine(wo 6 (ql ?_ ?_));refine(qlt (pv 4) ?_);exact(qa (pv 6));refine(qp ?_);refine(zf (i:=5) ?_ ?_ ?_ ?_ ?_ ?_);exact xa;exact rfl;exact(Or.inl rfl);refine(qw c_7 b_7 hr (by decide) rfl ?_);walk_at "A";refine(xh ?_);refine(jd (N':=["pair"]) (cap:=[none]) rfl (zy rfl rfl) (zx rfl) ?_ (fun _ _ _ _ _=>(z8 q7c rfl (Or.inl rfl) (.inr rfl))) (fun _ _ _ _ _=>vi) (fun _ _ _ _ _=>?_));refine(jb ?_);refine(qw c_2 b_2 hr (by decide) rfl ?_);walk_at "A";exact(qa (pv 6));walk_at "A";exact(qa (pv 2));exact qe;refine(zi ?_ qf);exact(qa (pv 0));walk_at "A";refine(zi ?_ qf);exact(qa (pv 1));exact qe;exact rfl;walk_at "L";refine(wo 6 (wo 4 (qp ?_)));refine(z5 ?_);refine(xn (wu) rfl n_tuple DL.boot_tuple ?_);walk_at "A";exact(qa (pv 4));exact qe
abbrev jr:Stmt:=qup 23 0
noncomputable def q22:List Str:=["self","pile","least"]
theorem qa6:(q22).Nodup:=by decide +kernel
theorem qa7:FnScope q22 ["self","pile","least"] (qh jr):=⟨rfl,rfl,rfl,qa6,rfl,by decide +kernel,by decide +kernel⟩
noncomputable def yi:FS:=(zc (qi (qt 2 [] kg) (qc (qc3 "Growing" 3 yq (eV 0) (qc (eV 1) (qc (eV 2) qg))) (qc (eV 2) qg))))
noncomputable def yj:List D->Option D:=zh 3 yi
theorem qa8{fa:Addr}{dV:Value}{fd:FuncData}(F:Fun2 K "often" "Growing.often" jr dV fa fd){aa:Addr}(aJ:ClsOk K "Growing" aa){dq:Addr}{au:FuncData}(c_2:Cal P w K mg base "at_least" 1 ["pairs","least"] 2 kg dq au)(b_2:Binds K au ["pairs","least"] []){dF:Addr}{aX:FuncData}(c_0:CalM P w K mg base "Growing" "counted" aa 3 ["self","pile","least"] 3 yq dF aX)(b_0:Binds K aX ["self","pile","least"] []): FnOk P w K mg base CX0 4 fa fd ["self","pile","least"] (spD K 3 yj):=
 F.okn (k:=3) (n:=3) (ar:=3) (k1:=4) (u:=yi) qa7 rfl rfl rfl fun cdv A outer s H E hr=>by
 show PSs (zw CX0 P w K mg base q22 "Growing.often" (qh jr) fa cdv A outer s H E).nox (qz jr) (tDS K yi);unfold yi;refine(qp ?_);refine(z5 ?_);refine(qw c_2 b_2 hr (by decide) rfl ?_);walk_at "A";refine(qlx aJ c_0 b_0 hr (by decide) ?_ ?_);exact(qa (pv 0));walk_at "A";exact(qa (pv 1));walk_at "A";exact(qa (pv 2));exact qe;walk_at "A";exact(qa (pv 2));exact qe
abbrev q3b:Stmt:=top 37
noncomputable def q8d:List Str:=["some","ware"]
theorem qjw:(q8d).Nodup:=by decide +kernel
theorem qjx:FnScope q8d ["some","ware"] (qh q3b):=⟨rfl,rfl,rfl,qjw,rfl,by decide +kernel,by decide +kernel⟩
theorem qfu:(["other","ware"]:List Str).Nodup:=by decide +kernel
noncomputable def q5d:FS:=(zc (qi ku (qc (eL (zl (jl (eV 0)) [none,some 1] (bN 0) (z7 q4b (eV 0) (eV 1)) (eV 0))) qg)))
noncomputable def q3c:List D->Option D:=zh 2 q5d
theorem qjy{fa:Addr}{dV:Value}{fd:FuncData}(F:Fun2 K "without" "without" q3b dV fa fd)(n_tuple:mg "tuple" = none): FnOk P w K mg base CX0 1 fa fd ["some","ware"] (spD K 2 q3c):=
 F.okn (k:=0) (n:=2) (ar:=2) (k1:=1) (u:=q5d) qjx rfl rfl rfl fun cdv A outer s H E hr=>by
 show PSs (zw CX0 P w K mg base q8d "without" (qh q3b) fa cdv A outer s H E).nox (qz q3b) (tDS K q5d);unfold q5d;refine(qp ?_);refine(z5 ?_);refine(xn (wu) rfl n_tuple DL.boot_tuple ?_);walk_at "A";refine(xh ?_);refine(jd (N':=["other","ware"]) (cap:=[none,some 1]) rfl (zy rfl rfl) (zx rfl) ?_ (fun _ _ _ _ _=>(z8 qfu rfl (Or.inl rfl) (.inr rfl))) (fun _ _ _ _ _=>(q1o ?_)) (fun _ _ _ _ _=>?_));refine(jb ?_);exact(qa (pv 0));refine(zk q4c ?_ ?_);exact(qa (pv 0));exact(qa (pv 1));exact(qa (pv 0));exact qe
abbrev q4r:Stmt:=top 10
noncomputable def qa9:List Str:=["one","other"]
theorem qmo:(qa9).Nodup:=by decide +kernel
theorem qmp:FnScope qa9 ["one","other"] (qh q4r):=⟨rfl,rfl,rfl,qmo,rfl,by decide +kernel,by decide +kernel⟩
noncomputable def q4s:FS:=(zc (qi ku (qc (eL (qj9 (eV 0) (eV 1))) qg)))
noncomputable def q1c:List D->Option D:=zh 2 q4s
theorem qmq{fa:Addr}{dV:Value}{fd:FuncData}(F:Fun2 K "joined" "joined" q4r dV fa fd)(n_tuple:mg "tuple" = none)(n_sorted:mg "sorted" = none)(n_set:mg "set" = none): FnOk P w K mg base CX0 1 fa fd ["one","other"] (spD K 2 q1c):=
 F.okn (k:=0) (n:=2) (ar:=2) (k1:=1) (u:=q4s) qmp rfl rfl rfl fun cdv A outer s H E hr=>by
 show PSs (zw CX0 P w K mg base qa9 "joined" (qh q4r) fa cdv A outer s H E).nox (qz q4r) (tDS K q4s);unfold q4s;refine(qp ?_);refine(z5 ?_);refine(xn (wu) rfl n_tuple DL.boot_tuple ?_);walk_at "A";refine(xh ?_);refine(qrm rfl rfl n_sorted rfl n_set ?_ ?_);exact(qa (pv 0));exact(qa (pv 1));exact qe
abbrev xp:Stmt:=top 36
noncomputable def wg:List Str:=["whom","what","wares"]
theorem q7d:(wg).Nodup:=by decide +kernel
theorem q7e:FnScope wg ["whom","what","wares"] (qh xp):=⟨rfl,rfl,rfl,q7d,rfl,by decide +kernel,by decide +kernel⟩
theorem q5x:(["ware","whom","what"]:List Str).Nodup:=by decide +kernel
noncomputable def y6:FS:=(zc (eL (zl (iR1 (qc (eV 2) qg)) [none,some 0,some 1] (bN 0) (z7 (oIn true) (eV 0) (eV 2)) (zo (qc (qi (qt 2 [] q3c) (qc (eV 1) (qc (eV 0) qg))) (qc (qi (qt 2 [] q1c) (qc (eV 2) (qc (zo (qc (eV 0) qg)) qg))) qg))))))
noncomputable def y8:List D->Option D:=zh 3 y6
theorem q7f{fa:Addr}{dV:Value}{fd:FuncData}(F:Fun2 K "one_step_stronger" "one_step_stronger" xp dV fa fd){gE:Addr}{bE:FuncData}(c_42:Cal P w K mg base "without" 1 ["some","ware"] 2 q3c gE bE)(b_42:Binds K bE ["some","ware"] []){eR:Addr}{aI:FuncData}(c_9:Cal P w K mg base "joined" 1 ["one","other"] 2 q1c eR aI)(b_9:Binds K aI ["one","other"] [])(n_range:mg "range" = none): FnOk P w K mg base CX0 2 fa fd ["whom","what","wares"] (spD K 3 y8):=
 F.okn (k:=1) (n:=3) (ar:=3) (k1:=2) (u:=y6) q7e rfl rfl rfl fun cdv A outer s H E hr=>by
 show PSs (zw CX0 P w K mg base wg "one_step_stronger" (qh xp) fa cdv A outer s H E).nox (qz xp) (tDS K y6);unfold y6;refine(qp ?_);refine(z5 ?_);refine(xh ?_);refine(jd (N':=["ware","whom","what"]) (cap:=[none,some 0,some 1]) rfl (zy rfl rfl) (zx rfl) ?_ (fun _ _ _ _ _=>(z8 q5x rfl (Or.inl rfl) (.inr rfl))) (fun _ _ _ _ _=>(q1o ?_)) (fun _ _ _ _ _=>?_));refine(q1h rfl n_range ?_);walk_at "A";exact(qa (pv 2));exact qe;refine(zk qoc ?_ ?_);exact(qa (pv 0));exact(qa (pv 2));refine(j5 ?_);walk_at "A";refine(qw c_42 b_42 hr (by decide) rfl ?_);walk_at "A";exact(qa (pv 1));walk_at "A";exact(qa (pv 0));exact qe;walk_at "A";refine(qw c_9 b_9 hr (by decide) rfl ?_);walk_at "A";exact(qa (pv 2));walk_at "A";refine(j5 ?_);walk_at "A";exact(qa (pv 0));exact qe;exact qe;exact qe
abbrev q3d:Stmt:=top 35
noncomputable def q8e:List Str:=["saying","known","wares"]
theorem qjz:(q8e).Nodup:=by decide +kernel
theorem qk0:FnScope q8e ["saying","known","wares"] (qh q3d):=⟨rfl,rfl,rfl,qjz,rfl,by decide +kernel,by decide +kernel⟩
theorem qfv:(["stronger","known"]:List Str).Nodup:=by decide +kernel
noncomputable def q5e:FS:=(zc (qi qix (qc (eL (zl (jl (qi (qt 3 [] y8) (qc (eOp oIx (eV 0) (eC (.int 0))) (qc (eOp oIx (eV 0) (eC (.int 1))) (qc (eV 2) qg))))) [none,some 1] (bN 0) zu (eOp q75 (eV 0) (eV 1)))) qg)))
noncomputable def q3e:List D->Option D:=zh 3 q5e
theorem qk1{fa:Addr}{dV:Value}{fd:FuncData}(F:Fun2 K "follows" "follows" q3d dV fa fd){cF:Addr}{ah:FuncData}(c_34:Cal P w K mg base "one_step_stronger" 2 ["whom","what","wares"] 3 y8 cF ah)(b_34:Binds K ah ["whom","what","wares"] [])(n_any:mg "any" = none): FnOk P w K mg base CX0 3 fa fd ["saying","known","wares"] (spD K 3 q3e):=
 F.okn (k:=2) (n:=3) (ar:=3) (k1:=3) (u:=q5e) qk0 rfl rfl rfl fun cdv A outer s H E hr=>by
 show PSs (zw CX0 P w K mg base q8e "follows" (qh q3d) fa cdv A outer s H E).nox (qz q3d) (tDS K q5e);unfold q5e;refine(qp ?_);refine(z5 ?_);refine(zv (qty rfl) rfl n_any DL.boot_any ?_);walk_at "A";refine(xh ?_);refine(jd (N':=["stronger","known"]) (cap:=[none,some 1]) rfl (zy rfl rfl) (zx rfl) ?_ (fun _ _ _ _ _=>(z8 qfv rfl (Or.inl rfl) (.inr rfl))) (fun _ _ _ _ _=>vi) (fun _ _ _ _ _=>?_));refine(jb ?_);refine(qw c_34 b_34 hr (by decide) rfl ?_);walk_at "A";refine(zi ?_ qf);exact(qa (pv 0));walk_at "A";refine(zi ?_ qf);exact(qa (pv 0));walk_at "A";exact(qa (pv 2));exact qe;refine(q1m (qrx hr.units) ?_ ?_);exact(qa (pv 0));exact(qa (pv 1));exact qe
abbrev xb:Stmt:=top 34
noncomputable def yx:List Str:=["told","wares","known"]
theorem q0v:(yx).Nodup:=by decide +kernel
theorem q5y:FnScope yx ["told","wares"] (qh xb):=⟨rfl,rfl,rfl,q0v,rfl,by decide +kernel,by decide +kernel⟩
theorem q4t:(["saying"]:List Str).Nodup:=by decide +kernel
theorem q4u:(["saying","known","wares"]:List Str).Nodup:=by decide +kernel
noncomputable def ve:FS:=(z0 (zr 2 (qi qbd (qc (eL (zl (jl (eV 0)) [none] (bN 0) zu (zo (qc (zo (qc (eOp oIx (eV 0) (eC (.int 0))) (qc (eOp oIx (eV 0) (eC (.int 1))) qg))) (qc (eC (.bl true)) qg))))) qg))) (zc (qi ku (qc (eL (zl (jl (eV 0)) [none,some 2,some 1] (bN 0) zu (eOp zp (eV 0) (zo (qc (qi (qt 3 [] q3e) (qc (eV 0) (qc (eV 1) (qc (eV 2) qg)))) qg))))) qg))))
noncomputable def vf:List D->Option D:=zh 3 ve
theorem q5z{fa:Addr}{dV:Value}{fd:FuncData}(F:Fun2 K "marked_by_following" "marked_by_following" xb dV fa fd){gH:Addr}{bG:FuncData}(c_5:Cal P w K mg base "follows" 3 ["saying","known","wares"] 3 q3e gH bG)(b_5:Binds K bG ["saying","known","wares"] [])(n_dict:mg "dict" = none)(n_tuple:mg "tuple" = none): FnOk P w K mg base CX0 4 fa fd ["told","wares"] (spD K 2 vf):=
 F.okn (k:=3) (n:=3) (ar:=2) (k1:=4) (u:=ve) q5y rfl rfl rfl fun cdv A outer s H E hr=>by
 show PSs (zw CX0 P w K mg base yx "marked_by_following" (qh xb) fa cdv A outer s H E).nox (qz xb) (tDS K ve);unfold ve;refine(ql ?_ ?_);refine(zf (i:=2) ?_ ?_ ?_ ?_ ?_ ?_);exact q0v;exact rfl;exact(Or.inr rfl);refine(xn (qp6 rfl hr.units) rfl n_dict DL.boot_dict ?_);walk_at "A";refine(xh ?_);refine(jd (N':=["saying"]) (cap:=[none]) rfl (zy rfl rfl) (zx rfl) ?_ (fun _ _ _ _ _=>(z8 q4t rfl (Or.inl rfl) (.inr rfl))) (fun _ _ _ _ _=>vi) (fun _ _ _ _ _=>?_));refine(jb ?_);exact(qa (pv 0));refine(j5 ?_);walk_at "A";refine(j5 ?_);walk_at "A";refine(zi ?_ qf);exact(qa (pv 0));walk_at "A";refine(zi ?_ qf);exact(qa (pv 0));exact qe;walk_at "A";exact kf;exact qe;exact qe;exact rfl;walk_at "L";refine(qp ?_);refine(z5 ?_);refine(xn (wu) rfl n_tuple DL.boot_tuple ?_);walk_at "A";refine(xh ?_);refine(jd (N':=["saying","known","wares"]) (cap:=[none,some 2,some 1]) rfl (zy rfl rfl) (zx rfl) ?_ (fun _ _ _ _ _=>(z8 q4u rfl (Or.inl rfl) (.inr rfl))) (fun _ _ _ _ _=>vi) (fun _ _ _ _ _=>?_));refine(jb ?_);exact(qa (pv 0));refine(qk j6 ?_ ?_);exact(qa (pv 0));refine(j5 ?_);walk_at "A";refine(qw c_5 b_5 hr (by decide) rfl ?_);walk_at "A";exact(qa (pv 0));walk_at "A";exact(qa (pv 1));walk_at "A";exact(qa (pv 2));exact qe;exact qe;exact qe
abbrev q0w:Stmt:=top 33
noncomputable def q60:List Str:=["whom","what","counts","number","chance"]
theorem q4v:(q60).Nodup:=by decide +kernel
theorem qfw:FnScope q60 ["whom","what","counts"] (qh q0w):=⟨rfl,rfl,rfl,q4v,rfl,by decide +kernel,by decide +kernel⟩
noncomputable def q2r:FS:=(z0 (zr 3 (qjc (eV 2) (qc (qi (qt 2 [] q1c) (qc (eV 0) (qc (eV 1) qg))) (qc (eC (.int 0)) qg)))) (z0 (zr 4 (qi (qt 2 [] q2g) (qc (eOp zt (eV 3) (eOp q58 (eV 2) (zo qg))) (qc (eOp zt (eOp q58 (eV 2) (eV 0)) (eOp q58 (eV 2) (eV 1))) qg)))) (zc (zo (qc (eV 0) (qc (eV 1) (qc (eV 3) (qc (qi (qt 2 [] q2g) (qc (eV 3) (qc (eOp q58 (eV 2) (eV 0)) qg))) (qc (eV 4) qg)))))))))
noncomputable def yp:List D->Option D:=zh 5 q2r
theorem qfx{fa:Addr}{dV:Value}{fd:FuncData}(F:Fun2 K "saying_of" "saying_of" q0w dV fa fd){fH:Addr}{aV:FuncData}(c_40:Cal P w K mg base "share" 2 ["top","bottom"] 2 q2g fH aV)(b_40:Binds K aV ["top","bottom"] []){eR:Addr}{aI:FuncData}(c_9:Cal P w K mg base "joined" 1 ["one","other"] 2 q1c eR aI)(b_9:Binds K aI ["one","other"] []): FnOk P w K mg base CX0 3 fa fd ["whom","what","counts"] (spD K 3 yp):=
 F.okn (k:=2) (n:=5) (ar:=3) (k1:=3) (u:=q2r) qfw rfl rfl rfl fun cdv A outer s H E hr=>by
 show PSs (zw CX0 P w K mg base q60 "saying_of" (qh q0w) fa cdv A outer s H E).nox (qz q0w) (tDS K q2r);unfold q2r;refine(ql ?_ ?_);refine(zf (i:=3) ?_ ?_ ?_ ?_ ?_ ?_);exact q4v;exact rfl;exact(Or.inl rfl);refine(quh hr.units ?_ ?_);exact(qa (pv 2));walk_at "A";refine(qw c_9 b_9 hr (by decide) rfl ?_);walk_at "A";exact(qa (pv 0));walk_at "A";exact(qa (pv 1));exact qe;walk_at "A";exact qf;exact qe;exact rfl;walk_at "L";refine(ql ?_ ?_);refine(zf (i:=4) ?_ ?_ ?_ ?_ ?_ ?_);exact q4v;exact rfl;exact(Or.inl rfl);refine(qw c_40 b_40 hr (by decide) rfl ?_);walk_at "A";refine(qk je ?_ ?_);exact(qa (pv 3));refine(qb6 hr.units ?_ ?_);exact(qa (pv 2));exact(j5 qe);walk_at "A";refine(qk je ?_ ?_);refine(qb6 hr.units ?_ ?_);exact(qa (pv 2));exact(qa (pv 0));refine(qb6 hr.units ?_ ?_);exact(qa (pv 2));exact(qa (pv 1));exact qe;exact rfl;walk_at "L";refine(qp ?_);refine(z5 ?_);refine(j5 ?_);walk_at "A";exact(qa (pv 0));walk_at "A";exact(qa (pv 1));walk_at "A";exact(qa (pv 3));walk_at "A";refine(qw c_40 b_40 hr (by decide) rfl ?_);walk_at "A";exact(qa (pv 3));walk_at "A";refine(qb6 hr.units ?_ ?_);exact(qa (pv 2));exact(qa (pv 0));exact qe;walk_at "A";exact(qa (pv 4));exact qe
abbrev qbg:Stmt:=top 9
noncomputable def qk2:List Str:=["one","other"]
theorem quq:(qk2).Nodup:=by decide +kernel
theorem qur:FnScope qk2 ["one","other"] (qh qbg):=⟨rfl,rfl,rfl,quq,rfl,by decide +kernel,by decide +kernel⟩
theorem qpc:(["ware","other"]:List Str).Nodup:=by decide +kernel
noncomputable def qe2:FS:=(zc (qi ku (qc (eL (zl (jl (eV 0)) [none,some 1] (bN 0) (z7 (oIn false) (eV 0) (eV 1)) (eV 0))) qg)))
noncomputable def q92:List D->Option D:=zh 2 qe2
theorem qus{fa:Addr}{dV:Value}{fd:FuncData}(F:Fun2 K "met" "met" qbg dV fa fd)(n_tuple:mg "tuple" = none): FnOk P w K mg base CX0 1 fa fd ["one","other"] (spD K 2 q92):=
 F.okn (k:=0) (n:=2) (ar:=2) (k1:=1) (u:=qe2) qur rfl rfl rfl fun cdv A outer s H E hr=>by
 show PSs (zw CX0 P w K mg base qk2 "met" (qh qbg) fa cdv A outer s H E).nox (qz qbg) (tDS K qe2);unfold qe2;refine(qp ?_);refine(z5 ?_);refine(xn (wu) rfl n_tuple DL.boot_tuple ?_);walk_at "A";refine(xh ?_);refine(jd (N':=["ware","other"]) (cap:=[none,some 1]) rfl (zy rfl rfl) (zx rfl) ?_ (fun _ _ _ _ _=>(z8 qpc rfl (Or.inl rfl) (.inr rfl))) (fun _ _ _ _ _=>(q1o ?_)) (fun _ _ _ _ _=>?_));refine(jb ?_);exact(qa (pv 0));refine(zk qw5 ?_ ?_);exact(qa (pv 0));exact(qa (pv 1));exact(qa (pv 0));exact qe
abbrev q0x:Stmt:=top 32
noncomputable def q61:List Str:=["whom","counts"]
theorem qfy:(q61).Nodup:=by decide +kernel
theorem qfz:FnScope q61 ["whom","counts"] (qh q0x):=⟨rfl,rfl,rfl,qfy,rfl,by decide +kernel,by decide +kernel⟩
theorem qck:(["what","whom"]:List Str).Nodup:=by decide +kernel
noncomputable def q2s:FS:=(zc (eL (zl (qjb (eV 1)) [none,some 0] (bN 0) (vh (z7 q6x (eV 0) (zo qg)) (z7 oEq (qi (qt 2 [] q92) (qc (eV 1) (qc (eV 0) qg))) (zo qg))) (eV 0))))
noncomputable def q2t:List D->Option D:=zh 2 q2s
theorem qg0{fa:Addr}{dV:Value}{fd:FuncData}(F:Fun2 K "whats_for" "whats_for" q0x dV fa fd){gQ:Addr}{fA:FuncData}(c_33:Cal P w K mg base "met" 1 ["one","other"] 2 q92 gQ fA)(b_33:Binds K fA ["one","other"] []): FnOk P w K mg base CX0 2 fa fd ["whom","counts"] (spD K 2 q2t):=
 F.okn (k:=1) (n:=2) (ar:=2) (k1:=2) (u:=q2s) qfz rfl rfl rfl fun cdv A outer s H E hr=>by
 show PSs (zw CX0 P w K mg base q61 "whats_for" (qh q0x) fa cdv A outer s H E).nox (qz q0x) (tDS K q2s);unfold q2s;refine(qp ?_);refine(z5 ?_);refine(xh ?_);refine(jd (N':=["what","whom"]) (cap:=[none,some 0]) rfl (zy rfl rfl) (zx rfl) ?_ (fun _ _ _ _ _=>(z8 qck rfl (Or.inl rfl) (.inr rfl))) (fun _ _ _ _ _=>(q1o ?_)) (fun _ _ _ _ _=>?_));refine(qma ?_);exact(qa (pv 1));refine(PW.pt (q1n ?_ (q2c ?_)));refine(zk (qlu hr.units) ?_ ?_);exact(qa (pv 0));exact(j5 qe);refine(zk (vc hr.units) ?_ ?_);refine(qw c_33 b_33 hr (by decide) rfl ?_);walk_at "A";exact(qa (pv 1));walk_at "A";exact(qa (pv 0));exact qe;exact(j5 qe);exact(qa (pv 0))
abbrev q3f:Stmt:=top 27
noncomputable def q8f:List Str:=["one","other"]
theorem qk3:(q8f).Nodup:=by decide +kernel
theorem qk4:FnScope q8f ["one","other"] (qh q3f):=⟨rfl,rfl,rfl,qk3,rfl,by decide +kernel,by decide +kernel⟩
noncomputable def q3g:FS:=(zc (eOp oGe (eOp zt (eOp oIx (eV 0) (eC (.int 0))) (eOp oIx (eV 1) (eC (.int 1)))) (eOp zt (eOp oIx (eV 1) (eC (.int 0))) (eOp oIx (eV 0) (eC (.int 1))))))
noncomputable def yk:List D->Option D:=zh 2 q3g
theorem qk5{fa:Addr}{dV:Value}{fd:FuncData}(F:Fun2 K "reaches" "reaches" q3f dV fa fd): FnOk P w K mg base CX0 1 fa fd ["one","other"] (spD K 2 yk):=
 F.okn (k:=0) (n:=2) (ar:=2) (k1:=1) (u:=q3g) qk4 rfl rfl rfl fun cdv A outer s H E hr=>by
 show PSs (zw CX0 P w K mg base q8f "reaches" (qh q3f) fa cdv A outer s H E).nox (qz q3f) (tDS K q3g);unfold q3g;refine(qp ?_);refine(z5 ?_);refine(q1m q6s ?_ ?_);refine(qk je ?_ ?_);refine(zi ?_ qf);exact(qa (pv 0));refine(zi ?_ qf);exact(qa (pv 1));refine(qk je ?_ ?_);refine(zi ?_ qf);exact(qa (pv 1));refine(zi ?_ qf);exact(qa (pv 0))
abbrev kb:Stmt:=top 30
noncomputable def q8g:List Str:=["pile","least","bound","asked","counts","told","whom","said"]
theorem aq:(q8g).Nodup:=by decide +kernel
theorem qk6:FnScope q8g ["pile","least","bound"] (qh kb):=⟨rfl,rfl,rfl,aq,rfl,by decide +kernel,by decide +kernel⟩
theorem qg1:(["what","whom","counts"]:List Str).Nodup:=by decide +kernel
theorem qg2:(["saying","least","asked"]:List Str).Nodup:=by decide +kernel
noncomputable def q4w:FS:=(z0 (q18 7 (zl (jl (qi (qt 2 [] q2t) (qc (eV 6) (qc (eV 4) qg)))) [none,some 6,some 4] (bN 0) zu (qi (qt 3 [] yp) (qc (eV 1) (qc (eV 0) (qc (eV 2) qg)))))) (wc 7 (qc2 5 (eL (zl (jl (eV 7)) [none,some 1,some 3] (bN 0) (vh (z7 oGe (eOp oIx (eV 0) (eC (.int 2))) (eV 1)) (bT (qi (qt 2 [] yk) (qc (eOp oIx (eV 0) (eC (.int 3))) (qc (eV 2) qg))))) (eV 0))))))
noncomputable def q5f:FS:=(z0 (zr 3 (qi (qt 1 [] q40) (qc (eV 2) qg))) (z0 (sIf (z7 oGt (eOp oIx (eV 0) (eC (.int 0))) (eC (.int 8))) qb0 jv) (z0 (zr 4 (qi qb7 (qc (qc3 "Growing" 3 yj (eC (.obj "Growing")) (qc (eV 0) (qc (eC (.int 1)) qg))) qg))) (z0 (q18 5 (q0f qg)) (z0 (wq (qjb (eV 4)) (bN 6) q4w) (wc 7 (wc 5 (zc (qi (qt 2 [] vf) (qc (eV 5) (qc (eOp oIx (eV 0) (eC (.int 0))) qg)))))))))))
noncomputable def kc:List D->Option D:=zh 8 q5f
theorem qk7{fa:Addr}{dV:Value}{fd:FuncData}(F:Fun2 K "sayings" "sayings" kb dV fa fd){aa:Addr}(aJ:ClsOk K "Growing" aa)(dS:mg "Growing" = some (.ref aa)){gA:Addr}{bh:FuncData}(c_3:Cal P w K mg base "bound_of" 3 ["thing"] 1 q40 gA bh)(b_3:Binds K bh ["thing"] []){eI:Addr}{bz:FuncData}(c_1:CalM P w K mg base "Growing" "often" aa 4 ["self","pile","least"] 3 yj eI bz)(b_1:Binds K bz ["self","pile","least"] []){bQ:Addr}{af:FuncData}(c_32:Cal P w K mg base "marked_by_following" 4 ["told","wares"] 2 vf bQ af)(b_32:Binds K af ["told","wares"] []){fW:Addr}{aR:FuncData}(c_38:Cal P w K mg base "saying_of" 3 ["whom","what","counts"] 3 yp fW aR)(b_38:Binds K aR ["whom","what","counts"] []){fV:Addr}{aQ:FuncData}(c_41:Cal P w K mg base "whats_for" 2 ["whom","counts"] 2 q2t fV aQ)(b_41:Binds K aQ ["whom","counts"] []){gG:Addr}{bF:FuncData}(c_37:Cal P w K mg base "reaches" 1 ["one","other"] 2 yk gG bF)(b_37:Binds K bF ["one","other"] [])(n_dict:mg "dict" = none)(g_MOST_WARES_SAID:∃t,mg "MOST_WARES_SAID" = some (.int 8 t)): FnOk P w K mg base CX0 5 fa fd ["pile","least","bound"] (spD K 3 kc):=
 F.okn (k:=4) (n:=8) (ar:=3) (k1:=5) (u:=q5f) qk6 rfl rfl rfl fun cdv A outer s H E hr=>by
 show PSs (zw CX0 P w K mg base q8g "sayings" (qh kb) fa cdv A outer s H E).nox (qz kb) (tDS K q5f);unfold q5f q4w;refine(ql ?_ ?_);refine(zf (i:=3) ?_ ?_ ?_ ?_ ?_ ?_);exact aq;exact rfl;exact(Or.inr rfl);refine(qw c_3 b_3 hr (by decide) rfl ?_);walk_at "A";exact(qa (pv 2));exact qe;exact rfl;walk_at "L";refine(ql ?_ ?_);refine(jg ?_ (qp q9v) j8);refine(zk qas ?_ ?_);refine(zi ?_ qf);exact(qa (pv 0));exact(qrb rfl g_MOST_WARES_SAID);refine(ql ?_ ?_);refine(zf (i:=4) ?_ ?_ ?_ ?_ ?_ ?_);exact aq;exact rfl;exact(Or.inr rfl);refine(xn (qow rfl hr.units) rfl n_dict DL.boot_dict ?_);walk_at "A";refine(qlx aJ c_1 b_1 hr (by decide) ?_ ?_);exact(qua aJ dS rfl);walk_at "A";exact(qa (pv 0));walk_at "A";exact qf;exact qe;exact qe;exact rfl;walk_at "L";refine(ql ?_ ?_);exact(q6c (i:=5) aq rfl (Or.inl rfl) (wm qe));refine(ql ?_ ?_);refine(kr pd rfl ?_ (z8 aq rfl (Or.inr rfl) (.inl rfl)) (ql ?_ ?_));refine(qma ?_);exact(qa (pv 4));refine(qby (i:=7) rfl aq rfl rfl (N':=["what","whom","counts"]) (cap:=[none,some 6,some 4]) (zy rfl rfl) (zx rfl) ?_ (fun _ _ _ _ _=>(z8 qg1 rfl (Or.inl rfl) (.inr rfl))) (fun _ _ _ _ _=>vi) (fun _ _ _ _ _=>?_));refine(jb ?_);refine(qw c_41 b_41 hr (by decide) rfl ?_);walk_at "A";exact(qa (pv 6));walk_at "A";exact(qa (pv 4));exact qe;refine(qw c_38 b_38 hr (by decide) rfl ?_);walk_at "A";exact(qa (pv 1));walk_at "A";exact(qa (pv 0));walk_at "A";exact(qa (pv 2));exact qe;refine(wo 7 (qp ?_));refine(qlt (pv 5) ?_);refine(xh ?_);refine(jd (N':=["saying","least","asked"]) (cap:=[none,some 1,some 3]) rfl (zy rfl rfl) (zx rfl) ?_ (fun _ _ _ _ _=>(z8 qg2 rfl (Or.inl rfl) (.inr rfl))) (fun _ _ _ _ _=>(q1o ?_)) (fun _ _ _ _ _=>?_));refine(jb ?_);exact(qa (pv 7));refine(PW.pt (q1n ?_ (q2c ?_)));refine(zk q6s ?_ ?_);refine(zi ?_ qf);exact(qa (pv 0));exact(qa (pv 1));refine(x5 ?_);refine(qw c_37 b_37 hr (by decide) rfl ?_);walk_at "A";refine(zi ?_ qf);exact(qa (pv 0));walk_at "A";exact(qa (pv 2));exact qe;exact(qa (pv 0));refine(wo 7 (wo 5 (qp ?_)));refine(z5 ?_);refine(qw c_32 b_32 hr (by decide) rfl ?_);walk_at "A";exact(qa (pv 5));walk_at "A";refine(zi ?_ qf);exact(qa (pv 0));exact qe
abbrev q23:Stmt:=top 52
noncomputable def q7g:List Str:=["_law_pile_here","_law_least_here","_law_bound_here"]
theorem qhd:(q7g).Nodup:=by decide +kernel
theorem qhe:FnScope q7g ["_law_pile_here","_law_least_here","_law_bound_here"] (qh q23):=⟨rfl,rfl,rfl,qhd,rfl,by decide +kernel,by decide +kernel⟩
noncomputable def q41:FS:=(z0 (sIf (vh (z7 (oIs false) (eV 2) (eC .non)) (z7 oEq (eOp oMod (eV 1) (eC (.int 2))) (eC (.int 1)))) (zc (qi (qt 3 [.non] kc) (qc (eV 0) (qc (eV 1) qg)))) jv) (zc (qi (qt 3 [] kc) (qc (eV 0) (qc (eV 1) (qc (eV 2) qg))))))
noncomputable def q42:List D->Option D:=zh 3 q41
theorem qhf{fa:Addr}{dV:Value}{fd:FuncData}(F:Fun2 K "_law_said" "_law_said" q23 dV fa fd){gF:Addr}{cZ:FuncData}(c_39:Cal P w K mg base "sayings" 5 ["pile","least","bound"] 3 kc gF cZ)(b_39:Binds K cZ ["pile","least","bound"] []){cN:List V}{dv_l_sayings_1:List Value}(bJ:Binds K cZ ["pile","least","bound"] dv_l_sayings_1)(bH:Vals cN dv_l_sayings_1)(bI:∀ {H:Hp},RepL K H [.non] cN): FnOk P w K mg base CX0 6 fa fd ["_law_pile_here","_law_least_here","_law_bound_here"] (spD K 3 q42):=
 F.okn (k:=5) (n:=3) (ar:=3) (k1:=6) (u:=q41) qhe rfl rfl rfl fun cdv A outer s H E hr=>by
 show PSs (zw CX0 P w K mg base q7g "_law_said" (qh q23) fa cdv A outer s H E).nox (qz q23) (tDS K q41);unfold q41;refine(ql ?_ ?_);refine(jg ?_ (qp ?_) j8);refine(PW.pt (q1n ?_ (q2c ?_)));refine(zk (qj3 rfl) ?_ qap);exact(qa (pv 2));refine(zk (vc hr.units) ?_ qf);refine(qk j3 ?_ qf);exact(qa (pv 1));refine(z5 ?_);refine(qra c_39 bJ bH (fun _=>bI) hr (by decide) rfl ?_);walk_at "A";exact(qa (pv 0));walk_at "A";exact(qa (pv 1));exact qe;refine(qp ?_);refine(z5 ?_);refine(qw c_39 b_39 hr (by decide) rfl ?_);walk_at "A";exact(qa (pv 0));walk_at "A";exact(qa (pv 1));walk_at "A";exact(qa (pv 2));exact qe
abbrev yy:Stmt:=top 48
noncomputable def q2i:List Str:=["_law_marks_here","_law_sets"]
theorem q5g:(q2i).Nodup:=by decide +kernel
theorem qbh:FnScope q2i ["_law_marks_here"] (qh yy):=⟨rfl,rfl,rfl,q5g,rfl,by decide +kernel,by decide +kernel⟩
theorem q9d:(["_law_mark"]:List Str).Nodup:=by decide +kernel
theorem q0i:(["_law_size","_law_some","_law_mark"]:List Str).Nodup:=by decide +kernel
noncomputable def q0d:FS:=(z0 (q18 1 (zl (jl (eV 0)) [none] (bN 0) zu (zo (qc (qi xi (qc (qi (qt 1 [] jf) (qc (eV 0) qg)) qg)) (qc (qi (qt 1 [] jf) (qc (eV 0) qg)) (qc (eV 0) qg)))))) (wc 1 (zc (eL (zl (jl (eL (qdx qfd (qc (eV 1) qg)))) [none,none,none] (we 3 (jh (bN 0) (jh (bN 1) (jh (bN 2) wd)))) zu (eV 2))))))
noncomputable def yz:List D->Option D:=zh 2 q0d
theorem qbi{fa:Addr}{dV:Value}{fd:FuncData}(F:Fun2 K "_law_in_order" "_law_in_order" yy dV fa fd){av:Addr}{ae:FuncData}(c_20:Cal P w K mg base "_law_of_mark" 1 ["_law_mark"] 1 jf av ae)(b_20:Binds K ae ["_law_mark"] [])(n_len:mg "len" = none)(n_sorted:mg "sorted" = none): FnOk P w K mg base CX0 2 fa fd ["_law_marks_here"] (spD K 1 yz):=
 F.okn (k:=1) (n:=2) (ar:=1) (k1:=2) (u:=q0d) qbh rfl rfl rfl fun cdv A outer s H E hr=>by
 show PSs (zw CX0 P w K mg base q2i "_law_in_order" (qh yy) fa cdv A outer s H E).nox (qz yy) (tDS K q0d);unfold q0d;refine(ql ?_ ?_);refine(qby (i:=1) rfl q5g rfl rfl (N':=["_law_mark"]) (cap:=[none]) (zy rfl rfl) (zx rfl) ?_ (fun _ _ _ _ _=>(z8 q9d rfl (Or.inl rfl) (.inr rfl))) (fun _ _ _ _ _=>vi) (fun _ _ _ _ _=>?_));refine(jb ?_);exact(qa (pv 0));refine(j5 ?_);walk_at "A";refine(zv (xj) rfl n_len DL.j7 ?_);walk_at "A";refine(qw c_20 b_20 hr (by decide) rfl ?_);walk_at "A";exact(qa (pv 0));exact qe;exact qe;walk_at "A";refine(qw c_20 b_20 hr (by decide) rfl ?_);walk_at "A";exact(qa (pv 0));exact qe;walk_at "A";exact(qa (pv 0));exact qe;refine(wo 1 (qp ?_));refine(z5 ?_);refine(xh ?_);refine(jd (N':=["_law_size","_law_some","_law_mark"]) (cap:=[none,none,none]) rfl (zy rfl rfl) (q32 (jw rfl (jw rfl (jw rfl q1p)))) ?_ (fun _ _ _ _ _=>(q31 rfl (x6 (z8 q0i rfl (Or.inl rfl) (.inr rfl)) (x6 (z8 q0i rfl (Or.inl rfl) (.inr rfl)) (x6 (z8 q0i rfl (Or.inl rfl) (.inr rfl)) q30))))) (fun _ _ _ _ _=>vi) (fun _ _ _ _ _=>?_));refine(jb ?_);refine(xh ?_);refine(qoa (qp4 hr.units) rfl n_sorted DL.boot_sorted ?_);walk_at "A";exact(qa (pv 1));exact qe;exact(qa (pv 2))
abbrev q0y:Stmt:=top 47
noncomputable def q62:List Str:=["_law_found","_law_due_here"]
theorem qg3:(q62).Nodup:=by decide +kernel
theorem qg4:FnScope q62 ["_law_found","_law_due_here"] (qh q0y):=⟨rfl,rfl,rfl,qg3,rfl,by decide +kernel,by decide +kernel⟩
noncomputable def q2u:FS:=(zc (q5m (q1q .int (eV 0)) (q5m (qbx (q1q .bool (eV 0))) (eOp oEq (eV 0) (eV 1)))))
noncomputable def xw:List D->Option D:=zh 2 q2u
theorem qg5{fa:Addr}{dV:Value}{fd:FuncData}(F:Fun2 K "_law_whole" "_law_whole" q0y dV fa fd)(n_isinstance:mg "isinstance" = none)(n_int:mg "int" = none)(n_bool:mg "bool" = none): FnOk P w K mg base CX0 1 fa fd ["_law_found","_law_due_here"] (spD K 2 xw):=
 F.okn (k:=0) (n:=2) (ar:=2) (k1:=1) (u:=q2u) qg4 rfl rfl rfl fun cdv A outer s H E hr=>by
 show PSs (zw CX0 P w K mg base q62 "_law_whole" (qh q0y) fa cdv A outer s H E).nox (qz q0y) (tDS K q2u);unfold q2u;refine(qp ?_);refine(z5 ?_);refine(q6b ?_ (q6b ?_ (qat ?_)));refine(q0l .int rfl n_isinstance rfl n_int DL.boot_int ?_);exact(qa (pv 0));refine(qlh ?_);refine(q0l .bool rfl n_isinstance rfl n_bool DL.boot_bool ?_);exact(qa (pv 0));refine(q1m (vc hr.units) ?_ ?_);exact(qa (pv 0));exact(qa (pv 1))
abbrev vy:Stmt:=top 54
noncomputable def q1d:List Str:=["_law_found","_law_due_here"]
theorem q9e:(q1d).Nodup:=by decide +kernel
theorem q9f:FnScope q1d ["_law_found","_law_due_here"] (qh vy):=⟨rfl,rfl,rfl,q9e,rfl,by decide +kernel,by decide +kernel⟩
noncomputable def ki:FS:=(z0 (sIf (bOr (wb (bT (q1q .tuple (eV 0)))) (z7 q4b (qi xi (qc (eV 0) qg)) (eC (.int 2)))) (zc (eC (.bl false))) jv) (zc (q5m (qi (qt 2 [] xw) (qc (eOp oIx (eV 0) (eC (.int 0))) (qc (eOp oIx (eV 1) (eC (.int 0))) qg))) (qi (qt 2 [] xw) (qc (eOp oIx (eV 0) (eC (.int 1))) (qc (eOp oIx (eV 1) (eC (.int 1))) qg))))))
noncomputable def vz:List D->Option D:=zh 2 ki
theorem q9g{fa:Addr}{dV:Value}{fd:FuncData}(F:Fun2 K "_law_two_shares" "_law_two_shares" vy dV fa fd){aF:Addr}{ag:FuncData}(c_29:Cal P w K mg base "_law_whole" 1 ["_law_found","_law_due_here"] 2 xw aF ag)(b_29:Binds K ag ["_law_found","_law_due_here"] [])(n_isinstance:mg "isinstance" = none)(n_tuple:mg "tuple" = none)(n_len:mg "len" = none): FnOk P w K mg base CX0 2 fa fd ["_law_found","_law_due_here"] (spD K 2 vz):=
 F.okn (k:=1) (n:=2) (ar:=2) (k1:=2) (u:=ki) q9f rfl rfl rfl fun cdv A outer s H E hr=>by
 show PSs (zw CX0 P w K mg base q1d "_law_two_shares" (qh vy) fa cdv A outer s H E).nox (qz vy) (tDS K ki);unfold ki;refine(ql ?_ ?_);refine(jg ?_ (qp ?_) j8);refine(PW.pt (q3w ?_ (q4d ?_)));refine(yc ?_);refine(x5 ?_);refine(q0l .tuple rfl n_isinstance rfl n_tuple DL.boot_tuple ?_);exact(qa (pv 0));refine(zk q4c ?_ qf);refine(zv (xj) rfl n_len DL.j7 ?_);walk_at "A";exact(qa (pv 0));exact qe;exact(z5 kf);refine(qp ?_);refine(z5 ?_);refine(q6b ?_ (qat ?_));refine(qw c_29 b_29 hr (by decide) rfl ?_);walk_at "A";refine(zi ?_ qf);exact(qa (pv 0));walk_at "A";refine(zi ?_ qf);exact(qa (pv 1));exact qe;refine(qw c_29 b_29 hr (by decide) rfl ?_);walk_at "A";refine(zi ?_ qf);exact(qa (pv 0));walk_at "A";refine(zi ?_ qf);exact(qa (pv 1));exact qe
abbrev q3h:Stmt:=top 55
noncomputable def q8h:List Str:=["_law_found","_law_due_here","_law_one","_law_other"]
theorem q7h:(q8h).Nodup:=by decide +kernel
theorem qk8:FnScope q8h ["_law_found","_law_due_here"] (qh q3h):=⟨rfl,rfl,rfl,q7h,rfl,by decide +kernel,by decide +kernel⟩
noncomputable def q4x:FS:=(sIf (wb (bT (qi (qt 2 [] xw) (qc (eV 2) (qc (eV 3) qg))))) (zc (eC (.bl false))) jv)
noncomputable def q5h:FS:=(z0 (sIf (bOr (wb (bT (q1q .tuple (eV 0)))) (z7 q4b (qi xi (qc (eV 0) qg)) (qi xi (qc (eV 1) qg)))) (zc (eC (.bl false))) jv) (z0 (wq (qj2 (qc (eV 0) (qc (eV 1) qg))) (we 2 (jh (bN 2) (jh (bN 3) wd))) q4x) (zc (eC (.bl true)))))
noncomputable def q3i:List D->Option D:=zh 4 q5h
theorem qk9{fa:Addr}{dV:Value}{fd:FuncData}(F:Fun2 K "_law_row" "_law_row" q3h dV fa fd){aF:Addr}{ag:FuncData}(c_29:Cal P w K mg base "_law_whole" 1 ["_law_found","_law_due_here"] 2 xw aF ag)(b_29:Binds K ag ["_law_found","_law_due_here"] [])(n_zip:mg "zip" = none)(n_isinstance:mg "isinstance" = none)(n_tuple:mg "tuple" = none)(n_len:mg "len" = none): FnOk P w K mg base CX0 2 fa fd ["_law_found","_law_due_here"] (spD K 2 q3i):=
 F.okn (k:=1) (n:=4) (ar:=2) (k1:=2) (u:=q5h) qk8 rfl rfl rfl fun cdv A outer s H E hr=>by
 show PSs (zw CX0 P w K mg base q8h "_law_row" (qh q3h) fa cdv A outer s H E).nox (qz q3h) (tDS K q5h);unfold q5h q4x;refine(ql ?_ ?_);refine(jg ?_ (qp ?_) j8);refine(PW.pt (q3w ?_ (q4d ?_)));refine(yc ?_);refine(x5 ?_);refine(q0l .tuple rfl n_isinstance rfl n_tuple DL.boot_tuple ?_);exact(qa (pv 0));refine(zk q4c ?_ ?_);refine(zv (xj) rfl n_len DL.j7 ?_);walk_at "A";exact(qa (pv 0));exact qe;refine(zv (xj) rfl n_len DL.j7 ?_);walk_at "A";exact(qa (pv 1));exact qe;exact(z5 kf);refine(ql ?_ ?_);refine(kr pd rfl ?_ (q31 rfl (x6 (z8 q7h rfl (Or.inl rfl) (.inl rfl)) (x6 (z8 q7h rfl (Or.inl rfl) (.inl rfl)) q30))) (qp ?_));refine(qu4 rfl n_zip ?_);walk_at "A";exact(qa (pv 0));walk_at "A";exact(qa (pv 1));exact qe;refine(jg ?_ (qp ?_) j8);refine(yc ?_);refine(x5 ?_);refine(qw c_29 b_29 hr (by decide) rfl ?_);walk_at "A";exact(qa (pv 2));walk_at "A";exact(qa (pv 3));exact qe;exact(z5 kf);refine(qp ?_);exact(z5 kf)
abbrev q03:Stmt:=top 49
noncomputable def q4y:List Str:=["_law_one","_law_other"]
theorem q3r:(q4y).Nodup:=by decide +kernel
theorem qdr:FnScope q4y ["_law_one","_law_other"] (qh q03):=⟨rfl,rfl,rfl,q3r,rfl,by decide +kernel,by decide +kernel⟩
noncomputable def yl:FS:=(sIf (z7 oGe (eV 0) (eV 1)) (zr 0 (eOp oMod (eV 0) (eV 1))) (zr 1 (eOp oMod (eV 1) (eV 0))))
noncomputable def q04:FS:=(z0 (jm (vh (z7 oGt (eV 0) (eC (.int 0))) (z7 oGt (eV 1) (eC (.int 0)))) yl 100000) (zc (eOp zp (eV 0) (eV 1))))
noncomputable def q24:List D->Option D:=zh 2 q04
theorem qds{fa:Addr}{dV:Value}{fd:FuncData}(F:Fun2 K "_law_common" "_law_common" q03 dV fa fd): FnOk P w K mg base CX0 1 fa fd ["_law_one","_law_other"] (spD K 2 q24):=
 F.okn (k:=0) (n:=2) (ar:=2) (k1:=1) (u:=q04) qdr rfl rfl rfl fun cdv A outer s H E hr=>by
 show PSs (zw CX0 P w K mg base q4y "_law_common" (qh q03) fa cdv A outer s H E).nox (qz q03) (tDS K q04);unfold q04 yl;refine(ql ?_ ?_);refine(q9r 100000 pd ?_ (qp ?_));refine(PW.pt (q1n ?_ (q2c ?_)));refine(zk qas ?_ qf);exact(qa (pv 0));refine(zk qas ?_ qf);exact(qa (pv 1));refine(jg ?_ (qp ?_) (qp ?_));refine(zk q6s ?_ ?_);exact(qa (pv 0));exact(qa (pv 1));refine(zf (i:=0) ?_ ?_ ?_ ?_ ?_ ?_);exact q3r;exact rfl;exact(Or.inl rfl);refine(qk j3 ?_ ?_);exact(qa (pv 0));exact(qa (pv 1));exact rfl;walk_at "L";refine(zf (i:=1) ?_ ?_ ?_ ?_ ?_ ?_);exact q3r;exact rfl;exact(Or.inl rfl);refine(qk j3 ?_ ?_);exact(qa (pv 1));exact(qa (pv 0));exact rfl;walk_at "L";refine(qp ?_);refine(z5 ?_);refine(qk j6 ?_ ?_);exact(qa (pv 0));exact(qa (pv 1))
abbrev q0z:Stmt:=top 50
noncomputable def q63:List Str:=["_law_top","_law_bottom","_law_divisor"]
theorem q8i:(q63).Nodup:=by decide +kernel
theorem qg6:FnScope q63 ["_law_top","_law_bottom"] (qh q0z):=⟨rfl,rfl,rfl,q8i,rfl,by decide +kernel,by decide +kernel⟩
noncomputable def q2v:FS:=(z0 (zr 2 (qi (qt 2 [] q24) (qc (eV 0) (qc (eV 1) qg)))) (zc (zo (qc (eOp oDivB (eV 0) (eV 2)) (qc (eOp oDivB (eV 1) (eV 2)) qg)))))
noncomputable def q10:List D->Option D:=zh 3 q2v
theorem qg7{fa:Addr}{dV:Value}{fd:FuncData}(F:Fun2 K "_law_share" "_law_share" q0z dV fa fd){fq:Addr}{cj:FuncData}(c_12:Cal P w K mg base "_law_common" 1 ["_law_one","_law_other"] 2 q24 fq cj)(b_12:Binds K cj ["_law_one","_law_other"] []): FnOk P w K mg base CX0 2 fa fd ["_law_top","_law_bottom"] (spD K 2 q10):=
 F.okn (k:=1) (n:=3) (ar:=2) (k1:=2) (u:=q2v) qg6 rfl rfl rfl fun cdv A outer s H E hr=>by
 show PSs (zw CX0 P w K mg base q63 "_law_share" (qh q0z) fa cdv A outer s H E).nox (qz q0z) (tDS K q2v);unfold q2v;refine(ql ?_ ?_);refine(zf (i:=2) ?_ ?_ ?_ ?_ ?_ ?_);exact q8i;exact rfl;exact(Or.inl rfl);refine(qw c_12 b_12 hr (by decide) rfl ?_);walk_at "A";exact(qa (pv 0));walk_at "A";exact(qa (pv 1));exact qe;exact rfl;walk_at "L";refine(qp ?_);refine(z5 ?_);refine(j5 ?_);walk_at "A";refine(qk q46 ?_ ?_);exact(qa (pv 0));exact(qa (pv 2));walk_at "A";refine(qk q46 ?_ ?_);exact(qa (pv 1));exact(qa (pv 2));exact qe
abbrev w8:Stmt:=top 57
noncomputable def q3s:List Str:=["_law_due_here","_law_whom","_law_both","_law_one","_law_other"]
theorem q2j:(q3s).Nodup:=by decide +kernel
theorem qcl:FnScope q3s ["_law_due_here","_law_whom","_law_both"] (qh w8):=⟨rfl,rfl,rfl,q2j,rfl,by decide +kernel,by decide +kernel⟩
noncomputable def kj:FS:=(sIf (vh (z7 q6x (zo (qc (eV 3) (qc (eV 4) qg))) (zo (qc (eV 1) (qc (eV 2) qg)))) (vh (z7 oEq (eOp oBor (eV 3) (eV 1)) (eV 1)) (z7 oEq (eOp oBor (eV 2) (eV 4)) (eV 4)))) (zc (eC (.bl true))) jv)
noncomputable def q14:FS:=(z0 (wq (jl (eV 0)) (we 2 (jh (bN 3) (jh (bN 4) wd))) kj) (zc (eC (.bl false))))
noncomputable def q15:List D->Option D:=zh 5 q14
theorem qcm{fa:Addr}{dV:Value}{fd:FuncData}(F:Fun2 K "_law_follows" "_law_follows" w8 dV fa fd): FnOk P w K mg base CX0 1 fa fd ["_law_due_here","_law_whom","_law_both"] (spD K 3 q15):=
 F.okn (k:=0) (n:=5) (ar:=3) (k1:=1) (u:=q14) qcl rfl rfl rfl fun cdv A outer s H E hr=>by
 show PSs (zw CX0 P w K mg base q3s "_law_follows" (qh w8) fa cdv A outer s H E).nox (qz w8) (tDS K q14);unfold q14 kj;refine(ql ?_ ?_);refine(kr pd rfl ?_ (q31 rfl (x6 (z8 q2j rfl (Or.inl rfl) (.inl rfl)) (x6 (z8 q2j rfl (Or.inl rfl) (.inl rfl)) q30))) (qp ?_));refine(jb ?_);exact(qa (pv 0));refine(jg ?_ (qp ?_) j8);refine(PW.pt (q1n ?_ (q1n ?_ (q2c ?_))));refine(zk (qlu hr.units) ?_ ?_);refine(j5 ?_);walk_at "A";exact(qa (pv 3));walk_at "A";exact(qa (pv 4));exact qe;refine(j5 ?_);walk_at "A";exact(qa (pv 1));walk_at "A";exact(qa (pv 2));exact qe;refine(zk (vc hr.units) ?_ ?_);refine(qk q1r ?_ ?_);exact(qa (pv 3));exact(qa (pv 1));exact(qa (pv 1));refine(zk (vc hr.units) ?_ ?_);refine(qk q1r ?_ ?_);exact(qa (pv 2));exact(qa (pv 4));exact(qa (pv 4));exact(z5 kf);refine(qp ?_);exact(z5 kf)
abbrev q05:Stmt:=top 58
noncomputable def q4z:List Str:=["_law_found","_law_whom","_law_what","_law_counts_here","_law_due_here","_law_many"]
theorem q7n:(q4z).Nodup:=by decide +kernel
theorem qdt:FnScope q4z ["_law_found","_law_whom","_law_what","_law_counts_here","_law_due_here"] (qh q05):=⟨rfl,rfl,rfl,q7n,rfl,by decide +kernel,by decide +kernel⟩
noncomputable def q25:FS:=(z0 (zr 5 (eOp oIx (eV 3) (eOp oBor (eV 1) (eV 2)))) (z0 (sIf (bOr (wb (bT (q1q .tuple (eV 0)))) (bOr (z7 q4b (qi xi (qc (eV 0) qg)) (eC (.int 6))) (wb (bT (qi (qt 2 [] xw) (qc (eOp oIx (eV 0) (eC (.int 2))) (qc (eV 5) qg))))))) (zc (eC (.bl false))) jv) (z0 (sIf (bOr (wb (bT (qi (qt 2 [] q3i) (qc (eOp oIx (eV 0) (eC (.int 0))) (qc (qi (qt 1 [] jf) (qc (eV 1) qg)) qg))))) (wb (bT (qi (qt 2 [] q3i) (qc (eOp oIx (eV 0) (eC (.int 1))) (qc (qi (qt 1 [] jf) (qc (eV 2) qg)) qg)))))) (zc (eC (.bl false))) jv) (z0 (sIf (wb (bT (qi (qt 2 [] vz) (qc (eOp oIx (eV 0) (eC (.int 3))) (qc (qi (qt 2 [] q10) (qc (eV 5) (qc (eOp oIx (eV 3) (eV 1)) qg))) qg))))) (zc (eC (.bl false))) jv) (z0 (sIf (wb (bT (qi (qt 2 [] vz) (qc (eOp oIx (eV 0) (eC (.int 4))) (qc (qi (qt 2 [] q10) (qc (eOp zt (eV 5) (eOp oIx (eV 3) (eC (.int 0)))) (qc (eOp zt (eOp oIx (eV 3) (eV 1)) (eOp oIx (eV 3) (eV 2))) qg))) qg))))) (zc (eC (.bl false))) jv) (zc (q5m (q1q .bool (eOp oIx (eV 0) (eC (.int 5)))) (eOp oEq (eOp oIx (eV 0) (eC (.int 5))) (qi (qt 3 [] q15) (qc (eV 4) (qc (eV 1) (qc (eOp oBor (eV 1) (eV 2)) qg))))))))))))
noncomputable def q26:List D->Option D:=zh 6 q25
theorem qdu{fa:Addr}{dV:Value}{fd:FuncData}(F:Fun2 K "_law_saying" "_law_saying" q05 dV fa fd){dE:Addr}{aW:FuncData}(c_28:Cal P w K mg base "_law_two_shares" 2 ["_law_found","_law_due_here"] 2 vz dE aW)(b_28:Binds K aW ["_law_found","_law_due_here"] []){aF:Addr}{ag:FuncData}(c_29:Cal P w K mg base "_law_whole" 1 ["_law_found","_law_due_here"] 2 xw aF ag)(b_29:Binds K ag ["_law_found","_law_due_here"] []){gC:Addr}{eB:FuncData}(c_23:Cal P w K mg base "_law_row" 2 ["_law_found","_law_due_here"] 2 q3i gC eB)(b_23:Binds K eB ["_law_found","_law_due_here"] []){fI:Addr}{cG:FuncData}(c_27:Cal P w K mg base "_law_share" 2 ["_law_top","_law_bottom"] 2 q10 fI cG)(b_27:Binds K cG ["_law_top","_law_bottom"] []){eW:Addr}{bP:FuncData}(c_15:Cal P w K mg base "_law_follows" 1 ["_law_due_here","_law_whom","_law_both"] 3 q15 eW bP)(b_15:Binds K bP ["_law_due_here","_law_whom","_law_both"] []){av:Addr}{ae:FuncData}(c_20:Cal P w K mg base "_law_of_mark" 1 ["_law_mark"] 1 jf av ae)(b_20:Binds K ae ["_law_mark"] [])(n_isinstance:mg "isinstance" = none)(n_bool:mg "bool" = none)(n_tuple:mg "tuple" = none)(n_len:mg "len" = none): FnOk P w K mg base CX0 3 fa fd ["_law_found","_law_whom","_law_what","_law_counts_here","_law_due_here"] (spD K 5 q26):=
 F.okn (k:=2) (n:=6) (ar:=5) (k1:=3) (u:=q25) qdt rfl rfl rfl fun cdv A outer s H E hr=>by
 show PSs (zw CX0 P w K mg base q4z "_law_saying" (qh q05) fa cdv A outer s H E).nox (qz q05) (tDS K q25);unfold q25;refine(ql ?_ ?_);refine(zf (i:=5) ?_ ?_ ?_ ?_ ?_ ?_);exact q7n;exact rfl;exact(Or.inl rfl);refine(zi ?_ ?_);exact(qa (pv 3));refine(qk q1r ?_ ?_);exact(qa (pv 1));exact(qa (pv 2));exact rfl;walk_at "L";refine(ql ?_ ?_);refine(jg ?_ (qp ?_) j8);refine(PW.pt (q3w ?_ (q3w ?_ (q4d ?_))));refine(yc ?_);refine(x5 ?_);refine(q0l .tuple rfl n_isinstance rfl n_tuple DL.boot_tuple ?_);exact(qa (pv 0));refine(zk q4c ?_ qf);refine(zv (xj) rfl n_len DL.j7 ?_);walk_at "A";exact(qa (pv 0));exact qe;refine(yc ?_);refine(x5 ?_);refine(qw c_29 b_29 hr (by decide) rfl ?_);walk_at "A";refine(zi ?_ qf);exact(qa (pv 0));walk_at "A";exact(qa (pv 5));exact qe;exact(z5 kf);refine(ql ?_ ?_);refine(jg ?_ (qp ?_) j8);refine(PW.pt (q3w ?_ (q4d ?_)));refine(yc ?_);refine(x5 ?_);refine(qw c_23 b_23 hr (by decide) rfl ?_);walk_at "A";refine(zi ?_ qf);exact(qa (pv 0));walk_at "A";refine(qw c_20 b_20 hr (by decide) rfl ?_);walk_at "A";exact(qa (pv 1));exact qe;exact qe;refine(yc ?_);refine(x5 ?_);refine(qw c_23 b_23 hr (by decide) rfl ?_);walk_at "A";refine(zi ?_ qf);exact(qa (pv 0));walk_at "A";refine(qw c_20 b_20 hr (by decide) rfl ?_);walk_at "A";exact(qa (pv 2));exact qe;exact qe;exact(z5 kf);refine(ql ?_ ?_);refine(jg ?_ (qp ?_) j8);refine(yc ?_);refine(x5 ?_);refine(qw c_28 b_28 hr (by decide) rfl ?_);walk_at "A";refine(zi ?_ qf);exact(qa (pv 0));walk_at "A";refine(qw c_27 b_27 hr (by decide) rfl ?_);walk_at "A";exact(qa (pv 5));walk_at "A";refine(zi ?_ ?_);exact(qa (pv 3));exact(qa (pv 1));exact qe;exact qe;exact(z5 kf);refine(ql ?_ ?_);refine(jg ?_ (qp ?_) j8);refine(yc ?_);refine(x5 ?_);refine(qw c_28 b_28 hr (by decide) rfl ?_);walk_at "A";refine(zi ?_ qf);exact(qa (pv 0));walk_at "A";refine(qw c_27 b_27 hr (by decide) rfl ?_);walk_at "A";refine(qk je ?_ ?_);exact(qa (pv 5));refine(zi ?_ qf);exact(qa (pv 3));walk_at "A";refine(qk je ?_ ?_);refine(zi ?_ ?_);exact(qa (pv 3));exact(qa (pv 1));refine(zi ?_ ?_);exact(qa (pv 3));exact(qa (pv 2));exact qe;exact qe;exact(z5 kf);refine(qp ?_);refine(z5 ?_);refine(q6b ?_ (qat ?_));refine(q0l .bool rfl n_isinstance rfl n_bool DL.boot_bool ?_);refine(zi ?_ qf);exact(qa (pv 0));refine(q1m (vc hr.units) ?_ ?_);refine(zi ?_ qf);exact(qa (pv 0));refine(qw c_15 b_15 hr (by decide) rfl ?_);walk_at "A";exact(qa (pv 4));walk_at "A";exact(qa (pv 1));walk_at "A";refine(qk q1r ?_ ?_);exact(qa (pv 1));exact(qa (pv 2));exact qe
abbrev qbj:Stmt:=top 59
noncomputable def qka:List Str:=["_law_script","_law_number","_law_wares","_law_pile_here","_law_counts_here","_law_least_here","_law_bound_here","_law_due_here","_law_found","_law_at","_law_known","_law_pair","_law_marks_here","_law_whom","_law_what"]
theorem vb:(qka).Nodup:=by decide +kernel
theorem qut:FnScope qka ["_law_script"] (qh qbj):=⟨rfl,rfl,rfl,vb,rfl,by decide +kernel,by decide +kernel⟩
noncomputable def qaa:FS:=(sIf (vh (z7 oEq (eOp oBand (eV 13) (eV 14)) (eC (.int 0))) (vh (z7 oGt (eV 14) (eC (.int 0))) (z7 q5r (zo (qc (eV 13) (qc (eOp oBor (eV 13) (eV 14)) qg))) (eV 10)))) (z0 (sIf (wb (bT (qi (qt 5 [] q26) (qc (eOp oIx (eV 8) (eV 9)) (qc (eV 13) (qc (eV 14) (qc (eV 4) (qc (eV 7) qg)))))))) (zc (eC (.bl false))) jv) (zr 9 (eOp zp (eV 9) (eC (.int 1))))) jv)
noncomputable def qab:FS:=(wq (jl (eV 12)) (bN 14) qaa)
noncomputable def qe3:FS:=(z0 (zr 1 (eOp oDiv (qi (qt 2 [] xk) (qc (eV 0) (qc (eC (.int 0)) qg))) (eC (.int 2)))) (z0 (zr 2 (eOp oMod (eOp oDiv (eV 1) (eC (.int 8))) (eC (.int 5)))) (z0 (sIf (z7 oEq (eOp oMod (eV 1) (eC (.int 8))) (eC (.int 3))) (zr 2 (eC (.int 5))) jv) (z0 (zr 3 (qi (qt 3 [] q3x) (qc (eOp zp (eSl (eV 0) oNo (oAt (eC (.int 2)))) (eSl (eV 0) (oAt (eC (.int 3))) oNo)) (qc (eV 2) (qc (eC (.int 60)) qg))))) (z0 (zr 4 (qi (qt 1 [] q1x) (qc (eV 3) qg))) (z0 (zr 5 (qi (qt 2 [] xv) (qc (eV 0) (qc (eV 4) qg)))) (z0 (zr 6 (qi (qt 2 [] q2q) (qc (eV 0) (qc (eV 4) qg)))) (z0 (zr 7 (qi (qt 3 [] q5b) (qc (eV 4) (qc (eV 5) (qc (eV 6) qg))))) (z0 (zr 8 (qi (qt 3 [] q42) (qc (eV 3) (qc (eV 5) (qc (eV 6) qg))))) (z0 (sIf (bOr (wb (bT (q1q .tuple (eV 8)))) (z7 q4b (qi xi (qc (eV 8) qg)) (qi xi (qc (eV 7) qg)))) (zc (eC (.bl false))) jv) (z0 (zr 9 (eC (.int 0))) (z0 (sD1 10 11 (jl (eV 7)) (eC (.bl true))) (z0 (zr 12 (qi (qt 1 [] yz) (qc (qjk (qi xi (qc (eV 4) qg))) qg))) (z0 (wq (jl (eV 12)) (bN 13) qab) (zc (eOp oEq (eV 9) (qi xi (qc (eV 8) qg))))))))))))))))))
noncomputable def qkb:List D->Option D:=zh 15 qe3
theorem quu{fa:Addr}{dV:Value}{fd:FuncData}(F:Fun2 K "law" "law" qbj dV fa fd){fZ:Addr}{dD:FuncData}(c_21:Cal P w K mg base "_law_pile" 3 ["_law_script","_law_wares","_law_most_runs"] 3 q3x fZ dD)(b_21:Binds K dD ["_law_script","_law_wares","_law_most_runs"] []){fm:Addr}{cg:FuncData}(c_13:Cal P w K mg base "_law_counts" 2 ["_law_pile_here"] 1 q1x fm cg)(b_13:Binds K cg ["_law_pile_here"] []){fL:Addr}{cJ:FuncData}(c_17:Cal P w K mg base "_law_least" 2 ["_law_script","_law_counts_here"] 2 xv fL cJ)(b_17:Binds K cJ ["_law_script","_law_counts_here"] []){fM:Addr}{cK:FuncData}(c_10:Cal P w K mg base "_law_bound" 2 ["_law_script","_law_counts_here"] 2 q2q fM cK)(b_10:Binds K cK ["_law_script","_law_counts_here"] []){gD:Addr}{eE:FuncData}(c_14:Cal P w K mg base "_law_due" 2 ["_law_counts_here","_law_least_here","_law_bound_here"] 3 q5b gD eE)(b_14:Binds K eE ["_law_counts_here","_law_least_here","_law_bound_here"] []){fY:Addr}{dC:FuncData}(c_25:Cal P w K mg base "_law_said" 6 ["_law_pile_here","_law_least_here","_law_bound_here"] 3 q42 fY dC)(b_25:Binds K dC ["_law_pile_here","_law_least_here","_law_bound_here"] []){eH:Addr}{bx:FuncData}(c_16:Cal P w K mg base "_law_in_order" 2 ["_law_marks_here"] 1 yz eH bx)(b_16:Binds K bx ["_law_marks_here"] []){aw:Addr}{ab:FuncData}(c_11:Cal P w K mg base "_law_cell" 1 ["_law_script","_law_k"] 2 xk aw ab)(b_11:Binds K ab ["_law_script","_law_k"] []){fj:Addr}{cf:FuncData}(c_26:Cal P w K mg base "_law_saying" 3 ["_law_found","_law_whom","_law_what","_law_counts_here","_law_due_here"] 5 q26 fj cf)(b_26:Binds K cf ["_law_found","_law_whom","_law_what","_law_counts_here","_law_due_here"] [])(n_list:mg "list" = none)(n_len:mg "len" = none)(n_isinstance:mg "isinstance" = none)(n_tuple:mg "tuple" = none)(n_range:mg "range" = none): FnOk P w K mg base CX0 7 fa fd ["_law_script"] (spD K 1 qkb):=
 F.okn (k:=6) (n:=15) (ar:=1) (k1:=7) (u:=qe3) qut rfl rfl rfl fun cdv A outer s H E hr=>by
 show PSs (zw CX0 P w K mg base qka "law" (qh qbj) fa cdv A outer s H E).nox (qz qbj) (tDS K qe3);unfold qe3 qab qaa;refine(ql ?_ ?_);refine(zf (i:=1) ?_ ?_ ?_ ?_ ?_ ?_);exact vb;exact rfl;exact(Or.inl rfl);refine(qk q1l ?_ qf);refine(qw c_11 b_11 hr (by decide) rfl ?_);walk_at "A";exact(qa (pv 0));walk_at "A";exact qf;exact qe;exact rfl;walk_at "L";refine(ql ?_ ?_);refine(zf (i:=2) ?_ ?_ ?_ ?_ ?_ ?_);exact vb;exact rfl;exact(Or.inl rfl);refine(qk j3 ?_ qf);refine(qk q1l ?_ qf);exact(qa (pv 1));exact rfl;walk_at "L";refine(ql ?_ ?_);refine(jg ?_ (qp ?_) j8);refine(zk (vc hr.units) ?_ qf);refine(qk j3 ?_ qf);exact(qa (pv 1));refine(zf (i:=2) ?_ ?_ ?_ qf ?_ ?_);exact vb;exact rfl;exact(Or.inl rfl);exact rfl;walk_at "L";refine(ql ?_ ?_);refine(zf (i:=3) ?_ ?_ ?_ ?_ ?_ ?_);exact vb;exact rfl;exact(Or.inl rfl);refine(qw c_21 b_21 hr (by decide) rfl ?_);walk_at "A";refine(qk j6 ?_ ?_);refine(q4g ?_ q6w (q2d qf));exact(qa (pv 0));refine(q4g ?_ (q2d qf) q6w);exact(qa (pv 0));walk_at "A";exact(qa (pv 2));walk_at "A";exact qf;exact qe;exact rfl;walk_at "L";refine(ql ?_ ?_);refine(zf (i:=4) ?_ ?_ ?_ ?_ ?_ ?_);exact vb;exact rfl;exact(Or.inl rfl);refine(qw c_13 b_13 hr (by decide) rfl ?_);walk_at "A";exact(qa (pv 3));exact qe;exact rfl;walk_at "L";refine(ql ?_ ?_);refine(zf (i:=5) ?_ ?_ ?_ ?_ ?_ ?_);exact vb;exact rfl;exact(Or.inl rfl);refine(qw c_17 b_17 hr (by decide) rfl ?_);walk_at "A";exact(qa (pv 0));walk_at "A";exact(qa (pv 4));exact qe;exact rfl;walk_at "L";refine(ql ?_ ?_);refine(zf (i:=6) ?_ ?_ ?_ ?_ ?_ ?_);exact vb;exact rfl;exact(Or.inl rfl);refine(qw c_10 b_10 hr (by decide) rfl ?_);walk_at "A";exact(qa (pv 0));walk_at "A";exact(qa (pv 4));exact qe;exact rfl;walk_at "L";refine(ql ?_ ?_);refine(zf (i:=7) ?_ ?_ ?_ ?_ ?_ ?_);exact vb;exact rfl;exact(Or.inl rfl);refine(qw c_14 b_14 hr (by decide) rfl ?_);walk_at "A";exact(qa (pv 4));walk_at "A";exact(qa (pv 5));walk_at "A";exact(qa (pv 6));exact qe;exact rfl;walk_at "L";refine(ql ?_ ?_);refine(zf (i:=8) ?_ ?_ ?_ ?_ ?_ ?_);exact vb;exact rfl;exact(Or.inl rfl);refine(qw c_25 b_25 hr (by decide) rfl ?_);walk_at "A";exact(qa (pv 3));walk_at "A";exact(qa (pv 5));walk_at "A";exact(qa (pv 6));exact qe;exact rfl;walk_at "L";refine(ql ?_ ?_);refine(jg ?_ (qp ?_) j8);refine(PW.pt (q3w ?_ (q4d ?_)));refine(yc ?_);refine(x5 ?_);refine(q0l .tuple rfl n_isinstance rfl n_tuple DL.boot_tuple ?_);exact(qa (pv 8));refine(zk q4c ?_ ?_);refine(zv (xj) rfl n_len DL.j7 ?_);walk_at "A";exact(qa (pv 8));exact qe;refine(zv (xj) rfl n_len DL.j7 ?_);walk_at "A";exact(qa (pv 7));exact qe;exact(z5 kf);refine(ql ?_ ?_);refine(zf (i:=9) ?_ ?_ ?_ qf ?_ ?_);exact vb;exact rfl;exact(Or.inl rfl);exact rfl;walk_at "L";refine(qwd (by decide) pd rfl (qe9 (i:=10) vb rfl (Or.inl rfl) qmb) ?_ (qho vb rfl (Or.inl rfl)) (qkv kf (qsz (pv 10) (pv 11) (qrp hr.units))) ?_);refine(jb ?_);exact(qa (pv 7));refine(ql ?_ ?_);refine(zf (i:=12) ?_ ?_ ?_ ?_ ?_ ?_);exact vb;exact rfl;exact(Or.inl rfl);refine(qw c_16 b_16 hr (by decide) rfl ?_);walk_at "A";refine(qjl rfl rfl n_list rfl n_range ?_);refine(zv (xj) rfl n_len DL.j7 ?_);walk_at "A";exact(qa (pv 4));exact qe;exact qe;exact rfl;walk_at "L";refine(ql ?_ ?_);refine(kr pd rfl ?_ (z8 vb rfl (Or.inl rfl) (.inl rfl)) (qp ?_));refine(jb ?_);exact(qa (pv 12));refine(kr pd rfl ?_ (z8 vb rfl (Or.inl rfl) (.inl rfl)) (qp ?_));refine(jb ?_);exact(qa (pv 12));refine(jg ?_ (ql ?_ ?_) j8);refine(PW.pt (q1n ?_ (q1n ?_ (q2c ?_))));refine(zk (vc hr.units) ?_ qf);refine(qk q45 ?_ ?_);exact(qa (pv 13));exact(qa (pv 14));refine(zk qas ?_ qf);exact(qa (pv 14));refine(zk (qm7 hr.units) ?_ ?_);refine(j5 ?_);walk_at "A";exact(qa (pv 13));walk_at "A";refine(qk q1r ?_ ?_);exact(qa (pv 13));exact(qa (pv 14));exact qe;exact(qa (pv 10));refine(jg ?_ (qp ?_) j8);refine(yc ?_);refine(x5 ?_);refine(qw c_26 b_26 hr (by decide) rfl ?_);walk_at "A";refine(zi ?_ ?_);exact(qa (pv 8));exact(qa (pv 9));walk_at "A";exact(qa (pv 13));walk_at "A";exact(qa (pv 14));walk_at "A";exact(qa (pv 4));walk_at "A";exact(qa (pv 7));exact qe;exact(z5 kf);refine(qp ?_);refine(zf (i:=9) ?_ ?_ ?_ ?_ ?_ ?_);exact vb;exact rfl;exact(Or.inl rfl);refine(qk j6 ?_ qf);exact(qa (pv 9));exact rfl;walk_at "L";refine(qp ?_);refine(z5 ?_);refine(q1m (vc hr.units) ?_ ?_);exact(qa (pv 9));refine(zv (xj) rfl n_len DL.j7 ?_);walk_at "A";exact(qa (pv 8));exact qe
end
end My
namespace DL
open PySem L2
theorem qg8(a b:Int): decide (V.int a=V.int b)=decide (a=b):=g00.mpr ⟨fun h=>by injection h,fun h=>by rw [h]⟩
theorem vq(a b:Int): oEq (.int a) (.int b)=some (.bl (decide (a=b))):=by
 simp only [oEq,qo3,flD,qbt,gd,pz,g6h,qg8]
theorem q2k(a b:Int): q4b (.int a) (.int b)=some (.bl (!decide (a=b))):=by
 simp only [q4b,flD,qbt,gd,pz,qg8]
theorem qmr(a b:Bool): oEq (.bl a) (.bl b)=some (.bl (a==b)):=by
 cases a <;> cases b <;> rfl
theorem xr(a b:Int)(h:0<b): oMod (.int a) (.int b)=some (.int (a%b)):=by simp [oMod,oI,h]
theorem q2l(a b:Int)(h:0<b)(h2:b<1073741824): oDiv (.int a) (.int b)=some (.int (a / b)):=by simp [oDiv,oI,h,h2]
theorem q3j(a b:Int): zp (.int a) (.int b)=some (.int (a+b)):=rfl
theorem qg9(a b:Int): oSub (.int a) (.int b)=some (.int (a-b)):=rfl
theorem qry(a b:Int): oLt' (.int a) (.int b)=some (.bl (decide (a<b))):=rfl
theorem qrz(a b:Int): oLe (.int a) (.int b)=some (.bl (decide (a<=b))):=rfl
theorem qcn(a b:Int): oGt (.int a) (.int b)=some (.bl (decide (b<a))):=rfl
theorem q93(a b:Int): oGe (.int a) (.int b)=some (.bl (decide (b<=a))):=rfl
theorem qd7(xs ys:List D)(h:xs.length+ys.length<=1000000): zp (.tup xs) (.tup ys)=some (.tup (xs++ys)):=by
 show(oAdd (.tup xs) (.tup ys)).or (q9t (.tup xs) (.tup ys))=_;simp only [oAdd,oI,g6i,q9t,lim,m8 h]
theorem qms(xs ys:List D)(h:xs.length+ys.length<=1000000): zp (.lst xs) (.lst ys)=some (.lst (xs++ys)):=by
 show(oAdd (.lst xs) (.lst ys)).or (q9t (.lst xs) (.lst ys))=_;simp only [oAdd,oI,g6i,q9t,lim,m8 h]
theorem qac(a b:Int)(h:0<=b)(h2:b<=1000000)(h3:a.natAbs<2 ^ 64): oShl (.int a) (.int b)=some (.int (a*2 ^ b.toNat)):=by simp [oShl,oI,h,h2,h3]
theorem qpd(a b:Int)(h:0<=b): oShr (.int a) (.int b)=some (.int (a / 2 ^ b.toNat)):=by simp [oShr,oI,h]
theorem q7i(a b:Int)(h:0<=b)(h2:b<=1000000)(h3:a.natAbs<2 ^ 64): oPow (.int a) (.int b)=some (.int (a ^ b.toNat)):=by simp [oPow,oI,h,h2,h3]
theorem q5i(ns:List Int): q6u [.lst (ns.map .int)]=some (.int ns.sum):=by simp [q6u,o1L,x8]
theorem qkc(bs:List Bool): qbz [.lst (bs.map .bl)]=some (.bl (bs.all id)):=by simp [qbz,o1L,q6t]
theorem qkd(bs:List Bool): qix [.lst (bs.map .bl)]=some (.bl (bs.any id)):=by simp [qix,o1L,q6t]
theorem qid{α : Type}{xs:List α}{i:Int}(h0:0<=i): atI xs i=xs[i.toNat]? :=by
 unfold atI ixN;rw [m8 h0]
 by_cases h:i<xs.length
 ·rw [m8 h];rfl
 ·rw [ma h,g6f (by omega)];rfl
theorem qpe{α : Type}(xs:List α): atI xs (-1)=xs.getLast? :=by
 unfold atI ixN;rw [ma (by decide)];cases xs with
 | nil=>rfl
 | cons a r=>
  rw [m8 (by simp only [n8];omega)];show(a :: r)[((-1:Int)+((a :: r).length:Nat)).toNat]? = _;rw [g58]
  congr 1
  simp only [n8];omega
section
variable{b:FB}{body:FS}{d:D}{ds:List D}{ρ ρ1 ρ2:Rho}
theorem jt(h1:b d ρ = some ρ1)(h2:body ρ1=some (.nx, ρ2)): runFor b body (d :: ds) ρ = runFor b body ds ρ2:=by simp only [runFor,h1,h2,gd]
theorem qmt{v:D}(h1:b d ρ = some ρ1)(h2:body ρ1=some (.rt v, ρ2)): runFor b body (d :: ds) ρ = some (.rt v, ρ2):=by simp only [runFor,h1,h2,gd]
end
theorem km{b:FB}{c:FT}{f:FE}{ρ : Rho}(p:D->Bool)(g:D->D): ∀ {ds:List D},(∀d∈ds,∃ ρ1,b d ρ = some ρ1/\c ρ1=some (p d)/\(p d=true->f ρ1=some (g d)))->za b c f ρ ds=some ((ds.filter p).map g)
 | [],_=>rfl
 | d :: ds,h=>by
  obtain⟨ρ1,e1,e2,e3⟩:=h d gi;have ih:=km p g fun e he=>h e (gj _ he);simp only [za,e1,e2,gd];cases hp:p d with
  | true=>simp only [pz,e3 hp,gd,ih,mx,n9,hp,gf]
  | false=>simp only [m6,t6,ih,n9,hp]
theorem q64{b:FB}{f:FE}{ρ : Rho}(g:D->D){ds:List D}(h:∀d∈ds,∃ ρ1,b d ρ = some ρ1/\f ρ1=some (g d)): za b zu f ρ ds=some (ds.map g):=by
 have:=km (b:=b) (c:=zu) (f:=f) (ρ := ρ) (fun _=>true) g (ds:=ds) fun d hd=>let⟨ρ1,e1,e2⟩:=h d hd; ⟨ρ1,e1,rfl,fun _=>e2⟩
 rw [List.filter_eq_self.mpr (fun _ _=>rfl)] at this;exact this
theorem q2w(lo:Int)(n:Nat): z9 lo (n+1)=.int lo :: z9 (lo+1) n:=by
 unfold z9;rw [g1x,gf,ni]
 congr 1
 ·simp
 ·apply g1j
  intro a _;simp only [Function.comp,Nat.succ_eq_add_one,Int.natCast_add]
  congr 1
  omega
theorem q7j(lo:Int)(n:Nat): (z9 lo n).length=n:=by simp [z9]
theorem q6k(fa:FA)(ρ : Rho)(j:Int)(h:fa ρ = some [.int j])(h1 : -(2 ^ 62)<=j)(h2:j<2 ^ 62): iR1 fa ρ = some (z9 0 j.toNat):=by
 simp only [iR1,h,gd,gq h1,gq h2,Bool.and_self,pz]
theorem q9k{α : Type}(xs:List D)(k:Nat): cutD xs none (some (k:Int))=xs.take k:=by
 unfold cutD;rw [HT.sIx_nat,HT.sIx_none];simp only [g6b,Nat.sub_zero]
 by_cases h:k<=xs.length
 ·rw [Nat.min_eq_left h]
 ·rw [Nat.min_eq_right (by omega),List.take_length,g02 (by omega)]
theorem qga{α : Type}(xs:List D)(k:Nat): cutD xs (some (k:Int)) none=xs.drop k:=by
 unfold cutD;rw [HT.sIx_nat,HT.sIx_none]
 by_cases h:k<=xs.length
 ·rw [Nat.min_eq_left h,g02 (by rw [g0w];exact gw _)]
 ·rw [Nat.min_eq_right (by omega),g5c,List.drop_eq_nil_of_le (by omega)];simp
section
variable{ρ ρ1 ρ':Rho}{f g:FE}{d x y z:D}{i n m ar:Nat}{fa fk:FA}{ds es:List D}{t t2:FT}{c:Bool}{u w:FS}{r:Option (Fl×Rho)}
theorem x_c:eC d ρ = some d:=rfl
theorem x_v(h : ρ[i]? = some (some (.fz d))): eV i ρ = some d:=by unfold eV;rw [h]
theorem qu{o:D->D->Option D}(h1:f ρ = some x)(h2:g ρ = some y)(h3:o x y=some z): eOp o f g ρ = some z:=by unfold eOp;rw [h1,gd,h2,gd,h3]
theorem qxg{o:D->Option D}(h1:f ρ = some x)(h3:o x=some z): eUn o f ρ = some z:=by unfold eUn;rw [h1,gd,h3]
theorem qr:qg ρ = some []:=rfl
theorem qd(h1:f ρ = some d)(h2:fa ρ = some ds): qc f fa ρ = some (d :: ds):=by unfold qc;rw [h1,gd,h2,mx]
theorem x_call{o:List D->Option D}(h1:fa ρ = some ds)(h2:o ds=some d): qi o fa ρ = some d:=by unfold qi;rw [h1,gd,h2]
theorem zj{o:List D->Option D}{dds:List D}(h1:fa ρ = some ds)(hl:(ds++dds).length=ar)(h2:o (ds++dds)=some d): qi (qt ar dds o) fa ρ = some d:=by unfold qi qt;rw [h1,gd,m8 hl,h2]
theorem vg(h1:fa ρ = some ds)(hl:ds.length<=lim): zo fa ρ = some (.tup ds):=by unfold zo;rw [h1,gd,m8 hl]
theorem qke(h1:fa ρ = some ds)(hl:ds.length<=lim): q0f fa ρ = some ds:=by unfold q0f;rw [h1,gd,m8 hl]
theorem x_l(h1:fa ρ = some ds): eL fa ρ = some (.lst ds):=by unfold eL;rw [h1,mx]
theorem qwh(h1:f ρ = some (.bl c)): qbx f ρ = some (.bl (!c)):=by unfold qbx;rw [h1,gd];rfl
theorem q94(h1:f ρ = some (.bl c))(hc:c=true)(h2:g ρ = some d): q5m f g ρ = some d:=by subst hc;unfold q5m;rw [h1,gd];exact h2
theorem q5j{T:Ty}(h1:f ρ = some d): q1q T f ρ = some (.bl (zz T d)):=by unfold q1q;rw [h1,mx]
theorem quv:oNo ρ = some none:=rfl
theorem x_at{k:Int}(h1:f ρ = some (.int k)): oAt f ρ = some (some k):=by unfold oAt;rw [h1,gd]
theorem quw{lo hi:FO}{a b:Option Int}(h1:f ρ = some x)(h2:lo ρ = some a)(h3:hi ρ = some b)(h4:oSl x a b=some y): eSl f lo hi ρ = some y:=by unfold eSl;rw [h1,gd,h2,gd,h3,gd,h4]
theorem q27{it:FA}{cap:List (Option Nat)}{b:FB}{q:FT}(h1:it ρ = some ds)(hl:ds.length<=lim)(h2:za b q f (wt cap ρ) ds=some es): zl it cap b q f ρ = some es:=by unfold zl;rw [h1,gd,m8 hl,h2]
theorem q06(h1:f ρ = some d)(h2:q5n d=some ds): jl f ρ = some ds:=by unfold jl;rw [h1,gd,h2]
theorem qux{xs ys:List D}(h1:fa ρ = some [x,y])(h2:q5n x=some xs)(h3:q5n y=some ys): qj2 fa ρ = some (q81 xs ys):=by unfold qj2;rw [h1,gd];simp only [h2,h3,gd,mx]
theorem jn{o:D->D->Option D}(h1:f ρ = some x)(h2:g ρ = some y)(h3:o x y=some (.bl c)): z7 o f g ρ = some c:=by unfold z7;rw [qu h1 h2 h3,gd];rfl
theorem q07(h1:f ρ = some d)(h2:q7w d=some c): bT f ρ = some c:=by unfold bT;rw [h1,gd,h2]
theorem w9(h1:t ρ = some c): wb t ρ = some (!c):=by unfold wb;rw [h1,mx]
theorem y3{e:Bool}(h1:t ρ = some c)(hc:c=true)(h2:t2 ρ = some e): vh t t2 ρ = some e:=by subst hc;unfold vh;rw [h1,gd];exact h2
theorem q08(h1:t ρ = some c)(hc:c=false): vh t t2 ρ = some false:=by subst hc;unfold vh;rw [h1,gd];rfl
theorem q2m{e:Bool}(h1:t ρ = some c)(hc:c=false)(h2:t2 ρ = some e): bOr t t2 ρ = some e:=by subst hc;unfold bOr;rw [h1,gd];exact h2
theorem qbk(h1:u ρ = some (.nx, ρ1))(h2:w ρ1=r): z0 u w ρ = r:=by unfold z0;rw [h1,gd];exact h2
theorem q50(h1:t ρ = some c)(hc:c=true)(h2:u ρ = r): sIf t u w ρ = r:=by subst hc;unfold sIf;rw [h1,gd];exact h2
theorem j9(h1:t ρ = some c)(hc:c=false)(h2:w ρ = r): sIf t u w ρ = r:=by subst hc;unfold sIf;rw [h1,gd];exact h2
theorem qqh(h1:f ρ = some d): zc f ρ = some (.rt d, ρ):=by unfold zc;rw [h1,mx]
theorem ja:jv ρ = some (.nx, ρ):=rfl
theorem xc(h1:f ρ = some d): zr i f ρ = some (.nx, ρ.set i (some (.fz d))):=by unfold zr;rw [h1,mx]
theorem qe4(h1:fa ρ = some ds): q18 i fa ρ = some (.nx, ρ.set i (some (.ow ds))):=by unfold q18;rw [h1,mx]
theorem qgb(h0 : ρ[i]? = some (some (.ow ds)))(h1:f ρ = some d)(hl:ds.length<lim): q3n i f ρ = some (.nx, ρ.set i (some (.ow (ds++[d])))):=by unfold q3n q7x;rw [h0];simp only [gd,h1,m8 hl]
theorem q43{it:FA}{b:FB}{body:FS}(h1:it ρ = some ds)(h2:runFor b body ds ρ = r): wq it b body ρ = r:=by unfold wq;rw [h1,gd];exact h2
theorem qwi(h1:frz i ρ = ρ1)(h2:u ρ1=r): wc i u ρ = r:=by unfold wc;rw [h1];exact h2
theorem quy{b:FB}(h1:f ρ = some d)(h2:b d ρ = some ρ1): qau f b ρ = some (.nx, ρ1):=by unfold qau;rw [h1,gd,h2,mx]
theorem qmu(h:u (ds.map (fun d=>some (.fz d))++List.replicate (n-ds.length) none)=some (.rt d, ρ')): zh n u ds=some d:=by unfold zh;rw [h]
end
theorem eV0(d:D)(r:Rho): eV 0 (some (.fz d) :: r)=some d:=rfl
theorem eVs(i:Nat)(x:Option B)(r:Rho): eV (i+1) (x :: r)=eV i r:=rfl
theorem q44(ds:List D): xi [.tup ds]=some (.int ds.length):=rfl
theorem q95(ds:List D): xi [.lst ds]=some (.int ds.length):=rfl
theorem qxh(i:Int): (match D.int i with | .int i=>some (some i)|_=>none:Option (Option Int))=some (some i):=rfl
theorem qxi(ds:List D)(r:Rho): frz 0 (some (.ow ds) :: r)=some (.fz (.lst ds)) :: r:=rfl
theorem frzs(i:Nat)(x:Option B)(r:Rho): frz (i+1) (x :: r)=x :: frz i r:=by
 unfold frz;rw [g5t];cases h:r[i]? with
 | none=>rfl
 | some y=>
  cases y with
  | none=>rfl
  | some z=>cases z <;> rfl
theorem vm(a b:Int)(h : -(2 ^ 64)<b/\b<2 ^ 64): zt (.int a) (.int b)=some (.int (a*b)):=by
 have h2:(decide (-(2 ^ 64)<b)&&decide (b<2 ^ 64))=true:=by rw [gq h.1,gq h.2];rfl
 show(if((decide (-(2 ^ 64)<a)&&decide (a<2 ^ 64)) || (decide (-(2 ^ 64)<b)&&decide (b<2 ^ 64)))=true then some (D.int (a*b)) else none).or _=_;rw [h2,Bool.or_true,m8 rfl,g6h]
theorem xx(a b:Int)(h : -(2 ^ 64)<a/\a<2 ^ 64): zt (.int a) (.int b)=some (.int (a*b)):=by
 have h2:(decide (-(2 ^ 64)<a)&&decide (a<2 ^ 64))=true:=by rw [gq h.1,gq h.2];rfl
 show(if((decide (-(2 ^ 64)<a)&&decide (a<2 ^ 64)) || (decide (-(2 ^ 64)<b)&&decide (b<2 ^ 64)))=true then some (D.int (a*b)) else none).or _=_;rw [h2,g6m,m8 rfl,g6h]
theorem quz(ds:List D)(i:Int): oIx (.lst ds) (.int i)=atI ds i:=rfl
theorem qpf(ds:List D)(i:Int): oIx (.tup ds) (.int i)=atI ds i:=rfl
theorem qs0{α : Type}(xs:List α)(n:Nat): atI xs (no_index (OfNat.ofNat n:Int))=xs[n]? :=by
 show atI xs (n:Int)=xs[n]?;rw [qid (show(0:Int)<=(n:Int) by omega)]
 rfl
theorem q51{α : Type}(xs:List α)(n:Nat): atI xs (n:Int)=xs[n]? :=by
 rw [qid (show(0:Int)<=(n:Int) by omega)]
 rfl
theorem qs1(ds:List D): qqa [.lst ds]=some ds:=rfl
theorem qs2(ds:List D): qqa [.tup ds]=some ds:=rfl
theorem xm(ds:List D): ku [.lst ds]=some (.tup ds):=rfl
theorem qpg(ds:List D): ku [.tup ds]=some (.tup ds):=rfl
theorem qbl(ds:List D)(r:Rho): q7x 0 (some (.ow ds) :: r)=some ds:=rfl
theorem qbm(i:Nat)(x:Option B)(r:Rho): q7x (i+1) (x :: r)=q7x i r:=rfl
theorem jc{n:Nat}{u:FS}{ds:List D}{d:D}(h:(u (ds.map (fun d=>some (.fz d))++List.replicate (n-ds.length) none)).map Prod.fst=some (.rt d)): zh n u ds=some d:=by
 cases e:u (ds.map (fun d=>some (.fz d))++List.replicate (n-ds.length) none) with
 | none=>rw [e] at h;cases h
 | some p=>
  obtain⟨fl, ρ'⟩:=p;rw [e] at h;have h':fl=.rt d:=by simpa using h
  subst h';exact qmu e
theorem qs3:zz .int .non=false/\(∀b:Bool,zz .int (.bl b)=true)/\(∀i:Int,zz .int (.int i)=true)/\(∀x:Str,zz .int (.str x)=false)/\(∀ds:List D,zz .int (.tup ds)=false)/\(∀ds:List D,zz .int (.lst ds)=false)/\(∀(ks:List Key) (vs:List D),zz .int (.dct ks vs)=false)/\(∀(ks:List (List Int)) (vs:List D),zz .int (.dtt ks vs)=false)/\zz .bool .non=false/\(∀b:Bool,zz .bool (.bl b)=true)/\(∀i:Int,zz .bool (.int i)=false)/\(∀x:Str,zz .bool (.str x)=false)/\(∀ds:List D,zz .bool (.tup ds)=false)/\(∀ds:List D,zz .bool (.lst ds)=false)/\(∀(ks:List Key) (vs:List D),zz .bool (.dct ks vs)=false)/\(∀(ks:List (List Int)) (vs:List D),zz .bool (.dtt ks vs)=false)/\zz .tuple .non=false/\(∀b:Bool,zz .tuple (.bl b)=false)/\(∀i:Int,zz .tuple (.int i)=false)/\(∀x:Str,zz .tuple (.str x)=false)/\(∀ds:List D,zz .tuple (.tup ds)=true)/\(∀ds:List D,zz .tuple (.lst ds)=false)/\(∀(ks:List Key) (vs:List D),zz .tuple (.dct ks vs)=false)/\(∀(ks:List (List Int)) (vs:List D),zz .tuple (.dtt ks vs)=false)/\zz .list .non=false/\(∀b:Bool,zz .list (.bl b)=false)/\(∀i:Int,zz .list (.int i)=false)/\(∀x:Str,zz .list (.str x)=false)/\(∀ds:List D,zz .list (.tup ds)=false)/\(∀ds:List D,zz .list (.lst ds)=true)/\(∀(ks:List Key) (vs:List D),zz .list (.dct ks vs)=false)/\(∀(ks:List (List Int)) (vs:List D),zz .list (.dtt ks vs)=false)/\zz .str .non=false/\(∀b:Bool,zz .str (.bl b)=false)/\(∀i:Int,zz .str (.int i)=false)/\(∀x:Str,zz .str (.str x)=true)/\(∀ds:List D,zz .str (.tup ds)=false)/\(∀ds:List D,zz .str (.lst ds)=false)/\(∀(ks:List Key) (vs:List D),zz .str (.dct ks vs)=false)/\(∀(ks:List (List Int)) (vs:List D),zz .str (.dtt ks vs)=false)/\zz .dict .non=false/\(∀b:Bool,zz .dict (.bl b)=false)/\(∀i:Int,zz .dict (.int i)=false)/\(∀x:Str,zz .dict (.str x)=false)/\(∀ds:List D,zz .dict (.tup ds)=false)/\(∀ds:List D,zz .dict (.lst ds)=false)/\(∀(ks:List Key) (vs:List D),zz .dict (.dct ks vs)=true)/\(∀(ks:List (List Int)) (vs:List D),zz .dict (.dtt ks vs)=true):=by
 refine⟨?_,?_,?_,?_,?_,?_,?_,?_,?_,?_,?_,?_,?_,?_,?_,?_,?_,?_,?_,?_,?_,?_,?_,?_,?_,?_,?_,?_,?_,?_,?_,?_,?_,?_,?_,?_,?_,?_,?_,?_,?_,?_,?_,?_,?_,?_,?_,?_⟩ <;> intros <;> rfl
theorem q96{x:Int}{n:Nat}(hn:0<n): ∃k:Nat,k<n/\oMod (.int x) (.int (n:Int))=some (.int (k:Int)):=by
 have h1:=g0c x (show(n:Int)≠0 by omega);have h2:=g1s x (show(0:Int)<(n:Int) by omega);refine⟨(x%n).toNat,by omega,?_⟩;rw [xr _ _ (by omega),g1i h1]
end DL
open PySem PyProof.Rows L2 DL
local macro_rules | `(tactic| simp! [$a,*])=> `(tactic| simp (config:={decide:=true,implicitDefEqProofs:=false}) only [zh,z0,sIf,zr,zc,qvz,jv,q18,qx9,qxa,qw0,wq,wc,qau,eOp,eC,eV0,eVs,qi,qc,qg,zo,eL,q0f,qdx,eSl,oNo,oAt,qxh,vh,z7,wb,bT,bOr,q5m,eOr,qbx,eIf,q1q,qs3,eUn,isB,q7w,q9u,q44,q95,qxi,frzs,jl,q5n,qt,qw7,qxd,bN,we,jh,wd,wt,qtu,gf,g0e,n8,g41,gh,Nat.reduceAdd,Nat.reduceSub,Nat.reduceEqDiff,List.replicate,g5i,g05,g1o,List.set_cons_zero,List.set_cons_succ,List.set_nil,g1k,g5t,gd,Option.bind_none,mx,Option.map_none,g3k,Option.join_none,xr,q2l,q3j,qg9,vm,xx,vq,q2k,qmr,qry,qrz,qcn,q93,xm,qpg,pz,t6,g3f,g5n,m6,tx,g27,and_true,true_and,and_self,ite_true,ite_false,Int.reduceSub,Int.reduceMod,Int.reduceAdd,Int.reduceDiv,Int.reducePow,Int.reduceMul,Int.reduceNeg,Int.reduceEq,Int.reduceLT,Int.reduceLE,Int.reduceToNat,quz,qpf,qs0,qs1,qs2,q7i,reduceCtorEq,List.isEmpty_nil,List.isEmpty_cons,List.isEmpty_iff, $a,*])
namespace My
open PySem PyProof.Rows L2 DL
abbrev TI(ns:List Int): D:=.tup (ns.map .int)
abbrev Run:=Int×List Int
abbrev q3t(r:Run): D:=.tup [.int r.1,TI r.2]
abbrev xo(w:Nat)(rs:List Run): D:=.tup [.int (w:Int),.tup (rs.map q3t)]
def bit(m i:Nat): Bool:=m / 2 ^ i%2==1
def qj(n m:Nat): List Int:=((List.range n).filter fun i=>bit m i).map fun i:Nat=>(i:Int)
def mk(b:List Int): Int:=(b.map fun x=>(2:Int) ^ x.toNat).sum
theorem q97(a b:Nat): Builtin.bitAnd (a:Int) (b:Int)=((a &&& b:Nat):Int):=by
 unfold Builtin.bitAnd;rw [gq (by omega:(0:Int)<=(a:Int)),gq (by omega:(0:Int)<=(b:Int))];simp
theorem q8j(a b:Nat): oBand (.int (a:Int)) (.int (b:Int))=some (.int ((a &&& b:Nat):Int)):=by
 show some (D.int (Builtin.bitAnd (a:Int) (b:Int)))=_;rw [q97]
theorem q8k(a b:Int): oBand (.int a) (.int b)=some (.int (Builtin.bitAnd a b)):=rfl
theorem qs4(m i:Nat): oShr (.int (m:Int)) (.int (i:Int))=some (.int ((m / 2 ^ i:Nat):Int)):=by
 rw [qpd _ _ (by omega),nj]
 norm_cast
theorem q98(n:Nat): z9 0 n=(List.range n).map fun i:Nat=>.int (i:Int):=by
 unfold z9;simp only [g5m]
theorem qbn(m:Nat): jf [.int (m:Int)]=some (TI (qj 12 m)):=by
 have c:za (bN 0) (z7 oEq (eOp oBand (eOp oShr (eV 1) (eV 0)) (eC (.int 1))) (eC (.int 1))) (eV 0) [none,some (.fz (.int (m:Int)))] (z9 0 12)=some ((qj 12 m).map D.int):=by
  have:=km (b:=bN 0) (c:=z7 oEq (eOp oBand (eOp oShr (eV 1) (eV 0)) (eC (.int 1))) (eC (.int 1))) (f:=eV 0) (ρ :=[none,some (.fz (.int (m:Int)))]) (fun d=>match d with | .int x=>bit m x.toNat|_=>false) id (ds:=z9 0 12) fun d hd=>by
   rw [q98] at hd;obtain⟨i,_,rfl⟩:=mi.mp hd;refine⟨_,rfl,jn (qu (qu (x_v rfl) (x_v rfl) (qs4 m i)) x_c (q8j _ 1)) x_c ?_,fun _=>rfl⟩;rw [vq]
   congr 2
   show decide _=bit m (i:Int).toNat;rw [nj,bit,Nat.and_one_is_mod,p7,nk,g1m];omega
  rw [this,g66,q98,g1t,qj,ni]
  rfl
 have hr:iR1 (qc (eC (.int 12)) qg) [some (.fz (.int (m:Int)))]=some (z9 0 12):=rfl;have hl:(z9 0 12).length<=lim:=by decide
 (refine jc ?_;simp! [kx,zl,hr,hl,c,xm])
theorem ym:∀k:Nat,k<64->qj (Builtin.Int.intBits (k:Int)) k=qj 12 k/\mk (qj 12 k)=(k:Int):=by decide
theorem q2n:∀a:Nat,a<64->∀b:Nat,b<64->qj 12 a=qj 12 b->a=b:=fun a ha b hb h=>by
 have h1:=(ym a ha).2;have h2:=(ym b hb).2;rw [h,h2] at h1;omega
theorem q2o(n m:Nat): (qj n m).length<=n:=by
 unfold qj;rw [gh];exact mm (nc _ _) (by simp)
theorem qad{n m:Nat}{x:Int}(h:x∈qj n m): ∃i:Nat,x=(i:Int)/\i<n:=by
 unfold qj at h;obtain⟨i,hi,rfl⟩:=mi.mp h;exact⟨i,rfl,by simpa using(mn.mp hi).1⟩
theorem qie(b:List Int)(hb:∀x∈b,0<=x/\x<100)(ρ : Rho): za (bN 0) zu (eOp oShl (eC (.int 1)) (eV 0)) (none :: ρ) (b.map D.int)=some ((b.map fun x=>(2:Int) ^ x.toNat).map D.int):=by
 have:=q64 (b:=bN 0) (f:=eOp oShl (eC (.int 1)) (eV 0)) (ρ :=none :: ρ) (fun d=>match d with | .int x=>.int (2 ^ x.toNat)|_=>.non) (ds:=b.map D.int) fun d hd=>by
  obtain⟨x,hx,rfl⟩:=mi.mp hd;have:=hb x hx;refine⟨_,rfl,qu x_c (x_v rfl) ?_⟩;rw [qac 1 x (by omega) (by omega) (by decide),Int.one_mul]
 rw [this,ni,ni]
 rfl
theorem qbo(b:List Int)(hb:∀x∈b,0<=x/\x<100)(hl:b.length<=1000): k9 [TI b]=some (.int (mk b)):=by
 have hl':b.length<=lim:=by show _<=1000000;omega
 have c:=qie b hb [];have a:=q5i (b.map fun x=>(2:Int) ^ x.toNat)
 (refine jc ?_;simp! [q3a,zl,hl',c,a])
 rfl
theorem q5k(a b:Int)(h:0<b)(h2:b<1606938044258990275541962092341162602522202993782792835301376): oDivB (.int a) (.int b)=some (.int (a / b)):=by simp [oDivB,oI,h,h2]
end My
open PySem PyProof.Rows L2 DL
namespace My
open PySem PyProof.Rows L2 DL
def zm(rs:List Run): Prop:=rs.length<=1000/\∀r∈rs,(∀x∈r.2,0<=x/\x<100)/\r.2.length<=1000/\0<=r.1/\∃t,t<64/\r.2=qj 12 t
abbrev mrD(r:Run): D:=.tup [.int r.1,.int (mk r.2)]
theorem qmv(w:Nat)(rs:List Run)(h:zm rs): q7a [xo w rs]=some (.lst (rs.map mrD)):=by
 have hl':rs.length<=lim:=by have:=h.1;show _<=1000000;omega
 have c:za (we 2 (jh (bN 0) (jh (bN 1) wd))) zu (zo (qc (eV 0) (qc (qi (qt 1 [] k9) (qc (eV 1) qg)) qg))) [none,none] (rs.map q3t)=some (rs.map mrD):=by
  have hr:=h.2;clear hl' h
  induction rs with
  | nil=>rfl
  | cons r rs ih=>
   have ih':=ih fun x hx=>hr x (gj _ hx);have m:=qbo r.2 (hr r gi).1 (hr r gi).2.1;rw [gf];simp! [za,ih',m,zu]
 (refine jc ?_;simp! [q4o,zl,hl',c])
theorem qgc(w:Nat)(rs:List Run)(h:zm rs): q2p [xo w rs]=some (.lst (rs.map mrD)):=by
 have hl':rs.length<=lim:=by have:=h.1;show _<=1000000;omega
 have c:za (we 2 (jh (bN 0) (jh (bN 1) wd))) zu (zo (qc (eV 0) (qc (qi q6u (qc (eL (zl (jl (eV 1)) [none] (bN 0) zu (eOp oShl (eC (.int 1)) (eV 0)))) qg)) qg))) [none,none] (rs.map q3t)=some (rs.map mrD):=by
  have hr:=h.2;clear hl' h
  induction rs with
  | nil=>rfl
  | cons r rs ih=>
   have ih':=ih fun x hx=>hr x (gj _ hx);have hl2:r.2.length<=lim:=by have:=(hr r gi).2.1;show _<=1000000;omega
   have c2:=qie r.2 (hr r gi).1 [];have a:=q5i (r.2.map fun x=>(2:Int) ^ x.toNat);rw [gf];simp! [za,ih',zl,hl2,c2,a,zu]
   rfl
 (refine jc ?_;simp! [q0o,zl,hl',c])
def cM(rs:List Run)(k:Nat): Int:=((rs.filter fun r=>decide (Builtin.bitAnd (mk r.2) (k:Int)=(k:Int))).map (·.1)).sum
theorem qif(rs:List Run)(k:Nat): za (we 2 (jh (bN 0) (jh (bN 1) wd))) (z7 oEq (eOp oBand (eV 1) (eV 2)) (eV 2)) (eV 0) [none,none,some (.fz (.int (k:Int)))] (rs.map mrD)
  = some (((rs.filter fun r=>decide (Builtin.bitAnd (mk r.2) (k:Int)=(k:Int))).map (·.1)).map D.int):=by
 induction rs with
 | nil=>rfl
 | cons r rs ih=>
  rw [gf]
  by_cases hb:Builtin.bitAnd (mk r.2) (k:Int)=(k:Int)
  ·simp! [za,ih,q8k,hb,n9,g3f,pz]
  ·simp! [za,ih,q8k,hb,n9,g5n,t6,m6]
theorem qbp(rs:List Run)(h:zm rs)(k:Nat)(hk:k<64): yw [.lst (rs.map mrD),TI (qj 12 k)]=some (.int (cM rs k)):=by
 have hl':rs.length<=lim:=by have:=h.1;show _<=1000000;omega
 have m:k9 [TI (qj 12 k)]=some (.int (k:Int)):=by
  rw [qbo _ (fun x hx=>?_) (mm (q2o 12 k) (by decide)),(ym k hk).2];obtain⟨i,rfl,hi⟩:=qad hx;omega
 have c:=qif rs k;have a:=q5i ((rs.filter fun r=>decide (Builtin.bitAnd (mk r.2) (k:Int)=(k:Int))).map (·.1))
 (refine jc ?_;simp! [yu,zl,hl',m,c,a])
 rfl
theorem q5l(x0:Option B)(rs:List Run)(h:zm rs): ∀(n k:Nat) (acc:List D) (b:Option B),acc.length+n<=1000->∃b',
  runFor (bN 3) wj (z9 (k:Int) n) [x0,some (.fz (.lst (rs.map mrD))),some (.ow acc),b]=some (.nx,[x0,some (.fz (.lst (rs.map mrD))),some (.ow (acc++(List.range' k n).map fun i:Nat=>.int (cM rs i))),b'])
 | 0,k,acc,b,_=>⟨b,by simp [z9,runFor]⟩
 | n+1,k,acc,b,hn=>by
  have hl':rs.length<=lim:=by have:=h.1;show _<=1000000;omega
  have hl2:acc.length<lim:=by show _<1000000;omega
  obtain⟨b',ih⟩:=q5l x0 rs h n (k+1) (acc++[.int (cM rs k)]) (some (.fz (.int (k:Int)))) (by simp;omega);have c:=qif rs k;have a:q6u [.lst (((rs.filter fun r=>decide (Builtin.bitAnd (mk r.2) (k:Int)=(k:Int))).map (·.1)).map D.int)]=some (.int (cM rs k)):=q5i _;have body:wj [x0,some (.fz (.lst (rs.map mrD))),some (.ow acc),some (.fz (.int (k:Int)))]=some (.nx,[x0,some (.fz (.lst (rs.map mrD))),some (.ow (acc++[.int (cM rs k)])),some (.fz (.int (k:Int)))]):=by
   refine qgb rfl ?_ hl2;simp! [zl,hl',c,a]
  refine⟨b',?_⟩;rw [q2w,jt (b:=bN 3) rfl body,show(k:Int)+1=((k+1:Nat):Int) by omega,ih,g0y];simp
theorem qdv(w:Nat)(rs:List Run)(h:zm rs)(hw:w<=6): q1x [xo w rs]=some (.lst ((List.range (2 ^ w)).map fun i:Nat=>.int (cM rs i))):=by
 have h2:2 ^ w<=64:=mm (g0n (by decide) hw) (by decide);obtain⟨b',e⟩:=q5l (some (.fz (xo w rs))) rs h (2 ^ w) 0 [] none (by simp;omega);have m:=qgc w rs h;have hr:iR1 (qc (eOp oShl (eC (.int 1)) (eOp oIx (eV 0) (eC (.int 0)))) qg) [some (.fz (xo w rs)),some (.fz (.lst (rs.map mrD))),some (.ow []),none]=some (z9 ((0:Nat):Int) (2 ^ w)):=by
  have hs:oShl (.int 1) (.int (w:Int))=some (.int ((2 ^ w:Nat):Int)):=by
   rw [qac 1 (w:Int) (by omega) (by omega) (by decide),nj,Int.one_mul]
   norm_cast
  have ha:qc (eOp oShl (eC (.int 1)) (eOp oIx (eV 0) (eC (.int 0)))) qg [some (.fz (xo w rs)),some (.fz (.lst (rs.map mrD))),some (.ow []),none]=some [.int ((2 ^ w:Nat):Int)]:=qd (qu x_c (qu (x_v rfl) x_c rfl) hs) qr;have h3:(0:Int)<=((2 ^ w:Nat):Int):=g1l _;have h4:((2 ^ w:Nat):Int)<=64:=by exact_mod_cast h2
  rw [q6k _ _ _ ha (g5o (by decide) h3) (g4i h4 (by decide)),nj]
  rfl
 have hlst:q0f qg [some (.fz (xo w rs)),some (.fz (.lst (rs.map mrD))),none,none]=some []:=rfl;rw [g05, <- g1b] at e;refine qmu (qbk (xc (zj (qd (x_v rfl) qr) rfl m)) (qbk (qe4 hlst) (qbk (q43 hr e) (qwi rfl (qqh (x_v rfl))))))
abbrev setD(k:Nat): D:=TI (qj 12 k)
abbrev pairD(rs:List Run)(k:Nat): D:=.tup [setD k,.int (cM rs k)]
theorem qhg(rs:List Run)(L:Int)(l:List Nat)(hl:l.length<=1000): kg [.lst (l.map (pairD rs)),.int L]=some (.tup ((l.filter fun k=>decide (L<=cM rs k)).map (pairD rs))):=by
 have hl':l.length<=lim:=by show _<=1000000;omega
 have c:za (bN 0) (z7 oGe (eOp oIx (eV 0) (eC (.int 1))) (eV 1)) (eV 0) [none,some (.fz (.int L))] (l.map (pairD rs))=some ((l.filter fun k=>decide (L<=cM rs k)).map (pairD rs)):=by
  clear hl hl'
  induction l with
  | nil=>rfl
  | cons k l ih=>
   rw [gf]
   by_cases hb:L<=cM rs k
   ·simp! [za,ih,hb,n9,g3f,pz]
   ·simp! [za,ih,hb,n9,g5n,t6,m6]
 (refine jc ?_;simp! [q0c,zl,hl',c,xm])
theorem qgd(rs:List Run)(L:Int)(l:List Nat)(hl:l.length<=1000): kg [.tup (l.map (pairD rs)),.int L]=some (.tup ((l.filter fun k=>decide (L<=cM rs k)).map (pairD rs))):=by
 have hl':l.length<=lim:=by show _<=1000000;omega
 have c:za (bN 0) (z7 oGe (eOp oIx (eV 0) (eC (.int 1))) (eV 1)) (eV 0) [none,some (.fz (.int L))] (l.map (pairD rs))=some ((l.filter fun k=>decide (L<=cM rs k)).map (pairD rs)):=by
  clear hl hl'
  induction l with
  | nil=>rfl
  | cons k l ih=>
   rw [gf]
   by_cases hb:L<=cM rs k
   ·simp! [za,ih,hb,n9,g3f,pz]
   ·simp! [za,ih,hb,n9,g5n,t6,m6]
 (refine jc ?_;simp! [q0c,zl,hl',c,xm])
end My
open PySem PyProof.Rows L2 DL
namespace My
open PySem PyProof.Rows L2 DL
theorem q2x(ns:List Int)(k:Nat): ∃c:Int,xk [.lst (ns.map .int),.int (k:Int)]=some (.int c):=by
 by_cases h:(k:Int)<(ns.length:Int)
 ·have hk:k<ns.length:=by omega
  have hi:atI (ns.map D.int) (k:Int)=some (.int ns[k]):=by rw [q51,mj,ml hk];rfl
  refine⟨ns[k],?_⟩
  (refine jc ?_;simp! [q0a,h,hi])
 ·refine⟨0,?_⟩
  (refine jc ?_;simp! [q0a,h])
theorem q28(ns:List Int)(hl:ns.length<=63)(k:Int)(h0:0<=k)(h1:k<=1000000): ∃m,jx [.lst (ns.map .int),.int k]=some (.int m)/\0<=m/\m<2147483563:=by
 have hk7:zt (.int k) (.int 7919)=some (.int (k*7919)):=vm _ _ ⟨by decide,by decide⟩;have h7k:zt (.int 7) (.int k)=some (.int (7*k)):=xx _ _ ⟨by decide,by decide⟩;have h2k:zt (.int 2) (.int k)=some (.int (2*k)):=xx _ _ ⟨by decide,by decide⟩;have h2kk:zt (.int (2*k)) (.int k)=some (.int (2*k*k)):=vm _ _ ⟨by omega,by omega⟩;have hkk:0<=2*k*k/\2*k*k<=2000000000000:=by
  have a:0<=k*k:=Int.mul_nonneg h0 h0;have b:k*k<=1000000*1000000:=Int.mul_le_mul h1 h1 h0 (by decide);rw [Int.mul_assoc];omega
 have hc:∀x:Int,zt (.int x) (.int (48271+2*k*k))=some (.int (x*(48271+2*k*k))):=fun x=>vm _ _ ⟨by omega,by omega⟩;have hx:∀x:Int,zt (.int (x%2147483629)) (.int (x%2147483629))=some (.int ((x%2147483629)*(x%2147483629))):=fun x=>
  vm _ _ ⟨by have:=g0c x (show(2147483629:Int)≠0 by decide);omega,by have:=g1s x (show(0:Int)<2147483629 by decide);omega⟩
 have hy:∀x:Int,zt (.int x) (.int (69621+k))=some (.int (x*(69621+k))):=fun x=>vm _ _ ⟨by omega,by omega⟩;have fin:∀x:Int,0<=x%2147483563/\x%2147483563<2147483563:=fun x=>⟨g0c x (by decide),g1s x (by decide)⟩
 by_cases hn:0<ns.length
 ·obtain⟨j,hj,hm⟩:=q96 (x:=k) hn
  have hn':(0:Int)<(ns.length:Int):=by omega
  have hi:atI (ns.map D.int) (j:Int)=some (.int ns[j]):=by rw [q51,mj,ml hj];rfl
  have hd:oDivB (.int k) (.int (ns.length:Int))=some (.int (k / (ns.length:Int))):=q5k _ _ hn' (by omega);have h11:∀x:Int,zt (.int 11) (.int x)=some (.int (11*x)):=fun x=>xx _ _ ⟨by decide,by decide⟩;simp! [jx,wa,hk7,h7k,h2k,h2kk,hc,hx,hy,hm,hn',hi,hd,h11];exact⟨_,rfl,fin _⟩
 ·have hn':¬(0:Int)<(ns.length:Int):=by omega
  simp! [jx,wa,hk7,h7k,h2k,h2kk,hc,hx,hy,hn'];exact⟨_,rfl,fin _⟩
def runOf(n:Int)(w:Nat)(most:Int): Run:=(1+n / 4096%most,qj 12 (n%2 ^ w).toNat)
theorem qig(w:Nat)(hw:w<=1000): oShl (.int 1) (.int (w:Int))=some (.int (2 ^ w)):=by
 rw [qac 1 (w:Int) (by omega) (by omega) (by decide),nj,Int.one_mul]
theorem qbq(n:Int)(w:Nat)(most:Int)(hw:w<=12)(hm:0<most): q37 [.int n,.int (w:Int),.int most]=some (q3t (runOf n w most)):=by
 have hp:=qig w (by omega);have hpos:(0:Int)<2 ^ w:=Int.pow_pos (by decide);have ls:=qbn (n%2 ^ w).toNat;rw [g1i (g0c n (by omega))] at ls
 (refine jc ?_;simp! [q36,hp,hm,hpos,ls])
 rfl
def qbr(w:Nat)(r:Run): Prop:=(∀x∈r.2,0<=x/\x<100)/\r.2.length<=1000/\0<=r.1/\r.1<=1000000000000/\∃t,t<2 ^ w/\r.2=qj 12 t
theorem qge(n:Int)(w:Nat)(most:Int)(hw:w<=12)(hm:0<most)(hm2:most<=1000000000000): qbr w (runOf n w most):=by
 have hp0:(0:Int)<2 ^ w:=Int.pow_pos (by decide);have h1:=g0c (n / 4096) (by omega:most≠0);have h4:=g1s (n / 4096) hm;have h2:=g1s n hp0;have h3:=g0c n (by omega:(2:Int) ^ w≠0);refine⟨fun x hx=>?_,mm (q2o 12 _) (by decide),by show 0<=1+n / 4096%most;omega,by show 1+n / 4096%most<=_;omega,_,?_,rfl⟩
 ·obtain⟨i,rfl,hi⟩:=qad hx
  omega
 ·have:((n%2 ^ w).toNat:Int)<((2 ^ w:Nat):Int):=by
   rw [g1i h3]
   exact_mod_cast h2
  exact_mod_cast this
theorem q6l(x0 x2:Option B)(w:Nat)(most:Int)(hw:w<=12)(hm:0<most)(t:Rho): ∀(cs:List Int) (acc:List Run) (b5:Option B),acc.length+cs.length<=1000->∃b5',
  runFor (bN 5) ky (cs.map D.int) ([x0,some (.fz (.int (w:Int))),x2,some (.fz (.int most)),some (.ow (acc.map q3t)),b5]++t) =
   some (.nx,[x0,some (.fz (.int (w:Int))),x2,some (.fz (.int most)),some (.ow ((acc++cs.map fun n=>runOf n w most).map q3t)),b5']++t)
 | [],acc,b5,_=>⟨b5,by simp [runFor]⟩
 | c :: cs,acc,b5,h=>by
  have lr:=qbq c w most hw hm;have hl:acc.length<lim:=by simp at h;show _<1000000;omega
  obtain⟨b5',ih⟩:=q6l x0 x2 w most hw hm t cs (acc++[runOf c w most]) (some (.fz (.int c))) (by simp at h ⊢;omega);have body:ky ([x0,some (.fz (.int (w:Int))),x2,some (.fz (.int most)),some (.ow (acc.map q3t)),some (.fz (.int c))]++t)=some (.nx,[x0,some (.fz (.int (w:Int))),x2,some (.fz (.int most)),some (.ow ((acc++[runOf c w most]).map q3t)),some (.fz (.int c))]++t):=by
   simp! [ky,lr,q3n,qbl,qbm,hl,p5]
  refine⟨b5',?_⟩;rw [gf,jt (b:=bN 5) rfl body,ih];simp
theorem q6m(ns:List Int)(hns:ns.length<=63)(x2:Option B)(w:Nat)(most base:Int)(hw:w<=12)(hm:0<most)(hm2:most<=1000000000000)(b5:Option B): ∀(n:Nat) (k:Int) (acc:List Run) (b7 b8:Option B),0<=k->k+n<=1000->acc.length+n<=1000->(∀r∈acc,qbr w r) ->
  ∃(rs:List Run) (b7' b8':Option B),runFor (bN 7) ya (z9 k n) [some (.fz (.lst (ns.map .int))),some (.fz (.int (w:Int))),x2,some (.fz (.int most)),some (.ow (acc.map q3t)),b5,some (.fz (.int base)),b7,b8] =
   some (.nx,[some (.fz (.lst (ns.map .int))),some (.fz (.int (w:Int))),x2,some (.fz (.int most)),some (.ow (rs.map q3t)),b5,some (.fz (.int base)),b7',b8'])/\rs.length=acc.length+n/\∀r∈rs,qbr w r
 | 0,k,acc,b7,b8,_,_,_,ha=>⟨acc,b7,b8,by simp [z9,runFor],by simp,ha⟩
 | n+1,k,acc,b7,b8,h0,h1,h2,ha=>by
  obtain⟨m1,e1,p1,q1⟩:=q28 ns hns (10+k) (by omega) (by omega);have hl:acc.length<lim:=by show _<1000000;omega
  have body:∃N b8',ya [some (.fz (.lst (ns.map .int))),some (.fz (.int (w:Int))),x2,some (.fz (.int most)),some (.ow (acc.map q3t)),b5,some (.fz (.int base)),some (.fz (.int k)),b8] =
    some (.nx,[some (.fz (.lst (ns.map .int))),some (.fz (.int (w:Int))),x2,some (.fz (.int most)),some (.ow ((acc++[runOf N w most]).map q3t)),b5,some (.fz (.int base)),some (.fz (.int k)),b8']):=by
   have lr:=fun n=>qbq n w most hw hm;have hor:∀a b:Int,oBor (.int a) (.int b)=some (.int (Builtin.bitOr a b)):=fun _ _=>rfl;have ht:∀x:Int,zt (.int x) (.int 4096)=some (.int (x*4096)):=fun x=>vm _ _ ⟨by decide,by decide⟩
   by_cases c2:m1%3=0
   ·simp! [ya,e1,c2,lr,hor,ht,q3n,qbl,qbm,hl,p5]
    exact⟨_,_,rfl⟩
   ·simp! [ya,e1,c2,lr,q3n,qbl,qbm,hl,p5]
    exact⟨_,_,rfl⟩
  obtain⟨N,b8',eb⟩:=body;obtain⟨rs,c7,c8,er,el,ho⟩:=q6m ns hns x2 w most base hw hm hm2 b5 n (k+1) (acc++[runOf N w most]) (some (.fz (.int k))) b8' (by omega) (by omega) (by simp;omega) (fun r hr=>by
   rcases u6.mp hr with hr|hr
   ·exact ha r hr
   ·rw [ur.mp hr];exact qge N w most hw hm hm2)
  refine⟨rs,c7,c8,?_,by rw [el];simp;omega,ho⟩;rw [q2w,jt (b:=bN 7) rfl eb,er]
theorem qhh(ns:List Int)(hl:ns.length<=63)(w:Nat)(hw:w<=12)(mr:Nat)(hmr:mr<=61): ∃rs:List Run,q3x [.lst (ns.map .int),.int (w:Int),.int (mr:Int)]=some (xo w rs)/\rs.length<=63/\∀r∈rs,qbr w r:=by
 obtain⟨m0,e0,p0,q0⟩:=q28 ns hl 0 (by decide) (by decide);obtain⟨m1,e1,p1,q1⟩:=q28 ns hl 1 (by decide) (by decide);obtain⟨m2,e2,p2,q2⟩:=q28 ns hl 2 (by decide) (by decide);obtain⟨c0,ec⟩:=q2x ns 0;rw [show((0:Nat):Int)=0 from rfl] at ec;obtain⟨most,emost,hmost,hmost2⟩:∃most:Int,atI [D.int 1,D.int 3,D.int 9,D.int 1000000000000] (m0%4)=some (.int most)/\0<most/\most<=1000000000000:=by
  have:m0%4=0\/m0%4=1\/m0%4=2\/m0%4=3:=by omega
  rcases this with e|e|e|e <;> rw [e]
  ·exact⟨1,rfl,by decide,by decide⟩
  ·exact⟨3,rfl,by decide,by decide⟩
  ·exact⟨9,rfl,by decide,by decide⟩
  ·exact⟨1000000000000,rfl,by decide,by decide⟩
 have hpw:oPow (.int 10) (.int 12)=some (.int 1000000000000):=by
  rw [q7i 10 12 (by decide) (by decide) (by decide)];rfl
 by_cases hc:c0%2=0
 ·have sl:∃cs:List Int,oSl (.lst (ns.map D.int)) (some 2) (some (2+(mr:Int)))=some (.lst (cs.map D.int))/\cs.length<=63:=by
   refine⟨(ns.drop (min 2 ns.length)).take (min (2+mr) ns.length-min 2 ns.length),?_,?_⟩
   ·show some (D.lst (DL.cutD (ns.map D.int) (some ((2:Nat):Int)) (some (2+(mr:Int)))))=_
    rw [show(2:Int)+(mr:Int)=((2+mr:Nat):Int) by omega];unfold DL.cutD;rw [HT.sIx_nat,HT.sIx_nat,gh,g4n,g4o]
   ·rw [pj,g0w];omega
  obtain⟨cs,sl,hcs⟩:=sl;obtain⟨b5,e⟩:=q6l (some (.fz (.lst (ns.map .int)))) (some (.fz (.int (mr:Int)))) w most hw hmost [none,none,none] cs [] none (by simp;omega);refine⟨cs.map fun n=>runOf n w most,?_,?_,?_⟩
  ·simp only [g0e,g05,g5i] at e
   (refine jc ?_;simp! [q0b,e0,ec,emost,hpw,hc,sl,e,xm])
  ·rw [gh];omega
  ·intro r hr
   obtain⟨n,_,rfl⟩:=mi.mp hr;exact qge n w most hw hmost hmost2
 ·obtain⟨tn,htn,etn⟩:=q96 (x:=m2) (n:=mr+1) (by omega)
  rw [show((mr+1:Nat):Int)=(mr:Int)+1 by omega] at etn;have hpos:(0:Int)<2 ^ w:=Int.pow_pos (by decide);have hp:=qig w (by omega);obtain⟨rs,b7,b8,e,el,ho⟩:=q6m ns hl (some (.fz (.int (mr:Int)))) w most (m1%2 ^ w) hw hmost hmost2 none tn 0 [] none none (by decide) (by omega) (by simp;omega) (by simp);have hr:iR1 (qc (eOp oMod (qi (qt 2 [] jx) (qc (eV 0) (qc (eC (.int 2)) qg))) (eOp zp (eV 2) (eC (.int 1)))) qg) [some (.fz (.lst (ns.map .int))),some (.fz (.int (w:Int))),some (.fz (.int (mr:Int))),some (.fz (.int most)),some (.ow []),none,some (.fz (.int (m1%2 ^ w))),none,none]=some (z9 0 tn):=by
   have ha:qc (eOp oMod (qi (qt 2 [] jx) (qc (eV 0) (qc (eC (.int 2)) qg))) (eOp zp (eV 2) (eC (.int 1)))) qg [some (.fz (.lst (ns.map .int))),some (.fz (.int (w:Int))),some (.fz (.int (mr:Int))),some (.fz (.int most)),some (.ow []),none,some (.fz (.int (m1%2 ^ w))),none,none]=some [.int (tn:Int)]:=
    qd (qu (zj (qd (x_v rfl) (qd x_c qr)) rfl e2) (qu (x_v rfl) x_c rfl) etn) qr
   rw [q6k _ _ _ ha (by omega) (by omega),nj]
  refine⟨rs,?_,by rw [el];simp;omega,ho⟩;simp only [g0e] at e
  (refine jc ?_;simp! [q0b,e0,e1,ec,emost,hpw,hc,hp,hpos,hr,e,xm])
theorem qgf(ns:List Int)(cs:List Int)(hc:0<cs.length)(hc2:cs.length<=1000): ∃L:Int,xv [.lst (ns.map .int),.lst (cs.map .int)]=some (.int L)/\1<=L:=by
 obtain⟨c1,ec⟩:=q2x ns 1;rw [show((1:Nat):Int)=1 from rfl] at ec;have hpw:oPow (.int 10) (.int 15)=some (.int 1000000000000000):=by
  rw [q7i 10 15 (by decide) (by decide) (by decide)];rfl
 have r5:c1%5=0\/c1%5=1\/c1%5=2\/c1%5=3\/c1%5=4:=by omega
 obtain⟨j,hj,hm⟩:=q96 (x:=c1 / 5) hc;have hi:atI (cs.map D.int) (j:Int)=some (.int cs[j]):=by rw [q51,mj,ml hj];rfl
 have hmax:∀a b:Int,oMax [.int a,.int b]=some (.int (if b>a then b else a)):=fun _ _=>rfl;rcases r5 with e|e|e|e|e
 ·simp! [xv,xu,ec,hpw,e]
  exact⟨_,rfl,by omega⟩
 ·simp! [xv,xu,ec,hpw,e]
  exact⟨_,rfl,by omega⟩
 ·simp! [xv,xu,ec,hpw,e,hm,hi,hmax]
  exact⟨_,rfl,by split <;> omega⟩
 ·simp! [xv,xu,ec,hpw,e,hm,hi,hmax]
  exact⟨_,rfl,by split <;> omega⟩
 ·simp! [xv,xu,ec,hpw,e,hm,hi,hmax]
  exact⟨_,rfl,by split <;> omega⟩
theorem qs5{w:Nat}(hw:w<=6){rs:List Run}(hl:rs.length<=63)(h:∀r∈rs,qbr w r): zm rs:=⟨by omega,fun r hr=>by
 obtain⟨a,b,c,_,t,ht,e⟩:=h r hr;have:2 ^ w<=64:=mm (g0n (by decide) hw) (by decide);exact⟨a,b,c,t,by omega,e⟩⟩
end My
open PySem PyProof.Rows L2 DL
namespace My
open PySem PyProof.Rows L2 DL
def firstOf(b:List Int): Int:=match b.getLast? with
 | some x=>x+1
 | none=>0
theorem qmw:∀i:Nat,i<6->∀m:Nat,m<2 ^ i->qj 12 (m+2 ^ i)=qj 12 m++[(i:Int)]:=by decide +kernel
theorem qs6(b:List Int)(x:Int): oIx (TI (b++[x])) (.int (-1))=some (.int x):=by
 rw [qpf,qpe,p5,gf,g0e,List.getLast?_append];simp
theorem qih{fa:FA}{ρ : Rho}{i j:Int}(ha:fa ρ = some [.int i,.int j])(h1 : -(2 ^ 62)<=i)(h2:i<2 ^ 62)(h3 : -(2 ^ 62)<=j)(h4:j<2 ^ 62): iR2 fa ρ = some (z9 i (j-i).toNat):=by
 unfold iR2;rw [ha,gd];dsimp only;rw [gq h1,gq h2,gq h3,gq h4]
 rfl
theorem qhi(b:List Int)(w s:Nat)(hs:firstOf b=(s:Int))(hb:b.length<=100)(hw:w<=100)(hs2:s<=100): yh [TI b,.int (w:Int)]=some (.lst ((List.range (w-s)).map fun i:Nat=>TI (b++[((s+i:Nat):Int)]))):=by
 have e:eIf (bT (eV 0)) (eOp zp (eOp oIx (eV 0) (eUn q9u (eC (.int 1)))) (eC (.int 1))) (eC (.int 0)) [some (.fz (TI b)),some (.fz (.int (w:Int))),none]=some (.int (s:Int)):=by
  rw [<- hs];cases b with
  | nil=>rfl
  | cons x r=>
   have hx:∃b' y,x :: r=b'++[y]:=⟨(x :: r).dropLast,(x :: r).getLast (by simp),(List.dropLast_concat_getLast (by simp)).symm⟩
   obtain⟨b',y,e⟩:=hx;have ht:bT (eV 0) [some (.fz (TI (x :: r))),some (.fz (.int (w:Int))),none]=some true:=rfl;unfold eIf;rw [ht,gd,m8 rfl,e];have hf:firstOf (b'++[y])=y+1:=by unfold firstOf;rw [List.getLast?_append];simp
   rw [hf];exact qu (qu (x_v rfl) (qxg x_c rfl) (qs6 b' y)) x_c rfl
 have r:iR2 (qc (eV 2) (qc (eV 1) qg)) [some (.fz (TI b)),some (.fz (.int (w:Int))),some (.fz (.int (s:Int)))]=some (z9 (s:Int) (w-s)):=by
  rw [qih (qd (x_v rfl) (qd (x_v rfl) qr)) (by omega) (by omega) (by omega) (by omega),show((w:Int)-(s:Int)).toNat=w-s by omega]
 have hl:(z9 (s:Int) (w-s)).length<=lim:=by rw [q7j];show _<=1000000;omega
 have c:za (bN 0) zu (eOp zp (eV 1) (zo (qc (eV 0) qg))) [none,some (.fz (TI b))] (z9 (s:Int) (w-s))=some ((List.range (w-s)).map fun i:Nat=>TI (b++[((s+i:Nat):Int)])):=by
  have:=q64 (b:=bN 0) (f:=eOp zp (eV 1) (zo (qc (eV 0) qg))) (ρ :=[none,some (.fz (TI b))]) (fun d=>match d with | .int x=>TI (b++[x])|_=>.non) (ds:=z9 (s:Int) (w-s)) fun d hd=>by
   simp only [z9,mi] at hd;obtain⟨i,_,rfl⟩:=hd;refine⟨_,rfl,qu (x_v rfl) (vg (qd (x_v rfl) qr) (by show 1<=1000000;decide)) ?_⟩;rw [qd7 _ _ (by rw [gh];simp;omega)];simp only [TI,p5,gf,g0e]
  rw [this,z9,ni]
  congr 1
 have lc:zl (iR2 (qc (eV 2) (qc (eV 1) qg))) [none,some 0] (bN 0) zu (eOp zp (eV 1) (zo (qc (eV 0) qg))) [some (.fz (TI b)),some (.fz (.int (w:Int))),some (.fz (.int (s:Int)))]=some ((List.range (w-s)).map fun i:Nat=>TI (b++[((s+i:Nat):Int)])):=by
  unfold zl;rw [r,gd,m8 hl];exact c
 have k1:zr 2 (eIf (bT (eV 0)) (eOp zp (eOp oIx (eV 0) (eUn q9u (eC (.int 1)))) (eC (.int 1))) (eC (.int 0))) [some (.fz (TI b)),some (.fz (.int (w:Int))),none]=some (.nx,[some (.fz (TI b)),some (.fz (.int (w:Int))),some (.fz (.int (s:Int)))]):=by
  unfold zr;rw [e]
  rfl
 have k2:zc (eL (zl (iR2 (qc (eV 2) (qc (eV 1) qg))) [none,some 0] (bN 0) zu (eOp zp (eV 1) (zo (qc (eV 0) qg))))) [some (.fz (TI b)),some (.fz (.int (w:Int))),some (.fz (.int (s:Int)))]=some (.rt (.lst ((List.range (w-s)).map fun i:Nat=>TI (b++[((s+i:Nat):Int)]))),[some (.fz (TI b)),some (.fz (.int (w:Int))),some (.fz (.int (s:Int)))]):=by
  unfold zc;rw [x_l lc]
  rfl
 have k3:vd [some (.fz (TI b)),some (.fz (.int (w:Int))),none]=some (.rt (.lst ((List.range (w-s)).map fun i:Nat=>TI (b++[((s+i:Nat):Int)]))),[some (.fz (TI b)),some (.fz (.int (w:Int))),some (.fz (.int (s:Int)))]):=by
  unfold vd z0;simp (config:={implicitDefEqProofs:=false}) only [k1,gd,k2]
 refine jc ?_;have k4:([TI b,.int (w:Int)].map (fun d=>some (B.fz d))++List.replicate (3 - [TI b,D.int (w:Int)].length) none:Rho)=[some (.fz (TI b)),some (.fz (.int (w:Int))),none]:=rfl;rw [k4,k3,mx]
def firstN(k:Nat): Nat:=((List.range 7).find? fun s=>decide (k<2 ^ s)).getD 6
def ko(w k:Nat): List Nat:=(List.range (w-firstN k)).map fun i=>k+2 ^ (firstN k+i)
def xq(k:Nat): List Nat:=((List.range 6).filter fun j=>bit k j).map fun j=>k-2 ^ j
theorem qph:∀k:Nat,k<64->firstOf (qj 12 k)=(firstN k:Int)/\k<2 ^ firstN k/\firstN k<=6:=by decide +kernel
theorem qs7(w k:Nat)(hw:w<=6)(hk:k<64): yh [setD k,.int (w:Int)]=some (.lst ((ko w k).map setD)):=by
 obtain⟨h1,h2,h3⟩:=qph k hk;rw [qhi (qj 12 k) w (firstN k) h1 (mm (q2o 12 k) (by decide)) (by omega) (by omega)];unfold ko;rw [ni]
 congr 2
 refine g1j fun i hi=>?_;have hi':=tw.mp hi;have h4:k<2 ^ (firstN k+i):=m5 h2 (g0n (by decide) (by omega));show TI _=TI (qj 12 (k+2 ^ (firstN k+i)));rw [qmw (firstN k+i) (by omega) k h4]
theorem qkf:∀k:Nat,k<64->((List.range (qj 12 k).length).map fun p=>(qj 12 k).take p++(qj 12 k).drop (p+1))=(xq k).map (qj 12):=by decide +kernel
theorem qpi(k:Nat)(hk:k<64): vx [setD k]=some (.lst ((xq k).map setD)):=by
 have hb:=q2o 12 k;have c:za (bN 0) zu (eOp zp (eSl (eV 1) oNo (oAt (eV 0))) (eSl (eV 1) (oAt (eOp zp (eV 0) (eC (.int 1)))) oNo)) [none,some (.fz (setD k))] (z9 0 (qj 12 k).length) =
   some ((xq k).map setD):=by
  have:=q64 (b:=bN 0) (f:=eOp zp (eSl (eV 1) oNo (oAt (eV 0))) (eSl (eV 1) (oAt (eOp zp (eV 0) (eC (.int 1)))) oNo)) (ρ :=[none,some (.fz (setD k))]) (fun d=>match d with | .int x=>TI ((qj 12 k).take x.toNat++(qj 12 k).drop (x.toNat+1))|_=>.non) (ds:=z9 0 (qj 12 k).length) fun d hd=>by
   rw [q98] at hd;obtain⟨i,hi,rfl⟩:=mi.mp hd;have s1:oSl (setD k) none (some (i:Int))=some (TI ((qj 12 k).take i)):=by
    show some (D.tup (DL.cutD ((qj 12 k).map D.int) none (some (i:Int))))=_;rw [q9k (α :=D), <- g4n]
   have s2:oSl (setD k) (some ((i+1:Nat):Int)) none=some (TI ((qj 12 k).drop (i+1))):=by
    show some (D.tup (DL.cutD ((qj 12 k).map D.int) (some ((i+1:Nat):Int)) none))=_;rw [qga (α :=D), <- g4o]
   have s3:zp (TI ((qj 12 k).take i)) (TI ((qj 12 k).drop (i+1)))=some (TI ((qj 12 k).take i++(qj 12 k).drop (i+1))):=by
    rw [qd7 _ _ (by rw [gh,gh,pj,g0w];omega), <- p5]
   refine⟨_,rfl,?_⟩;show eOp zp (eSl (eV 1) oNo (oAt (eV 0))) (eSl (eV 1) (oAt (eOp zp (eV 0) (eC (.int 1)))) oNo) [some (.fz (.int (i:Int))),some (.fz (setD k))]=some (TI ((qj 12 k).take (i:Int).toNat++(qj 12 k).drop ((i:Int).toNat+1)));rw [nj];have e1:(i:Int)+1=((i+1:Nat):Int):=by omega
   simp! [s1,e1,s2,s3]
  rw [this,q98,ni];have hf:=nz (List.map TI) (qkf k hk);rw [ni,ni] at hf;exact nz some hf
 have hr:iR1 (qc (qi xi (qc (eV 0) qg)) qg) [some (.fz (setD k))]=some (z9 0 (qj 12 k).length):=by
  have ha:qc (qi xi (qc (eV 0) qg)) qg [some (.fz (setD k))]=some [.int ((qj 12 k).length:Int)]:=by
   refine qd (x_call (qd (x_v rfl) qr) ?_) qr;rw [q44,gh]
  rw [q6k _ _ _ ha (by omega) (by omega),nj]
 have hl:(z9 0 (qj 12 k).length).length<=lim:=by rw [q7j];show _<=1000000;omega
 (refine jc ?_;simp! [vw,zl,hr,hl,c])
theorem q9l{A:List Nat}(hn:A.Nodup)(hA:∀k∈A,k<64): (A.map (qj 12)).Nodup:=by
 rw [List.Nodup,tq];refine g0l (fun {a b} ha hb hne e=>hne (q2n a (hA a ha) b (hA b hb) e)) hn
theorem qd8:∀A:List Nat,q4h (A.map fun k=>D.tup [setD k,.bl true])=some (A.map (qj 12),A.map fun _=>.bl true)
 | []=>rfl
 | k :: A=>by
  have hi:zq ((qj 12 k).map D.int)=some (qj 12 k):=x8 _;rw [gf];show(zq ((qj 12 k).map D.int)).bind (fun q=>(q4h (A.map fun k=>D.tup [setD k,.bl true])).map fun p=>(q :: p.1,D.bl true :: p.2))=_;rw [hi,qd8 A]
  rfl
abbrev vj(A:List Nat): D:=.dtt (A.map (qj 12)) (A.map fun _=>.bl true)
theorem qkg(A:List Nat)(hn:A.Nodup)(hA:∀k∈A,k<64)(hl:A.length<=1000): qe0 [.lst (A.map fun k=>D.tup [setD k,.bl true])]=some (vj A):=by
 show(q4h (A.map fun k=>D.tup [setD k,.bl true])).bind (fun p=>if p.1.Nodup/\(A.map fun k=>D.tup [setD k,.bl true]).length<=lim then some (D.dtt p.1 p.2) else none)=_;rw [qd8];show(if(A.map (qj 12)).Nodup/\_ then _ else _)=_;rw [m8 ⟨q9l hn hA,by rw [gh];show _<=1000000;omega⟩]
theorem qpj(A:List Nat)(hA:∀k∈A,k<64)(m:Nat)(hm:m<64): q5r (setD m) (vj A)=some (.bl (decide (m∈A))):=by
 have hi:zq ((qj 12 m).map D.int)=some (qj 12 m):=x8 _;show(zq ((qj 12 m).map D.int)).map (fun k=>D.bl (decide (k∈A.map (qj 12))))=_;rw [hi,mx]
 congr 2
 rw [p7,nk,nk]
 constructor
 ·intro h
  obtain⟨a,ha,e⟩:=mi.mp h;exact q2n a (hA a ha) m hm e ▸ ha
 ·exact fun h=>td h
theorem qpk:∀k:Nat,k<64->∀m∈xq k,m<64:=by decide +kernel
def chk(A:List Nat)(l:Nat): Bool:=(xq l).all fun m=>decide (m∈A)
theorem qv0(A:List Nat)(hA:∀k∈A,k<64)(l:Nat)(hl:l<64)(x0 x1 x3 x4:Option B): qi qbz (qc (eL (zl (jl (qi (qt 1 [] vx) (qc (eV 5) qg))) [none,some 2] (bN 0) zu (eOp q5r (eV 0) (eV 1)))) qg)
  [x0,x1,some (.fz (vj A)),x3,x4,some (.fz (setD l))]=some (.bl (chk A l)):=by
 have f:=qpi l hl;have hlen:((xq l).map setD).length<=lim:=by
  rw [gh];unfold xq;rw [gh];exact mm (nc _ _) (by simp;decide)
 have c:za (bN 0) zu (eOp q5r (eV 0) (eV 1)) [none,some (.fz (vj A))] ((xq l).map setD)=some (((xq l).map fun m=>decide (m∈A)).map D.bl):=by
  have hf:=qpk l hl;generalize xq l=q at hf;clear f hlen
  induction q with
  | nil=>rfl
  | cons m q ih=>
   have ih':=ih fun x hx=>hf x (gj _ hx);have hi:=qpj A hA m (hf m gi);rw [gf];simp! [za,ih',hi,zu]
 have a:qbz [.lst (((xq l).map fun m=>decide (m∈A)).map D.bl)]=some (.bl (chk A l)):=by rw [qkc,g6k];rfl
 rw [gh] at hlen;simp! [f,zl,hlen,c,a]
theorem qs8:∀w:Nat,w<7->∀k:Nat,k<64->∀l∈ko w k,l<64:=by decide +kernel
theorem qpl:∀w:Nat,w<7->∀k:Nat,k<64->(ko w k).length<=6:=by decide +kernel
theorem q65(A:List Nat)(hA:∀k∈A,k<64)(x0 x1 x4:Option B): ∀(q acc:List Nat) (b5:Option B),(∀l∈q,l<64)->acc.length+q.length<=1000->∃b5',
  runFor (bN 5) kh (q.map setD) [x0,x1,some (.fz (vj A)),some (.ow (acc.map setD)),x4,b5]=some (.nx,[x0,x1,some (.fz (vj A)),some (.ow ((acc++q.filter (chk A)).map setD)),x4,b5'])
 | [],acc,b5,_,_=>⟨b5,by simp [runFor]⟩
 | l :: q,acc,b5,hq,hl=>by
  simp only [n8] at hl;have hla:acc.length<lim:=by show _<1000000;omega
  have ck:=qv0 A hA l (hq l gi) x0 x1 (some (.ow (acc.map setD))) x4;have hq':∀x∈q,x<64:=fun x hx=>hq x (gj _ hx);have e0:bN 5 (setD l) [x0,x1,some (.fz (vj A)),some (.ow (acc.map setD)),x4,b5]=some [x0,x1,some (.fz (vj A)),some (.ow (acc.map setD)),x4,some (.fz (setD l))]:=by
   unfold bN
   rfl
  cases hc:chk A l with
  | true=>
   rw [hc] at ck;obtain⟨b5',ih⟩:=q65 A hA x0 x1 x4 q (acc++[l]) (some (.fz (setD l))) hq' (by simp;omega);have body:kh [x0,x1,some (.fz (vj A)),some (.ow (acc.map setD)),x4,some (.fz (setD l))]=some (.nx,[x0,x1,some (.fz (vj A)),some (.ow ((acc++[l]).map setD)),x4,some (.fz (setD l))]):=by
    unfold kh;refine q50 (q07 ck rfl) rfl ?_;simp! [q3n,qbl,qbm,hla,p5]
   refine⟨b5',?_⟩;rw [gf,jt (b:=bN 5) e0 body,ih,n9,m8 hc];simp
  | false=>
   rw [hc] at ck;obtain⟨b5',ih⟩:=q65 A hA x0 x1 x4 q acc (some (.fz (setD l))) hq' (by omega);have body:kh [x0,x1,some (.fz (vj A)),some (.ow (acc.map setD)),x4,some (.fz (setD l))]=some (.nx,[x0,x1,some (.fz (vj A)),some (.ow (acc.map setD)),x4,some (.fz (setD l))]):=by
    unfold kh;exact j9 (q07 ck rfl) rfl ja
   refine⟨b5',?_⟩;rw [gf,jt (b:=bN 5) e0 body,ih,n9,ma (by rw [hc];exact m9)]
def qe5(w:Nat)(A:List Nat): List Nat:=A.flatMap fun s=>(ko w s).filter (chk A)
theorem q9m(w:Nat)(hw:w<=6)(A:List Nat)(hA:∀k∈A,k<64)(x0:Option B): ∀(q acc:List Nat) (b4 b5:Option B),(∀l∈q,l<64)->acc.length+q.length*6<=1000->∃b4' b5',
  runFor (bN 4) q21 (q.map setD) [x0,some (.fz (.int (w:Int))),some (.fz (vj A)),some (.ow (acc.map setD)),b4,b5]=some (.nx,[x0,some (.fz (.int (w:Int))),some (.fz (vj A)),some (.ow ((acc++q.flatMap fun s=>(ko w s).filter (chk A)).map setD)),b4',b5'])
 | [],acc,b4,b5,_,_=>⟨b4,b5,by simp [runFor]⟩
 | s :: q,acc,b4,b5,hq,hl=>by
  simp only [n8] at hl;have hs:=hq s gi;have m:=qs7 w s hw hs;have hml:=qpl w (by omega) s hs;obtain⟨c5,e⟩:=q65 A hA x0 (some (.fz (.int (w:Int)))) (some (.fz (setD s))) (ko w s) acc b5 (qs8 w (by omega) s hs) (by omega);have hfl:((ko w s).filter (chk A)).length<=6:=mm (nc _ _) hml;obtain⟨b4',b5',ih⟩:=q9m w hw A hA x0 q (acc++(ko w s).filter (chk A)) (some (.fz (setD s))) c5 (fun x hx=>hq x (gj _ hx)) (by rw [mw];omega);have body:q21 [x0,some (.fz (.int (w:Int))),some (.fz (vj A)),some (.ow (acc.map setD)),some (.fz (setD s)),b5]=some (.nx,[x0,some (.fz (.int (w:Int))),some (.fz (vj A)),some (.ow ((acc++(ko w s).filter (chk A)).map setD)),some (.fz (setD s)),c5]):=by
   simp! [q21,m,e]
  refine⟨b4',b5',?_⟩;rw [gf,jt (b:=bN 4) rfl body,ih,p6,uh]
theorem qpm(w:Nat)(hw:w<=6)(A:List Nat)(hn:A.Nodup)(hA:∀k∈A,k<64)(hl:A.length<=100): q91 [.lst (A.map setD),.int (w:Int)]=some (.lst ((qe5 w A).map setD)):=by
 have hl':A.length<=lim:=by show _<=1000000;omega
 have c:za (bN 0) zu (zo (qc (eV 0) (qc (eC (.bl true)) qg))) [none] (A.map setD)=some (A.map fun k=>D.tup [setD k,.bl true]):=by
  clear hl hl' hn hA
  induction A with
  | nil=>rfl
  | cons k A ih=>
   rw [gf];simp! [za,ih,zu]
 have d:=qkg A hn hA (by omega);obtain⟨b4,b5,e⟩:=q9m w hw A hA (some (.fz (.lst (A.map setD)))) A [] none none hA (by simp;omega);simp only [g0e,g05] at e
 (refine jc ?_;simp! [q6j,zl,hl',c,d,e])
 rfl
end My
open PySem PyProof.Rows L2 DL
namespace My
open PySem PyProof.Rows L2 DL
theorem q7k(p q:Run->Bool): ∀rs:List Run,(∀r∈rs,0<=r.1)->(∀r∈rs,p r=true->q r=true)->((rs.filter p).map (·.1)).sum<=((rs.filter q).map (·.1)).sum
 | [],_,_=>Int.le_refl _
 | r :: rs,h,hpq=>by
  have ih:=q7k p q rs (fun x hx=>h x (gj _ hx)) fun x hx=>hpq x (gj _ hx);have h0:=h r gi;have h1:=hpq r gi;rw [n9,n9];cases hp:p r with
  | true=>
   rw [hp] at h1;rw [m8 rfl,m8 (h1 rfl),gf,gf,g3i,g3i];omega
  | false=>
   rw [ma m9]
   split
   ·rw [gf,g3i];omega
   ·exact ih
def q0e(rs:List Run)(L:Int)(k:Nat): Bool:=decide (L<=cM rs k)
theorem qmx:∀t:Nat,t<64->∀k:Nat,k<64->∀m∈xq k,t &&& k=k->t &&& m=m:=by decide +kernel
theorem qwj(rs:List Run)(h:zm rs)(k:Nat)(hk:k<64)(m:Nat)(hm:m∈xq k): cM rs k<=cM rs m:=by
 unfold cM;refine q7k _ _ rs (fun r hr=>(h.2 r hr).2.2.1) fun r hr hq=>?_;obtain⟨t,ht,e⟩:=(h.2 r hr).2.2.2;have e2:mk r.2=(t:Int):=by rw [e];exact(ym t ht).2
 rw [nk,e2,q97] at hq ⊢;have:=qmx t ht k hk m hm (by exact_mod_cast hq);rw [this]
theorem qd9(rs:List Run)(L:Int)(h:zm rs)(k:Nat)(hk:k<64)(hp:q0e rs L k=true): ∀m∈xq k,q0e rs L m=true:=fun m hm=>by
 have:=qwj rs h k hk m hm;unfold q0e at hp ⊢;rw [nk] at hp ⊢;omega
def cnd(rs:List Run)(L:Int)(l:Nat): Bool:=(xq l).all (q0e rs L)
def lv(w:Nat): Nat->List Nat
 | 0=>[0]
 | d+1=>(lv w d).flatMap (ko w)
def zb(w:Nat): List Nat:=(List.range (w+1)).flatMap (lv w)
theorem xy:∀w:Nat,w<7->(∀k∈zb w,k<2 ^ w)/\(zb w).Nodup/\(zb w).length<=64:=by decide +kernel
theorem qwk{w:Nat}(hw:w<=6): 2 ^ w<=64:=mm (g0n (by decide) hw) (by decide)
theorem qgg{w:Nat}(hw:w<=6): ∀k∈zb w,k<64:=fun k hk=>m5 ((xy w (by omega)).1 k hk) (qwk hw)
def oft(w:Nat)(rs:List Run)(L:Int): List Nat:=(zb w).filter fun k=>decide (L<=cM rs k)
theorem qgh:∀w:Nat,w<7->lv w (w+1)=[]/\∀d:Nat,d<8->(∀k∈lv w d,k<64)/\(lv w d).Nodup/\(lv w d).length<=20:=by decide +kernel
theorem qkh:∀w:Nat,w<7->∀k:Nat,k<64->∀l∈ko w k,k∈xq l:=by decide +kernel
theorem qpn:∀w:Nat,w<7->∀d:Nat,d<7->∀l∈lv w (d+1),∀m∈xq l,m∈lv w d:=by decide +kernel
theorem q66{α β : Type}(q : α -> Bool)(g : α -> List β): ∀l:List α,(∀s∈l,q s=false->g s=[])->(l.filter q).flatMap g=l.flatMap g
 | [],_=>rfl
 | s :: l,h=>by
  have ih:=q66 q g l fun x hx=>h x (gj _ hx);rw [n9,p6];cases c:q s with
  | true=>rw [m8 rfl,p6,ih]
  | false=>rw [ma m9,ih,h s gi c,g05]
theorem q67{α β : Type}(p : β -> Bool)(g : α -> List β): ∀l:List α,(l.flatMap g).filter p=l.flatMap fun s=>(g s).filter p
 | []=>rfl
 | s :: l=>by rw [p6,p6,List.filter_append,q67 p g l]
def layer(w:Nat)(rs:List Run)(L:Int)(d:Nat): List Nat:=(lv w d).filter (cnd rs L)
theorem step(w:Nat)(hw:w<=6)(rs:List Run)(L:Int)(h:zm rs)(d:Nat)(hd:d<7): qe5 w ((layer w rs L d).filter (q0e rs L))=layer w rs L (d+1):=by
 obtain⟨_,lf⟩:=qgh w (by omega);obtain⟨l1,l2,l3⟩:=lf d (by omega);obtain⟨k1,k2,k3⟩:=lf (d+1) (by omega);have eA:(layer w rs L d).filter (q0e rs L)=(lv w d).filter fun k=>q0e rs L k&&cnd rs L k:=by
  unfold layer;rw [g33]
 rw [eA];unfold qe5;rw [q66 _ _ (lv w d) fun s hs hq=>?_]
 ·unfold layer
  show _=((lv w d).flatMap (ko w)).filter (cnd rs L);have e1:(lv w d).flatMap (fun s=>(ko w s).filter (chk ((lv w d).filter fun k=>q0e rs L k&&cnd rs L k)))=((lv w d).flatMap (ko w)).filter (chk ((lv w d).filter fun k=>q0e rs L k&&cnd rs L k)):=(q67 _ _ _).symm;rw [e1];refine g0q fun l hl=>?_;have hl':l∈lv w (d+1):=hl;have hf:=qpn w (by omega) d (by omega) l hl';unfold chk cnd;rw [p7,pq,pq]
  constructor
  ·intro z m hm
   have:=z m hm;rw [nk,mn,mf] at this;exact this.2.1
  ·intro z m hm
   rw [nk,mn,mf];refine⟨hf m hm,z m hm,?_⟩;show(xq m).all (q0e rs L)=true;rw [pq];exact qd9 rs L h m (l1 m (hf m hm)) (z m hm)
 ·refine g67.mpr fun l hl hc=>?_
  have hm:=qkh w (by omega) s (l1 s hs) l hl;unfold chk at hc;have:=pq.mp hc s hm;rw [nk,mn] at this;rw [this.2] at hq;cases hq
theorem qda(w:Nat)(hw:w<=6)(rs:List Run)(L:Int)(h:zm rs): ∀n d:Nat,d+n<=w+1->layer w rs L d=[]->(List.range' d n).flatMap (layer w rs L)=[]
 | 0,d,_,_=>rfl
 | n+1,d,hd,e=>by
  have s:=step w hw rs L h d (by omega);rw [e] at s;have e1:layer w rs L (d+1)=[]:=s.symm;rw [g0y,p6,e,g05];exact qda w hw rs L h n (d+1) (by omega) e1
theorem qmy(rs:List Run)(h:zm rs)(A:List Nat)(hA:∀k∈A,k<64): za (bN 0) zu (zo (qc (eV 0) (qc (qi (qt 2 [] yw) (qc (eV 1) (qc (eV 0) qg))) qg))) [none,some (.fz (.lst (rs.map mrD)))] (A.map setD)=some (A.map (pairD rs)):=by
 induction A with
 | nil=>rfl
 | cons k l ih=>
  have ih':=ih fun x hx=>hA x (gj _ hx);have cm:=qbp rs h k (hA k gi);rw [gf];simp! [za,ih',cm,zu]
theorem qpo(rs:List Run)(A:List Nat): za (bN 0) zu (eOp oIx (eV 0) (eC (.int 0))) [none] (A.map (pairD rs))=some (A.map setD):=by
 induction A with
 | nil=>rfl
 | cons k l ih=>
  rw [gf];simp! [za,ih,zu]
theorem turn(w:Nat)(hw:w<=6)(rs:List Run)(L:Int)(h:zm rs)(x0:Option B)(A acc:List Nat)(hn:A.Nodup)(hA:∀k∈A,k<64)(hl:A.length<=100)(hacc:acc.length<=1000)(b6:Option B):
  xl [x0,some (.fz (xo w rs)),some (.fz (.int L)),some (.fz (.lst (rs.map mrD))),some (.ow (acc.map (pairD rs))),some (.fz (.lst (A.map setD))),b6] =
   some (.nx,[x0,some (.fz (xo w rs)),some (.fz (.int L)),some (.fz (.lst (rs.map mrD))),some (.ow ((acc++A).map (pairD rs))),some (.fz (.lst ((qe5 w (A.filter (q0e rs L))).map setD))),some (.fz (.lst (A.map (pairD rs))))]):=by
 have hl':A.length<=lim:=by show _<=1000000;omega
 have hfl:(A.filter fun k=>decide (L<=cM rs k)).length<=lim:=mm (nc _ _) hl';have he:acc.length+A.length<=lim:=by show _<=1000000;omega
 have c1:=qmy rs h A hA;have al:=qhg rs L A (by omega);have c2:=qpo rs (A.filter fun k=>decide (L<=cM rs k));have g:=qpm w hw (A.filter fun k=>decide (L<=cM rs k)) (uy _ hn) (fun k hk=>hA k (mn.mp hk).1) (mm (nc _ _) hl);have e:(A.filter (q0e rs L))=A.filter fun k=>decide (L<=cM rs k):=rfl;rw [e];simp! [xl,zl,hl',c1,qc2,qbl,qbm,he,al,hfl,c2,g,p5]
theorem qgi(w:Nat)(hw:w<=6)(rs:List Run)(L:Int)(h:zm rs)(x0:Option B): ∀(n d f:Nat) (acc:List Nat) (b6:Option B),d+n=w+1->n<f->acc.length+n*20<=1000->∃b5' b6',
  jm (bT (eV 5)) xl f [x0,some (.fz (xo w rs)),some (.fz (.int L)),some (.fz (.lst (rs.map mrD))),some (.ow (acc.map (pairD rs))),some (.fz (.lst ((layer w rs L d).map setD))),b6] =
   some (.nx,[x0,some (.fz (xo w rs)),some (.fz (.int L)),some (.fz (.lst (rs.map mrD))),some (.ow ((acc++(List.range' d n).flatMap (layer w rs L)).map (pairD rs))),b5',b6'])
 | n,d,0,acc,b6,_,hf,_=>by omega
 | n,d,f+1,acc,b6,hd,hf,hl=>by
  obtain⟨le,lf⟩:=qgh w (by omega);have ht:bT (eV 5) [x0,some (.fz (xo w rs)),some (.fz (.int L)),some (.fz (.lst (rs.map mrD))),some (.ow (acc.map (pairD rs))),some (.fz (.lst ((layer w rs L d).map setD))),b6]=some (!((layer w rs L d).map setD).isEmpty):=q07 (x_v rfl) rfl
  by_cases hc:layer w rs L d=[]
  ·rw [hc] at ht
   have hz:=qda w hw rs L h n d (by omega) hc;rw [hz,g1o];refine⟨some (.fz (.lst ((layer w rs L d).map setD))),b6,?_⟩;unfold jm;rw [hc];rw [ht]
   rfl
  ·have hne:(!((layer w rs L d).map setD).isEmpty)=true:=by
    cases e:layer w rs L d with
    | nil=>exact absurd e hc
    | cons a l=>rfl
   rw [hne] at ht;cases n with
   | zero=>
    have:d=w+1:=by omega
    subst this;exact absurd (by unfold layer;rw [le];rfl) hc
   | succ n=>
    obtain⟨k1,k2,k3⟩:=lf d (by omega);have hll:(layer w rs L d).length<=20:=mm (nc _ _) k3;have t:=turn w hw rs L h x0 (layer w rs L d) acc (uy _ k2) (fun k hk=>k1 k (mn.mp hk).1) (by omega) (by omega) b6;rw [step w hw rs L h d (by omega)] at t;obtain⟨b5',b6',ih⟩:=qgi w hw rs L h x0 n (d+1) f (acc++layer w rs L d) (some (.fz (.lst ((layer w rs L d).map (pairD rs))))) (by omega) (by omega) (by rw [mw];omega);refine⟨b5',b6',?_⟩;unfold jm;rw [ht,gd,m8 rfl,t,gd];dsimp only;rw [ih,g0y,p6,uh]
theorem qxj(r:Rho): frz 0 (none :: r)=none :: r:=rfl
theorem qxk(d:D)(r:Rho): frz 0 (some (.fz d) :: r)=some (.fz d) :: r:=rfl
theorem qxl(d:Str×List (Str×D))(r:Rho): frz 0 (some (.od d) :: r)=some (.od d) :: r:=rfl
def q8l(w:Nat)(rs:List Run)(L:Int): List Nat:=(zb w).filter (cnd rs L)
theorem qki(self:D)(w:Nat)(hw:w<=6)(rs:List Run)(L:Int)(h:zm rs): yq [self,xo w rs,.int L]=some (.tup ((q8l w rs L).map (pairD rs))):=by
 have m:=qmv w rs h;obtain⟨b5,b6,e⟩:=qgi w hw rs L h (some (.fz self)) (w+1) 0 100000 [] none (by omega) (by omega) (by simp;omega);have e0:layer w rs L 0=[0]:=rfl;rw [e0, <- g1b,g05] at e;have e1:(List.range (w+1)).flatMap (layer w rs L)=q8l w rs L:=by
  unfold q8l;unfold zb;rw [q67]
  rfl
 rw [e1] at e;simp only [g0e,gf] at e;rw [show setD 0=D.tup [] from rfl] at e;cases b6 with
 | none=>(refine jc ?_;simp! [jk,m,e,xm,qxj])
 | some z=>cases z with
  | fz z=>(refine jc ?_;simp! [jk,m,e,xm,qxk])
  | ow z=>(refine jc ?_;simp! [jk,m,e,xm])
  | od z=>(refine jc ?_;simp! [jk,m,e,xm,qxl])
theorem qkj(rs:List Run)(L:Int)(h:zm rs)(k:Nat)(hk:k<64)(hp:q0e rs L k=true): cnd rs L k=true:=by
 unfold cnd;rw [pq];exact qd9 rs L h k hk hp
theorem qpp(w:Nat)(hw:w<=6)(rs:List Run)(L:Int)(h:zm rs): (q8l w rs L).filter (fun k=>decide (L<=cM rs k))=oft w rs L:=by
 unfold q8l oft;rw [g33];refine g0q fun k hk=>?_;cases hp:decide (L<=cM rs k) with
 | false=>rfl
 | true=>rw [qkj rs L h k (qgg hw k hk) hp];rfl
theorem qpq(w:Nat)(hw:w<=6)(rs:List Run)(L:Int): (q8l w rs L).length<=64:=by
 unfold q8l;exact mm (nc _ _) (xy w (by omega)).2.2
theorem qqi:isO "Growing" (.obj "Growing")=true:=by decide
theorem qpr(w:Nat)(hw:w<=6)(rs:List Run)(L:Int)(h:zm rs): yj [.obj "Growing",xo w rs,.int L]=some (.tup ((oft w rs L).map (pairD rs))):=by
 have c:=qki (.obj "Growing") w hw rs L h;have a:=qgd rs L (q8l w rs L) (by have:=qpq w hw rs L;omega);rw [qpp w hw rs L h] at a
 (refine jc ?_;simp! [yi,qc3,qqi,c,a])
end My
namespace DL
open PySem PyProof.Rows L2
section
variable{u w:FS}{t:FT}{f:FE}{fa:FA}{ρ ρ1:Rho}{d:D}{ds:List D}{i n:Nat}{c:Bool}{r:Option Fl}
abbrev g1(x:Option (Fl×Rho)): Option Fl:=x.map Prod.fst
theorem jq(h:g1 (u (ds.map (fun d=>some (.fz d))++List.replicate (n-ds.length) none))=some (.rt d)): zh n u ds=some d:=jc h
theorem ze(h1:u ρ = some (.nx, ρ1))(h2:g1 (w ρ1)=r): g1 (z0 u w ρ)=r:=by unfold z0;rw [h1,gd];exact h2
theorem q6n(h1:g1 (u ρ)=some (.rt d)): g1 (z0 u w ρ)=some (.rt d):=by
 cases e:u ρ with
 | none=>rw [e] at h1;cases h1
 | some p=>
  obtain⟨fl, ρ2⟩:=p;rw [e] at h1;cases h1;unfold z0;rw [e,gd];rfl
theorem q8m(h1:t ρ = some c)(hc:c=true)(h2:g1 (u ρ)=r): g1 (sIf t u w ρ)=r:=by subst hc;unfold sIf;rw [h1,gd];exact h2
theorem y_ret(h1:f ρ = some d): g1 (zc f ρ)=some (.rt d):=by unfold zc;rw [h1,mx];rfl
theorem qkk(h1:frz i ρ = ρ1)(h2:g1 (u ρ1)=r): g1 (wc i u ρ)=r:=by unfold wc;rw [h1];exact h2
end
end DL
open PySem PyProof.Rows L2 DL
namespace My
open PySem PyProof.Rows L2 DL
abbrev N'(n:Nat): D:=.int (n:Int)
theorem qae(a b:Nat)(h:0<b): oMod (N' a) (N' b)=some (N' (a%b)):=by
 rw [xr _ _ (by lia)];rfl
theorem q3k{t:FT}{u:FS}{n:Nat}{ρ : Rho}(h:t ρ = some false): jm t u (n+1) ρ = some (.nx, ρ):=by
 simp only [jm,h,gd,m6,t6]
theorem qaf{t:FT}{u:FS}{n:Nat}{ρ ρ1:Rho}(h:t ρ = some true)(h1:u ρ = some (.nx, ρ1)): jm t u (n+1) ρ = jm t u n ρ1:=by
 simp only [jm,h,h1,gd,pz]
theorem qxm(n:Nat): q7w (N' n)=some (decide (n≠0)):=by
 simp only [q7w]
 congr 1
 by_cases h:n=0
 ·subst h;rfl
 ·rw [gq h,bne_iff_ne];lia
theorem qgj(a b:Nat)(x:Option B): bT (eV 1) [some (.fz (N' a)),some (.fz (N' b)),x]=some (decide (b≠0)):=by
 show(q7w (N' b))=_;exact qxm b
theorem qv1(a b:Nat)(x:Option B)(h:b≠0): x9 [some (.fz (N' a)),some (.fz (N' b)),x]=some (.nx,[some (.fz (N' b)),some (.fz (N' (a%b))),some (.fz (N' (a%b)))]):=by
 unfold x9;simp! [qae a b (g34 h)]
theorem qs9:∀(k n a b:Nat) (x:Option B),b<2 ^ k->2*k+1<=n->∃y,jm (bT (eV 1)) x9 n [some (.fz (N' a)),some (.fz (N' b)),x]=some (.nx,[some (.fz (N' (Nat.gcd a b))),some (.fz (N' 0)),y]):=by
 intro k
 induction k with
 | zero=>
  intro n a b x hb hn;obtain⟨n,rfl⟩:∃m,n=m+1:=⟨n-1,by lia⟩
  have:b=0:=by lia
  subst this;rw [q3k (by rw [qgj];rfl),g1u];exact⟨x,rfl⟩
 | succ k ih=>
  intro n a b x hb hn;obtain⟨n,rfl⟩:∃m,n=m+3:=⟨n-3,by lia⟩
  by_cases h0:b=0
  ·subst h0
   rw [q3k (by rw [qgj];rfl),g1u];exact⟨x,rfl⟩
  ·rw [qaf (by rw [qgj,gq h0]) (qv1 a b x h0)]
   have hr:a%b<b:=g3z _ (g34 h0);have e1:Nat.gcd a b=Nat.gcd b (a%b):=by rw [g35 a b,g68 b a,g35]
   rw [e1];generalize a%b=r at *
   by_cases h1:r=0
   ·subst h1
    rw [q3k (by rw [qgj];rfl),g1u];exact⟨_,rfl⟩
   ·rw [qaf (by rw [qgj,gq h1]) (qv1 b r _ h1)]
    have e2:Nat.gcd b r=Nat.gcd r (b%r):=by rw [g35 b r,g68 r b,g35]
    rw [e2];refine ih (n+1) r (b%r) _ ?_ (by lia);have h2:b%r<r:=g3z _ (g34 h1);have h3:b%r+r<=b:=by
     have:=Nat.div_add_mod b r;have h4:1<=b / r:=(Nat.one_le_div_iff (g34 h1)).mpr (g11 hr);have h5:r*1<=r*(b / r):=g2j r h4;lia
    have h6:2 ^ (k+1)=2*2 ^ k:=by rw [Nat.pow_succ];lia
    lia
theorem qwl(a b:Nat)(h:b<2 ^ 128): yf [N' a,N' b]=some (N' (Nat.gcd a b)):=by
 refine jc ?_;obtain⟨y,e⟩:=qs9 128 100000 a b none h (by decide);unfold va;simp! [e]
theorem isn(n:Nat): q0u [N' n]=some (.bl true):=by(refine jc ?_;simp! [q0t,gq (show(0:Int)<=(n:Int) by lia)])
theorem qag(T B:Nat)(hB:0<B)(h2:B<2 ^ 128): q2g [N' T,N' B]=some (.tup [N' (T / Nat.gcd T B),N' (B / Nat.gcd T B)]):=by
 have hg:0<Nat.gcd T B:=g1f _ hB;have hl:Nat.gcd T B<=B:=Nat.gcd_le_right _ hB;have e0:¬(B:Int)=0:=by lia
 have d:∀a:Nat,oDivB (N' a) (N' (Nat.gcd T B))=some (N' (a / Nat.gcd T B)):=fun a=>by
  have hq:(Nat.gcd T B:Int)<2 ^ 128:=by exact_mod_cast g07 hl h2
  rw [q5k _ _ (by lia) (Int.lt_trans hq (by decide))];rfl
 (refine jc ?_;simp! [q6h,isn,gz e0,qwl T B h2,d])
theorem tms(a b:Nat)(h:a<2 ^ 64): zt (N' a) (N' b)=some (.int ((a:Int)*b)):=xx _ _ (by lia)
theorem qps(a b c d:Nat)(h1:a<2 ^ 64)(h2:c<2 ^ 64): yk [.tup [N' a,N' b],.tup [N' c,N' d]]=some (.bl (decide ((c:Int)*b<=(a:Int)*d))):=by
 (refine jc ?_;simp! [q3g,tms a d h1,tms c b h2])
theorem qco(x:Int): ∀b:List Int,inF (.int x) (b.map D.int)=decide (x∈b)
 | []=>rfl
 | y :: b=>by
  show((eqF (.int y) (.int x)) || inF (.int x) (b.map D.int))=_;rw [qco x b];show((y==x) || _)=_;rw [p7];simp only [g1n,g1m,nk,mh]
  constructor <;> rintro(h|h)
  ·exact .inl h.symm
  ·exact .inr h
  ·exact .inl h.symm
  ·exact .inr h
theorem qdb(b:List Int): (b.map D.int).all flat=true:=by
 rw [g6k,pq];intro x _;rfl
theorem qpt(x:Int)(b:List Int): oIn false (.int x) (TI b)=some (.bl (decide (x∈b))):=by
 show(if(flat (.int x)&&(b.map D.int).all flat)=true then some (D.bl (if false=true then !inF (.int x) (b.map D.int) else inF (.int x) (b.map D.int))) else none)=_;rw [qdb,qco];rfl
def uni(s t:List Int): List Int:=((List.range 12).map fun i:Nat=>(i:Int)).filter fun x=>decide (x∈s\/x∈t)
theorem q8n:∀(s:List Int),(∀x∈s,0<=x/\x<12)->q5q (s.map D.int)=some (s.map Int.toNat)
 | [],_=>rfl
 | x :: s,h=>by
  have hx:=h x gi;show(if 0<=x/\x<12 then(q5q (s.map D.int)).map (x.toNat :: ·) else none)=_;rw [m8 hx,q8n s fun y hy=>h y (gj _ hy)]
  rfl
theorem qdc{s:List Int}(h:∀x∈s,0<=x/\x<12)(n:Nat): n∈s.map Int.toNat↔(n:Int)∈s:=by
 constructor
 ·intro hn
  obtain⟨x,hx,e⟩:=mi.mp hn;have:=h x hx;have:x=(n:Int):=by omega
  exact this ▸ hx
 ·intro hn
  exact mi.mpr ⟨_,hn,by simp⟩
theorem qkl(s t:List Int)(hs:∀x∈s,0<=x/\x<12)(ht:∀x∈t,0<=x/\x<12): qj8 (TI s) (TI t)=some ((uni s t).map D.int):=by
 show(q5q (s.map D.int)).bind (fun a=>(q5q (t.map D.int)).bind fun b=>some (((List.range 12).filter fun n=>decide (n∈a\/n∈b)).map fun n=>D.int (n:Nat)))=_;rw [q8n s hs,q8n t ht];show some _=_
 congr 1
 unfold uni;rw [g1t,ni]
 congr 1
 refine g0q fun n _=>?_;show decide (n∈s.map Int.toNat\/n∈t.map Int.toNat)=decide ((n:Int)∈s\/(n:Int)∈t);rw [p7,ue,ue,qdc hs,qdc ht]
theorem qdd(s t:List Int)(hs:∀x∈s,0<=x/\x<12)(ht:∀x∈t,0<=x/\x<12): q1c [TI s,TI t]=some (TI (uni s t)):=by
 have h:=qkl s t hs ht
 (refine jc ?_;simp! [q4s,qj9,h,xm])
theorem qwm(rs:List Run)(h:zm rs)(k:Nat): 0<=cM rs k:=by
 have hz:∀q:List Run,(∀r∈q,0<=r.1)->0<=(q.map (·.1)).sum:=by
  intro q
  induction q with
  | nil=>intro _;simp
  | cons r q ih=>
   intro hq;have h1:=hq r gi;have h2:=ih fun r hr=>hq r (gj _ hr);rw [gf,g3i];omega
 unfold cM;exact hz _ fun r hr=>(h.2 r (mn.mp hr).1).2.2.1
def Bd(rs:List Run): Prop:=∀k,cM rs k<100000000000000
theorem qwn{rs:List Run}(hl:rs.length<=63)(h:∀r∈rs,0<=r.1/\r.1<=1000000000000): Bd rs:=fun k=>by
 have hz:∀q:List Run,(∀r∈q,r.1<=1000000000000)->(q.map (·.1)).sum<=(q.length:Int)*1000000000000:=by
  intro q
  induction q with
  | nil=>intro _;simp
  | cons r q ih=>
   intro hq;have h1:=hq r gi;have h2:=ih fun r hr=>hq r (gj _ hr);rw [gf,g3i,n8]
   push_cast
   omega
 have h1:=hz (rs.filter fun r=>decide (Builtin.bitAnd (mk r.2) (k:Int)=(k:Int))) fun r hr=>(h r (mn.mp hr).1).2;have h2:=nc (fun r:Run=>decide (Builtin.bitAnd (mk r.2) (k:Int)=(k:Int))) rs;unfold cM;omega
abbrev yb(K:List Nat)(rs:List Run): D:=.dtt (K.map (qj 12)) (K.map fun k=>.int (cM rs k))
structure KOk(K:List Nat)(rs:List Run): Prop where
 nd:K.Nodup
 lt:∀k∈K,k<64
 len:K.length<=64
 pos:∀k∈K,1<=cM rs k
 zero:K≠[]->0∈K
theorem qkm:∀w:Nat,w<7->0∈zb w:=by decide +kernel
theorem qv2(w:Nat)(hw:w<=6)(rs:List Run)(h:zm rs): KOk (oft w rs 1) rs:=by
 obtain⟨m1,m2,m3⟩:=xy w (by omega);refine⟨uy _ m2,fun k hk=>qgg hw k (mn.mp hk).1,mm (nc _ _) m3,fun k hk=>by simpa using(mn.mp hk).2,fun hne=>?_⟩;obtain⟨a,ha⟩:=List.exists_mem_of_ne_nil _ hne;refine mn.mpr ⟨qkm w (by omega),?_⟩;have h1:1<=cM rs a:=by simpa using(mn.mp ha).2
 have h2:cM rs a<=cM rs 0:=by
  unfold cM;refine q7k _ _ rs (fun r hr=>(h.2 r hr).2.2.1) fun r hr _=>?_;obtain⟨t,ht,e⟩:=(h.2 r hr).2.2.2;have e2:mk r.2=(t:Int):=by rw [e];exact(ym t ht).2
  rw [nk,e2,q97,Nat.and_zero]
 rw [nk];omega
theorem qde(rs:List Run): ∀A:List Nat,q4h (A.map (pairD rs))=some (A.map (qj 12),A.map fun k=>.int (cM rs k))
 | []=>rfl
 | k :: A=>by
  have hi:zq ((qj 12 k).map D.int)=some (qj 12 k):=x8 _;rw [gf];show(zq ((qj 12 k).map D.int)).bind (fun q=>(q4h (A.map (pairD rs))).map fun p=>(q :: p.1,D.int (cM rs k) :: p.2))=_;rw [hi,qde rs A]
  rfl
theorem qkn{K:List Nat}{rs:List Run}(h:KOk K rs): qb7 [.tup (K.map (pairD rs))]=some (yb K rs):=by
 show(q4h (K.map (pairD rs))).bind (fun p=>if p.1.Nodup/\(K.map (pairD rs)).length<=lim then some (D.dtt p.1 p.2) else none)=_;rw [qde];show(if(K.map (qj 12)).Nodup/\_ then _ else _)=_;rw [m8 ⟨q9l h.nd h.lt,by rw [gh];have:=h.len;show _<=1000000;omega⟩]
theorem qmz{K:List Nat}{rs:List Run}(h:KOk K rs){a:Nat}(ha:a∈K): (K.map fun k=>D.int (cM rs k))[(K.map (qj 12)).idxOf (qj 12 a)]? = some (.int (cM rs a)):=by
 have hm:qj 12 a∈K.map (qj 12):=td ha;have hi:=g2a hm;have e:=g4g hi;generalize (K.map (qj 12)).idxOf (qj 12 a)=i at *;rw [List.getElem_map] at e;have hi':i<K.length:=by simpa using hi
 have:=q2n _ (h.lt _ (g2e hi')) a (h.lt a ha) e;rw [mj,ml hi',mx,this]
theorem q8o{K:List Nat}{rs:List Run}(h:KOk K rs){a:Nat}(ha:a∈K): q58 (yb K rs) (setD a)=some (.int (cM rs a)):=by
 have hi:zq ((qj 12 a).map D.int)=some (qj 12 a):=x8 _;show(zq ((qj 12 a).map D.int)).bind (fun k=>if k∈K.map (qj 12) then(K.map fun k=>D.int (cM rs k))[(K.map (qj 12)).idxOf k]? else none)=_;rw [hi,gd,m8 (td ha),qmz h ha]
theorem qgk(K:List Nat): q8y (K.map (qj 12))=K.map setD:=by
 unfold q8y;rw [ni];rfl
def cn(rs:List Run)(k:Nat): Nat:=(cM rs k).toNat
theorem q16{rs:List Run}(h:zm rs)(k:Nat): cM rs k=(cn rs k:Int):=by
 have:=qwm rs h k;unfold cn;omega
theorem q99{rs:List Run}(h:zm rs)(hB:Bd rs)(k:Nat): cn rs k<100000000000000:=by
 have:=hB k;have:=q16 h k;omega
theorem mono(rs:List Run)(h:zm rs)(x y:Nat)(hxy:x ||| y=x): cM rs x<=cM rs y:=by
 unfold cM;refine q7k _ _ rs (fun r hr=>(h.2 r hr).2.2.1) fun r hr hq=>?_;obtain⟨t,ht,e⟩:=(h.2 r hr).2.2.2;have e2:mk r.2=(t:Int):=by rw [e];exact(ym t ht).2
 rw [nk,e2,q97] at hq ⊢;have hq':t &&& x=x:=by exact_mod_cast hq
 have:t &&& y=y:=by
  apply g0o;intro i;have h1:=nz (fun n=>n.testBit i) hq';have h2:=nz (fun n=>n.testBit i) hxy;simp only [g2r,ny] at h1 h2 ⊢
  revert h1 h2
  cases t.testBit i <;> cases x.testBit i <;> cases y.testBit i <;> simp
 rw [this]
theorem qko:∀w:Nat,w<6->∀a:Nat,a<2 ^ w->∀b:Nat,b<2 ^ w->a ||| b<2 ^ w:=fun w _ a ha b hb=>g24 ha hb
theorem qsa{a b:Nat}(ha:a<32)(hb:b<32): a ||| b<32:=g24 (n:=5) ha hb
theorem qii(a b:Nat): (a ||| b) ||| a=a ||| b:=by
 apply g0o;intro i;simp only [ny];cases a.testBit i <;> cases b.testBit i <;> rfl
theorem qgl(a b:Nat): (a ||| b) ||| b=a ||| b:=by
 apply g0o;intro i;simp only [ny];cases a.testBit i <;> cases b.testBit i <;> rfl
theorem qv3:∀a:Nat,a<32->∀b:Nat,b<32->uni (qj 12 a) (qj 12 b)=qj 12 (a ||| b):=by decide +kernel
theorem qsb:∀a:Nat,a<32->∀b:Nat,b<32->(((qj 12 a).filter fun x=>decide (x∈qj 12 b))=[]↔a &&& b=0):=by decide +kernel
theorem qgm:∀b:Nat,b<32->(qj 12 b=[]↔b=0):=by decide +kernel
theorem get_eq{K:List Nat}{rs:List Run}(h:KOk K rs)(hr:zm rs)(hK:∀k<64,1<=cM rs k->¬k∈K->False\/True){a b:Nat}(ha:a<32)(hb:b<32)(hin:1<=cM rs (a ||| b)->(a ||| b)∈K):
  q8z (yb K rs) [TI (uni (qj 12 a) (qj 12 b)),.int 0]=some (N' (cn rs (a ||| b))):=by
 rw [qv3 a ha b hb];have hi:zq ((qj 12 (a ||| b)).map D.int)=some (qj 12 (a ||| b)):=x8 _;show(zq ((qj 12 (a ||| b)).map D.int)).bind (fun k=>if k∈K.map (qj 12) then(K.map fun k=>D.int (cM rs k))[(K.map (qj 12)).idxOf k]? else some (.int 0))=_;rw [hi,gd];have e:=q16 hr (a ||| b)
 by_cases hm:(a ||| b)∈K
 ·rw [m8 (td hm),qmz h hm,e]
 ·rw [ma]
  ·have:cn rs (a ||| b)=0:=by
    have hh:¬ 1<=cM rs (a ||| b):=fun z=>hm (hin z);omega
   rw [this];rfl
  ·intro z
   obtain⟨k,hk,ek⟩:=mi.mp z;have:=qsa ha hb;exact hm (q2n k (h.lt k hk) (a ||| b) (by omega) ek ▸ hk)
theorem qv4(a b:List Int)(ha:a.length<=1000): q92 [TI a,TI b]=some (TI (a.filter fun x=>decide (x∈b))):=by
 have hc:=km (b:=bN 0) (c:=z7 (oIn false) (eV 0) (eV 1)) (f:=eV 0) (ρ :=[none,some (.fz (TI b))]) (fun d=>match d with | .int x=>decide (x∈b)|_=>false) id (ds:=a.map D.int) fun d hd=>by
  obtain⟨x,hx,rfl⟩:=mi.mp hd;exact⟨_,rfl,jn (x_v rfl) (x_v rfl) (qpt x b),fun _=>x_v rfl⟩
 rw [g66,g1t] at hc;exact jq (y_ret (x_call (qd (x_l (q27 (ds:=a.map D.int) (q06 (x_v rfl) rfl) (by rw [gh];show _<=1000000;omega) hc)) qr) (xm _)))
theorem qpu:∀q:List Int,y9 (q.map D.int)=0
 | []=>rfl
 | y :: q=>by rw [gf,y9,qpu q];rfl
theorem eq_nil(l:List Int): oEq (TI l) (.tup [])=some (.bl (decide (l=[]))):=by
 cases l with
 | nil=>rfl
 | cons x r=>
  have h:=qpu (x :: r);rw [gf] at h;show(none:Option D).or (qel (.tup (.int x :: r.map D.int)) (.tup []))=_;simp [qel,vt,eqL,h,gf]
theorem ne_nil(l:List Int): q6x (TI l) (.tup [])=some (.bl (!decide (l=[]))):=by
 cases l with
 | nil=>rfl
 | cons x r=>
  have h:=qpu (x :: r);rw [gf] at h;show(none:Option D).or (q9w (.tup (.int x :: r.map D.int)) (.tup []))=_;simp [q9w,vt,eqL,h,gf]
def apart(a b:Nat): Bool:=decide (b≠0)&&decide (a &&& b=0)
theorem qpv{K:List Nat}{rs:List Run}(h:KOk K rs)(h32:∀k∈K,k<32){a:Nat}(ha:a<32): q2t [setD a,yb K rs]=some (.lst ((K.filter (apart a)).map setD)):=by
 have hl:=q2o 12 a;have hc:=km (b:=bN 0) (c:=vh (z7 q6x (eV 0) (zo qg)) (z7 oEq (qi (qt 2 [] q92) (qc (eV 1) (qc (eV 0) qg))) (zo qg))) (f:=eV 0) (ρ :=[none,some (.fz (setD a))]) (fun d=>match d with | .tup ds=>(match zq ds with|some l=>apart a (mk l).toNat|none=>false)|_=>false) id (ds:=K.map setD) fun d hd=>by
  obtain⟨k,hk,rfl⟩:=mi.mp hd;have hk32:=h32 k hk;have hi:zq ((qj 12 k).map D.int)=some (qj 12 k):=x8 _;have hmk:(mk (qj 12 k)).toNat=k:=by rw [(ym k (by omega)).2];rfl
  have t1:z7 q6x (eV 0) (zo qg) [some (.fz (setD k)),some (.fz (setD a))]=some (!decide (qj 12 k=[])):=jn (x_v rfl) (vg qr (by decide)) (ne_nil _);have t2:z7 oEq (qi (qt 2 [] q92) (qc (eV 1) (qc (eV 0) qg))) (zo qg) [some (.fz (setD k)),some (.fz (setD a))]=some (decide (((qj 12 a).filter fun x=>decide (x∈qj 12 k))=[])):=jn (zj (qd (x_v rfl) (qd (x_v rfl) qr)) rfl (qv4 _ _ (by omega))) (vg qr (by decide)) (eq_nil _);refine⟨[some (.fz (setD k)),some (.fz (setD a))],rfl,?_,fun _=>x_v rfl⟩;show _=some (match zq ((qj 12 k).map D.int) with|some l=>apart a (mk l).toNat|none=>false);rw [hi];show _=some (apart a (mk (qj 12 k)).toNat);rw [hmk];unfold apart;rw [g00.mpr (qsb a ha k hk32)] at t2
  by_cases hz:k=0
  ·have hz2:=(qgm k hk32).mpr hz
   rw [gq hz2] at t1;rw [gz (by simpa using hz)];exact q08 t1 rfl
  ·have hz2:¬qj 12 k=[]:=fun z=>hz ((qgm k hk32).mp z)
   rw [gz hz2] at t1;rw [gq hz,g0f];exact y3 t1 rfl t2
 rw [g66,g1t] at hc;have hf:K.filter ((fun d=>match d with | .tup ds=>(match zq ds with|some l=>apart a (mk l).toNat|none=>false)|_=>false) ∘ setD)=K.filter (apart a):=by
  refine g0q fun k hk=>?_;have hi:zq ((qj 12 k).map D.int)=some (qj 12 k):=x8 _;have hk32:=h32 k hk;have hmk:(mk (qj 12 k)).toNat=k:=by rw [(ym k (by omega)).2];rfl
  show(match zq ((qj 12 k).map D.int) with|some l=>apart a (mk l).toNat|none=>false)=_;rw [hi];show apart a (mk (qj 12 k)).toNat=_;rw [hmk]
 rw [hf] at hc;refine jq (y_ret (x_l (q27 (ds:=K.map setD) ?_ (by rw [gh];have:=h.len;show _<=1000000;omega) hc)));show Option.bind (some (yb K rs)) _=_;rw [gd];show some (q8y (K.map (qj 12)))=_;rw [qgk]
theorem qgn(k:Nat): ∀x∈qj 12 k,0<=x/\x<12:=fun x hx=>by
 obtain⟨i,rfl,hi⟩:=qad hx;omega
theorem qwo{f:FE}{fa:FA}{ρ : Rho}{x d:D}{xs:List D}(h1:f ρ = some x)(h2:fa ρ = some xs)(h3:q8z x xs=some d): qjc f fa ρ = some d:=by unfold qjc;rw [h1,gd,h2,gd,h3]
abbrev k5(n m:Nat): D:=.tup [N' (n / Nat.gcd n m),N' (m / Nat.gcd n m)]
def qpw(rs:List Run)(a b:Nat): List D:=[setD a,setD b,N' (cn rs (a ||| b)),k5 (cn rs (a ||| b)) (cn rs a),k5 (cn rs (a ||| b)*cn rs 0) (cn rs a*cn rs b)]
theorem qn0{K:List Nat}{rs:List Run}(h:KOk K rs)(hr:zm rs)(hB:Bd rs)(h32:∀k∈K,k<32){a b:Nat}(ha:a∈K)(hb:b∈K)(hin:1<=cM rs (a ||| b)->(a ||| b)∈K): yp [setD a,setD b,yb K rs]=some (.tup (qpw rs a b)):=by
 have h0:0∈K:=h.zero fun e=>by rw [e] at ha;cases ha
 have en:=get_eq h hr (fun _ _ _ _=>.inr trivial) (h32 a ha) (h32 b hb) hin;have hj:=qdd (qj 12 a) (qj 12 b) (qgn a) (qgn b);have q:=q99 hr hB;have pos:∀k∈K,1<=cn rs k:=fun k hk=>by have:=h.pos k hk;have:=q16 hr k;omega
 have i0:=q8o h h0;have ia:=q8o h ha;have ib:=q8o h hb;rw [q16 hr] at i0 ia ib;rw [show setD 0=D.tup [] from rfl] at i0;have tm:∀x y:Nat,y<100000000000000->zt (N' x) (N' y)=some (N' (x*y)):=fun x y hy=>by
  rw [vm _ _ ⟨by omega,by omega⟩];show _=some (D.int ((x*y:Nat):Int))
  push_cast
  rfl
 have pa:=pos a ha;have pb:=pos b hb;have hpos:0<cn rs a*cn rs b:=g69 (by omega) (by omega);have hlt:cn rs a*cn rs b<2 ^ 128:=g07 (Nat.mul_le_mul (g11 (q a)) (g11 (q b))) (by decide);have s1:=qag (cn rs (a ||| b)*cn rs 0) (cn rs a*cn rs b) hpos hlt;have s2:=qag (cn rs (a ||| b)) (cn rs a) (by omega) (g26 (q a) (by decide));exact jq (ze (xc (d:=N' (cn rs (a ||| b))) (qwo (x_v rfl) (qd (zj (qd (x_v rfl) (qd (x_v rfl) qr)) rfl hj) (qd x_c qr)) en)) (ze (xc (zj (qd (qu (x_v rfl) (qu (x_v rfl) (vg qr (by decide)) i0) (tm _ _ (q 0))) (qd (qu (qu (x_v rfl) (x_v rfl) ia) (qu (x_v rfl) (x_v rfl) ib) (tm _ _ (q b))) qr)) rfl s1)) (y_ret (vg (qd (x_v rfl) (qd (x_v rfl) (qd (x_v rfl) (qd (zj (qd (x_v rfl) (qd (qu (x_v rfl) (x_v rfl) ia) qr)) rfl s2) (qd (x_v rfl) qr))))) (show 5<=1000000 by decide)))))
def BndOk(d:D)(t e:Nat): Prop:=(d=.non/\t=1/\e=2)\/(d=.tup [N' t,N' e]/\0<e/\t<2 ^ 60/\e<2 ^ 60)
theorem BndOk.lt{d:D}{t e:Nat}(h:BndOk d t e): 0<e/\t<2 ^ 60/\e<2 ^ 60:=by
 rcases h with⟨_,rfl,rfl⟩|⟨_,h⟩
 ·decide
 ·exact h
theorem qpx{d:D}{t e:Nat}(h:BndOk d t e): q40 [d]=some (k5 t e):=by
 rcases h with⟨rfl,rfl,rfl⟩|⟨rfl,he,hc,he2⟩
 ·rfl
 ·have s:=qag t e he (g26 he2 (by decide))
  exact jq (ze (j9 (jn (x_v rfl) x_c (c:=false) rfl) rfl ja) (ze (j9 (q2m (w9 (q07 (q5j (x_v rfl)) rfl)) rfl (jn (x_call (qd (x_v rfl) qr) (q44 _)) x_c (q2k _ _))) rfl ja) (y_ret (zj (qd (qu (x_v rfl) x_c (z:=N' t) rfl) (qd (qu (x_v rfl) x_c (z:=N' e) rfl) qr)) rfl s))))
theorem red{n m t e:Nat}(hm:0<m)(he:0<e): (t / Nat.gcd t e)*(m / Nat.gcd n m)<=(n / Nat.gcd n m)*(e / Nat.gcd t e)↔t*m<=n*e:=by
 have g1:0<Nat.gcd n m:=g1f _ hm;have g2:0<Nat.gcd t e:=g1f _ he;have en:n=Nat.gcd n m*(n / Nat.gcd n m):=(g2k (Nat.gcd_dvd_left n m)).symm;have em:m=Nat.gcd n m*(m / Nat.gcd n m):=(g2k (Nat.gcd_dvd_right n m)).symm;have et:t=Nat.gcd t e*(t / Nat.gcd t e):=(g2k (Nat.gcd_dvd_left t e)).symm;have ee:e=Nat.gcd t e*(e / Nat.gcd t e):=(g2k (Nat.gcd_dvd_right t e)).symm;generalize Nat.gcd n m=g at *;generalize Nat.gcd t e=k at *;generalize n / g=n' at *;generalize m / g=m' at *;generalize t / k=t' at *;generalize e / k=e' at *;rw [en,em,et,ee];have r1:k*t'*(g*m')=(k*g)*(t'*m'):=by rw [g3j,g3j,g50 t' g m']
 have r2:g*n'*(k*e')=(k*g)*(n'*e'):=by rw [g3j,g50 n' k e', <- g3j,g6l g k]
 rw [r1,r2];exact(Nat.mul_le_mul_left_iff (g69 g2 g1)).symm
theorem qv5{n m t e:Nat}(hn:n<2 ^ 60)(hm:0<m)(he:0<e)(ht:t<2 ^ 60): yk [k5 n m,k5 t e]=some (.bl (decide (t*m<=n*e))):=by
 rw [qps _ _ _ _ (g07 (Nat.div_le_self _ _) (g26 hn (by decide))) (g07 (Nat.div_le_self _ _) (g26 ht (by decide)))]
 congr 2
 refine g00.mpr ?_;rw [<- red (n:=n) (t:=t) hm he]
 exact_mod_cast Iff.rfl
def good(rs:List Run)(L:Int)(t e a b:Nat): Bool:=apart a b&&(decide (L<=cM rs (a ||| b))&&decide (t*cn rs a<=cn rs (a ||| b)*e))
def prs(K:List Nat)(g:Nat->Nat->Bool): List (Nat×Nat):=K.flatMap fun a=>(K.filter (g a)).map fun b=>(a,b)
abbrev jz(rs:List Run)(p:Nat×Nat): D:=.tup (qpw rs p.1 p.2)
structure KIn(w:Nat)(K:List Nat)(rs:List Run): Prop where
 ok:KOk K rs
 lt:∀k∈K,k<2 ^ w
 all:∀k,k<2 ^ w->1<=cM rs k->k∈K
theorem q29{w:Nat}(hw:w<=5): 2 ^ w<=32:=mm (g0n (by decide) hw) (by decide)
theorem qdf:∀w:Nat,w<6->∀k:Nat,k<2 ^ w->k∈zb w:=by decide +kernel
theorem kin(w:Nat)(hw:w<=5)(rs:List Run)(h:zm rs): KIn w (oft w rs 1) rs:=
 ⟨qv2 w (by omega) rs h,fun k hk=>(xy w (by omega)).1 k (mn.mp hk).1,fun k hk hp=>mn.mpr ⟨qdf w (by omega) k hk,gq hp⟩⟩
theorem qdg{w:Nat}(hw:w<=5){K:List Nat}{rs:List Run}(h:KIn w K rs)(hr:zm rs)(hB:Bd rs){a:Nat}(ha:a∈K): ∀(Q:List Nat),(∀b∈Q,b∈K) ->
  za (bN 0) zu (qi (qt 3 [] yp) (qc (eV 1) (qc (eV 0) (qc (eV 2) qg)))) [none,some (.fz (setD a)),some (.fz (yb K rs))] (Q.map setD)=some (Q.map fun b=>jz rs (a,b))
 | [],_=>rfl
 | b :: Q,hQ=>by
  have h32:∀k∈K,k<32:=fun k hk=>m5 (h.lt k hk) (q29 hw);have hb:=hQ b gi;have e:=qn0 h.ok hr hB h32 ha hb fun z=>h.all _ (qko w (by omega) a (h.lt a ha) b (h.lt b hb)) z;have ih:=qdg hw h hr hB ha Q fun b hb=>hQ b (gj _ hb);have e2:qi (qt 3 [] yp) (qc (eV 1) (qc (eV 0) (qc (eV 2) qg))) [some (.fz (setD b)),some (.fz (setD a)),some (.fz (yb K rs))]=some (jz rs (a,b)):=zj (qd (x_v rfl) (qd (x_v rfl) (qd (x_v rfl) qr))) rfl e;rw [gf,gf];unfold za;show Option.bind (some _) _=_;rw [gd];show Option.bind (some true) _=_;rw [gd];simp only [pz];show Option.bind (qi (qt 3 [] yp) (qc (eV 1) (qc (eV 0) (qc (eV 2) qg))) [some (.fz (setD b)),some (.fz (setD a)),some (.fz (yb K rs))]) _=_;rw [e2,gd,ih];rfl
theorem q9n{K:List Nat}{rs:List Run}(h:KOk K rs)(hr:zm rs)(hB:Bd rs){t e:Nat}(he:0<e)(ht:t<2 ^ 60)(L:Int){a:Nat}(ha:a∈K): ∀(Q:List Nat),
  za (bN 0) (vh (z7 oGe (eOp oIx (eV 0) (eC (.int 2))) (eV 1)) (bT (qi (qt 2 [] yk) (qc (eOp oIx (eV 0) (eC (.int 3))) (qc (eV 2) qg))))) (eV 0) [none,some (.fz (.int L)),some (.fz (k5 t e))] (Q.map fun b=>jz rs (a,b)) =
   some ((Q.filter fun b=>decide (L<=cM rs (a ||| b))&&decide (t*cn rs a<=cn rs (a ||| b)*e)).map fun b=>jz rs (a,b))
 | []=>rfl
 | b :: Q=>by
  have ih:=q9n h hr hB he ht L ha Q;have pa:0<cn rs a:=by have:=h.pos a ha;have:=q16 hr a;omega
  have qn:=q99 hr hB (a ||| b);have t1:z7 oGe (eOp oIx (eV 0) (eC (.int 2))) (eV 1) [some (.fz (jz rs (a,b))),some (.fz (.int L)),some (.fz (k5 t e))]=some (decide (L<=cM rs (a ||| b))):=by
   rw [q16 hr];exact jn (qu (x_v rfl) x_c (z:=N' (cn rs (a ||| b))) rfl) (x_v rfl) (q93 _ _)
  have t2:bT (qi (qt 2 [] yk) (qc (eOp oIx (eV 0) (eC (.int 3))) (qc (eV 2) qg))) [some (.fz (jz rs (a,b))),some (.fz (.int L)),some (.fz (k5 t e))]=some (decide (t*cn rs a<=cn rs (a ||| b)*e)):=
   q07 (zj (qd (qu (x_v rfl) x_c (z:=k5 (cn rs (a ||| b)) (cn rs a)) rfl) (qd (x_v rfl) qr)) rfl (qv5 (by omega) pa he ht)) rfl
  have tt:vh (z7 oGe (eOp oIx (eV 0) (eC (.int 2))) (eV 1)) (bT (qi (qt 2 [] yk) (qc (eOp oIx (eV 0) (eC (.int 3))) (qc (eV 2) qg)))) [some (.fz (jz rs (a,b))),some (.fz (.int L)),some (.fz (k5 t e))]=some (decide (L<=cM rs (a ||| b))&&decide (t*cn rs a<=cn rs (a ||| b)*e)):=by
   cases hq:decide (L<=cM rs (a ||| b)) with
   | false=>rw [hq] at t1;exact q08 t1 rfl
   | true=>rw [hq] at t1;exact y3 t1 rfl t2
  rw [gf];unfold za;show Option.bind (some [some (B.fz (jz rs (a,b))),some (B.fz (.int L)),some (B.fz (k5 t e))]) _=_;rw [gd,tt,gd,n9];cases hq:decide (L<=cM rs (a ||| b))&&decide (t*cn rs a<=cn rs (a ||| b)*e) with
  | false=>
   simp only [m6,t6];exact ih
  | true=>
   simp only [pz];show Option.bind (some (jz rs (a,b))) _=_;rw [gd,ih];rfl
theorem qah{α β : Type}{g : α -> List β}{B:Nat}: ∀ {q:List α},(∀a∈q,(g a).length<=B)->(q.flatMap g).length<=q.length*B
 | [],_=>by simp
 | a :: q,h=>by
  have h1:=h a gi;have h2:=qah (g:=g) (q:=q) fun a ha=>h a (gj _ ha);rw [p6,mw,n8,Nat.succ_mul];omega
abbrev stS(K:List Nat)(rs:List Run)(L:Int)(t e:Nat)(x0 x2:Option B)(acc:List (Nat×Nat))(b6 b7:Option B): Rho:=[x0,some (.fz (.int L)),x2,some (.fz (k5 t e)),some (.fz (yb K rs)),some (.ow (acc.map (jz rs))),b6,b7]
theorem q8p{w:Nat}(hw:w<=5){K:List Nat}{rs:List Run}(h:KIn w K rs)(hr:zm rs)(hB:Bd rs){t e:Nat}(he:0<e)(ht:t<2 ^ 60)(L:Int)(x0 x2:Option B): ∀(q:List Nat) (acc:List (Nat×Nat)) (b6 b7:Option B),(∀a∈q,a∈K)->acc.length+q.length*64<=100000 ->
  ∃(b6' b7':Option B),runFor (bN 6) q4w (q.map setD) (stS K rs L t e x0 x2 acc b6 b7) =
   some (.nx,stS K rs L t e x0 x2 (acc++q.flatMap fun a=>(K.filter (good rs L t e a)).map fun b=>(a,b)) b6' b7')/\((b7'=none\/∃d,b7'=some (.fz d))\/b7'=b7)
 | [],acc,b6,b7,_,_=>⟨b6,b7,by simp [runFor],.inr rfl⟩
 | a :: q,acc,b6,b7,hq,hl=>by
  have h32:∀k∈K,k<32:=fun k hk=>m5 (h.lt k hk) (q29 hw);have ha:=hq a gi;have hKl:=h.ok.len;have ew:=qpv h.ok h32 (h32 a ha);have t3:=qdg hw h hr hB ha (K.filter (apart a)) fun b hb=>(mn.mp hb).1;have hp:=q9n h.ok hr hB he ht L ha (K.filter (apart a));have eg:(K.filter (apart a)).filter (fun b=>decide (L<=cM rs (a ||| b))&&decide (t*cn rs a<=cn rs (a ||| b)*e))=K.filter (good rs L t e a):=by
   rw [g33];refine g0q fun b _=>?_;unfold good;rw [Bool.and_comm]
  rw [eg] at hp;have hfl:=nc (apart a) K;have hgl:=nc (good rs L t e a) K;rw [n8,Nat.succ_mul] at hl;obtain⟨c6,c7,ih,i3⟩:=q8p hw h hr hB he ht L x0 x2 q (acc++(K.filter (good rs L t e a)).map fun b=>(a,b)) (some (.fz (setD a))) (some (.fz (.lst ((K.filter (apart a)).map fun b=>jz rs (a,b))))) (fun a ha=>hq a (gj _ ha)) (by rw [mw,gh];omega);refine⟨c6,c7,?_,?_⟩
  ·rw [gf]
   refine(jt (ρ1:=stS K rs L t e x0 x2 acc (some (.fz (setD a))) b7) (ρ2:=stS K rs L t e x0 x2 (acc++(K.filter (good rs L t e a)).map fun b=>(a,b)) (some (.fz (setD a))) (some (.fz (.lst ((K.filter (apart a)).map fun b=>jz rs (a,b)))))) rfl ?_).trans (ih.trans ?_)
   ·refine qbk (qe4 (ds:=(K.filter (apart a)).map fun b=>jz rs (a,b)) (q27 (ds:=(K.filter (apart a)).map setD) (q06 (zj (qd (x_v rfl) (qd (x_v rfl) qr)) rfl ew) rfl) (by rw [gh];show _<=1000000;omega) t3)) ?_
    unfold wc;show qc2 5 _ (stS K rs L t e x0 x2 acc (some (.fz (setD a))) (some (.fz (.lst ((K.filter (apart a)).map fun b=>jz rs (a,b))))))=_;have hl2:eL (zl (jl (eV 7)) [none,some 1,some 3] (bN 0) (vh (z7 oGe (eOp oIx (eV 0) (eC (.int 2))) (eV 1)) (bT (qi (qt 2 [] yk) (qc (eOp oIx (eV 0) (eC (.int 3))) (qc (eV 2) qg))))) (eV 0)) (stS K rs L t e x0 x2 acc (some (.fz (setD a))) (some (.fz (.lst ((K.filter (apart a)).map fun b=>jz rs (a,b))))))=some (.lst ((K.filter (good rs L t e a)).map fun b=>jz rs (a,b))):=
     x_l (q27 (ds:=(K.filter (apart a)).map fun b=>jz rs (a,b)) (q06 (x_v rfl) rfl) (by rw [gh];show _<=1000000;omega) hp)
    unfold qc2;rw [hl2];show Option.bind (some (acc.map (jz rs))) _=_;rw [gd,gd];simp only [gh];rw [m8 (by show _<=1000000;omega)];unfold stS;rw [p5,ni];rfl
   ·rw [p6,uh]
  ·rcases i3 with i3|i3
   ·exact .inl i3
   ·exact .inl (.inr ⟨_,i3⟩)
def clr(a i:Nat): Nat:=a &&& (a ^^^ 2 ^ i)
theorem qgo:∀a:Nat,a<32->∀i:Nat,i<5->((qj 12 a).filter fun y=> !decide (y=(i:Int)))=qj 12 (clr a i)/\clr a i<32:=by decide +kernel
theorem qgp:∀b:Nat,b<32->∀i:Nat,i<5->uni (qj 12 b) [(i:Int)]=qj 12 (b ||| 2 ^ i)/\b ||| 2 ^ i<32/\((i:Int)∈qj 12 b↔b.testBit i=true):=by decide +kernel
theorem qkp(a:List Int)(x:Int)(ha:a.length<=1000): q3c [TI a,.int x]=some (TI (a.filter fun y=> !decide (y=x))):=by
 have hc:=km (b:=bN 0) (c:=z7 q4b (eV 0) (eV 1)) (f:=eV 0) (ρ :=[none,some (.fz (.int x))]) (fun d=>match d with | .int y=> !decide (y=x)|_=>false) id (ds:=a.map D.int) fun d hd=>by
  obtain⟨y,hy,rfl⟩:=mi.mp hd;exact⟨_,rfl,jn (x_v rfl) (x_v rfl) (q2k y x),fun _=>x_v rfl⟩
 rw [g66,g1t] at hc;exact jq (y_ret (x_call (qd (x_l (q27 (ds:=a.map D.int) (q06 (x_v rfl) rfl) (by rw [gh];show _<=1000000;omega) hc)) qr) (xm _)))
def steps(w a b:Nat): List (Nat×Nat):=((List.range w).filter fun i=> !b.testBit i).map fun i=>(clr a i,b ||| 2 ^ i)
abbrev q2a(p:Nat×Nat): D:=.tup [setD p.1,setD p.2]
theorem qhj{a b w:Nat}(ha:a<32)(hb:b<32)(hw:w<=5): y8 [setD a,setD b,.int (w:Int)]=some (.lst ((steps w a b).map q2a)):=by
 have la:=q2o 12 a;have inn:∀(x:Int),oIn true (.int x) (setD b)=some (.bl (!decide (x∈qj 12 b))):=fun x=>by
  show(if(flat (.int x)&&((qj 12 b).map D.int).all flat)=true then some (D.bl (if true=true then !inF (.int x) ((qj 12 b).map D.int) else inF (.int x) ((qj 12 b).map D.int))) else none)=_;rw [qdb,qco];rfl
 have hc:=km (b:=bN 0) (c:=z7 (oIn true) (eV 0) (eV 2)) (f:=zo (qc (qi (qt 2 [] q3c) (qc (eV 1) (qc (eV 0) qg))) (qc (qi (qt 2 [] q1c) (qc (eV 2) (qc (zo (qc (eV 0) qg)) qg))) qg))) (ρ :=[none,some (.fz (setD a)),some (.fz (setD b))])
  (fun d=>match d with | .int x=> !b.testBit x.toNat|_=>false) (fun d=>match d with | .int x=>q2a (clr a x.toNat,b ||| 2 ^ x.toNat)|_=>.non) (ds:=z9 0 w) fun d hd=>by
  obtain⟨i,hi,rfl⟩:=mi.mp hd;have hi:=tw.mp hi;rw [show(0:Int)+(i:Int)=(i:Int) by omega];obtain⟨c1,c2⟩:=qgo a ha i (by omega);obtain⟨s1,s2,s3⟩:=qgp b hb i (by omega);have hx:=qkp (qj 12 a) (i:Int) (by omega);have hy:=qdd (qj 12 b) [(i:Int)] (qgn b) (by intro z hz;rw [ur.mp hz];omega);rw [c1] at hx;rw [s1] at hy;refine⟨_,rfl,?_,fun _=>vg (qd (zj (qd (x_v rfl) (qd (x_v rfl) qr)) rfl hx) (qd (zj (qd (x_v rfl) (qd (vg (qd (x_v rfl) qr) (show 1<=1000000 by decide)) qr)) rfl hy) qr)) (show 2<=1000000 by decide)⟩;rw [jn (c:= !decide ((i:Int)∈qj 12 b)) (x_v rfl) (x_v rfl) (inn _)];show _=some (!b.testBit (i:Int).toNat);have hb2:decide ((i:Int)∈qj 12 b)=b.testBit i:=by rw [p7,ue];exact s3
  rw [nj,hb2]
 refine(jq (y_ret (x_l (q27 (ds:=z9 0 w) (q6k _ _ (w:Int) (qd (x_v rfl) qr) (by omega) (by omega)) (by rw [q7j];show _<=1000000;omega) hc)))).trans ?_
 congr 2
 unfold z9 steps;rw [g1t,ni,ni];have ef:((fun d=>match d with | .int x=> !b.testBit x.toNat|_=>false) ∘ fun i:Nat=>D.int (0+(i:Int)))=fun i=> !b.testBit i:=by
  funext i
  show(!b.testBit (0+(i:Int)).toNat)=_;rw [g5m,nj]
 rw [ef];refine g1j fun i _=>?_;show q2a (clr a (0+(i:Int)).toNat,b ||| 2 ^ (0+(i:Int)).toNat)=_;rw [g5m,nj];rfl
abbrev bb(p:Nat×Nat): List Int×List Int:=(qj 12 p.1,qj 12 p.2)
theorem qn1{p q:Nat×Nat}(hp:p.1<64/\p.2<64)(hq:q.1<64/\q.2<64)(e:bb p=bb q): p=q:=by
 injection e with e1 e2
 exact Prod.ext (q2n _ hp.1 _ hq.1 e1) (q2n _ hp.2 _ hq.2 e2)
theorem qpy{P:List (Nat×Nat)}(hP:∀p∈P,p.1<64/\p.2<64){q:Nat×Nat}(hq:q.1<64/\q.2<64): q75 (q2a q) (.dt2 (P.map bb))=some (.bl (decide (q∈P))):=by
 have hx:zq ((qj 12 q.1).map D.int)=some (qj 12 q.1):=x8 _;have hy:zq ((qj 12 q.2).map D.int)=some (qj 12 q.2):=x8 _;show(zq ((qj 12 q.1).map D.int)).bind (fun k1=>(zq ((qj 12 q.2).map D.int)).map fun k2=>D.bl (decide ((k1,k2)∈P.map bb)))=_;rw [hx,hy];show some (D.bl (decide (bb q∈P.map bb)))=_
 congr 2
 refine g00.mpr ⟨fun h=>?_,fun h=>td h⟩;obtain⟨p,hp,e⟩:=mi.mp h;exact qn1 (hP p hp) hq e ▸ hp
def qai(w:Nat)(P:List (Nat×Nat))(p:Nat×Nat): Bool:=(steps w p.1 p.2).any fun q=>decide (q∈P)
theorem qpz{w a b:Nat}(ha:a<32)(hb:b<32)(hw:w<=5): ∀q∈steps w a b,q.1<64/\q.2<64:=fun q hq=>by
 obtain⟨i,hi,rfl⟩:=mi.mp hq;have hi:=tw.mp (mn.mp hi).1;have h1:=(qgo a ha i (by omega)).2;have h2:=(qgp b hb i (by omega)).2.1;exact⟨by show clr a i<64;omega,by show b ||| 2 ^ i<64;omega⟩
theorem qkq{rs:List Run}{P:List (Nat×Nat)}(hP:∀p∈P,p.1<64/\p.2<64){p:Nat×Nat}(h1:p.1<32)(h2:p.2<32){w:Nat}(hw:w<=5): q3e [jz rs p,.dt2 (P.map bb),.int (w:Int)]=some (.bl (qai w P p)):=by
 have el:=qhj h1 h2 hw;have hs:=qpz h1 h2 hw;have hc:za (bN 0) zu (eOp q75 (eV 0) (eV 1)) [none,some (.fz (.dt2 (P.map bb)))] ((steps w p.1 p.2).map q2a)=some (((steps w p.1 p.2).map fun q=>decide (q∈P)).map D.bl):=by
  clear el;generalize steps w p.1 p.2=S at hs
  induction S with
  | nil=>rfl
  | cons q S ih=>
   have ih:=ih fun q hq=>hs q (gj _ hq);have e2:eOp q75 (eV 0) (eV 1) [some (.fz (q2a q)),some (.fz (.dt2 (P.map bb)))]=some (.bl (decide (q∈P))):=qu (x_v rfl) (x_v rfl) (qpy hP (hs q gi));rw [gf,gf,gf];unfold za;show Option.bind (some _) _=_;rw [gd];show Option.bind (some true) _=_;rw [gd];simp only [pz];show Option.bind (eOp q75 (eV 0) (eV 1) [some (.fz (q2a q)),some (.fz (.dt2 (P.map bb)))]) _=_;rw [e2,gd,ih];rfl
 have hsl:(steps w p.1 p.2).length<=12:=by
  unfold steps;rw [gh];have:=nc (fun i=> !p.2.testBit i) (List.range w);rw [g0b] at this;omega
 refine(jq (y_ret (x_call (qd (x_l (q27 (ds:=(steps w p.1 p.2).map q2a) (q06 (zj (qd (qu (x_v rfl) x_c (z:=setD p.1) rfl) (qd (qu (x_v rfl) x_c (z:=setD p.2) rfl) (qd (x_v rfl) qr))) rfl el) rfl) (by rw [gh];show _<=1000000;omega) hc)) qr) (qkd _)))).trans ?_;unfold qai;rw [List.any_map];rfl
theorem qn2:∀P:List (Nat×Nat),q74 (P.map fun p=>D.tup [q2a p,.bl true])=some (P.map bb)
 | []=>rfl
 | p :: P=>by
  have h1:zq ((qj 12 p.1).map D.int)=some (qj 12 p.1):=x8 _;have h2:zq ((qj 12 p.2).map D.int)=some (qj 12 p.2):=x8 _;rw [gf];show(zq ((qj 12 p.1).map D.int)).bind (fun k1=>(zq ((qj 12 p.2).map D.int)).bind fun k2=>(q74 (P.map fun p=>D.tup [q2a p,.bl true])).map fun q=>(k1,k2) :: q)=_;rw [h1,h2,qn2 P];rfl
def six(rs:List Run)(w:Nat)(P:List (Nat×Nat))(p:Nat×Nat): D:=.tup (qpw rs p.1 p.2++[.bl (qai w P p)])
theorem qaj{ρ : Rho}{f:FE}(g h:Nat×Nat->D): ∀(P:List (Nat×Nat)),(∀p∈P,f (some (.fz (g p)) :: ρ)=some (h p))->za (bN 0) zu f (none :: ρ) (P.map g)=some (P.map h)
 | [],_=>rfl
 | p :: P,hP=>by
  have ih:=qaj g h P fun p hp=>hP p (gj _ hp);rw [gf,gf];unfold za;show Option.bind (some _) _=_;rw [gd];show Option.bind (some true) _=_;rw [gd];simp only [pz];show Option.bind (f (some (.fz (g p)) :: ρ)) _=_;rw [hP p gi,gd,ih];rfl
theorem qhk{rs:List Run}(P:List (Nat×Nat))(hP:∀p∈P,p.1<32/\p.2<32)(hn:P.Nodup)(hl:P.length<=100000){w:Nat}(hw:w<=5): vf [.lst (P.map (jz rs)),.int (w:Int)]=some (.tup (P.map (six rs w P))):=by
 have hP64:∀p∈P,p.1<64/\p.2<64:=fun p hp=>by have:=hP p hp;omega
 have c1:za (bN 0) zu (zo (qc (zo (qc (eOp oIx (eV 0) (eC (.int 0))) (qc (eOp oIx (eV 0) (eC (.int 1))) qg))) (qc (eC (.bl true)) qg))) [none] (P.map (jz rs))=some (P.map fun p=>D.tup [q2a p,.bl true]):=
  qaj _ _ P fun p hp=>vg (qd (vg (qd (qu (x_v rfl) x_c (z:=setD p.1) rfl) (qd (qu (x_v rfl) x_c (z:=setD p.2) rfl) qr)) (show 2<=1000000 by decide)) (qd x_c qr)) (show 2<=1000000 by decide)
 have hnd:(P.map bb).Nodup:=by
  rw [List.Nodup,tq];exact g0l (fun {p q} hp hq hne e=>hne (qn1 (hP64 p hp) (hP64 q hq) e)) hn
 have hd:qbd [.lst (P.map fun p=>D.tup [q2a p,.bl true])]=some (.dt2 (P.map bb)):=by
  show(q74 (P.map fun p=>D.tup [q2a p,.bl true])).bind (fun q=>if q.Nodup/\(P.map fun p=>D.tup [q2a p,.bl true]).length<=lim then some (D.dt2 q) else none)=_;rw [qn2,gd,m8 ⟨hnd,by rw [gh];show _<=1000000;omega⟩]
 have c2:za (bN 0) zu (eOp zp (eV 0) (zo (qc (qi (qt 3 [] q3e) (qc (eV 0) (qc (eV 1) (qc (eV 2) qg)))) qg))) [none,some (.fz (.dt2 (P.map bb))),some (.fz (.int (w:Int)))] (P.map (jz rs))=some (P.map (six rs w P)):=
  qaj _ _ P fun p hp=>qu (x_v rfl) (vg (qd (zj (qd (x_v rfl) (qd (x_v rfl) (qd (x_v rfl) qr))) rfl (qkq hP64 (hP p hp).1 (hP p hp).2 hw)) qr) (show 1<=1000000 by decide)) rfl
 exact jq (ze (xc (x_call (qd (x_l (q27 (ds:=P.map (jz rs)) (q06 (x_v rfl) rfl) (by rw [gh];show _<=1000000;omega) c1)) qr) hd)) (y_ret (x_call (qd (x_l (q27 (ds:=P.map (jz rs)) (q06 (x_v rfl) rfl) (by rw [gh];show _<=1000000;omega) c2)) qr) (xm _))))
theorem qn3{K:List Nat}{g:Nat->Nat->Bool}(h:K.Nodup): (prs K g).Nodup:=by
 have key:∀q:List Nat,q.Nodup->(q.flatMap fun a=>(K.filter (g a)).map fun b=>(a,b)).Nodup:=by
  intro q
  induction q with
  | nil=>intro _;simp
  | cons a q ih=>
   intro hq;rw [p6,List.nodup_append];refine⟨?_,ih (uk.mp hq).2,fun x hx y hy e=>?_⟩
   ·rw [List.Nodup,tq]
    exact(uy _ h).imp fun hne z=>hne (by injection z)
   ·obtain⟨b,_,rfl⟩:=mi.mp hx
    obtain⟨a',ha',hy⟩:=g3m.mp hy;obtain⟨b',_,rfl⟩:=mi.mp hy;injection e with e1 e2
    exact(uk.mp hq).1 (e1 ▸ ha')
 exact key K h
theorem prs_mem{K:List Nat}{g:Nat->Nat->Bool}{p:Nat×Nat}: p∈prs K g↔p.1∈K/\p.2∈K/\g p.1 p.2=true:=by
 unfold prs;rw [g3m]
 constructor
 ·rintro⟨a,ha,h⟩
  obtain⟨b,hb,rfl⟩:=mi.mp h;exact⟨ha,(mn.mp hb).1,(mn.mp hb).2⟩
 ·rintro⟨h1,h2,h3⟩
  exact⟨p.1,h1,mi.mpr ⟨p.2,mn.mpr ⟨h2,h3⟩,rfl⟩⟩
abbrev stQ(w:Nat)(rs:List Run)(L:Int)(d:D)(t e:Nat): Rho:=[some (.fz (xo w rs)),some (.fz (.int L)),some (.fz d),some (.fz (k5 t e)),none,none,none,none]
theorem qkr(w:Nat)(hw:w<=5)(rs:List Run)(h:zm rs)(hB:Bd rs)(L:Int){d:D}{t e:Nat}(hb:BndOk d t e): kc [xo w rs,.int L,d]=some (.tup ((prs (oft w rs 1) (good rs L t e)).map (six rs w (prs (oft w rs 1) (good rs L t e))))):=by
 have hK:=kin w hw rs h;obtain⟨he,ht,he2⟩:=hb.lt;have ho:=qpr w (by omega) rs 1 h;have hkl:=hK.ok.len;obtain⟨b6,b7,el,h7⟩:=q8p hw hK h hB he ht L (some (.fz (xo w rs))) (some (.fz d)) (oft w rs 1) [] none none (fun a ha=>ha) (by rw [g41];omega);rw [g05] at el;have hP:∀p∈prs (oft w rs 1) (good rs L t e),p.1<32/\p.2<32:=fun p hp=>by
  obtain⟨h1,h2,_⟩:=prs_mem.mp hp;have:=hK.lt _ h1;have:=hK.lt _ h2;have:=q29 hw;omega
 have hPl:(prs (oft w rs 1) (good rs L t e)).length<=100000:=by
  have:=qah (B:=64) (g:=fun a=>((oft w rs 1).filter (good rs L t e a)).map fun b=>(a,b)) (q:=oft w rs 1) fun a _=>by
   rw [gh];exact mm (nc _ _) hkl
  unfold prs;omega
 have em:=qhk (rs:=rs) (prs (oft w rs 1) (good rs L t e)) hP (qn3 hK.ok.nd) hPl hw;have em2:qc3 "Growing" 3 yj (eC (.obj "Growing")) (qc (eV 0) (qc (eC (.int 1)) qg)) (stQ w rs L d t e)=some (.tup ((oft w rs 1).map (pairD rs))):=by
  unfold qc3;rw [show eC (D.obj "Growing") (stQ w rs L d t e)=some (D.obj "Growing") from rfl,gd,qd (ρ :=(stQ w rs L d t e)) (x_v (i:=0) rfl) (qd x_c qr),gd,qqi];exact ho
 have hit:qjb (eV 4) [some (.fz (xo w rs)),some (.fz (.int L)),some (.fz d),some (.fz (k5 t e)),some (.fz (yb (oft w rs 1) rs)),some (.ow []),none,none]=some ((oft w rs 1).map setD):=by
  show some (q8y _)=_;rw [qgk]
 refine jq ?_;refine ze (xc (zj (qd (x_v rfl) qr) rfl (qpx hb))) ?_;refine ze (j9 (jn (qu (x_v rfl) x_c (z:=.int (w:Int)) rfl) x_c (qcn _ _)) (gz (by omega)) ja) ?_;refine ze (xc (x_call (qd em2 qr) (qkn hK.ok))) ?_;refine ze (qe4 (qke qr (by decide))) ?_;refine ze (q43 hit el) ?_;refine qkk (ρ1:=[some (.fz (xo w rs)),some (.fz (.int L)),some (.fz d),some (.fz (k5 t e)),some (.fz (yb (oft w rs 1) rs)),some (.ow ((prs (oft w rs 1) (good rs L t e)).map (jz rs))),b6,b7]) ?_ (qkk rfl ?_)
 ·rcases h7 with(rfl|⟨z,rfl⟩)|rfl <;> rfl
 ·exact y_ret (zj (qd (x_v rfl) (qd (qu (x_v rfl) x_c (z:=.int (w:Int)) rfl) qr)) rfl em)
end My
open PySem PyProof.Rows L2 DL
namespace My
open PySem PyProof.Rows L2 DL
theorem qq0(a b:Nat): (vh (z7 oGt (eV 0) (eC (.int 0))) (z7 oGt (eV 1) (eC (.int 0)))) [some (.fz (N' a)),some (.fz (N' b))]=some (decide (0<a/\0<b)):=by
 simp! [pz]
 by_cases h1:(0:Int)<(a:Int) <;> by_cases h2:(0:Int)<(b:Int) <;> simp [h1,h2] <;> lia
theorem qxn(a b:Nat)(ha:0<a)(hb:0<b): yl [some (.fz (N' a)),some (.fz (N' b))]=some (.nx,if b<=a then [some (.fz (N' (a%b))),some (.fz (N' b))] else [some (.fz (N' a)),some (.fz (N' (b%a)))]):=by
 unfold yl
 by_cases h:b<=a
 ·have h':(b:Int)<=(a:Int):=by lia
  simp! [qae a b hb,gq h',m8 h]
 ·have h':¬(b:Int)<=(a:Int):=by lia
  simp! [qae b a ha,gz h',ma h]
theorem qgq{a b:Nat}(hb:0<b)(h:b<=a): 2*(a%b)<a+1:=by
 have h2:a%b<b:=g3z _ hb;have:=Nat.div_add_mod a b;have h4:1<=a / b:=(Nat.one_le_div_iff hb).mpr h;have h5:b*1<=b*(a / b):=g2j b h4;lia
theorem qsc:∀(k n a b:Nat),a*b<2 ^ k->k+1<=n->∃c d:Nat,c+d=Nat.gcd a b/\jm (vh (z7 oGt (eV 0) (eC (.int 0))) (z7 oGt (eV 1) (eC (.int 0)))) yl n [some (.fz (N' a)),some (.fz (N' b))]=some (.nx,[some (.fz (N' c)),some (.fz (N' d))]):=by
 intro k
 induction k with
 | zero=>
  intro n a b hb hn;obtain⟨n,rfl⟩:∃m,n=m+1:=⟨n-1,by lia⟩
  have h0:a*b=0:=by lia
  have h1:¬(0<a/\0<b):=fun⟨x,y⟩=>absurd (g69 x y) (by lia);refine⟨a,b,?_,q3k (by rw [qq0,gz h1])⟩;rcases Nat.mul_eq_zero.mp h0 with rfl|rfl
  ·rw [Nat.gcd_zero_left,g32]
  ·rw [g1u,g5h]
 | succ k ih=>
  intro n a b hb hn;obtain⟨n,rfl⟩:∃m,n=m+1:=⟨n-1,by lia⟩
  have h6:2 ^ (k+1)=2*2 ^ k:=by rw [Nat.pow_succ];lia
  by_cases h1:0<a/\0<b
  ·obtain⟨ha,hb0⟩:=h1
   rw [qaf (by rw [qq0,gq ⟨ha,hb0⟩]) (qxn a b ha hb0)]
   by_cases h:b<=a
   ·rw [m8 h]
    have e1:Nat.gcd a b=Nat.gcd (a%b) b:=by rw [g35 a b,g68 b a]
    rw [e1];refine ih n (a%b) b ?_ (by lia);have h2:2*(a%b)<=a:=by have:=qgq hb0 h;lia
    have h3:2*(a%b)*b<=a*b:=Nat.mul_le_mul_right b h2;rw [g3j] at h3;lia
   ·rw [ma h]
    have h':a<=b:=by lia
    have e1:Nat.gcd a b=Nat.gcd a (b%a):=by rw [g68 a b,g35]
    rw [e1];refine ih n a (b%a) ?_ (by lia);have h2:2*(b%a)<=b:=by have:=qgq ha h';lia
    have h3:a*(2*(b%a))<=a*b:=g2j a h2;rw [g50] at h3;lia
  ·refine⟨a,b,?_,q3k (by rw [qq0,gz h1])⟩
   have h0:a=0\/b=0:=by lia
   rcases h0 with rfl|rfl
   ·rw [Nat.gcd_zero_left,g32]
   ·rw [g1u,g5h]
theorem qwp(a b:Nat)(h:a<2 ^ 100)(h2:b<2 ^ 100): q24 [N' a,N' b]=some (N' (Nat.gcd a b)):=by
 refine jc ?_;have h3:a*b<2 ^ 200:=by
  have:=Nat.mul_lt_mul'' h h2;rw [<- Nat.pow_add] at this;exact this
 obtain⟨c,d,e0,e⟩:=qsc 200 100000 a b h3 (by decide);unfold q04;simp! [e];rw [<- e0];rfl
theorem q8q(n m:Nat)(hn:n<2 ^ 100)(hm:0<m)(hm2:m<2 ^ 100): q10 [N' n,N' m]=some (k5 n m):=by
 have hg:0<Nat.gcd n m:=g1f _ hm;have hl:Nat.gcd n m<=m:=Nat.gcd_le_right _ hm;have d:∀a:Nat,oDivB (N' a) (N' (Nat.gcd n m))=some (N' (a / Nat.gcd n m)):=fun a=>by
  have hq:(Nat.gcd n m:Int)<2 ^ 100:=by exact_mod_cast g07 hl hm2
  rw [q5k _ _ (by lia) (Int.lt_trans hq (by decide))];rfl
 exact jq (ze (xc (zj (qd (x_v rfl) (qd (x_v rfl) qr)) rfl (qwp n m hn hm2))) (y_ret (vg (qd (qu (x_v rfl) (x_v rfl) (d n)) (qd (qu (x_v rfl) (x_v rfl) (d m)) qr)) (show 2<=1000000 by decide))))
theorem q7l(a:Int): xw [.int a,.int a]=some (.bl true):=
 jq (y_ret (q94 (q5j (x_v rfl)) rfl (q94 (qwh (q5j (x_v rfl))) rfl (qu (x_v rfl) (x_v rfl) (by rw [vq,gq rfl])))))
theorem qn4(n m:Nat): vz [k5 n m,k5 n m]=some (.bl true):=
 jq (ze (j9 (q2m (w9 (q07 (q5j (x_v rfl)) rfl)) rfl (jn (x_call (qd (x_v rfl) qr) (q44 _)) x_c (q2k _ _))) rfl ja) (y_ret (q94 (zj (qd (qu (x_v rfl) x_c (z:=N' (n / Nat.gcd n m)) rfl) (qd (qu (x_v rfl) x_c (z:=N' (n / Nat.gcd n m)) rfl) qr)) rfl (q7l _)) rfl (zj (qd (qu (x_v rfl) x_c (z:=N' (m / Nat.gcd n m)) rfl) (qd (qu (x_v rfl) x_c (z:=N' (m / Nat.gcd n m)) rfl) qr)) rfl (q7l _)))))
theorem qgr(x0 x1:Option B): ∀(b:List Int) (b2 b3:Option B),∃b2' b3',runFor (we 2 (jh (bN 2) (jh (bN 3) wd))) q4x (q81 (b.map D.int) (b.map D.int)) [x0,x1,b2,b3]=some (.nx,[x0,x1,b2',b3'])
 | [],b2,b3=>⟨b2,b3,rfl⟩
 | y :: b,b2,b3=>by
  obtain⟨c2,c3,ih⟩:=qgr x0 x1 b (some (.fz (.int y))) (some (.fz (.int y)));refine⟨c2,c3,?_⟩;show runFor _ _ (.tup [.int y,.int y] :: q81 (b.map D.int) (b.map D.int)) _=_;refine(jt (ρ1:=[x0,x1,some (.fz (.int y)),some (.fz (.int y))]) (ρ2:=[x0,x1,some (.fz (.int y)),some (.fz (.int y))]) rfl ?_).trans ih;exact j9 (w9 (q07 (zj (qd (x_v rfl) (qd (x_v rfl) qr)) rfl (q7l y)) rfl)) rfl ja
theorem qn5(b:List Int): q3i [TI b,TI b]=some (.bl true):=by
 obtain⟨c2,c3,e⟩:=qgr (some (.fz (TI b))) (some (.fz (TI b))) b none none;exact jq (ze (j9 (q2m (w9 (q07 (q5j (x_v rfl)) rfl)) rfl (jn (x_call (qd (x_v rfl) qr) (q44 _)) (x_call (qd (x_v rfl) qr) (q44 _)) (q2k _ _))) (by simp) ja) (ze (q43 (qux (qd (x_v rfl) (qd (x_v rfl) qr)) rfl rfl) e) (y_ret x_c)))
theorem qv6:∀a:Nat,a<32->∀b:Nat,b<32->Builtin.bitOr (a:Int) (b:Int)=((a ||| b:Nat):Int):=by decide +kernel
theorem q52{a b:Nat}(ha:a<32)(hb:b<32): oBor (.int (a:Int)) (.int (b:Int))=some (.int ((a ||| b:Nat):Int)):=by
 show some (D.int (Builtin.bitOr a b))=_;rw [qv6 a ha b hb]
abbrev cL(w:Nat)(rs:List Run): D:=.lst ((List.range (2 ^ w)).map fun i:Nat=>.int (cM rs i))
theorem ixc{w:Nat}{rs:List Run}(h:zm rs){k:Nat}(hk:k<2 ^ w): oIx (cL w rs) (.int (k:Int))=some (N' (cn rs k)):=by
 rw [quz,q51,mj,List.getElem?_range hk,mx,q16 h]
theorem qn6{d:D}{t e:Nat}(hb:BndOk d t e){n m:Nat}(hn:n<2 ^ 60): w6 [N' n,N' m,d]=some (.bl (decide (t*m<=n*e))):=by
 obtain⟨he,ht,he2⟩:=hb.lt;have hi:∃q,qi qiy (qc (eOp (oIs false) (eV 2) (eC .non)) qg) [some (.fz (N' n)),some (.fz (N' m)),some (.fz d),none,none]=some (.int q)/\oIx (.lst [d,.tup [N' 1,N' 2]]) (.int q)=some (.tup [N' t,N' e]):=by
  rcases hb with⟨rfl,rfl,rfl⟩|⟨rfl,_⟩
  ·exact⟨1,rfl,rfl⟩
  ·exact⟨0,rfl,rfl⟩
 obtain⟨q,h1,h2⟩:=hi;refine jq (ze (ρ1:=[some (.fz (N' n)),some (.fz (N' m)),some (.fz d),some (.fz (N' t)),some (.fz (N' e))]) (quy (qu (x_l (qke (qd (x_v rfl) (qd (vg (qd x_c (qd x_c qr)) (show 2<=1000000 by decide)) qr)) (show 2<=1000000 by decide))) h1 h2) rfl) (y_ret (qu (qu (x_v rfl) (x_v rfl) (xx _ _ ⟨by omega,by omega⟩)) (qu (x_v rfl) (x_v rfl) (xx _ _ ⟨by omega,by omega⟩)) ?_)));rw [q93]
 congr 2
 exact g00.mpr (by exact_mod_cast Iff.rfl)
def g2(rs:List Run)(L:Int)(t e a b:Nat): Bool:=decide (a &&& b=0)&&(decide (L<=cM rs (a ||| b))&&decide (t*cn rs a<=cn rs (a ||| b)*e))
abbrev pI(p:Nat×Nat): D:=.tup [N' p.1,N' p.2]
abbrev stU(w:Nat)(rs:List Run)(L:Int)(d:D)(acc:List (Nat×Nat))(b4 b5:Option B): Rho:=[some (.fz (cL w rs)),some (.fz (.int L)),some (.fz d),some (.ow (acc.map pI)),b4,b5]
theorem qn7{w:Nat}(hw:w<=5){rs:List Run}(h:zm rs)(hB:Bd rs){d:D}{t e:Nat}(hb:BndOk d t e)(L:Int){a:Nat}(ha:a<2 ^ w): ∀(n k:Nat) (acc:List (Nat×Nat)) (b5:Option B),k+n<=2 ^ w->acc.length+n<=100000 ->
  ∃b5',runFor (bN 5) q01 (z9 (k:Int) n) (stU w rs L d acc (some (.fz (N' a))) b5)=some (.nx,stU w rs L d (acc++((List.range' k n).filter (g2 rs L t e a)).map fun b=>(a,a ||| b)) (some (.fz (N' a))) b5')
 | 0,k,acc,b5,_,_=>⟨b5,by simp [z9,runFor]⟩
 | n + 1,k,acc,b5,hk,hl=>by
  have h32:=q29 hw;have hkw:k<2 ^ w:=by omega
  have ho:=q52 (a:=a) (b:=k) (by omega) (by omega);have hlt:=qko w (by omega) a ha k hkw;have ix1:=ixc h hlt;have ix2:=ixc h ha;have rc:=qn6 hb (n:=cn rs (a ||| k)) (m:=cn rs a) (by have:=q99 h hB (a ||| k);omega);rw [q2w,g0y,n9];have t1:z7 oEq (eOp oBand (eV 4) (eV 5)) (eC (.int 0)) (stU w rs L d acc (some (.fz (N' a))) (some (.fz (N' k))))=some (decide (a &&& k=0)):=by
   rw [jn (c:=decide (((a &&& k:Nat):Int)=0)) (qu (x_v rfl) (x_v rfl) (q8j a k)) x_c (vq _ _)]
   congr 1
   exact g00.mpr (by omega)
  have t2:z7 oGe (eOp oIx (eV 0) (eOp oBor (eV 4) (eV 5))) (eV 1) (stU w rs L d acc (some (.fz (N' a))) (some (.fz (N' k))))=some (decide (L<=cM rs (a ||| k))):=by
   rw [q16 h];exact jn (qu (x_v rfl) (qu (x_v rfl) (x_v rfl) ho) ix1) (x_v rfl) (q93 _ _)
  have t3:bT (qi (qt 3 [] w6) (qc (eOp oIx (eV 0) (eOp oBor (eV 4) (eV 5))) (qc (eOp oIx (eV 0) (eV 4)) (qc (eV 2) qg)))) (stU w rs L d acc (some (.fz (N' a))) (some (.fz (N' k))))=some (decide (t*cn rs a<=cn rs (a ||| k)*e)):=
   q07 (zj (qd (qu (x_v rfl) (qu (x_v rfl) (x_v rfl) ho) ix1) (qd (qu (x_v rfl) (x_v rfl) ix2) (qd (x_v rfl) qr))) rfl rc) rfl
  have go:∀acc':List (Nat×Nat),q01 (stU w rs L d acc (some (.fz (N' a))) (some (.fz (N' k))))=some (.nx,stU w rs L d acc' (some (.fz (N' a))) (some (.fz (N' k))))->acc'.length+n<=100000 ->
    ∃b5',runFor (bN 5) q01 (.int (k:Int) :: z9 ((k:Int)+1) n) (stU w rs L d acc (some (.fz (N' a))) b5)=some (.nx,stU w rs L d (acc'++((List.range' (k+1) n).filter (g2 rs L t e a)).map fun b=>(a,a ||| b)) (some (.fz (N' a))) b5'):=fun acc' hb' hl'=>by
   obtain⟨b5',ih⟩:=qn7 hw h hB hb L ha n (k+1) acc' (some (.fz (N' k))) (by omega) hl';exact⟨b5',(jt (ρ1:=(stU w rs L d acc (some (.fz (N' a))) (some (.fz (N' k))))) rfl hb').trans ih⟩
  by_cases c1:a &&& k=0
  ·rw [gq c1] at t1
   by_cases c2:L<=cM rs (a ||| k)
   ·rw [gq c2] at t2
    by_cases c3:t*cn rs a<=cn rs (a ||| k)*e
    ·rw [gq c3] at t3
     rw [m8 (by unfold g2;rw [gq c1,gq c2,gq c3];rfl)];obtain⟨b5',e'⟩:=go (acc++[(a,a ||| k)]) (q50 (y3 t1 rfl t2) rfl (q50 t3 rfl ((qgb rfl (vg (qd (x_v rfl) (qd (qu (x_v rfl) (x_v rfl) ho) qr)) (show 2<=1000000 by decide)) (by rw [gh];show _<1000000;omega)).trans (by unfold stU;rw [p5];rfl)))) (by simp;omega);refine⟨b5',e'.trans ?_⟩;rw [gf,uh];rfl
    ·rw [gz c3] at t3
     rw [ma (by unfold g2;rw [gz c3];simp)];exact go acc (q50 (y3 t1 rfl t2) rfl (j9 t3 rfl ja)) (by omega)
   ·rw [gz c2] at t2
    rw [ma (by unfold g2;rw [gz c2];simp)];exact go acc (j9 (y3 t1 rfl t2) rfl ja) (by omega)
  ·rw [gz c1] at t1
   rw [ma (by unfold g2;rw [gz c1];simp)];exact go acc (j9 (q08 t1 rfl) rfl ja) (by omega)
def q0j(w:Nat)(rs:List Run)(L:Int)(t e:Nat): List (Nat×Nat):=(List.range (2 ^ w)).flatMap fun a=>((List.range' 1 (2 ^ w-1)).filter (g2 rs L t e a)).map fun b=>(a,a ||| b)
theorem qij{w:Nat}(hw:w<=5){rs:List Run}(h:zm rs)(hB:Bd rs){d:D}{t e:Nat}(hb:BndOk d t e)(L:Int): ∀(n k:Nat) (acc:List (Nat×Nat)) (b4 b5:Option B),k+n<=2 ^ w->acc.length+n*32<=50000 ->
  ∃b4' b5',runFor (bN 4) q4m (z9 (k:Int) n) (stU w rs L d acc b4 b5)=some (.nx,stU w rs L d (acc++(List.range' k n).flatMap fun a=>((List.range' 1 (2 ^ w-1)).filter (g2 rs L t e a)).map fun b=>(a,a ||| b)) b4' b5')
 | 0,k,acc,b4,b5,_,_=>⟨b4,b5,by simp [z9,runFor]⟩
 | n+1,k,acc,b4,b5,hk,hl=>by
  have h32:=q29 hw;have hp:0<2 ^ w:=g3g (by decide);obtain⟨c5,e1⟩:=qn7 hw h hB hb L (a:=k) (by omega) (2 ^ w-1) 1 acc b5 (by omega) (by omega);have hgl:=nc (g2 rs L t e k) (List.range' 1 (2 ^ w-1));rw [List.length_range'] at hgl;obtain⟨c4,d5,ih⟩:=qij hw h hB hb L n (k+1) (acc++((List.range' 1 (2 ^ w-1)).filter (g2 rs L t e k)).map fun b=>(k,k ||| b)) (some (.fz (N' k))) c5 (by omega) (by rw [mw,gh];omega);refine⟨c4,d5,?_⟩;rw [q2w,g0y,p6, <- uh];refine(jt (ρ1:=stU w rs L d acc (some (.fz (N' k))) b5) rfl (q43 (ds:=z9 ((1:Nat):Int) (2 ^ w-1)) ?_ e1)).trans ih;have hlen:xi [cL w rs]=some (.int ((2 ^ w:Nat):Int)):=(q95 _).trans (by rw [gh,g0b]);have hz:(0:Int)<=((2 ^ w:Nat):Int):=g1l _;have hz2:((2 ^ w:Nat):Int)<=32:=by exact_mod_cast h32
  rw [qih (qd x_c (qd (x_call (qd (x_v rfl) qr) hlen) qr)) (by decide) (by decide) (g5o (by decide) hz) (g4i hz2 (by decide))];exact nz (fun n=>some (z9 ((1:Nat):Int) n)) (Int.toNat_sub (2 ^ w) 1)
theorem qv7{w:Nat}(hw:w<=5){rs:List Run}(h:zm rs)(hB:Bd rs){d:D}{t e:Nat}(hb:BndOk d t e)(L:Int): q5b [cL w rs,.int L,d]=some (.lst ((q0j w rs L t e).map pI)):=by
 have h32:=q29 hw;obtain⟨b4,b5,e1⟩:=qij hw h hB hb L (2 ^ w) 0 [] none none (by omega) (by simp;omega);rw [g05, <- g1b] at e1;have hlen:xi [cL w rs]=some (.int ((2 ^ w:Nat):Int)):=(q95 _).trans (by rw [gh,g0b]);have hz:(0:Int)<=((2 ^ w:Nat):Int):=g1l _;have hz2:((2 ^ w:Nat):Int)<=32:=by exact_mod_cast h32
 exact jq (ze (qe4 (qke qr (by decide))) (ze (q43 (ds:=z9 ((0:Nat):Int) (2 ^ w)) (q6k _ _ ((2 ^ w:Nat):Int) (qd (x_call (qd (x_v rfl) qr) hlen) qr) (g5o (by decide) hz) (g4i hz2 (by decide))) e1) (qkk rfl (y_ret (x_v rfl)))))
theorem good_iff{rs:List Run}{L:Int}{t e a b:Nat}: good rs L t e a b=true↔b≠0/\a &&& b=0/\L<=cM rs (a ||| b)/\t*cn rs a<=cn rs (a ||| b)*e:=by
 unfold good apart;simp only [mf,ue]
 constructor
 ·rintro⟨⟨h1,h2⟩,h3,h4⟩;exact⟨h1,h2,h3,h4⟩
 ·rintro⟨h1,h2,h3,h4⟩;exact⟨⟨h1,h2⟩,h3,h4⟩
theorem qcp{rs:List Run}{L:Int}{t e a b:Nat}(hb:b≠0): g2 rs L t e a b=good rs L t e a b:=by
 unfold g2 good apart;rw [gq hb,g0f]
theorem due_mem{w:Nat}{rs:List Run}{L:Int}{t e:Nat}{p:Nat×Nat}: p∈q0j w rs L t e↔p.1<2 ^ w/\∃b,b<2 ^ w/\good rs L t e p.1 b=true/\p.2=p.1 ||| b:=by
 unfold q0j;rw [g3m];have hp:0<2 ^ w:=g3g (by decide)
 constructor
 ·rintro⟨a,ha,hm⟩
  obtain⟨b,hb,rfl⟩:=mi.mp hm;obtain⟨hb1,hb2⟩:=mn.mp hb;rw [g51] at hb1;exact⟨tw.mp ha,b,by omega,by rw [<- qcp (by omega)];exact hb2,rfl⟩
 ·rintro⟨h1,b,hb,hg,e2⟩
  have hb0:=(good_iff.mp hg).1;refine⟨p.1,tw.mpr h1,mi.mpr ⟨b,mn.mpr ⟨g51.mpr (by omega),?_⟩,?_⟩⟩
  ·rw [qcp hb0];exact hg
  ·rw [<- e2]
theorem uniq{a b c:Nat}(h1:a &&& b=0)(h2:a &&& c=0)(h3:a ||| b=a ||| c): b=c:=by
 apply g0o;intro i;have e1:=nz (fun n=>n.testBit i) h1;have e2:=nz (fun n=>n.testBit i) h2;have e3:=nz (fun n=>n.testBit i) h3;simp only [g2r,ny,g5p] at e1 e2 e3
 revert e1 e2 e3
 cases a.testBit i <;> cases b.testBit i <;> cases c.testBit i <;> simp
theorem qq1{w:Nat}{rs:List Run}{L:Int}{t e a b:Nat}(ha:a<2 ^ w)(hb:b<2 ^ w)(hab:a &&& b=0): ((a,a ||| b)∈q0j w rs L t e)↔good rs L t e a b=true:=by
 rw [due_mem]
 constructor
 ·rintro⟨_,c,hc,hg,e2⟩
  have:b=c:=uniq hab (good_iff.mp hg).2.1 e2;rw [this];exact hg
 ·exact fun hg=>⟨ha,b,hb,hg,rfl⟩
theorem qn8{w:Nat}{rs:List Run}{L:Int}{t e:Nat}: (q0j w rs L t e).Nodup:=by
 have key:∀q:List Nat,q.Nodup->(q.flatMap fun a=>((List.range' 1 (2 ^ w-1)).filter (g2 rs L t e a)).map fun b=>(a,a ||| b)).Nodup:=by
  intro q
  induction q with
  | nil=>intro _;simp
  | cons a q ih=>
   intro hq;rw [p6,List.nodup_append];refine⟨?_,ih (uk.mp hq).2,fun x hx y hy e=>?_⟩
   ·rw [List.Nodup,tq]
    refine g0l (fun {b c} hb hc hne z=>hne ?_) (uy _ (List.nodup_range' (s:=1) (n:=2 ^ w-1)));have g1:=(mn.mp hb).2;have g2':=(mn.mp hc).2;unfold g2 at g1 g2';simp only [mf,ue] at g1 g2';injection z with z1 z2
    exact uniq g1.1 g2'.1 z2
   ·obtain⟨b,_,rfl⟩:=mi.mp hx
    obtain⟨a',ha',hy⟩:=g3m.mp hy;obtain⟨b',_,rfl⟩:=mi.mp hy;injection e with e1 e2
    exact(uk.mp hq).1 (e1 ▸ ha')
 exact key _ g3l
theorem qks:∀w:Nat,w<6->(zb w).Perm (List.range (2 ^ w)):=by decide +kernel
theorem qsd{w:Nat}(hw:w<=5){rs:List Run}(h:zm rs){L:Int}(hL:1<=L)(t e:Nat): prs (oft w rs 1) (good rs L t e)=prs (zb w) (good rs L t e):=by
 unfold prs oft;have inner:∀a,((zb w).filter fun k=>decide (1<=cM rs k)).filter (good rs L t e a)=(zb w).filter (good rs L t e a):=fun a=>by
  rw [g33];refine g0q fun b _=>?_;cases hg:good rs L t e a b with
  | false=>rfl
  | true=>
   have:=(good_iff.mp hg).2.2.1;have:=mono rs h (a ||| b) b (qgl a b);rw [gq (show 1<=cM rs b by omega)];rfl
 simp only [inner];refine q66 _ _ _ fun a _ hq=>?_;rw [List.map_eq_nil_iff,g67];intro b _ hg;have:=(good_iff.mp hg).2.2.1;have:=mono rs h (a ||| b) a (qii a b);rw [gq (show 1<=cM rs a by omega)] at hq;cases hq
theorem len_eq{w:Nat}(hw:w<=5)(rs:List Run)(L:Int)(t e:Nat): (prs (zb w) (good rs L t e)).length=(q0j w rs L t e).length:=by
 have hp:=qks w (by omega);have pos:0<2 ^ w:=g3g (by decide);have one:∀a,((zb w).filter (good rs L t e a)).length=((List.range' 1 (2 ^ w-1)).filter (g2 rs L t e a)).length:=fun a=>by
  rw [(hp.filter _).length_eq,g1b,show 2 ^ w=(2 ^ w-1)+1 by omega,g0y,n9,ma (by rw [g5q];unfold good apart;simp)]
  congr 1
  refine g0q fun b hb=>?_;rw [g51] at hb;exact(qcp (by omega)).symm
 have h1:=(hp.flatMap_right fun a=>((zb w).filter (good rs L t e a)).map fun b=>(a,b)).length_eq;unfold prs q0j;rw [h1];generalize List.range (2 ^ w)=q
 induction q with
 | nil=>rfl
 | cons a q ih=>rw [p6,p6,mw,mw,ih,gh,gh,one]
def fol(a c:Nat)(p:Nat×Nat): Bool:=(!(decide (p.1=a)&&decide (p.2=c)))&&(decide (p.1 ||| a=a)&&decide (c ||| p.2=p.2))
theorem q1k(a i j:Nat): (clr a i).testBit j=(a.testBit j && !decide (i=j)):=by
 unfold clr;rw [g2r,Nat.testBit_xor,g0d];cases a.testBit j <;> simp
theorem sub_bit{x y:Nat}: x ||| y=y↔∀i,x.testBit i=true->y.testBit i=true:=by
 constructor
 ·intro h i hx
  have:=nz (fun n=>n.testBit i) h;simp only [ny,hx,g6m] at this;exact this.symm
 ·intro h
  apply g0o;intro i;rw [ny];cases hx:x.testBit i with
  | false=>rfl
  | true=>rw [h i hx];rfl
theorem qn9{x w i:Nat}(h:x<2 ^ w)(hx:x.testBit i=true): i<w:=by
 refine g53 fun z=>?_;have:x<2 ^ i:=m5 h (g0n (by decide) (by omega));rw [Nat.testBit_lt_two_pow this] at hx;cases hx
theorem qna{x y:Nat}(h:¬(∀i,x.testBit i=true->y.testBit i=true)): ∃i,x.testBit i=true/\y.testBit i=false:=by
 refine g0j fun z=>h fun i hx=>?_;cases hy:y.testBit i with
 | true=>rfl
 | false=>exact absurd ⟨i,hx,hy⟩ z
theorem qgs{rs:List Run}(h:zm rs){x y:Nat}(hs:∀i,y.testBit i=true->x.testBit i=true): cn rs x<=cn rs y/\cM rs x<=cM rs y:=by
 have h1:x ||| y=x:=by rw [Nat.or_comm];exact sub_bit.mpr hs
 have:=mono rs h x y h1;have:=q16 h x;have:=q16 h y;omega
theorem qse{w:Nat}(hw:w<=5){rs:List Run}(h:zm rs){L:Int}{t e a b:Nat}(ha:a<2 ^ w)(hb:b<2 ^ w)(hg:good rs L t e a b=true):
  qai w (prs (zb w) (good rs L t e)) (a,b)=(q0j w rs L t e).any (fol a (a ||| b)):=by
 have hmk:∀k,k∈zb w↔k<2 ^ w:=fun k=>⟨(xy w (by omega)).1 k,qdf w (by omega) k⟩
 obtain⟨_,hab,_,_⟩:=good_iff.mp hg;have hab':∀i,a.testBit i=true->b.testBit i=false:=fun i hi=>by
  have:=nz (fun n=>n.testBit i) hab;simp only [g2r,g5p,hi,g0f] at this;exact this
 rw [p7];unfold qai;rw [List.any_eq_true,List.any_eq_true]
 constructor
 ·rintro⟨q,hq,hP⟩
  obtain⟨i,hi,rfl⟩:=mi.mp hq;obtain⟨hiw,hbi⟩:=mn.mp hi;have hbi:b.testBit i=false:=by simpa using hbi
  obtain⟨m1,m2,m3⟩:=prs_mem.mp (tf hP);refine⟨(clr a i,clr a i ||| (b ||| 2 ^ i)),due_mem.mpr ⟨(hmk _).mp m1,b ||| 2 ^ i,(hmk _).mp m2,m3,rfl⟩,?_⟩;unfold fol;have f1:clr a i ||| a=a:=sub_bit.mpr fun j hj=>by
   rw [q1k] at hj;cases hx:a.testBit j with
   | true=>rfl
   | false=>rw [hx] at hj;cases hj
  have f2:(a ||| b) ||| (clr a i ||| (b ||| 2 ^ i))=clr a i ||| (b ||| 2 ^ i):=sub_bit.mpr fun j hj=>by
   rw [ny] at hj;rw [ny,ny,q1k,g0d]
   by_cases hij:i=j
   ·simp [hij]
   ·rw [gz hij]
    revert hj
    cases a.testBit j <;> cases b.testBit j <;> simp
  rw [gq f1,gq f2,g4q,g4q,g3d];cases hc:decide (clr a i=a) with
  | false=>rfl
  | true=>
   have hc:=tf hc;rw [g0f,nu];intro z;have h1:=nz (fun n=>n.testBit i) hc;simp only [q1k,g3f,tx,Bool.and_false] at h1;have h2:=nz (fun n=>n.testBit i) z;simp only [ny,g0d,g3f,Bool.or_true, <- h1,hbi] at h2;cases h2
 ·rintro⟨⟨o,ot⟩,hd,hf⟩
  obtain⟨ho,b',hb',hg',e2⟩:=due_mem.mp hd;simp only at ho hg' e2;obtain⟨_,hob,hL,hR⟩:=good_iff.mp hg';rw [<- e2] at hL hR;unfold fol at hf;simp only [mf,g3d,ue] at hf;obtain⟨hne,f1,f2⟩:=hf;have s1:=sub_bit.mp f1;have s2:=sub_bit.mp f2;have hot:ot<2 ^ w:=by rw [e2];exact g24 ho hb'
  have fin:∀i,i<w->b.testBit i=false->(∀j,o.testBit j=true->(clr a i).testBit j=true)->(∀j,(clr a i ||| (b ||| 2 ^ i)).testBit j=true->ot.testBit j=true)->∃q∈steps w a b,decide (q∈prs (zb w) (good rs L t e))=true:=fun i hi hbi hso hst=>by
   refine⟨(clr a i,b ||| 2 ^ i),mi.mpr ⟨i,mn.mpr ⟨tw.mpr hi,by rw [hbi];rfl⟩,rfl⟩,gq (prs_mem.mpr ⟨(hmk _).mpr ?_,(hmk _).mpr ?_,good_iff.mpr ⟨?_,?_,?_,?_⟩⟩)⟩
   ·exact g07 g60 ha
   ·exact g24 hb (Nat.pow_lt_pow_right (by decide) hi)
   ·intro z
    have:=nz (fun n=>n.testBit i) z;simp [ny,g0d] at this
   ·apply g0o
    intro j;rw [g2r,q1k,ny,g0d,g5p];have:=hab' j
    by_cases hij:i=j
    ·simp [hij]
    ·rw [gz hij]
     revert this
     cases a.testBit j <;> cases b.testBit j <;> simp
   ·exact g5o hL (qgs h hst).2
   ·have m1:=(qgs h hso).1
    have m2:=(qgs h hst).1;exact mm (g2j t m1) (mm hR (Nat.mul_le_mul_right e m2))
  by_cases hoa:o=a
  ·subst hoa
   have hn:¬(∀i,ot.testBit i=true->(o ||| b).testBit i=true):=fun z=>by
    have e3:ot=o ||| b:=by
     have:=sub_bit.mpr z;rw [Nat.or_comm,f2] at this;exact this
    rw [gq rfl,g0f,nu] at hne;exact hne e3
   obtain⟨i,hi1,hi2⟩:=qna hn;rw [ny,g43] at hi2;refine fin i (qn9 hot hi1) hi2.2 (fun j hj=>?_) fun j hj=>?_
   ·rw [q1k,hj,g0f,g3d,nu]
    intro z;rw [<- z,hi2.1] at hj;cases hj
   ·rw [ny,ny,q1k,g0d] at hj
    by_cases hij:i=j
    ·rw [<- hij];exact hi1
    ·refine s2 j ?_
     rw [ny];rw [gz hij] at hj
     revert hj
     cases o.testBit j <;> cases b.testBit j <;> simp
  ·have hn:¬(∀i,a.testBit i=true->o.testBit i=true):=fun z=>hoa (by
    have:=sub_bit.mpr z;rw [Nat.or_comm,f1] at this;exact this.symm)
   obtain⟨i,hi1,hi2⟩:=qna hn;refine fin i (qn9 ha hi1) (hab' i hi1) (fun j hj=>?_) fun j hj=>?_
   ·rw [q1k,s1 j hj,g0f,g3d,nu]
    intro z;rw [<- z,hi2] at hj;cases hj
   ·refine s2 j ?_
    rw [ny,ny,q1k,g0d] at hj;rw [ny]
    by_cases hij:i=j
    ·rw [<- hij,hi1];rfl
    ·rw [gz hij] at hj
     revert hj
     cases a.testBit j <;> cases b.testBit j <;> simp
theorem qv8(x y a c:Nat): q6x (.tup [N' x,N' y]) (.tup [N' a,N' c])=some (.bl (!(decide (x=a)&&decide (y=c)))):=by
 have hx:((x:Int)==(a:Int))=decide (x=a):=by rw [p7,g1m,ue];omega
 have hy:((y:Int)==(c:Int))=decide (y=c):=by rw [p7,g1m,ue];omega
 show(none:Option D).or (q9w (.tup [N' x,N' y]) (.tup [N' a,N' c]))=_;simp only [q9w,vt,okE,eqL,eqD,y9,q19,flat,flD,Option.isSome_some,g4q,g6i];have hx':eqF (N' x) (N' a)=decide (x=a):=hx;have hy':eqF (N' y) (N' c)=decide (y=c):=hy;simp [hx',hy',hx,hy]
abbrev stF(x0:Option B)(a c:Nat)(p:Nat×Nat): Rho:=[x0,some (.fz (N' a)),some (.fz (N' c)),some (.fz (N' p.1)),some (.fz (N' p.2))]
theorem qgt{a c:Nat}(ha:a<32)(hc:c<32)(x0:Option B): ∀(q:List (Nat×Nat)),(∀p∈q,p.1<32/\p.2<32)->∀(b3 b4:Option B),∃r,runFor (we 2 (jh (bN 3) (jh (bN 4) wd))) kj (q.map pI) [x0,some (.fz (N' a)),some (.fz (N' c)),b3,b4]=some (if q.any (fol a c) then .rt (.bl true) else .nx,r)
 | [],_,b3,b4=>⟨_,rfl⟩
 | p :: q,hq,b3,b4=>by
  obtain⟨h1,h2⟩:=hq p gi;have t1:z7 q6x (zo (qc (eV 3) (qc (eV 4) qg))) (zo (qc (eV 1) (qc (eV 2) qg))) (stF x0 a c p)=some (!(decide (p.1=a)&&decide (p.2=c))):=jn (vg (qd (x_v rfl) (qd (x_v rfl) qr)) (show 2<=1000000 by decide)) (vg (qd (x_v rfl) (qd (x_v rfl) qr)) (show 2<=1000000 by decide)) (qv8 _ _ _ _);have dn:∀x y:Nat,decide ((x:Int)=(y:Int))=decide (x=y):=fun x y=>g00.mpr (by omega);have t2:z7 oEq (eOp oBor (eV 3) (eV 1)) (eV 1) (stF x0 a c p)=some (decide (p.1 ||| a=a)):=by
   rw [<- dn];exact jn (qu (x_v rfl) (x_v rfl) (q52 h1 ha)) (x_v rfl) (vq _ _)
  have t3:z7 oEq (eOp oBor (eV 2) (eV 4)) (eV 4) (stF x0 a c p)=some (decide (c ||| p.2=p.2)):=by
   rw [<- dn];exact jn (qu (x_v rfl) (x_v rfl) (q52 hc h2)) (x_v rfl) (vq _ _)
  have tt:vh (z7 q6x (zo (qc (eV 3) (qc (eV 4) qg))) (zo (qc (eV 1) (qc (eV 2) qg)))) (vh (z7 oEq (eOp oBor (eV 3) (eV 1)) (eV 1)) (z7 oEq (eOp oBor (eV 2) (eV 4)) (eV 4))) (stF x0 a c p)=some (fol a c p):=by
   unfold fol;cases hx:(!(decide (p.1=a)&&decide (p.2=c))) with
   | false=>rw [hx] at t1;exact q08 t1 rfl
   | true=>
    rw [hx] at t1;refine y3 t1 rfl ?_;cases hy:decide (p.1 ||| a=a) with
    | false=>rw [hy] at t2;exact q08 t2 rfl
    | true=>rw [hy] at t2;exact y3 t2 rfl t3
  rw [gf,g6j];cases hf:fol a c p with
  | true=>
   rw [hf] at tt;rw [g6m,m8 rfl];exact⟨_,qmt (ρ1:=(stF x0 a c p)) rfl (q50 tt rfl (qqh x_c))⟩
  | false=>
   rw [hf] at tt;rw [g4k];obtain⟨r,ih⟩:=qgt ha hc x0 q (fun p hp=>hq p (gj _ hp)) (some (.fz (N' p.1))) (some (.fz (N' p.2)));exact⟨r,(jt (ρ1:=(stF x0 a c p)) rfl (j9 tt rfl ja)).trans ih⟩
theorem qv9{a c:Nat}(ha:a<32)(hc:c<32)(q:List (Nat×Nat))(hq:∀p∈q,p.1<32/\p.2<32): q15 [.lst (q.map pI),N' a,N' c]=some (.bl (q.any (fol a c))):=by
 obtain⟨r,e⟩:=qgt ha hc (some (.fz (.lst (q.map pI)))) q hq none none;cases hf:q.any (fol a c) with
 | true=>
  rw [hf,m8 rfl] at e;refine jq (q6n ?_);have:=q43 (it:=jl (eV 0)) (q06 (x_v rfl) rfl) e;show g1 (wq (jl (eV 0)) _ kj _)=_;exact(nz g1 this).trans rfl
 | false=>
  rw [hf,ma (by decide)] at e;exact jq (ze (q43 (q06 (x_v rfl) rfl) e) (y_ret x_c))
theorem qva{w:Nat}(hw:w<=5){rs:List Run}{L:Int}{t e:Nat}: ∀p∈q0j w rs L t e,p.1<32/\p.2<32:=fun p hp=>by
 obtain⟨h1,b,hb,_,e2⟩:=due_mem.mp hp;have:=q29 hw;have:=g24 h1 hb;rw [<- e2] at this;omega
theorem qnb{w:Nat}(hw:w<=5){rs:List Run}(h:zm rs)(hB:Bd rs){L:Int}(hL:1<=L){t e a b:Nat}(ha:a<2 ^ w)(hb:b<2 ^ w)(hg:good rs L t e a b=true):
  q26 [six rs w (prs (zb w) (good rs L t e)) (a,b),N' a,N' b,cL w rs,.lst ((q0j w rs L t e).map pI)]=some (.bl true):=by
 have h32:=q29 hw;have ho:=q52 (a:=a) (b:=b) (by omega) (by omega);have hlt:=qko w (by omega) a ha b hb;have hpos:0<2 ^ w:=g3g (by decide);have i1:=ixc h hlt;have ia:=ixc h ha;have ib:=ixc h hb;have i0:=ixc h hpos;have q:=q99 h hB;have hl2:=(good_iff.mp hg).2.2.1;have pa:1<=cn rs a:=by have:=(mono rs h (a ||| b) a (qii a b));have:=q16 h a;omega
 have pb:1<=cn rs b:=by have:=(mono rs h (a ||| b) b (qgl a b));have:=q16 h b;omega
 have tm:∀x y:Nat,y<100000000000000->zt (N' x) (N' y)=some (N' (x*y)):=fun x y hy=>by
  rw [vm _ _ ⟨by omega,by omega⟩];show _=some (D.int ((x*y:Nat):Int))
  push_cast
  rfl
 have big:∀x y:Nat,x<100000000000000->y<100000000000000->x*y<2 ^ 100:=fun x y hx hy=>g07 (Nat.mul_le_mul (g11 hx) (g11 hy)) (by decide);have s1:=q8q (cn rs (a ||| b)) (cn rs a) (g26 (q _) (by decide)) (by omega) (g26 (q _) (by decide));have s2:=q8q (cn rs (a ||| b)*cn rs 0) (cn rs a*cn rs b) (big _ _ (q _) (q _)) (g69 (by omega) (by omega)) (big _ _ (q _) (q _));have fo:=qv9 (a:=a) (c:=a ||| b) (by omega) (by omega) (q0j w rs L t e) (qva hw);have fe:=qse hw h ha hb hg;have mk2:∀k:Nat,jf [N' k]=some (setD k):=qbn;unfold six;refine jq ?_;refine ze (xc (qu (x_v rfl) (qu (x_v rfl) (x_v rfl) ho) i1)) ?_;refine ze (j9 (q2m (w9 (q07 (q5j (x_v rfl)) rfl)) rfl (q2m (jn (x_call (qd (x_v rfl) qr) (q44 _)) x_c (q2k _ _)) rfl (w9 (q07 (zj (qd (qu (x_v rfl) x_c (z:=N' (cn rs (a ||| b))) rfl) (qd (x_v rfl) qr)) rfl (q7l _)) rfl)))) rfl ja) ?_;refine ze (j9 (q2m (w9 (q07 (zj (qd (qu (x_v rfl) x_c (z:=setD a) rfl) (qd (zj (qd (x_v rfl) qr) rfl (mk2 a)) qr)) rfl (qn5 _)) rfl)) rfl (w9 (q07 (zj (qd (qu (x_v rfl) x_c (z:=setD b) rfl) (qd (zj (qd (x_v rfl) qr) rfl (mk2 b)) qr)) rfl (qn5 _)) rfl))) rfl ja) ?_;refine ze (j9 (w9 (q07 (zj (qd (qu (x_v rfl) x_c (z:=k5 (cn rs (a ||| b)) (cn rs a)) rfl) (qd (zj (qd (x_v rfl) (qd (qu (x_v rfl) (x_v rfl) ia) qr)) rfl s1) qr)) rfl (qn4 _ _)) rfl)) rfl ja) ?_;refine ze (j9 (w9 (q07 (zj (qd (qu (x_v rfl) x_c (z:=k5 (cn rs (a ||| b)*cn rs 0) (cn rs a*cn rs b)) rfl) (qd (zj (qd (qu (x_v rfl) (qu (x_v rfl) x_c i0) (tm _ _ (q 0))) (qd (qu (qu (x_v rfl) (x_v rfl) ia) (qu (x_v rfl) (x_v rfl) ib) (tm _ _ (q b))) qr)) rfl s2) qr)) rfl (qn4 _ _)) rfl)) rfl ja) ?_;refine y_ret (q94 (q5j (qu (x_v rfl) x_c (z:=.bl (qai w (prs (zb w) (good rs L t e)) (a,b))) rfl)) rfl (qu (qu (x_v rfl) x_c (z:=.bl (qai w (prs (zb w) (good rs L t e)) (a,b))) rfl) (zj (qd (x_v rfl) (qd (x_v rfl) (qd (qu (x_v rfl) (x_v rfl) ho) qr))) rfl fo) ?_));rw [fe,qmr];simp
noncomputable def qqj(w:Nat): Bool:=match yz [.lst (z9 0 (2 ^ w))] with
 | some (.lst ds)=>decide (zq ds=some ((zb w).map fun k:Nat=>(k:Int)))
 | _=>false
theorem qsf:∀w:Nat,w<6->qqj w=true:=by decide +kernel
theorem qdh:∀ {ds:List D} {l:List Int},zq ds=some l->ds=l.map D.int
 | [],l,h=>by cases h;rfl
 | .int i :: ds,l,h=>by
  obtain⟨l',h1,rfl⟩:=gv.mp h;rw [gf,qdh h1]
 | .non :: _,_,h=>by cases h
 | .bl _ :: _,_,h=>by cases h
 | .str _ :: _,_,h=>by cases h
 | .tup _ :: _,_,h=>by cases h
 | .lst _ :: _,_,h=>by cases h
 | .dct _ _ :: _,_,h=>by cases h
 | .dtt _ _ :: _,_,h=>by cases h
 | .dt2 _ :: _,_,h=>by cases h
 | .obj _ :: _,_,h=>by cases h
 | .exc _ _ :: _,_,h=>by cases h
theorem qhl(w:Nat)(hw:w<=5): yz [.lst (z9 0 (2 ^ w))]=some (.lst ((zb w).map fun k:Nat=>N' k)):=by
 have h:=qsf w (by omega);unfold qqj at h
 split at h
 ·rename_i ds e
  rw [e,qdh (tf h),ni];rfl
 ·cases h
theorem qsg(a:Nat)(x:Int): ∃k:Nat,oBand (.int (a:Int)) (.int x)=some (N' k)/\k<=a:=by
 rw [q8k];unfold Builtin.bitAnd;rw [gq (show(0:Int)<=(a:Int) by omega)];cases decide (0<=x) with
 | true=>exact⟨a &&& x.toNat,rfl,g60⟩
 | false=>
  have hl:a &&& (Builtin.bitNot x).toNat<=a:=g60;refine⟨a-(a &&& (Builtin.bitNot x).toNat),?_,Nat.sub_le _ _⟩;show some (D.int ((a:Int)-((a &&& (Builtin.bitNot x).toNat:Nat):Int)))=some (D.int ((a-(a &&& (Builtin.bitNot x).toNat):Nat):Int))
  congr 2
  omega
theorem qq2(ns:List Int){w:Nat}(hw:w<=5){rs:List Run}(h:zm rs)(hB:Bd rs): ∃(d:D) (t e:Nat),q2q [.lst (ns.map .int),cL w rs]=some d/\BndOk d t e:=by
 obtain⟨c,ec⟩:=q2x ns 2;have hp15:oPow (.int 10) (.int 15)=some (.int 1000000000000000):=by
  rw [q7i 10 15 (by decide) (by decide) (by decide)];rfl
 have h32:=q29 hw;have hpos:0<2 ^ w:=g3g (by decide);have tst:∀(k:Int) (q:Rho),z7 oEq (eOp oMod (eV 2) (eC (.int 5))) (eC (.int k)) (some (.fz (.lst (ns.map .int))) :: some (.fz (cL w rs)) :: some (.fz (.int c)) :: q)=some (decide (c%5=k)):=fun k q=>jn (qu (x_v rfl) x_c (xr _ _ (by decide))) x_c (vq _ _);have s1:zr 2 (qi (qt 2 [] xk) (qc (eV 0) (qc (eC (.int 2)) qg))) [some (.fz (.lst (ns.map .int))),some (.fz (cL w rs)),none,none,none,none]=some (.nx,[some (.fz (.lst (ns.map .int))),some (.fz (cL w rs)),some (.fz (.int c)),none,none,none]):=xc (zj (qd (x_v rfl) (qd x_c qr)) rfl ec);have s2:zr 3 (eOp oDiv (eV 2) (eC (.int 5))) [some (.fz (.lst (ns.map .int))),some (.fz (cL w rs)),some (.fz (.int c)),none,none,none]=some (.nx,[some (.fz (.lst (ns.map .int))),some (.fz (cL w rs)),some (.fz (.int c)),some (.fz (.int (c / 5))),none,none]):=xc (qu (x_v rfl) x_c (q2l _ _ (by decide) (by decide)))
 by_cases h0:c%5=0
 ·obtain⟨t,ht⟩:=g0t (g0c (c / 5) (show(11:Int)≠0 by decide))
  obtain⟨e,he⟩:=g0t (show 0<=1+c / 5 / 11%10 by omega);refine⟨.tup [N' t,N' e],t,e,jq (ze s1 (ze s2 (q6n (q8m (tst 0 _) (gq h0) (y_ret (vg (qd (qu (x_v rfl) x_c (by rw [xr _ _ (by decide),ht])) (qd (qu x_c (qu (qu (x_v rfl) x_c (q2l _ _ (by decide) (by decide))) x_c (xr _ _ (by decide))) (by rw [q3j,he])) qr)) (show 2<=1000000 by decide))))))),.inr ⟨rfl,by omega,by omega,by omega⟩⟩
 ·by_cases h1:c%5=1
  ·obtain⟨t,ht⟩:=g0t (g0c (c / 5) (show(1000000000000000:Int)≠0 by decide))
   obtain⟨e,he⟩:=g0t (show 0<=1+c / 5 / 1000000000000000%1000000000000000 by omega);refine⟨.tup [N' t,N' e],t,e,jq (ze s1 (ze s2 (ze (j9 (tst 0 _) (gz h0) ja) (q6n (q8m (tst 1 _) (gq h1) (y_ret (vg (qd (qu (x_v rfl) (qu x_c x_c hp15) (by rw [xr _ _ (by decide),ht])) (qd (qu x_c (qu (qu (x_v rfl) (qu x_c x_c hp15) (q5k _ _ (by decide) (by decide))) (qu x_c x_c hp15) (xr _ _ (by decide))) (by rw [q3j,he])) qr)) (show 2<=1000000 by decide)))))))),.inr ⟨rfl,by omega,by omega,by omega⟩⟩
  ·by_cases h4:c%5=4
   ·exact⟨.non,1,2,jq (ze s1 (ze s2 (ze (j9 (tst 0 _) (gz h0) ja) (ze (j9 (tst 1 _) (gz h1) ja) (q6n (q8m (tst 4 _) (gq h4) (y_ret x_c))))))),.inl ⟨rfl,rfl,rfl⟩⟩
   ·have hlen:xi [cL w rs]=some (.int ((2 ^ w:Nat):Int)):=(q95 _).trans (by rw [gh,g0b])
    obtain⟨o,ho,eo⟩:=q96 (x:=c / 5) (n:=2 ^ w) hpos;obtain⟨m,em,hm⟩:=qsg o (c / 5 / 4096);have io:=ixc h ho;have im:=ixc h (g07 hm ho);obtain⟨r,hr⟩:=g0t (g0c c (show(5:Int)≠0 by decide));have hr2:2<=r/\r<=3:=by omega
    have qo:=q99 h hB o;have qm:=q99 h hB m;have pre:∀ {x:Option Fl},g1 ((z0 (sIf (z7 oEq (eOp oIx (eV 1) (eV 5)) (eC (.int 0))) (zc (zo (qc (eC (.int 1)) (qc (eC (.int 3)) qg)))) jv) (zc (zo (qc (eOp oSub (eOp zp (eOp zt (eC (.int 3)) (eOp oIx (eV 1) (eV 4))) (eOp oMod (eV 2) (eC (.int 5)))) (eC (.int 2))) (qc (eOp zt (eC (.int 3)) (eOp oIx (eV 1) (eV 5))) qg))))) [some (.fz (.lst (ns.map .int))),some (.fz (cL w rs)),some (.fz (.int c)),some (.fz (.int (c / 5))),some (.fz (N' o)),some (.fz (N' m))])=x->g1 (q0r ([D.lst (ns.map .int),cL w rs].map (fun d=>some (.fz d))++List.replicate 4 none))=x:=fun hx=>
     ze s1 (ze s2 (ze (j9 (tst 0 _) (gz h0) ja) (ze (j9 (tst 1 _) (gz h1) ja) (ze (j9 (tst 4 _) (gz h4) ja) (ze (xc (qu (x_v rfl) (x_call (qd (x_v rfl) qr) hlen) eo)) (ze (xc (qu (x_v rfl) (qu (x_v rfl) x_c (q2l _ _ (by decide) (by decide))) em)) hx))))))
    have tz:z7 oEq (eOp oIx (eV 1) (eV 5)) (eC (.int 0)) [some (.fz (.lst (ns.map .int))),some (.fz (cL w rs)),some (.fz (.int c)),some (.fz (.int (c / 5))),some (.fz (N' o)),some (.fz (N' m))]=some (decide ((cn rs m:Int)=0)):=jn (qu (x_v rfl) (x_v rfl) im) x_c (vq _ _)
    by_cases hz:(cn rs m:Int)=0
    ·exact⟨.tup [N' 1,N' 3],1,3,jq (pre (q6n (q8m tz (gq hz) (y_ret (vg (qd x_c (qd x_c qr)) (show 2<=1000000 by decide)))))),.inr ⟨rfl,by decide,by decide,by decide⟩⟩
    ·refine⟨.tup [N' (3*cn rs o+r-2),N' (3*cn rs m)],_,_,jq (pre (ze (j9 tz (gz hz) ja) (y_ret (vg (qd (qu (qu (qu x_c (qu (x_v rfl) (x_v rfl) io) (xx _ _ (by decide))) (qu (x_v rfl) x_c (xr _ _ (by decide))) (q3j _ _)) x_c ?_) (qd (qu x_c (qu (x_v rfl) (x_v rfl) im) ?_) qr)) (show 2<=1000000 by decide))))),.inr ⟨rfl,by omega,by omega,by omega⟩⟩
     ·rw [qg9,hr]
      show some (D.int _)=some (D.int ((3*cn rs o+r-2:Nat):Int))
      congr 2
      omega
     ·rw [xx _ _ (by decide)]
      show some (D.int _)=some (D.int ((3*cn rs m:Nat):Int))
      congr 2
theorem qsh{p d r:D}{L:Int}(h:kc [p,.int L,d]=some r): q42 [p,.int L,d]=some r:=by
 have hd:∃c,oIs false d .non=some (.bl c)/\(c=true->d=.non):=by cases d <;> first|exact⟨_,rfl,fun _=>rfl⟩|exact⟨false,rfl,fun h=>(nomatch h)⟩
 obtain⟨c,h1,h2⟩:=hd;have t1:z7 (oIs false) (eV 2) (eC .non) [some (.fz p),some (.fz (.int L)),some (.fz d)]=some c:=jn (x_v rfl) x_c h1;have full:g1 (zc (qi (qt 3 [] kc) (qc (eV 0) (qc (eV 1) (qc (eV 2) qg)))) [some (.fz p),some (.fz (.int L)),some (.fz d)])=some (.rt r):=y_ret (zj (qd (x_v rfl) (qd (x_v rfl) (qd (x_v rfl) qr))) rfl h);cases c with
 | false=>exact jq (ze (j9 (q08 t1 rfl) rfl ja) full)
 | true=>
  have hn:=h2 rfl;subst hn;have t2:z7 oEq (eOp oMod (eV 1) (eC (.int 2))) (eC (.int 1)) [some (.fz p),some (.fz (.int L)),some (.fz .non)]=some (decide (L%2=1)):=jn (qu (x_v rfl) x_c (xr _ _ (by decide))) x_c (vq _ _)
  by_cases h3:L%2=1
  ·refine jq (q6n (q8m (y3 t1 rfl t2) (gq h3) (y_ret (x_call (qd (x_v rfl) (qd (x_v rfl) qr)) ?_))))
   show(if([p,D.int L]++[D.non]).length=3 then kc ([p,D.int L]++[D.non]) else none)=_;rw [m8 (by rfl:([p,D.int L]++[D.non]).length=3)];exact h
  ·exact jq (ze (j9 (y3 t1 rfl t2) (gz h3) ja) full)
abbrev k2(p:Nat×Nat): List Int:=[(p.1:Int),(p.2:Int)]
theorem qgu:∀q:List (Nat×Nat),qb8 (q.map pI)=some (q.map k2)
 | []=>rfl
 | p :: q=>by
  rw [gf];show(qf3 (pI p)).bind (fun k=>(qb8 (q.map pI)).map (k :: ·))=_;rw [qgu q];rfl
theorem qgv(ρ : Rho)(j:Nat): ∀q:List D,qb9 (eC (.bl true)) ρ j q=some (q.map fun _=>.bl true)
 | []=>rfl
 | d :: q=>by
  show(some (D.bl true)).bind (fun v=>(qb9 (eC (.bl true)) ρ j q).map (v :: ·))=_;rw [qgv ρ j q];rfl
theorem qnc{p q:Nat×Nat}(h:k2 p=k2 q): p=q:=by
 injection h with h1 h2
 injection h2 with h2 h3
 exact Prod.ext (by omega) (by omega)
abbrev knD(q:List (Nat×Nat)): D:=.dtt (q.map k2) ((q.map pI).map fun _=>.bl true)
theorem qnd(q:List (Nat×Nat))(p:Nat×Nat): q5r (pI p) (knD q)=some (.bl (decide (p∈q))):=by
 show some (D.bl (decide (k2 p∈q.map k2)))=_
 congr 2
 refine g00.mpr ⟨fun h=>?_,fun h=>td h⟩;obtain⟨z,hz,e⟩:=mi.mp h;exact qnc e ▸ hz
theorem qne(q:List (Nat×Nat))(hn:q.Nodup)(hl:q.length<=100000)(v0 v1 v2 v3 v4 v5 v6 v8 v9:D): ∃x11,sD1 10 11 (jl (eV 7)) (eC (.bl true)) [some (.fz v0),some (.fz v1),some (.fz v2),some (.fz v3),some (.fz v4),some (.fz v5),some (.fz v6),some (.fz (.lst (q.map pI))),some (.fz v8),some (.fz v9),none,none,none,none,none] =
  some (.nx,[some (.fz v0),some (.fz v1),some (.fz v2),some (.fz v3),some (.fz v4),some (.fz v5),some (.fz v6),some (.fz (.lst (q.map pI))),some (.fz v8),some (.fz v9),some (.fz (knD q)),x11,none,none,none]):=by
 have hnd:(q.map k2).Nodup:=by
  rw [List.Nodup,tq];exact hn.imp fun hne e=>hne (qnc e)
 unfold sD1;rw [m8 (by refine⟨rfl,?_,?_⟩ <;> (simp only [n8,g41];decide))];show ∃x11,Option.bind (some (q.map pI)) _=_;rw [gd,qgu,gd];simp only [qgv,mx];rw [m8 ⟨hnd,by rw [gh];show _<=1000000;omega⟩];unfold qf4;cases(q.map pI).getLast? with
 | none=>exact⟨_,rfl⟩
 | some z=>exact⟨_,rfl⟩
abbrev stI(w:Nat)(rs:List Run)(L:Int)(t e:Nat)(fd:List D)(x:Nat->Option B)(n:Nat)(x12 x13 x14:Option B): Rho:=[x 0,x 1,x 2,x 3,some (.fz (cL w rs)),x 5,x 6,some (.fz (.lst ((q0j w rs L t e).map pI))),some (.fz (.tup fd)),some (.fz (N' n)),some (.fz (knD (q0j w rs L t e))),x 11,x12,x13,x14]
abbrev mkO(w:Nat): Option B:=some (.fz (.lst ((zb w).map fun k:Nat=>N' k)))
theorem inner{w:Nat}(hw:w<=5){rs:List Run}(h:zm rs)(hB:Bd rs){L:Int}(hL:1<=L){t e a:Nat}(ha:a<2 ^ w)(fd:List D)(x:Nat->Option B)(x12:Option B): ∀(Q:List Nat) (pre post:List D) (b14:Option B),(∀b∈Q,b<2 ^ w)->fd=pre++(Q.filter (good rs L t e a)).map (fun b=>six rs w (prs (zb w) (good rs L t e)) (a,b))++post ->
  ∃b14',runFor (bN 14) qaa (Q.map fun k:Nat=>N' k) (stI w rs L t e fd x pre.length x12 (some (.fz (N' a))) b14) =
   some (.nx,stI w rs L t e fd x (pre.length+(Q.filter (good rs L t e a)).length) x12 (some (.fz (N' a))) b14')
 | [],pre,post,b14,_,_=>⟨b14,rfl⟩
 | b :: Q,pre,post,b14,hQ,hfd=>by
  have h32:=q29 hw;have hb:=hQ b gi;have ho:=q52 (a:=a) (b:=b) (by omega) (by omega);have t1:z7 oEq (eOp oBand (eV 13) (eV 14)) (eC (.int 0)) (stI w rs L t e fd x pre.length x12 (some (.fz (N' a))) (some (.fz (N' b))))=some (decide (a &&& b=0)):=by
   rw [jn (c:=decide (((a &&& b:Nat):Int)=0)) (qu (x_v rfl) (x_v rfl) (q8j a b)) x_c (vq _ _)]
   congr 1
   exact g00.mpr (by omega)
  have t2:z7 oGt (eV 14) (eC (.int 0)) (stI w rs L t e fd x pre.length x12 (some (.fz (N' a))) (some (.fz (N' b))))=some (decide (0<b)):=by
   rw [jn (c:=decide ((0:Int)<(b:Int))) (x_v rfl) x_c (qcn _ _)]
   congr 1
   exact g00.mpr (by omega)
  have t3:z7 q5r (zo (qc (eV 13) (qc (eOp oBor (eV 13) (eV 14)) qg))) (eV 10) (stI w rs L t e fd x pre.length x12 (some (.fz (N' a))) (some (.fz (N' b))))=some (decide ((a,a ||| b)∈q0j w rs L t e)):=jn (vg (qd (x_v rfl) (qd (qu (x_v rfl) (x_v rfl) ho) qr)) (show 2<=1000000 by decide)) (x_v rfl) (qnd _ (a,a ||| b));have tt:vh (z7 oEq (eOp oBand (eV 13) (eV 14)) (eC (.int 0))) (vh (z7 oGt (eV 14) (eC (.int 0))) (z7 q5r (zo (qc (eV 13) (qc (eOp oBor (eV 13) (eV 14)) qg))) (eV 10))) (stI w rs L t e fd x pre.length x12 (some (.fz (N' a))) (some (.fz (N' b))))=some (good rs L t e a b):=by
   by_cases c1:a &&& b=0
   ·rw [gq c1] at t1
    refine y3 t1 rfl ?_
    by_cases c2:0<b
    ·rw [gq c2] at t2
     refine y3 t2 rfl (t3.trans ?_)
     congr 1
     rw [p7,ue];exact qq1 ha hb c1
    ·rw [gz c2] at t2
     refine(q08 t2 rfl).trans ?_
     congr 1
     symm
     rw [<- g5q];exact fun hg=>(good_iff.mp hg).1 (by omega)
   ·rw [gz c1] at t1
    refine(q08 t1 rfl).trans ?_
    congr 1
    symm
    rw [<- g5q];exact fun hg=>c1 (good_iff.mp hg).2.1
  rw [gf];cases hg:good rs L t e a b with
  | false=>
   rw [hg] at tt;rw [n9,hg,ma (by decide)] at hfd;obtain⟨b14',ih⟩:=inner hw h hB hL ha fd x x12 Q pre post (some (.fz (N' b))) (fun b hb=>hQ b (gj _ hb)) hfd;refine⟨b14',?_⟩;rw [n9,hg,ma (by decide)];exact(jt (ρ1:=(stI w rs L t e fd x pre.length x12 (some (.fz (N' a))) (some (.fz (N' b))))) rfl (j9 tt rfl ja)).trans ih
  | true=>
   rw [hg] at tt;rw [n9,hg,m8 rfl,gf] at hfd;have hfd2:fd=(pre++[six rs w (prs (zb w) (good rs L t e)) (a,b)])++(Q.filter (good rs L t e a)).map (fun b=>six rs w (prs (zb w) (good rs L t e)) (a,b))++post:=by rw [hfd];simp
   obtain⟨b14',ih⟩:=inner hw h hB hL ha fd x x12 Q (pre++[six rs w (prs (zb w) (good rs L t e)) (a,b)]) post (some (.fz (N' b))) (fun b hb=>hQ b (gj _ hb)) hfd2;have hat:oIx (.tup fd) (N' pre.length)=some (six rs w (prs (zb w) (good rs L t e)) (a,b)):=by
    rw [qpf,q51,hfd];simp
   refine⟨b14',?_⟩;rw [n9,hg,m8 rfl,n8];rw [mw,g3n] at ih;rw [show pre.length+((Q.filter (good rs L t e a)).length+1)=pre.length+1+(Q.filter (good rs L t e a)).length by omega];refine(jt (ρ1:=(stI w rs L t e fd x pre.length x12 (some (.fz (N' a))) (some (.fz (N' b))))) rfl (q50 tt rfl (qbk (j9 (w9 (q07 (zj (qd (qu (x_v rfl) (x_v rfl) hat) (qd (x_v rfl) (qd (x_v rfl) (qd (x_v rfl) (qd (x_v rfl) qr))))) rfl (qnb hw h hB hL ha hb hg)) rfl)) rfl ja) (xc (qu (x_v rfl) x_c (q3j _ _)))))).trans ?_;exact ih
theorem outer{w:Nat}(hw:w<=5){rs:List Run}(h:zm rs)(hB:Bd rs){L:Int}(hL:1<=L){t e:Nat}(fd:List D)(x:Nat->Option B): ∀(A:List Nat) (pre:List D) (b13 b14:Option B),(∀a∈A,a<2 ^ w)->fd=pre++(A.flatMap fun a=>((zb w).filter (good rs L t e a)).map (fun b=>(a,b))).map (six rs w (prs (zb w) (good rs L t e))) ->
  ∃b13' b14',runFor (bN 13) qab (A.map fun k:Nat=>N' k) (stI w rs L t e fd x pre.length (mkO w) b13 b14) =
   some (.nx,stI w rs L t e fd x fd.length (mkO w) b13' b14')
 | [],pre,b13,b14,_,hfd=>⟨b13,b14,by rw [hfd];simp [runFor]⟩
 | a :: A,pre,b13,b14,hA,hfd=>by
  rw [p6,p5,ni, <- uh] at hfd;have hm:=(xy w (by omega)).1;obtain⟨c14,e1⟩:=inner hw h hB hL (hA a gi) fd x (mkO w) (zb w) pre _ b14 hm hfd;obtain⟨d13,d14,ih⟩:=outer hw h hB hL fd x A (pre++((zb w).filter (good rs L t e a)).map (fun b=>six rs w (prs (zb w) (good rs L t e)) (a,b))) (some (.fz (N' a))) c14 (fun a ha=>hA a (gj _ ha)) hfd;rw [mw,gh] at ih;refine⟨d13,d14,?_⟩;rw [gf];exact(jt (ρ1:=stI w rs L t e fd x pre.length (mkO w) (some (.fz (N' a))) b14) rfl (q43 (q06 (x_v rfl) rfl) e1)).trans ih
theorem qq3(ns:List Int)(hlen:ns.length<=63): qkb [.lst (ns.map .int)]=some (.bl true):=by
 obtain⟨c0,e0⟩:=q2x ns 0;obtain⟨w,ew,hw⟩:∃w:Nat,(if c0 / 2%8=3 then(5:Int) else c0 / 2 / 8%5)=(w:Int)/\w<=5:=by
  by_cases h3:c0 / 2%8=3
  ·exact⟨5,by rw [m8 h3];rfl,by decide⟩
  ·rw [ma h3]
   exact⟨(c0 / 2 / 8%5).toNat,by omega,by omega⟩
 have hsl:∃ms:List Int,(∀q:Rho,eOp zp (eSl (eV 0) oNo (oAt (eC (.int 2)))) (eSl (eV 0) (oAt (eC (.int 3))) oNo) (some (.fz (.lst (ns.map .int))) :: q)=some (.lst (ms.map .int)))/\ms.length<=63:=by
  refine⟨ns.take 2++ns.drop 3,fun q=>?_,by rw [mw,pj,g0w];omega⟩;refine qu (x:=.lst ((ns.take 2).map .int)) (y:=.lst ((ns.drop 3).map .int)) (quw (x_v rfl) quv (x_at x_c) ?_) (quw (x_v rfl) (x_at x_c) quv ?_) ?_
  ·rw [g4n]
   exact nz (fun l=>some (D.lst l)) (q9k (α :=Unit) (ns.map D.int) 2)
  ·rw [g4o]
   exact nz (fun l=>some (D.lst l)) (qga (α :=Unit) (ns.map D.int) 3)
  ·rw [qms _ _ (by simp only [gh,pj,g0w];omega),p5]
 obtain⟨ms,hms,hml⟩:=hsl;obtain⟨rs,hp,hl,hr⟩:=qhh ms hml w (by omega) 60 (by decide);have hR:=qs5 (show w<=6 by omega) hl hr;have hB:Bd rs:=qwn hl fun r h=>⟨(hr r h).2.2.1,(hr r h).2.2.2.1⟩
 have h32:=q29 hw;have hpos:0<2 ^ w:=g3g (by decide);have hc:=qdv w rs hR (by omega);obtain⟨L,eL,hL⟩:=qgf ns ((List.range (2 ^ w)).map fun i=>cM rs i) (by rw [gh,g0b];exact hpos) (by rw [gh,g0b];omega);rw [ni] at eL;obtain⟨d,t,e,ed,hb⟩:=qq2 ns hw hR hB;have hdue:=qv7 hw hR hB hb L;have hs:=qsh (qkr w hw rs hR hB L hb);rw [qsd hw hR hL t e] at hs;have hlen2:=len_eq hw rs L t e;have hdl:(q0j w rs L t e).length<=100000:=by
  rw [<- hlen2];have:=qah (B:=64) (g:=fun a=>((zb w).filter (good rs L t e a)).map fun b=>(a,b)) (q:=zb w) fun a _=>by
   rw [gh];exact mm (nc _ _) (xy w (by omega)).2.2
  have:=(xy w (by omega)).2.2;unfold prs;omega
 obtain⟨x11,ek⟩:=qne (q0j w rs L t e) qn8 hdl (.lst (ns.map .int)) (.int (c0 / 2)) (.int (w:Int)) (xo w rs) (cL w rs) (.int L) d (.tup ((prs (zb w) (good rs L t e)).map (six rs w (prs (zb w) (good rs L t e))))) (.int 0);obtain⟨y13,y14,eo⟩:=outer hw hR hB hL (t:=t) (e:=e) ((prs (zb w) (good rs L t e)).map (six rs w (prs (zb w) (good rs L t e)))) (fun i=>([some (.fz (.lst (ns.map .int))),some (.fz (.int (c0 / 2))),some (.fz (.int (w:Int))),some (.fz (xo w rs)),none,some (.fz (.int L)),some (.fz d),none,none,none,none,x11]:Rho).getD i none) (zb w) [] none none (xy w (by omega)).1 rfl;have hlenc:xi [cL w rs]=some (.int ((2 ^ w:Nat):Int)):=(q95 _).trans (by rw [gh,g0b]);have hz:(0:Int)<=((2 ^ w:Nat):Int):=g1l _;have hz2:((2 ^ w:Nat):Int)<=1000:=by exact_mod_cast (mm h32 (by decide))
 refine jq ?_;refine ze (xc (qu (zj (qd (x_v rfl) (qd x_c qr)) rfl e0) x_c (q2l _ _ (by decide) (by decide)))) ?_;refine ze (xc (qu (qu (x_v rfl) x_c (q2l _ _ (by decide) (by decide))) x_c (xr _ _ (by decide)))) ?_;refine ze (ρ1:=[some (.fz (.lst (ns.map .int))),some (.fz (.int (c0 / 2))),some (.fz (.int (w:Int))),none,none,none,none,none,none,none,none,none,none,none,none]) ?_ ?_
 ·by_cases h3:c0 / 2%8=3
  ·rw [m8 h3] at ew
   rw [<- ew];exact q50 (jn (qu (x_v rfl) x_c (xr _ _ (by decide))) x_c (vq _ _)) (gq h3) (xc x_c)
  ·rw [ma h3] at ew
   rw [<- ew];exact j9 (jn (qu (x_v rfl) x_c (xr _ _ (by decide))) x_c (vq _ _)) (gz h3) ja
 refine ze (xc (zj (qd (hms _) (qd (x_v rfl) (qd x_c qr))) rfl hp)) ?_;refine ze (xc (zj (qd (x_v rfl) qr) rfl hc)) ?_;refine ze (xc (zj (qd (x_v rfl) (qd (x_v rfl) qr)) rfl eL)) ?_;refine ze (xc (zj (qd (x_v rfl) (qd (x_v rfl) qr)) rfl ed)) ?_;refine ze (xc (zj (qd (x_v rfl) (qd (x_v rfl) (qd (x_v rfl) qr))) rfl hdue)) ?_;refine ze (xc (zj (qd (x_v rfl) (qd (x_v rfl) (qd (x_v rfl) qr))) rfl hs)) ?_;refine ze (j9 (q2m (w9 (q07 (q5j (x_v rfl)) rfl)) rfl (jn (x_call (qd (x_v rfl) qr) (q44 _)) (x_call (qd (x_v rfl) qr) (q95 _)) (q2k _ _))) (by rw [gh,gh,hlen2];simp) ja) ?_;refine ze (xc x_c) ?_;refine ze ek ?_;refine ze (xc (zj (qd (d:=.lst (z9 0 (2 ^ w))) ?_ qr) rfl (qhl w hw))) ?_
 ·unfold qjk
  rw [x_call (qd (x_v rfl) qr) hlenc,gd];simp only [];rw [m8 (by rw [gq hz,gq hz2];rfl),nj]
 refine ze (q43 (q06 (x_v rfl) rfl) eo) ?_;refine y_ret (qu (x_v rfl) (x_call (qd (x_v rfl) qr) (q44 _)) ?_);rw [vq,gq rfl]
end My
namespace My
open PySem PySem.Spec PyProof.Rows L2 DL
open PySem.W (nsIn fnOf keepIn codeIn mg_of subIn mg_none_of findIn plainGet)
theorem ln1{s:Shared}{fd:FuncData}{ps:List Str}(h:∀a0,BindsTo s fd ⟨[a0],[]⟩ (ps.zip ([a0]++[]))): ∀us:List Value,(us++[]).length=1->BindsTo s fd ⟨us,[]⟩ (ps.zip (us++[]))
 | [a0],_=>h a0
theorem ln2{s:Shared}{fd:FuncData}{ps:List Str}(h:∀a0 a1,BindsTo s fd ⟨[a0,a1],[]⟩ (ps.zip ([a0,a1]++[]))): ∀us:List Value,(us++[]).length=2->BindsTo s fd ⟨us,[]⟩ (ps.zip (us++[]))
 | [a0,a1],_=>h a0 a1
theorem ln3{s:Shared}{fd:FuncData}{ps:List Str}(h:∀a0 a1 a2,BindsTo s fd ⟨[a0,a1,a2],[]⟩ (ps.zip ([a0,a1,a2]++[]))): ∀us:List Value,(us++[]).length=3->BindsTo s fd ⟨us,[]⟩ (ps.zip (us++[]))
 | [a0,a1,a2],_=>h a0 a1 a2
theorem ln5{s:Shared}{fd:FuncData}{ps:List Str}(h:∀a0 a1 a2 a3 a4,BindsTo s fd ⟨[a0,a1,a2,a3,a4],[]⟩ (ps.zip ([a0,a1,a2,a3,a4]++[]))): ∀us:List Value,(us++[]).length=5->BindsTo s fd ⟨us,[]⟩ (ps.zip (us++[]))
 | [a0,a1,a2,a3,a4],_=>h a0 a1 a2 a3 a4
theorem all_mk[Lam]{l:PySem.W.OpenLaw}{w:World}{K:Frag}{h:Heap}{mg:Str->Option Value}{fa:Addr}(X:K.In h)(G:h.Ns mainGlobals mg)(hfa:mg "law" = some (.ref fa))(hm:∀ns:List Int,ns.length<=63->qkb [.lst (ns.map .int)]=some (.bl true))
  {aa:Addr}
  (cC:nsIn K mainGlobals "Growing" = some (some (.ref aa)))
  (cW:PySem.W.makesIn K aa=true)
  (cY:findIn K (.ref aa) "__init__" = some (some (.builtin "object.__init__")))
  (cX:keepIn K (.ref aa)=true)
  (cV:plainGet K aa Str.empty=true)
  (bD:PySem.W.hasDictIn K aa=true)
  (cU:PySem.W.plainOver K aa=true)
  (cT:findIn K (.ref aa) "__setattr__" = some (some (.builtin "object.__setattr__")))
  (dg:plainGet K aa "__class__" = true)
  (dh:findIn K (.ref aa) "__class__" = some (some (.builtin "object.__class__")))
  (dc:PySem.W.specialIn K (.builtin "object.__class__") "__get__" = some (some (.builtin "getset_descriptor.__get__")))
  (c9:PySem.W.takesIn K (.builtin "object.__class__")=some true)
  (df:PySem.W.mroIn K aa (.type "object")=some true)
  (br:subIn K (.ref aa) (.type "int")=some false)
  (ba:subIn K (.ref aa) (.type "bool")=some false)
  (aO:subIn K (.ref aa) (.type "tuple")=some false)
  (aY:subIn K (.ref aa) (.type "list")=some false)
  (bq:subIn K (.ref aa) (.type "str")=some false)
  (aZ:subIn K (.ref aa) (.type "dict")=some false)
  {fa_19:Addr} {fD:FuncData} (bW:nsIn K mainGlobals "_law_mixed" = some (some (.ref fa_19))) (cx:Fun2 K "_law_mixed" "_law_mixed" q0m .none fa_19 fD)
  {fa_11:Addr} {fU:FuncData} (cQ:nsIn K mainGlobals "_law_cell" = some (some (.ref fa_11))) (dw:Fun2 K "_law_cell" "_law_cell" q1u .none fa_11 fU)
  {fa_20:Addr} {eP:FuncData} (bo:nsIn K mainGlobals "_law_of_mark" = some (some (.ref fa_20))) (bu:Fun2 K "_law_of_mark" "_law_of_mark" kv .none fa_20 eP)
  {fa_24:Addr} {f6:FuncData} (dN:nsIn K mainGlobals "_law_run" = some (some (.ref fa_24))) (d6:Fun2 K "_law_run" "_law_run" q35 .none fa_24 f6)
  {fa_21:Addr} {fT:FuncData} (cP:nsIn K mainGlobals "_law_pile" = some (some (.ref fa_21))) (du:Fun2 K "_law_pile" "_law_pile" q1v .none fa_21 fT)
  {fa_18:Addr} {fE:FuncData} (bX:nsIn K mainGlobals "_law_marks" = some (some (.ref fa_18))) (cy:Fun2 K "_law_marks" "_law_marks" q0n .none fa_18 fE)
  {fa_13:Addr} {fg:FuncData} (bB:nsIn K mainGlobals "_law_counts" = some (some (.ref fa_13))) (bL:Fun2 K "_law_counts" "_law_counts" wz .none fa_13 fg)
  {fa_17:Addr} {fF:FuncData} (bY:nsIn K mainGlobals "_law_least" = some (some (.ref fa_17))) (cz:Fun2 K "_law_least" "_law_least" q0p .none fa_17 fF)
  {fa_10:Addr} {fG:FuncData} (bZ:nsIn K mainGlobals "_law_bound" = some (some (.ref fa_10))) (cA:Fun2 K "_law_bound" "_law_bound" q0q .none fa_10 fG)
  {fa_22:Addr} {eO:FuncData} (bj:nsIn K mainGlobals "_law_reaches" = some (some (.ref fa_22))) (bt:Fun2 K "_law_reaches" "_law_reaches" w4 .none fa_22 eO)
  {fa_14:Addr} {f9:FuncData} (dQ:nsIn K mainGlobals "_law_due" = some (some (.ref fa_14))) (d8:Fun2 K "_law_due" "_law_due" q38 .none fa_14 f9)
  {fa_6:Addr} {ai:FuncData} (aB:nsIn K mainGlobals "greatest_divisor" = some (some (.ref fa_6))) (aD:Fun2 K "greatest_divisor" "greatest_divisor" v7 .none fa_6 ai)
  {fa_8:Addr} {aS:FuncData} (b9:nsIn K mainGlobals "is_number" = some (some (.ref fa_8))) (cB:Fun2 K "is_number" "is_number" q0s .none fa_8 aS)
  {fa_40:Addr} {aV:FuncData} (fu:nsIn K mainGlobals "share" = some (some (.ref fa_40))) (fN:Fun2 K "share" "share" q6g .none fa_40 aV)
  {fa_3:Addr} {bh:FuncData} (cR:nsIn K mainGlobals "bound_of" = some (some (.ref fa_3))) (dy:Fun2 K "bound_of" "bound_of" q1y .none fa_3 bh)
  {fa_2:Addr} {au:FuncData} (cS:nsIn K mainGlobals "at_least" = some (some (.ref fa_2))) (dz:Fun2 K "at_least" "at_least" q1z .none fa_2 au)
  {fa_30:Addr} {aC:FuncData} (dM:nsIn K mainGlobals "mark_of" = some (some (.ref fa_30))) (dZ:Fun2 K "mark_of" "mark_of" q39 .none fa_30 aC)
  {fa_31:Addr} {cD:FuncData} (eM:nsIn K mainGlobals "marked" = some (some (.ref fa_31))) (eY:Fun2 K "marked" "marked" q4n .none fa_31 cD)
  {fa_36:Addr} {ax:FuncData} (aM:nsIn K mainGlobals "one_ware_more" = some (some (.ref fa_36))) (aP:Fun2 K "one_ware_more" "one_ware_more" yg .none fa_36 ax)
  {fa_35:Addr} {ao:FuncData} (aG:nsIn K mainGlobals "one_ware_fewer" = some (some (.ref fa_35))) (aK:Fun2 K "one_ware_fewer" "one_ware_fewer" vv .none fa_35 ao)
  {fa_7:Addr} {dB:FuncData} (fw:nsIn K mainGlobals "grown" = some (some (.ref fa_7))) (fO:Fun2 K "grown" "grown" q6i .none fa_7 dB)
  {fa_4:Addr} {aA:FuncData} (aU:nsIn K mainGlobals "count_marked" = some (some (.ref fa_4))) (bg:Fun2 K "count_marked" "count_marked" yt .none fa_4 aA)
  {fa_0:Addr} {od_0 an_0:Option Addr} {sl_0:Array (Option Value)} {oc_0 kV_0 dc_0 pm_0 cd_0 ct_0:Value}
  (aE:findIn K (.ref aa) "counted" = some (some (.ref fa_0))) (i_0:PySem.W.isFn K (.ref fa_0)=true)
  (l_0:K.lookup fa_0=some ⟨oc_0,od_0,.func (fnOf "counted" "Growing.counted" (q1f ji) (qz ji) (qh ji) .none kV_0 dc_0 pm_0 an_0 cd_0 ct_0),sl_0⟩)
  (q_0:codeIn K cd_0 "Growing.counted" = true) (k_0:keepIn K (.ref fa_0)=true)
  {fa_1:Addr} {od_1 an_1:Option Addr} {sl_1:Array (Option Value)} {oc_1 kV_1 dc_1 pm_1 cd_1 ct_1:Value}
  (aN:findIn K (.ref aa) "often" = some (some (.ref fa_1))) (i_1:PySem.W.isFn K (.ref fa_1)=true)
  (l_1:K.lookup fa_1=some ⟨oc_1,od_1,.func (fnOf "often" "Growing.often" (q1f jr) (qz jr) (qh jr) .none kV_1 dc_1 pm_1 an_1 cd_1 ct_1),sl_1⟩)
  (q_1:codeIn K cd_1 "Growing.often" = true) (k_1:keepIn K (.ref fa_1)=true)
  {fa_42:Addr} {bE:FuncData} (dH:nsIn K mainGlobals "without" = some (some (.ref fa_42))) (dX:Fun2 K "without" "without" q3b .none fa_42 bE)
  {fa_9:Addr} {aI:FuncData} (eN:nsIn K mainGlobals "joined" = some (some (.ref fa_9))) (eZ:Fun2 K "joined" "joined" q4r .none fa_9 aI)
  {fa_34:Addr} {ah:FuncData} (ay:nsIn K mainGlobals "one_step_stronger" = some (some (.ref fa_34))) (az:Fun2 K "one_step_stronger" "one_step_stronger" xp .none fa_34 ah)
  {fa_5:Addr} {bG:FuncData} (dR:nsIn K mainGlobals "follows" = some (some (.ref fa_5))) (d9:Fun2 K "follows" "follows" q3d .none fa_5 bG)
  {fa_32:Addr} {af:FuncData} (aj:nsIn K mainGlobals "marked_by_following" = some (some (.ref fa_32))) (ak:Fun2 K "marked_by_following" "marked_by_following" xb .none fa_32 af)
  {fa_38:Addr} {aR:FuncData} (bS:nsIn K mainGlobals "saying_of" = some (some (.ref fa_38))) (cq:Fun2 K "saying_of" "saying_of" q0w .none fa_38 aR)
  {fa_33:Addr} {fA:FuncData} (gJ:nsIn K mainGlobals "met" = some (some (.ref fa_33))) (gM:Fun2 K "met" "met" qbg .none fa_33 fA)
  {fa_41:Addr} {aQ:FuncData} (bR:nsIn K mainGlobals "whats_for" = some (some (.ref fa_41))) (cp:Fun2 K "whats_for" "whats_for" q0x .none fa_41 aQ)
  {fa_37:Addr} {bF:FuncData} (dJ:nsIn K mainGlobals "reaches" = some (some (.ref fa_37))) (dY:Fun2 K "reaches" "reaches" q3f .none fa_37 bF)
  {fa_39:Addr} {od_39 an_39:Option Addr} {sl_39:Array (Option Value)} {oc_39 kV_39 dc_39 pm_39 cd_39 ct_39:Value} {ft:Addr}
  (dI:nsIn K mainGlobals "sayings" = some (some (.ref fa_39)))
  (l_39:K.lookup fa_39=some ⟨oc_39,od_39,.func (fnOf "sayings" "sayings" (q1f kb) (qz kb) (qh kb) (.ref ft) kV_39 dc_39 pm_39 an_39 cd_39 ct_39),sl_39⟩)
  (q_39:codeIn K cd_39 "sayings" = true) (k_39:keepIn K (.ref fa_39)=true)
  {fR:Value} {fQ:Option Addr} {aq:Nat} {fP:Array (Option Value)} (cE:K.lookup ft=some ⟨fR,fQ,.seq #[.none] aq,fP⟩)
  {fa_25:Addr} {fS:FuncData} (cO:nsIn K mainGlobals "_law_said" = some (some (.ref fa_25))) (dt:Fun2 K "_law_said" "_law_said" q23 .none fa_25 fS)
  {fa_16:Addr} {eF:FuncData} (aT:nsIn K mainGlobals "_law_in_order" = some (some (.ref fa_16))) (bf:Fun2 K "_law_in_order" "_law_in_order" yy .none fa_16 eF)
  {fa_29:Addr} {fB:FuncData} (bU:nsIn K mainGlobals "_law_whole" = some (some (.ref fa_29))) (cu:Fun2 K "_law_whole" "_law_whole" q0y .none fa_29 fB)
  {fa_28:Addr} {dA:FuncData} (aH:nsIn K mainGlobals "_law_two_shares" = some (some (.ref fa_28))) (aL:Fun2 K "_law_two_shares" "_law_two_shares" vy .none fa_28 dA)
  {fa_23:Addr} {f7:FuncData} (dP:nsIn K mainGlobals "_law_row" = some (some (.ref fa_23))) (d7:Fun2 K "_law_row" "_law_row" q3h .none fa_23 f7)
  {fa_12:Addr} {fi:FuncData} (bC:nsIn K mainGlobals "_law_common" = some (some (.ref fa_12))) (bM:Fun2 K "_law_common" "_law_common" q03 .none fa_12 fi)
  {fa_27:Addr} {fC:FuncData} (bV:nsIn K mainGlobals "_law_share" = some (some (.ref fa_27))) (cw:Fun2 K "_law_share" "_law_share" q0z .none fa_27 fC)
  {fa_15:Addr} {eQ:FuncData} (bp:nsIn K mainGlobals "_law_follows" = some (some (.ref fa_15))) (bw:Fun2 K "_law_follows" "_law_follows" w8 .none fa_15 eQ)
  {fa_26:Addr} {fb:FuncData} (bA:nsIn K mainGlobals "_law_saying" = some (some (.ref fa_26))) (bK:Fun2 K "_law_saying" "_law_saying" q05 .none fa_26 fb)
  {fa_law:Addr} {gP:FuncData} (gK:nsIn K mainGlobals "law" = some (some (.ref fa_law))) (gN:Fun2 K "law" "law" qbj .none fa_law gP)
  (z_len:nsIn K mainGlobals "len" = some none)
  (z_tuple:nsIn K mainGlobals "tuple" = some none)
  (z_range:nsIn K mainGlobals "range" = some none)
  (z_sum:nsIn K mainGlobals "sum" = some none)
  (z_max:nsIn K mainGlobals "max" = some none)
  (z_int:nsIn K mainGlobals "int" = some none)
  (z_isinstance:nsIn K mainGlobals "isinstance" = some none)
  (z_bool:nsIn K mainGlobals "bool" = some none)
  (z_dict:nsIn K mainGlobals "dict" = some none)
  (z_all:nsIn K mainGlobals "all" = some none)
  (z_sorted:nsIn K mainGlobals "sorted" = some none)
  (z_set:nsIn K mainGlobals "set" = some none)
  (z_any:nsIn K mainGlobals "any" = some none)
  (z_zip:nsIn K mainGlobals "zip" = some none)
  (z_list:nsIn K mainGlobals "list" = some none)
  {tk_MOST_WARES_SAID:Tok} (y_MOST_WARES_SAID:nsIn K mainGlobals "MOST_WARES_SAID" = some (some (.int 8 tk_MOST_WARES_SAID)))
  : ∃fd:FuncData,(∀(s:Shared) (v:Value),BindsTo s fd ⟨[v],[]⟩ [("_law_script",v)])/\∀base:Heap,K.In base->base.Ns mainGlobals mg->FnOk l.prog w K mg base CX0 7 fa fd ["_law_script"] (qdz K):=by
 have aJ:ClsOk K "Growing" aa:=⟨cC,cW,cY,cX,⟨cV,bD,cU,cT⟩,dg,bD,dh,dc,c9,df,qrf br ba aO aY bq aZ⟩
 have dS:=mg_of X G cC;have k_19:=cx.kp;have k_11:=dw.kp;have k_20:=bu.kp;have k_24:=d6.kp;have k_21:=du.kp;have k_18:=cy.kp;have k_13:=bL.kp;have k_17:=cz.kp;have k_10:=cA.kp;have k_22:=bt.kp;have k_14:=d8.kp;have k_6:=aD.kp;have k_8:=cB.kp;have k_40:=fN.kp;have k_3:=dy.kp;have k_2:=dz.kp;have k_30:=dZ.kp;have k_31:=eY.kp;have k_36:=aP.kp;have k_35:=aK.kp;have k_7:=fO.kp;have k_4:=bg.kp;have dG:=q8v (st:=ji) l_0 q_0 k_0;have eJ:=q8v (st:=jr) l_1 q_1 k_1;have k_42:=dX.kp;have k_9:=eZ.kp;have k_34:=az.kp;have k_5:=d9.kp;have k_32:=ak.kp;have k_38:=cq.kp;have k_33:=gM.kp;have k_41:=cp.kp;have k_37:=dY.kp;have gI:=q8v (st:=kb) l_39 q_39 k_39;have k_25:=dt.kp;have k_16:=bf.kp;have k_29:=cu.kp;have k_28:=aL.kp;have k_23:=d7.kp;have k_12:=bM.kp;have k_27:=cw.kp;have k_15:=bw.kp;have k_26:=bK.kp;have k_law:=gN.kp;have n_len:=mg_none_of X G z_len;have n_tuple:=mg_none_of X G z_tuple;have n_range:=mg_none_of X G z_range;have n_sum:=mg_none_of X G z_sum;have n_max:=mg_none_of X G z_max;have n_int:=mg_none_of X G z_int;have n_isinstance:=mg_none_of X G z_isinstance;have n_bool:=mg_none_of X G z_bool;have n_dict:=mg_none_of X G z_dict;have n_all:=mg_none_of X G z_all;have n_sorted:=mg_none_of X G z_sorted;have n_set:=mg_none_of X G z_set;have n_any:=mg_none_of X G z_any;have n_zip:=mg_none_of X G z_zip;have n_list:=mg_none_of X G z_list;have g_MOST_WARES_SAID:∃t,mg "MOST_WARES_SAID" = some (.int 8 t):=⟨_,mg_of X G y_MOST_WARES_SAID⟩
 have e:=hfa.symm.trans (mg_of X G gK);cases e;have b_19:Binds K _ ["_law_script","_law_k"] []:=cx.bindsTo (P:=fun fd=>Binds K fd ["_law_script","_law_k"] []) fun _ _ _ _ _ _ s us hk hl=>ln2 (fun _ _=>.of_eq rfl) us hl;have b_11:Binds K _ ["_law_script","_law_k"] []:=dw.bindsTo (P:=fun fd=>Binds K fd ["_law_script","_law_k"] []) fun _ _ _ _ _ _ s us hk hl=>ln2 (fun _ _=>.of_eq rfl) us hl;have b_20:Binds K _ ["_law_mark"] []:=bu.bindsTo (P:=fun fd=>Binds K fd ["_law_mark"] []) fun _ _ _ _ _ _ s us hk hl=>ln1 (fun _=>.of_eq rfl) us hl;have b_24:Binds K _ ["_law_number","_law_wares","_law_great"] []:=d6.bindsTo (P:=fun fd=>Binds K fd ["_law_number","_law_wares","_law_great"] []) fun _ _ _ _ _ _ s us hk hl=>ln3 (fun _ _ _=>.of_eq rfl) us hl;have b_21:Binds K _ ["_law_script","_law_wares","_law_most_runs"] []:=du.bindsTo (P:=fun fd=>Binds K fd ["_law_script","_law_wares","_law_most_runs"] []) fun _ _ _ _ _ _ s us hk hl=>ln3 (fun _ _ _=>.of_eq rfl) us hl;have b_18:Binds K _ ["_law_pile_here"] []:=cy.bindsTo (P:=fun fd=>Binds K fd ["_law_pile_here"] []) fun _ _ _ _ _ _ s us hk hl=>ln1 (fun _=>.of_eq rfl) us hl;have b_13:Binds K _ ["_law_pile_here"] []:=bL.bindsTo (P:=fun fd=>Binds K fd ["_law_pile_here"] []) fun _ _ _ _ _ _ s us hk hl=>ln1 (fun _=>.of_eq rfl) us hl;have b_17:Binds K _ ["_law_script","_law_counts_here"] []:=cz.bindsTo (P:=fun fd=>Binds K fd ["_law_script","_law_counts_here"] []) fun _ _ _ _ _ _ s us hk hl=>ln2 (fun _ _=>.of_eq rfl) us hl;have b_10:Binds K _ ["_law_script","_law_counts_here"] []:=cA.bindsTo (P:=fun fd=>Binds K fd ["_law_script","_law_counts_here"] []) fun _ _ _ _ _ _ s us hk hl=>ln2 (fun _ _=>.of_eq rfl) us hl;have b_22:Binds K _ ["_law_one","_law_other","_law_bound_here"] []:=bt.bindsTo (P:=fun fd=>Binds K fd ["_law_one","_law_other","_law_bound_here"] []) fun _ _ _ _ _ _ s us hk hl=>ln3 (fun _ _ _=>.of_eq rfl) us hl;have b_14:Binds K _ ["_law_counts_here","_law_least_here","_law_bound_here"] []:=d8.bindsTo (P:=fun fd=>Binds K fd ["_law_counts_here","_law_least_here","_law_bound_here"] []) fun _ _ _ _ _ _ s us hk hl=>ln3 (fun _ _ _=>.of_eq rfl) us hl;have b_6:Binds K _ ["one","other"] []:=aD.bindsTo (P:=fun fd=>Binds K fd ["one","other"] []) fun _ _ _ _ _ _ s us hk hl=>ln2 (fun _ _=>.of_eq rfl) us hl;have b_8:Binds K _ ["thing"] []:=cB.bindsTo (P:=fun fd=>Binds K fd ["thing"] []) fun _ _ _ _ _ _ s us hk hl=>ln1 (fun _=>.of_eq rfl) us hl;have b_40:Binds K _ ["top","bottom"] []:=fN.bindsTo (P:=fun fd=>Binds K fd ["top","bottom"] []) fun _ _ _ _ _ _ s us hk hl=>ln2 (fun _ _=>.of_eq rfl) us hl;have b_3:Binds K _ ["thing"] []:=dy.bindsTo (P:=fun fd=>Binds K fd ["thing"] []) fun _ _ _ _ _ _ s us hk hl=>ln1 (fun _=>.of_eq rfl) us hl;have b_2:Binds K _ ["pairs","least"] []:=dz.bindsTo (P:=fun fd=>Binds K fd ["pairs","least"] []) fun _ _ _ _ _ _ s us hk hl=>ln2 (fun _ _=>.of_eq rfl) us hl;have b_30:Binds K _ ["some"] []:=dZ.bindsTo (P:=fun fd=>Binds K fd ["some"] []) fun _ _ _ _ _ _ s us hk hl=>ln1 (fun _=>.of_eq rfl) us hl;have b_31:Binds K _ ["pile"] []:=eY.bindsTo (P:=fun fd=>Binds K fd ["pile"] []) fun _ _ _ _ _ _ s us hk hl=>ln1 (fun _=>.of_eq rfl) us hl;have b_36:Binds K _ ["some","wares"] []:=aP.bindsTo (P:=fun fd=>Binds K fd ["some","wares"] []) fun _ _ _ _ _ _ s us hk hl=>ln2 (fun _ _=>.of_eq rfl) us hl;have b_35:Binds K _ ["some"] []:=aK.bindsTo (P:=fun fd=>Binds K fd ["some"] []) fun _ _ _ _ _ _ s us hk hl=>ln1 (fun _=>.of_eq rfl) us hl;have b_7:Binds K _ ["layer","wares"] []:=fO.bindsTo (P:=fun fd=>Binds K fd ["layer","wares"] []) fun _ _ _ _ _ _ s us hk hl=>ln2 (fun _ _=>.of_eq rfl) us hl;have b_4:Binds K _ ["marked_runs","some"] []:=bg.bindsTo (P:=fun fd=>Binds K fd ["marked_runs","some"] []) fun _ _ _ _ _ _ s us hk hl=>ln2 (fun _ _=>.of_eq rfl) us hl;have b_0:Binds K _ ["self","pile","least"] []:=dG.bindsTo (P:=fun fd=>Binds K fd ["self","pile","least"] []) fun _ _ _ _ _ _ s us hk hl=>ln3 (fun _ _ _=>.of_eq rfl) us hl;have b_1:Binds K _ ["self","pile","least"] []:=eJ.bindsTo (P:=fun fd=>Binds K fd ["self","pile","least"] []) fun _ _ _ _ _ _ s us hk hl=>ln3 (fun _ _ _=>.of_eq rfl) us hl;have b_42:Binds K _ ["some","ware"] []:=dX.bindsTo (P:=fun fd=>Binds K fd ["some","ware"] []) fun _ _ _ _ _ _ s us hk hl=>ln2 (fun _ _=>.of_eq rfl) us hl;have b_9:Binds K _ ["one","other"] []:=eZ.bindsTo (P:=fun fd=>Binds K fd ["one","other"] []) fun _ _ _ _ _ _ s us hk hl=>ln2 (fun _ _=>.of_eq rfl) us hl;have b_34:Binds K _ ["whom","what","wares"] []:=az.bindsTo (P:=fun fd=>Binds K fd ["whom","what","wares"] []) fun _ _ _ _ _ _ s us hk hl=>ln3 (fun _ _ _=>.of_eq rfl) us hl;have b_5:Binds K _ ["saying","known","wares"] []:=d9.bindsTo (P:=fun fd=>Binds K fd ["saying","known","wares"] []) fun _ _ _ _ _ _ s us hk hl=>ln3 (fun _ _ _=>.of_eq rfl) us hl;have b_32:Binds K _ ["told","wares"] []:=ak.bindsTo (P:=fun fd=>Binds K fd ["told","wares"] []) fun _ _ _ _ _ _ s us hk hl=>ln2 (fun _ _=>.of_eq rfl) us hl;have b_38:Binds K _ ["whom","what","counts"] []:=cq.bindsTo (P:=fun fd=>Binds K fd ["whom","what","counts"] []) fun _ _ _ _ _ _ s us hk hl=>ln3 (fun _ _ _=>.of_eq rfl) us hl;have b_33:Binds K _ ["one","other"] []:=gM.bindsTo (P:=fun fd=>Binds K fd ["one","other"] []) fun _ _ _ _ _ _ s us hk hl=>ln2 (fun _ _=>.of_eq rfl) us hl;have b_41:Binds K _ ["whom","counts"] []:=cp.bindsTo (P:=fun fd=>Binds K fd ["whom","counts"] []) fun _ _ _ _ _ _ s us hk hl=>ln2 (fun _ _=>.of_eq rfl) us hl;have b_37:Binds K _ ["one","other"] []:=dY.bindsTo (P:=fun fd=>Binds K fd ["one","other"] []) fun _ _ _ _ _ _ s us hk hl=>ln2 (fun _ _=>.of_eq rfl) us hl;have b_39:Binds K _ ["pile","least","bound"] []:=gI.bindsTo (P:=fun fd=>Binds K fd ["pile","least","bound"] []) fun _ _ _ _ _ _ s us hk hl=>ln3 (fun _ _ _=>BindsTo.of_defaults rfl (hk _ _ cE) rfl rfl rfl) us hl;have bJ:Binds K _ ["pile","least","bound"] [.none]:=gI.bindsTo (P:=fun fd=>Binds K fd ["pile","least","bound"] [.none]) fun _ _ _ _ _ _=>qw6 2 rfl fun s us hk hl=>match us,hl with | [_,_],_=>BindsTo.of_defaults rfl (hk _ _ cE) rfl rfl rfl
 have bH:Vals [V.non] [.none]:=.cons rfl (.nil);have bI:∀ {H:Hp},RepL K H [.non] [V.non]:=fun {H}=>RepL.cons (by simp only [Rep]) (RepL.nil);have b_25:Binds K _ ["_law_pile_here","_law_least_here","_law_bound_here"] []:=dt.bindsTo (P:=fun fd=>Binds K fd ["_law_pile_here","_law_least_here","_law_bound_here"] []) fun _ _ _ _ _ _ s us hk hl=>ln3 (fun _ _ _=>.of_eq rfl) us hl;have b_16:Binds K _ ["_law_marks_here"] []:=bf.bindsTo (P:=fun fd=>Binds K fd ["_law_marks_here"] []) fun _ _ _ _ _ _ s us hk hl=>ln1 (fun _=>.of_eq rfl) us hl;have b_29:Binds K _ ["_law_found","_law_due_here"] []:=cu.bindsTo (P:=fun fd=>Binds K fd ["_law_found","_law_due_here"] []) fun _ _ _ _ _ _ s us hk hl=>ln2 (fun _ _=>.of_eq rfl) us hl;have b_28:Binds K _ ["_law_found","_law_due_here"] []:=aL.bindsTo (P:=fun fd=>Binds K fd ["_law_found","_law_due_here"] []) fun _ _ _ _ _ _ s us hk hl=>ln2 (fun _ _=>.of_eq rfl) us hl;have b_23:Binds K _ ["_law_found","_law_due_here"] []:=d7.bindsTo (P:=fun fd=>Binds K fd ["_law_found","_law_due_here"] []) fun _ _ _ _ _ _ s us hk hl=>ln2 (fun _ _=>.of_eq rfl) us hl;have b_12:Binds K _ ["_law_one","_law_other"] []:=bM.bindsTo (P:=fun fd=>Binds K fd ["_law_one","_law_other"] []) fun _ _ _ _ _ _ s us hk hl=>ln2 (fun _ _=>.of_eq rfl) us hl;have b_27:Binds K _ ["_law_top","_law_bottom"] []:=cw.bindsTo (P:=fun fd=>Binds K fd ["_law_top","_law_bottom"] []) fun _ _ _ _ _ _ s us hk hl=>ln2 (fun _ _=>.of_eq rfl) us hl;have b_15:Binds K _ ["_law_due_here","_law_whom","_law_both"] []:=bw.bindsTo (P:=fun fd=>Binds K fd ["_law_due_here","_law_whom","_law_both"] []) fun _ _ _ _ _ _ s us hk hl=>ln3 (fun _ _ _=>.of_eq rfl) us hl;have b_26:Binds K _ ["_law_found","_law_whom","_law_what","_law_counts_here","_law_due_here"] []:=bK.bindsTo (P:=fun fd=>Binds K fd ["_law_found","_law_whom","_law_what","_law_counts_here","_law_due_here"] []) fun _ _ _ _ _ _ s us hk hl=>ln5 (fun _ _ _ _ _=>.of_eq rfl) us hl;refine⟨_,gN.bindsTo (P:=fun fd=>∀(s:Shared) (v:Value),BindsTo s fd ⟨[v],[]⟩ [("_law_script",v)]) (fun _ _ _ _ _ _ s v=>.of_eq rfl),fun base _ _=>?_⟩;have o_19:=qfh (P:=l.prog) (w:=w) (mg:=mg) (base:=base) cx n_len;have c_19:=Cal.mk o_19 (mg_of X G bW) k_19;have o_11:=qh4 (P:=l.prog) (w:=w) (mg:=mg) (base:=base) dw n_len;have c_11:=Cal.mk o_11 (mg_of X G cQ) k_11;have o_20:=qce (P:=l.prog) (w:=w) (mg:=mg) (base:=base) bu n_tuple n_range;have c_20:=Cal.mk o_20 (mg_of X G bo) k_20;have o_24:=qjo (P:=l.prog) (w:=w) (mg:=mg) (base:=base) d6 c_20 b_20;have c_24:=Cal.mk o_24 (mg_of X G dN) k_24;have o_21:=qh6 (P:=l.prog) (w:=w) (mg:=mg) (base:=base) du c_19 b_19 c_11 b_11 c_24 b_24 n_range n_tuple;have c_21:=Cal.mk o_21 (mg_of X G cP) k_21;have o_18:=qfk (P:=l.prog) (w:=w) (mg:=mg) (base:=base) cy n_sum;have c_18:=Cal.mk o_18 (mg_of X G bX) k_18;have o_13:=qdp (P:=l.prog) (w:=w) (mg:=mg) (base:=base) bL c_18 b_18 n_range n_sum;have c_13:=Cal.mk o_13 (mg_of X G bB) k_13;have o_17:=qfm (P:=l.prog) (w:=w) (mg:=mg) (base:=base) cz c_11 b_11 n_max n_len;have c_17:=Cal.mk o_17 (mg_of X G bY) k_17;have o_10:=qfo (P:=l.prog) (w:=w) (mg:=mg) (base:=base) cA c_11 b_11 n_len;have c_10:=Cal.mk o_10 (mg_of X G bZ) k_10;have o_22:=qch (P:=l.prog) (w:=w) (mg:=mg) (base:=base) bt n_int;have c_22:=Cal.mk o_22 (mg_of X G bj) k_22;have o_14:=qjq (P:=l.prog) (w:=w) (mg:=mg) (base:=base) d8 c_22 b_22 n_range n_len;have c_14:=Cal.mk o_14 (mg_of X G dQ) k_14;have o_6:=q7p (P:=l.prog) (w:=w) (mg:=mg) (base:=base) aD;have c_6:=Cal.mk o_6 (mg_of X G aB) k_6;have o_8:=qfr (P:=l.prog) (w:=w) (mg:=mg) (base:=base) cB n_isinstance n_int n_bool;have c_8:=Cal.mk o_8 (mg_of X G b9) k_8;have o_40:=qp9 (P:=l.prog) (w:=w) (mg:=mg) (base:=base) fN c_6 b_6 c_8 b_8;have c_40:=Cal.mk o_40 (mg_of X G fu) k_40;have o_3:=qh9 (P:=l.prog) (w:=w) (mg:=mg) (base:=base) dy c_40 b_40 n_isinstance n_tuple n_len;have c_3:=Cal.mk o_3 (mg_of X G cR) k_3;have o_2:=qhc (P:=l.prog) (w:=w) (mg:=mg) (base:=base) dz n_tuple;have c_2:=Cal.mk o_2 (mg_of X G cS) k_2;have o_30:=qjt (P:=l.prog) (w:=w) (mg:=mg) (base:=base) dZ n_sum;have c_30:=Cal.mk o_30 (mg_of X G dM) k_30;have o_31:=qmn (P:=l.prog) (w:=w) (mg:=mg) (base:=base) eY c_30 b_30;have c_31:=Cal.mk o_31 (mg_of X G eM) k_31;have o_36:=qa5 (P:=l.prog) (w:=w) (mg:=mg) (base:=base) aP n_range;have c_36:=Cal.mk o_36 (mg_of X G aM) k_36;have o_35:=q9c (P:=l.prog) (w:=w) (mg:=mg) (base:=base) aK n_range n_len;have c_35:=Cal.mk o_35 (mg_of X G aG) k_35;have o_7:=qpb (P:=l.prog) (w:=w) (mg:=mg) (base:=base) fO c_36 b_36 c_35 b_35 n_dict n_all;have c_7:=Cal.mk o_7 (mg_of X G fw) k_7;have o_4:=qbf (P:=l.prog) (w:=w) (mg:=mg) (base:=base) bg c_30 b_30 n_sum;have c_4:=Cal.mk o_4 (mg_of X G aU) k_4;have o_0:=q8c (P:=l.prog) (w:=w) (mg:=mg) (base:=base) dG c_31 b_31 c_7 b_7 c_4 b_4 c_2 b_2 n_tuple;have c_0:CalM l.prog w K mg base "Growing" "counted" aa _ _ _ _ _ _:=⟨o_0,⟨aE,i_0,k_0⟩⟩
 have o_1:=qa8 (P:=l.prog) (w:=w) (mg:=mg) (base:=base) eJ aJ c_2 b_2 c_0 b_0;have c_1:CalM l.prog w K mg base "Growing" "often" aa _ _ _ _ _ _:=⟨o_1,⟨aN,i_1,k_1⟩⟩
 have o_42:=qjy (P:=l.prog) (w:=w) (mg:=mg) (base:=base) dX n_tuple;have c_42:=Cal.mk o_42 (mg_of X G dH) k_42;have o_9:=qmq (P:=l.prog) (w:=w) (mg:=mg) (base:=base) eZ n_tuple n_sorted n_set;have c_9:=Cal.mk o_9 (mg_of X G eN) k_9;have o_34:=q7f (P:=l.prog) (w:=w) (mg:=mg) (base:=base) az c_42 b_42 c_9 b_9 n_range;have c_34:=Cal.mk o_34 (mg_of X G ay) k_34;have o_5:=qk1 (P:=l.prog) (w:=w) (mg:=mg) (base:=base) d9 c_34 b_34 n_any;have c_5:=Cal.mk o_5 (mg_of X G dR) k_5;have o_32:=q5z (P:=l.prog) (w:=w) (mg:=mg) (base:=base) ak c_5 b_5 n_dict n_tuple;have c_32:=Cal.mk o_32 (mg_of X G aj) k_32;have o_38:=qfx (P:=l.prog) (w:=w) (mg:=mg) (base:=base) cq c_40 b_40 c_9 b_9;have c_38:=Cal.mk o_38 (mg_of X G bS) k_38;have o_33:=qus (P:=l.prog) (w:=w) (mg:=mg) (base:=base) gM n_tuple;have c_33:=Cal.mk o_33 (mg_of X G gJ) k_33;have o_41:=qg0 (P:=l.prog) (w:=w) (mg:=mg) (base:=base) cp c_33 b_33;have c_41:=Cal.mk o_41 (mg_of X G bR) k_41;have o_37:=qk5 (P:=l.prog) (w:=w) (mg:=mg) (base:=base) dY;have c_37:=Cal.mk o_37 (mg_of X G dJ) k_37;have o_39:=qk7 (P:=l.prog) (w:=w) (mg:=mg) (base:=base) gI aJ dS c_3 b_3 c_1 b_1 c_32 b_32 c_38 b_38 c_41 b_41 c_37 b_37 n_dict g_MOST_WARES_SAID;have c_39:=Cal.mk o_39 (mg_of X G dI) k_39;have o_25:=qhf (P:=l.prog) (w:=w) (mg:=mg) (base:=base) dt c_39 b_39 bJ bH bI;have c_25:=Cal.mk o_25 (mg_of X G cO) k_25;have o_16:=qbi (P:=l.prog) (w:=w) (mg:=mg) (base:=base) bf c_20 b_20 n_len n_sorted;have c_16:=Cal.mk o_16 (mg_of X G aT) k_16;have o_29:=qg5 (P:=l.prog) (w:=w) (mg:=mg) (base:=base) cu n_isinstance n_int n_bool;have c_29:=Cal.mk o_29 (mg_of X G bU) k_29;have o_28:=q9g (P:=l.prog) (w:=w) (mg:=mg) (base:=base) aL c_29 b_29 n_isinstance n_tuple n_len;have c_28:=Cal.mk o_28 (mg_of X G aH) k_28;have o_23:=qk9 (P:=l.prog) (w:=w) (mg:=mg) (base:=base) d7 c_29 b_29 n_zip n_isinstance n_tuple n_len;have c_23:=Cal.mk o_23 (mg_of X G dP) k_23;have o_12:=qds (P:=l.prog) (w:=w) (mg:=mg) (base:=base) bM;have c_12:=Cal.mk o_12 (mg_of X G bC) k_12;have o_27:=qg7 (P:=l.prog) (w:=w) (mg:=mg) (base:=base) cw c_12 b_12;have c_27:=Cal.mk o_27 (mg_of X G bV) k_27;have o_15:=qcm (P:=l.prog) (w:=w) (mg:=mg) (base:=base) bw;have c_15:=Cal.mk o_15 (mg_of X G bp) k_15;have o_26:=qdu (P:=l.prog) (w:=w) (mg:=mg) (base:=base) bK c_28 b_28 c_29 b_29 c_23 b_23 c_27 b_27 c_15 b_15 c_20 b_20 n_isinstance n_bool n_tuple n_len;have c_26:=Cal.mk o_26 (mg_of X G bA) k_26;exact qu5 (quu (P:=l.prog) (w:=w) (mg:=mg) (base:=base) gN c_21 b_21 c_13 b_13 c_17 b_17 c_10 b_10 c_14 b_14 c_25 b_25 c_16 b_16 c_11 b_11 c_26 b_26 n_list n_len n_isinstance n_tuple n_range) hm
end My
namespace PySem.W.Fast
theorem tw12329868063504374631 : True := trivial
theorem tw11470940854295554580 : True := trivial
theorem tw3464206822755838617 : True := trivial
theorem tw12814124707142434832 : True := trivial
theorem tw7679953491524905271 : True := trivial
theorem tw969520158155424878 : True := trivial
theorem tw12651232631244643918 : True := trivial
theorem tw6692779433421980777 : True := trivial
theorem tw15869302095331416748 : True := trivial
theorem tw9487195051647942646 : True := trivial
theorem tw17809661361747221460 : True := trivial
theorem tw807335468350347542 : True := trivial
theorem tw7539581014642847079 : True := trivial
theorem tw13498610719571824335 : True := trivial
theorem tw11451630669709557140 : True := trivial
theorem tw14441220149286426854 : True := trivial
theorem tw7445713535584659902 : True := trivial
theorem tw17130276574559255263 : True := trivial
theorem tw15800441668384183829 : True := trivial
theorem tw17688047935428253269 : True := trivial
theorem tw1826406734935996179 : True := trivial
theorem tw8616321531097000140 : True := trivial
theorem tw14702843586470842180 : True := trivial
theorem tw17930010677975292958 : True := trivial
theorem tw4125193970273236274 : True := trivial
end PySem.W.Fast
open PySem PySem.W PyProof.Rows
local macro_rules | `(tactic| walk_at "F")=> `(tactic| (letI:DL.Lam:=⟨[]⟩;exact DL.q8v (by k_is) (by k_is) (by k_is)))
set_option maxHeartbeats 0 in
theorem PySem.Challenge.cw_oftentogether_k33_whole_sayings_holds : PySem.Challenge.rw_oftentogether_k33_whole_sayings.Holds := by
 w_on;o_law;k_head;(case hw=>w_witness2)
 k_fill
 letI:DL.Lam:=⟨[]⟩
 refine DL.qu6 rfl (l:=PySem.Challenge.rw_oftentogether_k33_whole_sayings) (k:=7) (x:="_law_script") rfl rfl ⟨rfl,by decide,by decide⟩ (fun w h Y=>PySem.W.kIn_of Y) ?F
 case F=>
  intro w mg fa h KX G hmg;refine' My.all_mk KX G hmg My.qq3 ?cC ?cW ?cY ?cX ?cV ?bD ?cU ?cT ?dg ?dh ?dc ?c9 ?df ?br ?ba ?aO ?aY ?bq ?aZ ?bW ?cx ?cQ ?dw ?bo ?bu ?dN ?d6 ?cP ?du ?bX ?cy ?bB ?bL ?bY ?cz ?bZ ?cA ?bj ?bt ?dQ ?d8 ?aB ?aD ?b9 ?cB ?fu ?fN ?cR ?dy ?cS ?dz ?dM ?dZ ?eM ?eY ?aM ?aP ?aG ?aK ?fw ?fO ?aU ?bg ?aE ?i_0 ?l_0 ?q_0 ?k_0 ?aN ?i_1 ?l_1 ?q_1 ?k_1 ?dH ?dX ?eN ?eZ ?ay ?az ?dR ?d9 ?aj ?ak ?bS ?cq ?gJ ?gM ?bR ?cp ?dJ ?dY ?dI ?l_39 ?q_39 ?k_39 ?cE ?cO ?dt ?aT ?bf ?bU ?cu ?aH ?aL ?dP ?d7 ?bC ?bM ?bV ?cw ?bp ?bw ?bA ?bK ?gK ?gN ?z_len ?z_tuple ?z_range ?z_sum ?z_max ?z_int ?z_isinstance ?z_bool ?z_dict ?z_all ?z_sorted ?z_set ?z_any ?z_zip ?z_list ?y_MOST_WARES_SAID
  (case cC=>k_is)
  (case cW=>k_is)
  (case cY=>k_is)
  (case cX=>k_is)
  (case cV=>k_is)
  (case bD=>k_is)
  (case cU=>k_is)
  (case cT=>k_is)
  (case dg=>k_is)
  (case dh=>k_is)
  (case dc=>k_is)
  (case c9=>k_is)
  (case df=>k_is)
  (case br=>k_is)
  (case ba=>k_is)
  (case aO=>k_is)
  (case aY=>k_is)
  (case bq=>k_is)
  (case aZ=>k_is)
  (case bW=>k_is)
  (case cx=>walk_at "F")
  (case cQ=>k_is)
  (case dw=>walk_at "F")
  (case bo=>k_is)
  (case bu=>walk_at "F")
  (case dN=>k_is)
  (case d6=>walk_at "F")
  (case cP=>k_is)
  (case du=>walk_at "F")
  (case bX=>k_is)
  (case cy=>walk_at "F")
  (case bB=>k_is)
  (case bL=>walk_at "F")
  (case bY=>k_is)
  (case cz=>walk_at "F")
  (case bZ=>k_is)
  (case cA=>walk_at "F")
  (case bj=>k_is)
  (case bt=>walk_at "F")
  (case dQ=>k_is)
  (case d8=>walk_at "F")
  (case aB=>k_is)
  (case aD=>walk_at "F")
  (case b9=>k_is)
  (case cB=>walk_at "F")
  (case fu=>k_is)
  (case fN=>walk_at "F")
  (case cR=>k_is)
  (case dy=>walk_at "F")
  (case cS=>k_is)
  (case dz=>walk_at "F")
  (case dM=>k_is)
  (case dZ=>walk_at "F")
  (case eM=>k_is)
  (case eY=>walk_at "F")
  (case aM=>k_is)
  (case aP=>walk_at "F")
  (case aG=>k_is)
  (case aK=>walk_at "F")
  (case fw=>k_is)
  (case fO=>walk_at "F")
  (case aU=>k_is)
  (case bg=>walk_at "F")
  (case aE=>k_is)
  (case i_0=>k_is)
  (case l_0=>k_is)
  (case q_0=>k_is)
  (case k_0=>k_is)
  (case aN=>k_is)
  (case i_1=>k_is)
  (case l_1=>k_is)
  (case q_1=>k_is)
  (case k_1=>k_is)
  (case dH=>k_is)
  (case dX=>walk_at "F")
  (case eN=>k_is)
  (case eZ=>walk_at "F")
  (case ay=>k_is)
  (case az=>walk_at "F")
  (case dR=>k_is)
  (case d9=>walk_at "F")
  (case aj=>k_is)
  (case ak=>walk_at "F")
  (case bS=>k_is)
  (case cq=>walk_at "F")
  (case gJ=>k_is)
  (case gM=>walk_at "F")
  (case bR=>k_is)
  (case cp=>walk_at "F")
  (case dJ=>k_is)
  (case dY=>walk_at "F")
  (case dI=>k_is)
  (case l_39=>k_is)
  (case q_39=>k_is)
  (case k_39=>k_is)
  (case cE=>k_is)
  (case cO=>k_is)
  (case dt=>walk_at "F")
  (case aT=>k_is)
  (case bf=>walk_at "F")
  (case bU=>k_is)
  (case cu=>walk_at "F")
  (case aH=>k_is)
  (case aL=>walk_at "F")
  (case dP=>k_is)
  (case d7=>walk_at "F")
  (case bC=>k_is)
  (case bM=>walk_at "F")
  (case bV=>k_is)
  (case cw=>walk_at "F")
  (case bp=>k_is)
  (case bw=>walk_at "F")
  (case bA=>k_is)
  (case bK=>walk_at "F")
  (case gK=>k_is)
  (case gN=>walk_at "F")
  (case z_len=>k_is)
  (case z_tuple=>k_is)
  (case z_range=>k_is)
  (case z_sum=>k_is)
  (case z_max=>k_is)
  (case z_int=>k_is)
  (case z_isinstance=>k_is)
  (case z_bool=>k_is)
  (case z_dict=>k_is)
  (case z_all=>k_is)
  (case z_sorted=>k_is)
  (case z_set=>k_is)
  (case z_any=>k_is)
  (case z_zip=>k_is)
  (case z_list=>k_is)
  (case y_MOST_WARES_SAID=>k_is)
