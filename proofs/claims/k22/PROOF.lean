import PyProof.Rows.All
import Wide.All
import OpenK.AllK
import Wide.FinOn
import Lean
import PyProof.EqAt
import PyProof.EqKinds
import PyProof.TupleCall
import PyProof.NeKinds
import PyProof.Rows.SortRuns
import PyProof.Rows.SortShell
import KE.KSortTup
import KE.KLam
import KE.KNestM
import PySem.SetOps
import PyProof.SetKind
import PyProof.DictKinds
import PyProof.DictStraight
import PyProof.FactsAll.set_0
import PyProof.FactsAll.set_1
import PyProof.FactsAll.set_2
import PyProof.FactsAll.set_3
import PyProof.Slots
import PyProof.Rows.SetFrom
import PyProof.TupleIter
import PyProof.Walks
import PyProof.CollectWalk
import PyProof.CollectIter
import PyProof.IsiH_list
import PyProof.AttrMiss
import KE.KDictOf
import KE.KDictList
import PyProof.DictRoadsH
import PyProof.AutoSeq1
import PyProof.TupleOfGen
import KE.KRevIter
import PyProof.ListNew
import PyProof.IsiH_tuple
import PyProof.DictItems
import KE.KPairComp
import PyProof.MinMaxWalk
import PyProof.SeqI3
import PyProof.Rows.CallKwBuiltin
import PySem.Challenge.RW_oftentogether_k22_whole_closed
set_option maxRecDepth 100000
set_option maxHeartbeats 4000000
set_option Elab.async false
set_option linter.all false
abbrev g0:=@PySem.wpAny_bind
abbrev g9:=@PySem.wpAny_pure
abbrev gc:=@Option.bind_eq_some_iff
abbrev gd:=@PySem.Heap.get?_push_of_some
abbrev gf:=@PySem.Heap.get?_push_size
abbrev gh:=@Bool.false_eq_true
abbrev gj:=@List.map_cons
abbrev gq:=@List.mem_cons_self
abbrev gr:=@List.mem_cons_of_mem
abbrev gu:=@Nat.lt_of_lt_of_le
abbrev gv:=@List.size_toArray
abbrev gw:=@Nat.le_refl
abbrev gz:=@PySem.Heap.lt_size
abbrev m4:=@PyProof.Rows.wpS_bind
abbrev m5:=@Nat.ne_of_lt
abbrev m6:=@List.getElem?_set_ne
abbrev m8:=@Option.map_eq_some_iff
abbrev m9:=@Bool.and_eq_true
abbrev ma:=@Option.bind_some
abbrev md:=@if_pos
abbrev mf:=@Option.some.inj
abbrev mh:=@Bool.false_ne_true
abbrev mi:=@if_neg
abbrev mj:=@List.getElem?_eq_getElem
abbrev mm:=@List.mem_cons
abbrev mn:=@List.length_map
abbrev mq:=@PyProof.Rows.wpS_pure
abbrev mr:=@List.all_eq_true
abbrev mv:=@List.getElem?_map
abbrev my:=@Nat.le_trans
abbrev n8:=@List.append_assoc
abbrev n9:=@List.mem_singleton
abbrev ng:=@List.mem_map
abbrev nh:=@List.getElem?_eq_some_iff
abbrev ni:=@PySem.wpAny_holding
abbrev nj:=@Ne.symm
abbrev nk:=@decide_eq_true
abbrev nt:=@List.mem_append_right
abbrev nu:=@Array.length_toList
abbrev nv:=@List.map_map
abbrev ny:=@if_false
abbrev nz:=@List.mem_append
abbrev p0:=@if_true
abbrev p6:=@List.length_take
abbrev p7:=@PySem.wpAny_call_entry
abbrev p8:=@List.length_cons
abbrev p9:=@decide_eq_false
abbrev pb:=@Option.map_some
abbrev pd:=@List.pairwise_append
abbrev pf:=@List.take_append_drop
abbrev ph:=@List.filter_cons
abbrev pj:=@List.drop_eq_getElem_cons
abbrev pk:=@PySem.wpAny_newObj_type
abbrev pz:=@List.mem_filter
abbrev t5:=@List.length_append
abbrev t6:=@PySem.Heap.size_push
abbrev t7:=@Array.toList_append
abbrev t9:=@PySem.Around.under_plainId
abbrev td:=@List.take_succ_eq_append_getElem
abbrev tf:=@PySem.Heap.size_update
abbrev tm:=@List.take_of_length_le
abbrev tq:=@PySem.wpAny_mono
abbrev tu:=@Nat.ne_of_gt
abbrev tw:=@List.mem_of_getElem?
abbrev tx:=@List.lookup_cons
abbrev u6:=@Nat.not_lt_zero
abbrev u9:=@PySem.wpAny_ite_split
abbrev uc:=@List.mem_range
abbrev ud:=@decide_eq_true_eq
abbrev ue:=@PySem.Heap.get?_push_ne
abbrev uf:=@List.length_filter_le
abbrev ug:=@PySem.wpAny_callSpecial?_slot
abbrev uh:=@List.getElem?_append_left
abbrev ui:=@PySem.codeAny_builtin
abbrev uj:=@List.map_append
abbrev uk:=@Nat.lt_succ_self
abbrev um:=@Nat.zero_le
abbrev uo:=@List.mem_iff_getElem
abbrev uq:=@PySem.wpAny_setField_rec
abbrev ur:=@PyProof.Rows.wpS_mono
abbrev uw:=@List.perm_append_comm
abbrev uy:=@PySem.wpAny_field
abbrev uz:=@List.getElem?_append_right
abbrev g00:=@List.length_drop
abbrev g01:=@PySem.wpAny_askSetting
abbrev g02:=@Bool.eq_iff_iff
abbrev g03:=@List.length_set
abbrev g04:=@List.all_map
abbrev g05:=@PyProof.Rows.wpS_forRange
abbrev g06:=@PySem.wpAny_rule
abbrev g07:=@PySem.Heap.SameBut.update
abbrev g08:=@PySem.Heap.get?_update_ne
abbrev g09:=@List.Perm.append_left
abbrev g0a:=@ite_congr
abbrev g0b:=@List.pairwise_map
abbrev g0c:=@PyProof.Rows.slot_tuple_getitem
abbrev g0d:=@congrArg
abbrev g0e:=@decide_eq_false_iff_not
abbrev g0f:=@PyProof.Rows.size_push'
abbrev g0g:=@PySem.Heap.get?_update_other
abbrev g0h:=@List.not_mem_nil
abbrev g0i:=@Int.toNat_natCast
abbrev g0j:=@of_decide_eq_true
abbrev g0k:=@PySem.plainId_quiet
abbrev g0l:=@PySem.wpAny_seqItems
abbrev g0m:=@PySem.AutoSeq1.wpAny_loadPart'
abbrev g0n:=@Array.getElem?_toList
abbrev g0o:=@PySem.PassesOwn.never
abbrev g0p:=@PySem.F.slot_dict_itemiterator_next
abbrev g0q:=@Nat.lt_irrefl
abbrev g0r:=@Array.toList_extract
abbrev g0s:=@List.Pairwise.filter
abbrev g0t:=@List.getElem?_replicate
abbrev g0u:=@Nat.lt_succ_of_lt
abbrev g0v:=@List.nil_append
abbrev g0w:=@Int.emod_nonneg
abbrev g0x:=@List.map_nil
abbrev g0y:=@PySem.wpAny_attempt
abbrev g0z:=@Bool.not_true
abbrev g10:=@Array.perm_iff_toList_perm
abbrev g11:=@PySem.Heap.get?_update_self
abbrev g12:=@PySem.builtinLookup_eq_fast
abbrev g13:=@decide_eq_true_iff
abbrev g14:=@List.nodup_cons
abbrev g15:=@Option.isSome_iff_exists
abbrev g16:=@PySem.wpAny_typeOf
abbrev g17:=@Bool.or_eq_true
abbrev g18:=@List.mem_of_mem_take
abbrev g19:=@PyProof.Rows.get?_update_seq
abbrev g1a:=@PySem.wpAny_typeNameOfWhole_itemiter
abbrev g1b:=@Nat.le_of_succ_le
abbrev g1c:=@List.flatMap_cons
abbrev g1d:=@beq_eq_false_iff_ne
abbrev g1e:=@List.filterMap_cons
abbrev g1f:=@List.replicate_succ
abbrev g1g:=@List.mem_map_of_mem
abbrev g1h:=@List.getElem?_set_self
abbrev g1i:=@Nat.le_succ
abbrev g1j:=@PySem.wpAny_isOneOf_itemiter
abbrev g1k:=@PyProof.Rows.callWith_type1
abbrev g1l:=@PySem.wpAny_Call_Name_kw
abbrev g1m:=@List.pairwise_cons
abbrev g1n:=@PyProof.Rows.F.plain_set_update_loop
abbrev g1o:=@List.idxOf_lt_length_of_mem
abbrev g1p:=@Int.emod_lt_of_pos
abbrev g1q:=@PySem.wpAny_passesOwn
abbrev g1r:=@PySem.F.slot_tuple_iterator_next
abbrev g1s:=@PyProof.Rows.listUpdate_at
abbrev g1t:=@PySem.wpAny_truthy_bool
abbrev g1u:=@PySem.Heap.SameBut.refl
abbrev g1v:=@PySem.wpAny_pyIter_list
abbrev g1w:=@PySem.codeAny_call_builtin
abbrev g1x:=@Classical.byContradiction
abbrev g1y:=@PySem.wpAny_letGo
abbrev g1z:=@List.getElem?_take_of_lt
abbrev g20:=@PySem.AutoSeq1.sub_tuple_tuple
abbrev g21:=@getElem?_pos
abbrev g22:=@Nat.le_add_right
abbrev g23:=@List.Pairwise.imp_of_mem
abbrev g24:=@PySem.F.called_set
abbrev g25:=@PySem.F.plain_max_loop
abbrev g26:=@PySem.mem_of_lookup
abbrev g27:=@List.pairwise_singleton
abbrev g28:=@List.forIn_cons
abbrev g29:=@PySem.typeLookup_type
abbrev g2a:=@PySem.tupleKind_room_in1
abbrev g2b:=@PySem.sizeLine_eq
abbrev g2c:=@List.range_succ_eq_map
abbrev g2d:=@or_false
abbrev g2e:=@List.getElem_cons_succ
abbrev g2f:=@List.eq_nil_of_length_eq_zero
abbrev g2g:=@List.flatten_cons
abbrev g2h:=@PySem.wpAny_storeSet_of
abbrev g2i:=@List.cons.sizeOf_spec
abbrev g2j:=@Bool.not_false
abbrev g2k:=@PySem.isSubtype_type
abbrev g2l:=@List.mem_append_left
abbrev g2m:=@PySem.wpAny_isInstance
abbrev g2n:=@PySem.F.slot_tuple_mul
abbrev g2o:=@List.mem_of_mem_drop
abbrev g2p:=@List.getElem_mem
abbrev g2q:=@List.nodup_range
abbrev g2r:=@List.getD_eq_getElem?_getD
abbrev g2s:=@List.length_zipWith
abbrev g2t:=@Int.toNat_of_nonneg
abbrev g2u:=@List.map_congr_left
abbrev g2v:=@List.append_nil
abbrev g2w:=@List.of_mem_zip
abbrev g2x:=@PySem.wpAny_loadPart'
abbrev g2y:=@List.pairwise_iff_getElem
abbrev g2z:=@List.length_zip
abbrev g30:=@PySem.wpAny_updateSeq
abbrev g31:=@List.length_nil
abbrev g32:=@PySem.F.slot_tuple_getattribute
abbrev g33:=@PySem.codeAny_mono
abbrev g34:=@PySem.F.args_tuple_add_2
abbrev g35:=@List.filterMap_map
abbrev g36:=@PySem.wpAny_pyIter_tuple
abbrev g37:=@PySem.Obj.data_mapFields
abbrev g38:=@Bool.not_eq_false'
abbrev g39:=@List.Pairwise.drop
abbrev g3a:=@List.Pairwise.take
abbrev g3b:=@PyProof.Rows.F.entry_set_update_loop
abbrev g3c:=@PySem.F.slot_list_getattribute
abbrev g3d:=@List.getElem_idxOf
abbrev g3e:=@Bool.false_and
abbrev g3f:=@PySem.wpAny_call
abbrev g3g:=@List.forIn_nil
abbrev g3h:=@List.drop_zero
abbrev g3i:=@PySem.wpAny_setField
abbrev g3j:=@PyProof.Rows.wpS_get
abbrev g3k:=@Bool.and_false
abbrev g3l:=@List.take_succ
abbrev g3m:=@PySem.wpAny_tryCatch
abbrev g3n:=@PySem.F.entry_tuple_add
abbrev g3o:=@List.length_eq_zero_iff
abbrev g3p:=@List.eraseIdx_cons_succ
abbrev g3q:=@List.getElem?_cons_succ
abbrev g3r:=@List.getElem?_cons_zero
abbrev g3s:=@Option.some.injEq
abbrev g3t:=@Bool.not_eq_true'
abbrev g3u:=@bne_self_eq_false
abbrev g3v:=@List.Pairwise.imp
abbrev g3w:=@PySem.wpAny_setState_of
abbrev g3x:=@PySem.F.plain_list_iadd
abbrev g3y:=@PySem.atKey_none_of_get
abbrev g3z:=@List.filter_congr
abbrev g40:=@PySem.wpAny_pyNext_list_item
abbrev g41:=@PySem.W.cellsFrom_some
abbrev g42:=@PySem.F.slot_tuple_add
abbrev g43:=@PySem.Calls.callWith_builtin
abbrev g44:=@PySem.wpAny_of_eq
abbrev g45:=@List.pairwise_lt_range
abbrev g46:=@List.all_cons
abbrev g47:=@PySem.wpAny_newList
abbrev g48:=@Bool.and_true
abbrev g49:=@Option.join_some
abbrev g4a:=@List.cons_append
abbrev g4b:=@decide_eq_decide
abbrev g4c:=@List.length_filter_eq_length_iff
abbrev g4d:=@PySem.wpAny_pyNext_list_end
abbrev g4e:=@List.length_singleton
abbrev g4f:=@List.mem_iff_getElem?
abbrev g4g:=@PySem.wpAny_notOrdered_dict
abbrev g4h:=@PySem.F.slot_dict_get
abbrev g4i:=@PySem.F.args_dict_itemiterator_next_1
abbrev g4j:=@PySem.wpAny_execs_nil
abbrev g4k:=@beq_iff_eq
abbrev g4l:=@PySem.call_meets
abbrev g4m:=@PySem.wpAny_updateSeq_pair
abbrev g4n:=@PySem.F.slot_zip_next
abbrev g4o:=@PySem.wpAny_ite_false
abbrev g4p:=@PyProof.Rows.wpS_modify
abbrev g4q:=@Array.getElem_toList
abbrev g4r:=@Array.toList_reverse
abbrev g4s:=@PyProof.Rows.listItems_at
abbrev g4t:=@PySem.intKind_is
abbrev g4u:=@PySem.F.entry_dict_itemiterator_next
abbrev g4v:=@Nat.two_pow_pos
abbrev g4w:=@PySem.F.args_tuple_iterator_next_1
abbrev g4x:=@PySem.wpAny_newTuple
abbrev g4y:=@List.Perm.refl
abbrev g4z:=@List.drop_drop
abbrev g50:=@PySem.wpAny_fieldsOf
abbrev g51:=@PyProof.Rows.seqEpoch_at
abbrev g52:=@List.mem_filterMap
abbrev g53:=@List.lookup_append
abbrev g54:=@PySem.F.attrBase_ValueError
abbrev g55:=@PySem.F.entry_tuple_iterator_next
abbrev g56:=@PySem.F.args_tuple_mul_2
abbrev g57:=@List.filter_filter
abbrev g58:=@PySem.Paired.length
abbrev g59:=@PySem.wpAny_standAt
abbrev g5a:=@PySem.mem_of_lookup
abbrev g5b:=@PySem.wpAny_handled
abbrev g5c:=@PySem.wpAny_onRaise
abbrev g5d:=@Array.toList_setIfInBounds
abbrev g5e:=@Bool.true_and
abbrev g5f:=@List.map_drop
abbrev g5g:=@List.perm_ext_iff_of_nodup
abbrev g5h:=@List.getElem?_set
abbrev g5i:=@PySem.F.entry_tuple_mul
abbrev g5j:=@Function.comp_def
abbrev g5k:=@PySem.wpAny_pyIter_slot
abbrev g5l:=@PySem.wpAny_dictEntries
abbrev g5m:=@List.getElem_append_right
abbrev g5n:=@Nat.not_lt
abbrev g5o:=@Array.getElem?_eq_getElem
abbrev g5p:=@List.findIdx?_eq_none_iff
abbrev g5q:=@List.getLast?_eq_getElem?
abbrev g5r:=@Nat.le_of_lt
abbrev g5s:=@List.getElem_inj
abbrev g5t:=@PySem.concat_meets
abbrev g5u:=@PySem.noFill_tuple_add
abbrev g5v:=@List.drop_length
abbrev g5w:=@List.take_length
abbrev g5x:=@Nat.min_self
abbrev g5y:=@List.zipIdx_cons
abbrev g5z:=@PySem.AutoSeq1.idx_int
abbrev g60:=@List.getElem_append_left
abbrev g61:=@List.map_snd_zip
abbrev g62:=@Nat.min_eq_right
abbrev g63:=@decide_false
abbrev g64:=@PySem.F.plainAttrs_list
abbrev g65:=@PySem.F.plainAttrs_dict
abbrev g66:=@PySem.SeqAt.EqAt.same
abbrev g67:=@PySem.pushCells_keeps
abbrev g68:=@PySem.W.kia_one
abbrev g69:=@List.foldl_cons
abbrev g6a:=@PySem.wpAny_dictEpoch
abbrev g6b:=@Nat.min_eq_left
abbrev g6c:=@List.sum_replicate_nat
abbrev g6d:=@List.drop_of_length_le
abbrev g6e:=@List.getElem_cons_zero
abbrev g6f:=@PySem.F.entry_dict_get
abbrev g6g:=@decide_true
abbrev g6h:=@List.filter_eq_nil_iff
abbrev g6i:=@List.length_replicate
abbrev g6j:=@not_or
abbrev g6k:=@List.getElem?_zipWith
abbrev g6l:=@Bool.and_eq_false_iff
abbrev g6m:=@List.getElem?_eq_none
abbrev g6n:=@List.max?_eq_some_iff
abbrev g6o:=@Option.some_or
abbrev g6p:=@Array.ext'
abbrev g6q:=@Bool.false_or
abbrev g6r:=@List.zip_map'
abbrev g6s:=@List.map_take
abbrev g6t:=@Bool.and_self
abbrev g6u:=@List.sum_cons
abbrev g6v:=@Nat.and_assoc
abbrev g6w:=@Nat.le_of_eq
abbrev g6x:=@Nat.lt_or_ge
abbrev g6y:=@Int.zero_add
abbrev g6z:=@Nat.and_comm
namespace L2
open PySem PySem.Spec PyProof.Rows
abbrev Key:=Sum Int Str
def qms:Key->Value->Bool
 | .inl k,v=>Value.isInt k v
 | .inr x,v=>Value.isStrOf x v
def qtf(w:World): Key->Int
 | .inl k=>hashInt k
 | .inr x=>hashStr w x
theorem jy:∀ {k:Key} {v:Value},qms k v=true->(∃i t,k=Sum.inl i/\v=Value.int i t)\/(∃x t,k=Sum.inr x/\v=Value.str x t)
 | .inl i,v,h=>by
  obtain⟨t,e⟩:=Value.isInt_shape (k:=i) (v:=v) h;exact .inl ⟨i,t,rfl,e⟩
 | .inr x,v,h=>by
  obtain⟨t,e⟩:=Value.isStrOf_shape (x:=x) (v:=v) h;exact .inr ⟨x,t,rfl,e⟩
theorem qpl(a b:Int): decide ((Sum.inl a:Key)=Sum.inl b)=(a==b):=by
 by_cases e:a=b
 ·subst e;simp
 ·have h:¬(Sum.inl a:Key)=Sum.inl b:=fun q=>e (Sum.inl.inj q)
  rw [p9 h];exact(g1d.mpr e).symm
theorem qpm(a b:Str): decide ((Sum.inr a:Key)=Sum.inr b)=decide (a=b):=by
 by_cases e:a=b
 ·subst e;simp
 ·have h:¬(Sum.inr a:Key)=Sum.inr b:=fun q=>e (Sum.inr.inj q)
  rw [p9 h,p9 e]
theorem qpn(a:Int)(b:Str): decide ((Sum.inl a:Key)=Sum.inr b)=false:=p9 (fun q=>nomatch q)
theorem qpo(a:Str)(b:Int): decide ((Sum.inr a:Key)=Sum.inl b)=false:=p9 (fun q=>nomatch q)
def mixKind(prog:Program)(w:World): PySem.KeyKind prog w Key where
 is:=qms
 hash:=qtf w
 inj:=fun v a b ha hb=>by
  rcases jy ha with⟨i,t,rfl,rfl⟩|⟨x,t,rfl,rfl⟩
  ·rcases jy hb with⟨j,u,rfl,e⟩|⟨y,u,rfl,e⟩
   ·injection e with e1 _;rw [e1]
   ·exact nomatch e
  ·rcases jy hb with⟨j,u,rfl,e⟩|⟨y,u,rfl,e⟩
   ·exact nomatch e
   ·injection e with e1 _;rw [e1]
 byValue:=fun k v h=>by
  rcases jy h with⟨i,t,rfl,rfl⟩|⟨x,t,rfl,rfl⟩ <;> rfl
 pyHash:=fun hv h=>by
  rcases jy hv with⟨i,t,rfl,rfl⟩|⟨x,t,rfl,rfl⟩
  ·exact wpAny_pyHash_int h
  ·exact wpAny_pyHash_str h
 eqBool:=fun hu hv h=>by
  rcases jy hu with⟨i,t,rfl,rfl⟩|⟨x,t,rfl,rfl⟩
  ·rcases jy hv with⟨j,u,rfl,rfl⟩|⟨y,u,rfl,rfl⟩
   ·rw [qpl] at h;exact wpAny_eqBool_int h
   ·rw [qpn] at h;exact SeqAt.EqAt.int_str i t y u _ _ _ _ h
  ·rcases jy hv with⟨j,u,rfl,rfl⟩|⟨y,u,rfl,rfl⟩
   ·rw [qpo] at h;exact SeqAt.EqAt.str_int x t j u _ _ _ _ h
   ·rw [qpm] at h;exact wpAny_eqBool_str h
 «strs» :=fun k x t v h=>by
  rcases jy h with⟨i,u,rfl,e⟩|⟨y,u,rfl,e⟩
  ·exact nomatch e
  ·injection e with e1 _
   subst e1;cases v <;> rfl
inductive V where
 | non|bl (b:Bool)|int (i:Int)|str (x:Str)|byt (b:Array UInt8)|flt (b:UInt64)|ref (a:Addr)|ty (n:String)
 deriving DecidableEq
def RelV:V->Value->Prop
 | .non,u=>u=Value.none
 | .bl b,u=>u=Value.bool b
 | .int i,u=>∃t,u=Value.int i t
 | .str x,u=>∃t,u=Value.str x t
 | .byt b,u=>∃t,u=Value.bytes b t
 | .flt b,u=>∃t,u=Value.float b t
 | .ref a,u=>u=Value.ref a
 | .ty n,u=>u=Value.type n
abbrev Vals:List V->List Value->Prop:=Paired RelV
theorem Vals.length{xs:List V}{us:List Value}(r:Vals xs us): xs.length=us.length:=g58 r
theorem Vals.get:∀ {xs:List V} {us:List Value} {i:Nat} {x:V},Vals xs us->xs[i]? = some x->∃u,us[i]? = some u/\RelV x u
 | _,_,_,_,.nil,e=>by simp at e
 | _,_,0,_,.cons r _,e=>by simp at e;subst e;exact⟨_,rfl,r⟩
 | _,_,i+1,x,.cons _ t,e=>by
  obtain⟨u,h1,h2⟩:=Vals.get (i:=i) (x:=x) t (by simpa using e);exact⟨u,by simpa using h1,h2⟩
theorem Vals.append:∀ {xs ys:List V} {us ws:List Value},Vals xs us->Vals ys ws->Vals (xs++ys) (us++ws)
 | _,_,_,_,.nil,s=>s
 | _,_,_,_,.cons r t,s=>.cons r (Vals.append t s)
theorem Vals.take:∀ {xs:List V} {us:List Value} (n:Nat),Vals xs us->Vals (xs.take n) (us.take n)
 | _,_,0,_=>.nil
 | _,_,_+1,.nil=>.nil
 | _,_,n+1,.cons r t=>.cons r (Vals.take n t)
theorem Vals.drop:∀ {xs:List V} {us:List Value} (n:Nat),Vals xs us->Vals (xs.drop n) (us.drop n)
 | _,_,0,r=>r
 | _,_,_+1,.nil=>.nil
 | _,_,n+1,.cons _ t=>Vals.drop n t
def RelO:Option V->Option Value->Prop
 | some v,some u=>RelV v u
 | none,none=>True
 | _,_=>False
def KV{κ : Type}: List (κ × V)->List (κ × Value)->Prop:=Paired fun(p : κ × V) (q : κ × Value)=>p.1=q.1/\RelV p.2 q.2
def kV:Key->V
 | .inl i=>.int i
 | .inr x=>.str x
inductive HO where
 /-- a list -/
 | lst (xs:List V)
 /-- a tuple (never changes) -/
 | tup (xs:List V)
 /-- a dict whose keys are ints and texts; one whose keys are tuples of ints and texts (the empty one is both) -/
 | dK (kvs:List (Key×V))|dT (kvs:List (List Key×V))
 /-- a set of ints: its members, its size -/
 | set (S:Int->Bool) (n:Nat)
 /-- an instance of the class at C, its dict at dx, its attributes -/
 | ins (C dx:Addr) (fs:List (Str×V))
 /-- the dict of the instance at x -/
 | own (x:Addr)
 /-- the dict of an exception -/
 | xd (fs:List (Str×V))
 /-- a bound method, f of x -/
 | met (f x:Addr)
 /-- a range object lo, lo + 1, .. below hi -/
 | rng (lo hi:Int)
 /-- a thing that is known to the object (the script; a dict while a loop walks it): read, never written while it is so -/
 | frz (o:Obj) (u:HO)
 /-- a code object's table -/
 | tbl (ps:Array Value)
 /-- any other thing, by what is true of its one object (a def of one's own: SetO a S n := HO.ext fun h => ..) -/
 | ext (φ : Heap->Prop)
abbrev Hp:=Addr->Option HO
def upd(H:Hp)(a:Addr)(o:HO): Hp:=fun b=>if b=a then some o else H b
theorem qr{H:Hp}{a:Addr}{o:HO}: upd H a o a=some o:=by unfold upd;rw [md rfl]
theorem ql{H:Hp}{a b:Addr}{o:HO}(h:b≠a): upd H a o b=H b:=by unfold upd;rw [mi h]
theorem jg{H:Hp}{a b:Addr}{o:HO}(h:H a=some o)(h':H b=none): a≠b:=by
 intro e;subst e;rw [h] at h';cases h'
def TupX(h:Heap)(a:Addr)(items:Array Value): Prop:=∃o,h.get? a=some o/\o.cls=.type "tuple" /\ o.dict=none/\∃n,o.data=.seq items n
theorem TupX.up{h:Heap}{a:Addr}{items:Array Value}(p:TupX h a items): IsTup h a items:=let⟨o,x,y,_,z⟩:=p; ⟨o,x,y,z⟩
theorem TupX.new(h:Heap)(items:Array Value): TupX (h.push {cls:=.type "tuple",data:=.seq items}) h.objs.size items:=⟨_,gf _ rfl,rfl,rfl,_,rfl⟩
section
variable(P:Program)(w:World)
def ObjOk(H:Hp)(h:Heap)(a:Addr): HO->Prop
 | .lst xs=>xs.length<=sizeLine/\∃(its:List Value) (n:Nat),Vals xs its/\h.get? a=some {cls:=.type "list",data:=.seq its.toArray n}
 | .tup xs=>xs.length<=sizeLine/\∃its:List Value,Vals xs its/\TupX h a its.toArray
 | .dK kvs=>kvs.length<=sizeLine/\(a==sysModules)=false/\∃vs,KV kvs vs/\h.DictOf (mixKind P w) a vs
 | .dT kvs=>kvs.length<=sizeLine/\(a==sysModules)=false/\∃xs:List (List Key×Addr×Value),
   Paired (fun(p:List Key×V) (q:List Key×Addr×Value)=>p.1=q.1/\H q.2.1=some (.tup (p.1.map kV))/\RelV p.2 q.2.2) kvs xs /\
   ∃o es ep,h.get? a=some o/\o.ExactDict/\o.data=.dict es ep/\es.toList=xs.map (entryOfKey (tupleKind (mixKind P w)))/\(xs.map (·.1)).Nodup
 | .set S n=>h.SetOf (intKind P w) a S n
 | .ins C dx fs=>H dx=some (.own a)/\fs.length<=1000/\dx≠a/\h.get? a=some (PySem.W.instObj C dx) /\
   ∃mA,h.Ns1 dx mA/\(∀f,RelO (fs.lookup f) (mA f))/\PySem.Within mA (fs.map (·.1))
 | .own _=>∃o,h.get? a=some o
 | .xd fs=>∃mA,h.Ns1 a mA/\∀f,RelO (fs.lookup f) (mA f)
 | .rng lo hi=>∃t u v,h.get? a=some {cls:=.type "range",data:=.fields #[.int lo t,.int hi u,.int 1 v]}
 | .frz o u=>h.get? a=some o/\ObjOk H h a u
 | .tbl ps=>h.get? a=some {cls:=.none,data:=.fields ps}
 | .met f x=>h.get? a=some (PySem.W.methodObj (.ref f) (.ref x))
 | .ext φ => φ h/\(∃o,h.get? a=some o)/\∀h1 h2:Heap, φ h1->(∀o,h1.get? a=some o->h2.get? a=some o) -> φ h2
def HOk(H:Hp)(h:Heap): Prop:=∀a o,H a=some o->ObjOk P w H h a o
end
section
variable{P:Program}{w:World}{H H':Hp}{h h':Heap}{a:Addr}{o:HO}
theorem ObjOk.lt(x:ObjOk P w H h a o): a<h.objs.size:=by
 cases o with
 | lst xs=>obtain⟨_,_,_,_,e⟩:=x;exact gz e
 | tup xs=>obtain⟨_,_,_,p⟩:=x;exact p.up.lt
 | dK kvs=>obtain⟨_,_,_,_,o,_,_,e,_⟩:=x;exact gz e
 | dT kvs=>obtain⟨_,_,_,_,o,_,_,e,_⟩:=x;exact gz e
 | set S n=>obtain⟨o,_,_,_,e,_⟩:=x;exact gz e
 | ins C dx fs=>obtain⟨_,_,_,e,_⟩:=x;exact gz e
 | own y=>obtain⟨_,e⟩:=x;exact gz e
 | xd fs=>obtain⟨_,⟨_,_,_,e,_⟩,_⟩:=x;exact gz e
 | rng lo hi=>obtain⟨_,_,_,e⟩:=x;exact gz e
 | frz ob u=>obtain⟨e,_⟩:=x;exact gz e
 | tbl ps=>exact gz (show h.get? a=some _ from x)
 | met f y=>exact gz (show h.get? a=some _ from x)
 | ext φ =>obtain⟨_,⟨_,e⟩,_⟩:=x;exact gz e
theorem Paired.mapP{α β : Type}{F G : α -> β -> Prop}: ∀ {l₁:List α} {l₂:List β},Paired F l₁ l₂->(∀a b,F a b->G a b)->Paired G l₁ l₂
 | _,_,.nil,_=>.nil
 | _,_,.cons r t,f=>.cons (f _ _ r) (Paired.mapP t f)
theorem ObjOk.stay(x:ObjOk P w H h a o)(k:∀b u,(b=a\/H b=some (.own a))->h.get? b=some u->h'.get? b=some u)
  (ho:∀b,H b=some (.own a)->H' b=some (.own a)) (ht:∀b xs,H b=some (.tup xs)->H' b=some (.tup xs)):ObjOk P w H' h' a o:=by
 induction o with
 | lst xs=>obtain⟨z,its,n,r,e⟩:=x;exact⟨z,its,n,r,k _ _ (.inl rfl) e⟩
 | tup xs=>obtain⟨z,its,r,ob,e,c⟩:=x;exact⟨z,its,r,ob,k _ _ (.inl rfl) e,c⟩
 | dK kvs=>obtain⟨z,y,vs,r,ob,es,ep,e,c⟩:=x;exact⟨z,y,vs,r,ob,es,ep,k _ _ (.inl rfl) e,c⟩
 | dT kvs=>
  obtain⟨z,y,xs,r,ob,es,ep,e,c⟩:=x;exact⟨z,y,xs,Paired.mapP r fun p q z=>⟨z.1,ht _ _ z.2.1,z.2.2⟩,ob,es,ep,k _ _ (.inl rfl) e,c⟩
 | set S n=>obtain⟨ob,es,ep,t,e,c⟩:=x;exact⟨ob,es,ep,t,k _ _ (.inl rfl) e,c⟩
 | ins C dx fs=>
  obtain⟨d,z,ne,e,mA,⟨od,es,ep,e2,c⟩,r⟩:=x;exact⟨ho _ d,z,ne,k _ _ (.inl rfl) e,mA,⟨od,es,ep,k _ _ (.inr d) e2,c⟩,r⟩
 | own y=>obtain⟨ob,e⟩:=x;exact⟨ob,k _ _ (.inl rfl) e⟩
 | xd fs=>obtain⟨mA,⟨od,es,ep,e,c⟩,r⟩:=x;exact⟨mA,⟨od,es,ep,k _ _ (.inl rfl) e,c⟩,r⟩
 | rng lo hi=>obtain⟨t,u,v,e⟩:=x;exact⟨t,u,v,k _ _ (.inl rfl) e⟩
 | frz ob u ih=>obtain⟨e,q⟩:=x;exact⟨k _ _ (.inl rfl) e,ih q⟩
 | tbl ps=>
  have e:h.get? a=some {cls:=.none,data:=.fields ps}:=x;show h'.get? a=some {cls:=.none,data:=.fields ps};exact k a _ (.inl rfl) e
 | met f y=>
  have e:h.get? a=some (PySem.W.methodObj (.ref f) (.ref y)):=x;show h'.get? a=some (PySem.W.methodObj (.ref f) (.ref y));exact k a _ (.inl rfl) e
 | ext φ =>obtain⟨p,⟨o,e⟩,st⟩:=x;exact⟨st _ _ p fun o q=>k _ _ (.inl rfl) q,⟨o,k _ _ (.inl rfl) e⟩,st⟩
theorem HOk.lt(x:HOk P w H h)(e:H a=some o): a<h.objs.size:=(x a o e).lt
theorem HOk.fresh(x:HOk P w H h)(e:h.objs.size<=a): H a=none:=by
 cases q:H a with
 | none=>rfl
 | some u=>exact absurd (gu (x.lt q) e) (g0q _)
theorem HOk.kept(x:HOk P w H h)(k:∀b u,h.get? b=some u->h'.get? b=some u): HOk P w H h':=fun a o e=>
 (x a o e).stay (fun b u _ q=>k b u q) (fun _ q=>q) fun _ _ q=>q
theorem HOk.laid(x:HOk P w H h)(k:∀b u,h.get? b=some u->h'.get? b=some u)(hp:h.objs.size<=a)(new:ObjOk P w (upd H a o) h' a o): HOk P w (upd H a o) h':=fun b u e=>by
 have hn:=x.fresh hp
 by_cases hb:b=a
 ·subst hb;rw [qr] at e;cases e;exact new
 ·rw [ql hb] at e
  exact(x b u e).stay (fun c v _ q=>k c v q) (fun c q=>by rw [ql (jg q hn)];exact q) fun c xs q=>by rw [ql (jg q hn)];exact q
end
def Rd(H:Hp)(a:Addr)(u:HO): Prop:=H a=some u\/∃o,H a=some (.frz o u)
theorem Rd.ok{P:Program}{w:World}{H:Hp}{h:Heap}{a:Addr}{u:HO}(r:Rd H a u)(x:HOk P w H h): ObjOk P w H h a u:=by
 rcases r with r|⟨o,r⟩
 ·exact x a u r
 ·obtain⟨_,q⟩:=x a _ r
  exact q
def Mut:Option HO->Prop
 | some (.lst _)=>True
 | some (.dK _)=>True
 | some (.dT _)=>True
 | some (.set _ _)=>True
 | some (.ins _ _ _)=>True
 | some (.ext _)=>True
 | _=>False
section
variable{P:Program}{w:World}{H:Hp}{h h':Heap}{x e:Addr}{o':HO}
theorem HOk.write(ok:HOk P w H h)(mu:Mut (H x))(he:e=x\/H e=some (.own x))(k:∀b u,b≠e->h.get? b=some u->h'.get? b=some u)(heo:∃u,h'.get? e=some u)
  (new:ObjOk P w (upd H x o') h' x o'):HOk P w (upd H x o') h':=fun b u q=>by
 have nown:∀c y,H c=some (.own y)->c≠x:=fun c y r z=>by subst z;rw [r] at mu;exact mu
 have ntup:∀c xs,H c=some (.tup xs)->c≠x:=fun c xs r z=>by subst z;rw [r] at mu;exact mu
 by_cases hb:b=x
 ·subst hb;rw [qr] at q;cases q;exact new
 ·rw [ql hb] at q
  by_cases hbe:b=e
  ·have q':H b=some (.own x):=by
    rcases he with z|z
    ·exact absurd (hbe.trans z) hb
    ·rw [hbe];exact z
   rw [q] at q';cases q';obtain⟨v,hv⟩:=heo;exact⟨v,by rw [hbe];exact hv⟩
  ·refine(ok b u q).stay (fun c v hc r=>k c v ?_ r) (fun c r=>by rw [ql (nown c b r)];exact r) fun c xs r=>by rw [ql (ntup c xs r)];exact r
   rcases hc with rfl|hc
   ·exact hbe
   ·rintro rfl
    rcases he with z|z
    ·exact nown c b hc z
    ·rw [hc] at z;cases z;exact hb rfl
end
structure Un(fs ex:List Addr)(H H':Hp)(h h':Heap): Prop where
 keep:∀b o,h.get? b=some o->H b=none->b∉fs->b∉ex->h'.get? b=some o
 slot:∀b o,h.get? b=some o->H b=none->b∈fs->b∉ex->∃sl,h'.get? b=some {o with slots:=sl}
 free:∀b o,h.get? b=some o->H b=none->b∉ex->H' b=none
 there:∀b o,h.get? b=some o->b∉ex->∃o',h'.get? b=some o'
 tups:∀b xs,H b=some (.tup xs)->H' b=some (.tup xs)
 frzs:∀b o u,H b=some (.frz o u)->H' b=some (.frz o u)
 tbls:∀b ps,H b=some (.tbl ps)->∃more,H' b=some (.tbl (ps++more))
section
variable{fs fs' ex ex':List Addr}{H H1 H2:Hp}{h h1 h2 h':Heap}{a x e:Addr}{o:HO}
theorem Un.any(u:Un fs ex H H1 h h1){b:Addr}{ob:Obj}(q:h.get? b=some ob)(n:H b=none)(hx:b∉ex): ∃sl,h1.get? b=some {ob with slots:=sl}:=by
 by_cases hb:b∈fs
 ·exact u.slot b ob q n hb hx
 ·exact⟨ob.slots,u.keep b ob q n hb hx⟩
theorem Un.trans(a:Un fs ex H H1 h h1)(b:Un fs ex H1 H2 h1 h2): Un fs ex H H2 h h2 where
 keep:=fun c ob q n hc hx=>b.keep c ob (a.keep c ob q n hc hx) (a.free c ob q n hx) hc hx
 slot:=fun c ob q n hc hx=>by
  obtain⟨sl,e1⟩:=a.slot c ob q n hc hx;obtain⟨sl',e2⟩:=b.slot c _ e1 (a.free c ob q n hx) hc hx;exact⟨sl',e2⟩
 free:=fun c ob q n hx=>by
  obtain⟨o',e1⟩:=a.there c ob q hx;exact b.free c o' e1 (a.free c ob q n hx) hx
 there:=fun c ob q hx=>by
  obtain⟨o',e1⟩:=a.there c ob q hx;exact b.there c o' e1 hx
 tups:=fun c xs q=>b.tups c xs (a.tups c xs q)
 frzs:=fun c ob xs q=>b.frzs c ob xs (a.frzs c ob xs q)
 tbls:=fun c ps q=>by
  obtain⟨m1,e1⟩:=a.tbls c ps q;obtain⟨m2,e2⟩:=b.tbls c _ e1;exact⟨m1++m2,by rw [e2,Array.append_assoc]⟩
theorem Un.kept(k:∀b u,h.get? b=some u->h'.get? b=some u): Un fs ex H H h h':=
 ⟨fun b ob q _ _ _=>k b ob q,fun b ob q _ _ _=>⟨ob.slots,k b ob q⟩,fun _ _ _ n _=>n,fun b ob q _=>⟨ob,k b ob q⟩,fun _ _ q=>q,fun _ _ _ q=>q,fun _ ps q=>⟨#[],by rw [q];simp⟩⟩
theorem Un.refl:Un fs ex H H h h:=Un.kept fun _ _ q=>q
theorem Un.laid(k:∀b u,h.get? b=some u->h'.get? b=some u)(hp:h.objs.size<=a)(hn:H a=none): Un fs ex H (upd H a o) h h' where
 keep:=fun b u q _ _ _=>k b u q
 slot:=fun b u q _ _ _=>⟨u.slots,k b u q⟩
 free:=fun b u q n _=>by rw [ql (m5 (gu (gz q) hp))];exact n
 there:=fun b u q _=>⟨u,k b u q⟩
 tups:=fun b xs q=>by rw [ql (jg q hn)];exact q
 frzs:=fun b u xs q=>by rw [ql (jg q hn)];exact q
 tbls:=fun b ps q=>⟨#[],by rw [ql (jg q hn),q];simp⟩
theorem Un.write(mu:Mut (H x))(he:e=x\/H e=some (.own x))(k:∀b u,b≠e->h.get? b=some u->h'.get? b=some u)(heo:∃u,h'.get? e=some u): Un fs ex H (upd H x o) h h':=by
 have hx:∀b,H b=none->b≠x:=fun b n z=>by subst z;rw [n] at mu;exact mu
 have hb:∀b,H b=none->b≠e:=fun b n z=>by
  subst z;rcases he with r|r
  ·exact hx b n r
  ·rw [n] at r;cases r
 have hm:∀b u,H b=some u->¬Mut (some u)->b≠x:=fun b u q nm z=>by subst z;rw [q] at mu;exact nm mu
 refine⟨fun b u q n _ _=>k b u (hb b n) q,fun b u q n _ _=>⟨u.slots,k b u (hb b n) q⟩,fun b u q n _=>by rw [ql (hx b n)];exact n,fun b u q _=>?_,
  fun b xs q=>by rw [ql (hm b _ q fun z=>z)];exact q,fun b u xs q=>by rw [ql (hm b _ q fun z=>z)];exact q,fun b ps q=>⟨#[],by rw [ql (hm b _ q fun z=>z),q];simp⟩⟩
 by_cases hbe:b=e
 ·subst hbe;exact heo
 ·exact⟨u,k b u hbe q⟩
end
def trk(h:Heap)(H:Hp): List Addr:=(List.range h.objs.size).filter fun a=>(H a).isSome
def q31(h:Heap)(H:Hp): Heap:=PySem.W.hideAll h (trk h H)
theorem qhc(h:Heap)(H:Hp): (q31 h H).objs.size=h.objs.size:=PySem.W.hideAll_size _ _
theorem qjv{h:Heap}{H:Hp}{b:Addr}{o:Obj}(e:h.get? b=some o)(n:H b=none): (q31 h H).get? b=some o:=
 PySem.W.hideAll_get _ e fun hm=>by
  have q:(H b).isSome=true:=(pz.mp hm).2;rw [n] at q;simp at q
theorem qnc{h:Heap}{H:Hp}{b:Addr}{o:Obj}(e:(q31 h H).get? b=some o): h.get? b=some o/\H b=none:=by
 have e':h.get? b=some o:=PySem.W.of_hideAll (trk h H) e;refine⟨e',?_⟩;cases q:H b with
 | none=>rfl
 | some x=>
  have hm:b∈trk h H:=pz.mpr ⟨uc.mpr (gz e'),by simp [q]⟩;have z:(q31 h H).get? b=none:=PySem.W.hideAll_none (trk h H) hm;rw [z] at e;cases e
def qnd(g h:Heap)(L:Addr): List (Addr×Obj):=(List.range h.objs.size).filterMap fun a=>if a=L\/(g.get? a).isSome=true then none else(h.get? a).map fun o=>(a,o)
def rest(g h:Heap)(L d:Addr): List (Addr×Obj):=(qnd g h L).filter fun p=>decide (p.1≠d)
structure Mod(K:PySem.W.Frag)(mg:Str->Option Value)(base:Heap): Prop where
 kin:K.In base
 glob:base.Ns mainGlobals mg
 blt:∃mb,base.Ns builtinsNs mb/\∀x:Str,x≠"__name__" -> mb x=bootBuiltins x
 nolimit:base.NoLimit
structure Cx where
 prog:Program
 w:World
 K:PySem.W.Frag
 mg:Str->Option Value
 base:Heap
 A:Around
 N:List Str
 s₀:Shared
 H₀:Hp
 env:Env
 outer:List Env
 stack:List Env
 ex:List Addr
 fn:Str->Bool
 calm:Bool
 pn:List (Addr×Obj)
 xe:Value->Shared->Prop
def frs(l:List Env): List Addr:=l.filterMap (·.frame)
abbrev Cx.fs(X:Cx): List Addr:=frs X.outer
def Vis(sc:Scope)(x:Str): Prop:=sc.names.lookup x=some .local\/sc.names.lookup x=some .cell\/sc.names.lookup x=some .free
def Loc(sc:Scope)(x:Str): Prop:=sc.names.lookup x=some .local\/sc.names.lookup x=some .cell
def Look(env:Env)(h:Heap)(m:Str->Option Value)(x:Str)(u:Value): Prop:=
 (env.kindOf x=some .local/\m x=some u)\/((env.kindOf x=some .cell\/env.kindOf x=some .free)/\∃c,env.cells.lookup x=some c/\h.IsCell c (some u))
structure Cx.Ok(X:Cx): Prop where
 mod:Mod X.K X.mg X.base
 kind:X.env.scope.kind=.function
 glob:X.env.globals=mainGlobals
 blt:X.env.builtins=builtinsNs
 above:X.s₀.heap.objs.size<=X.env.locals
 inj:∀x y c,X.env.cells.lookup x=some c->X.env.cells.lookup y=some c->x=y
 has:∀x,(X.env.kindOf x=some .cell\/X.env.kindOf x=some .free)->∃c,X.env.cells.lookup x=some c
 cab:∀x c,X.fn x=true->X.env.cells.lookup x=some c->X.s₀.heap.objs.size<=c
 hd:X.calm=true->X.A.handled=none
 frames:X.A.frames=some X.stack
 stk:X.stack=X.outer\/(X.stack=X.env :: X.outer/\X.env.frame=some X.env.locals)
 exf:∀b∈X.ex,b≠X.env.locals/\∀x c,X.env.cells.lookup x=some c->c≠b
 bs:∀b o,X.base.get? b=some o->X.s₀.heap.get? b=some o/\X.H₀ b=none
 bsz:X.base.objs.size<=X.s₀.heap.objs.size
 noex:∀b o,X.base.get? b=some o->b∉X.ex
 exfs:∀b∈X.ex,b∉X.fs
 funs:X.s₀.heap.FunFrames X.base X.outer
 frf:∀b∈X.fs,X.H₀ b=none
structure Inv(X:Cx)(pins:List (Addr×Obj))(σ : List (Option V))(H:Hp)(s:Shared): Prop where
 ok:X.Ok
 os:s.os=X.s₀.os
 bare:AllBare s.gens
 base:Un X.fs X.ex X.H₀ H X.s₀.heap s.heap
 loc:∃m,s.heap.Ns X.env.locals m/\∀(i:Nat) (x:Str) (v:V),X.N[i]? = some x -> σ[i]? = some (some v)->Vis X.env.scope x->∃u,RelV v u/\Look X.env s.heap m x u
 cell:∀x c,X.env.cells.lookup x=some c->∃v,s.heap.IsCell c v
 free:H X.env.locals=none
 freeC:∀x c,X.env.cells.lookup x=some c->H c=none
 pin:∀p∈X.pn++pins,s.heap.get? p.1=some p.2/\H p.1=none/\p.1≠X.env.locals/\p.1∉X.fs/\∀v,p.2.data ≠ .cell v
 hok:HOk X.prog X.w H s.heap
 len : σ.length=X.N.length
section
variable{X:Cx}{pins:List (Addr×Obj)}{σ : List (Option V)}{H H':Hp}{s:Shared}{h':Heap}
theorem Cx.Ok.nofr(ok:X.Ok){b:Addr}{o:Obj}(e:X.base.get? b=some o): b∉X.fs:=fun hb=>by
 have:=(ok.funs.mem hb).1;rw [e] at this;cases this
theorem Inv.bs(I:Inv X pins σ H s): ∀b o,X.base.get? b=some o->s.heap.get? b=some o/\H b=none:=fun b o e=>
 ⟨I.base.keep b o (I.ok.bs b o e).1 (I.ok.bs b o e).2 (I.ok.nofr e) (I.ok.noex b o e),I.base.free b o (I.ok.bs b o e).1 (I.ok.bs b o e).2 (I.ok.noex b o e)⟩
theorem Inv.bk(I:Inv X pins σ H s): ∀b o,X.base.get? b=some o->s.heap.get? b=some o:=fun b o e=>(I.bs b o e).1
theorem Inv.mod(I:Inv X pins σ H s): Mod X.K X.mg X.base:=I.ok.mod
theorem Inv.kIn(I:Inv X pins σ H s): X.K.In s.heap:=I.ok.mod.kin.keeps I.bk
theorem Inv.lt(I:Inv X pins σ H s): X.env.locals<s.heap.objs.size:=let⟨_,hn,_⟩:=I.loc;hn.lt
theorem Inv.sz(I:Inv X pins σ H s): X.s₀.heap.objs.size<=s.heap.objs.size:=my I.ok.above (g5r I.lt)
theorem Inv.nofs(I:Inv X pins σ H s){a:Addr}(h:s.heap.objs.size<=a): a∉X.fs:=fun hb=>by
 obtain⟨_,o,ho,_⟩:=I.ok.funs.mem hb;exact absurd (gu (gz ho) (my I.sz h)) (g0q _)
theorem Inv.cne(I:Inv X pins σ H s): ∀x c,X.env.cells.lookup x=some c->c≠X.env.locals:=fun x c e z=>by
 obtain⟨v,o,ho,hd⟩:=I.cell x c e;obtain⟨m,⟨o',es,ep,ho',hd',_⟩,_⟩:=I.loc;rw [z,ho'] at ho;cases ho;rw [hd'] at hd;cases hd
theorem Inv.funs(I:Inv X pins σ H s): s.heap.FunFrames X.base X.outer:=by
 have all:∀(l:List Env),(∀b∈frs l,b∈X.fs)->X.s₀.heap.FunFrames X.base l->s.heap.FunFrames X.base l:=by
  intro l
  induction l with
  | nil=>intro _ _;trivial
  | cons env r ih=>
   intro hs hl;obtain⟨hk,⟨L,o,hf,hn,ho,hd⟩,hr⟩:=hl;have hL:L∈X.fs:=hs L (by unfold frs;rw [g1e,hf];exact gq);obtain⟨sl,e⟩:=I.base.slot L o ho (I.ok.frf L hL) hL fun z=>I.ok.exfs L z hL;exact⟨hk,⟨L,_,hf,hn,e,hd⟩,ih (fun b hb=>hs b (by unfold frs;rw [g1e,hf];exact gr _ hb)) hr⟩
 exact all X.outer (fun _ hb=>hb) I.ok.funs
theorem Inv.stack(I:Inv X pins σ H s): s.heap.FunFrames X.base X.stack:=by
 rcases I.ok.stk with e|⟨e,hf⟩
 ·rw [e];exact I.funs
 ·rw [e]
  obtain⟨m,hn,_⟩:=I.loc;refine .cons (by rw [I.ok.kind];decide) hf hn ?_ I.funs;exact Heap.get?_none_of_le (my I.ok.bsz I.ok.above)
theorem Inv.stkSub(I:Inv X pins σ H s): ∀b∈frs X.stack,b∈X.env.locals :: X.fs:=fun b hb=>by
 rcases I.ok.stk with e|⟨e,hf⟩
 ·rw [e] at hb;exact gr _ hb
 ·rw [e] at hb
  unfold frs at hb;rw [g1e,hf] at hb;exact hb
theorem Inv.stkFree(I:Inv X pins σ H s): ∀b∈frs X.stack,H b=none:=fun b hb=>by
 rcases mm.mp (I.stkSub b hb) with e|hb
 ·rw [e];exact I.free
 ·obtain⟨_,o,ho,_⟩:=I.ok.funs.mem hb
  exact I.base.free b o ho (I.ok.frf b hb) fun z=>I.ok.exfs b z hb
theorem Inv.step{g':Array GenState}{t':Nat}{d':Drawn}{ch:List Addr}(I:Inv X pins σ H s)
  (hch:∀b∈ch,(b∈X.ex\/X.s₀.heap.objs.size<=b)/\b≠X.env.locals/\(∀x c,X.env.cells.lookup x=some c->c≠b)/\∀p∈X.pn++pins,p.1≠b)
  (keep:∀b o,b≠X.env.locals->b∉X.fs->b∉ch->s.heap.get? b=some o->H b=none->h'.get? b=some o)
  (slot:∀b o,b≠X.env.locals->b∈X.fs->b∉ch->s.heap.get? b=some o->H b=none->∃sl,h'.get? b=some {o with slots:=sl}) (free:∀b o,b∉ch->s.heap.get? b=some o->H b=none->H' b=none)
  (there:∀b o,b∉ch->s.heap.get? b=some o->∃o',h'.get? b=some o')
  (tups:∀b xs,H b=some (.tup xs)->H' b=some (.tup xs)) (frzs:∀b o u,H b=some (.frz o u)->H' b=some (.frz o u)) (tbls:∀b ps,H b=some (.tbl ps)->∃more,H' b=some (.tbl (ps++more)))
  (ns:∀m,s.heap.Ns X.env.locals m->h'.Ns X.env.locals m) (hok:HOk X.prog X.w H' h') (hg:AllBare g') :
  Inv X pins σ H' {s with heap:=h',gens:=g',drawn:=d',toks:=t'}:=by
 have neL:∀b o,X.s₀.heap.get? b=some o->b≠X.env.locals:=fun b o e=>m5 (gu (gz e) I.ok.above);have neC:∀b o,X.s₀.heap.get? b=some o->b∉X.ex->b∉ch:=fun b o e hx hb=>by
  rcases(hch b hb).1 with z|z
  ·exact hx z
  ·exact absurd (gu (gz e) z) (g0q _)
 have cellK:∀x c,X.env.cells.lookup x=some c->∀v,s.heap.IsCell c v->h'.IsCell c v:=fun x c e v ⟨o,ho,hd⟩=>by
  have nch:c∉ch:=fun z=>(hch c z).2.2.1 x c e rfl
  by_cases hc:c∈X.fs
  ·obtain⟨sl,q⟩:=slot c o (I.cne x c e) hc nch ho (I.freeC x c e)
   exact⟨_,q,hd⟩
  ·exact⟨o,keep c o (I.cne x c e) hc nch ho (I.freeC x c e),hd⟩
 refine⟨I.ok,I.os,hg,⟨fun b o e n hb hx=>?_,fun b o e n hb hx=>?_,fun b o e n hx=>?_,fun b o e hx=>?_,fun b xs e=>tups b xs (I.base.tups b xs e),fun b o xs e=>frzs b o xs (I.base.frzs b o xs e),fun b ps e=>?_⟩,?_,fun x c e=>?_,?_,fun x c e=>?_,fun p hp=>?_,hok,I.len⟩
 ·exact keep b o (neL b o e) hb (neC b o e hx) (I.base.keep b o e n hb hx) (I.base.free b o e n hx)
 ·obtain⟨sl,e1⟩:=I.base.slot b o e n hb hx
  obtain⟨sl',e2⟩:=slot b _ (neL b o e) hb (neC b o e hx) e1 (I.base.free b o e n hx);exact⟨sl',e2⟩
 ·obtain⟨o',e1⟩:=I.base.there b o e hx
  exact free b o' (neC b o e hx) e1 (I.base.free b o e n hx)
 ·obtain⟨o',e1⟩:=I.base.there b o e hx
  exact there b o' (neC b o e hx) e1
 ·obtain⟨m1,e1⟩:=I.base.tbls b ps e
  obtain⟨m2,e2⟩:=tbls b _ e1;exact⟨m1++m2,by rw [e2,Array.append_assoc]⟩
 ·obtain⟨m,hn,hl⟩:=I.loc
  refine⟨m,ns m hn,fun i x v e1 e2 e3=>?_⟩;obtain⟨u,r,l⟩:=hl i x v e1 e2 e3;refine⟨u,r,?_⟩;rcases l with l|⟨k,c,e,z⟩
  ·exact .inl l
  ·exact .inr ⟨k,c,e,cellK x c e _ z⟩
 ·obtain⟨v,z⟩:=I.cell x c e
  exact⟨v,cellK x c e v z⟩
 ·obtain⟨m,⟨o,_,_,ho,_⟩,_⟩:=I.loc
  exact free _ o (fun z=>(hch _ z).2.1 rfl) ho I.free
 ·obtain⟨v,o,ho,hd⟩:=I.cell x c e
  exact free c o (fun z=>(hch c z).2.2.1 x c e rfl) ho (I.freeC x c e)
 ·obtain⟨e,n,ne,nf,d⟩:=I.pin p hp
  have nch:p.1∉ch:=fun z=>(hch p.1 z).2.2.2 p hp rfl;exact⟨keep p.1 p.2 ne nf nch e n,free p.1 p.2 nch e n,ne,nf,d⟩
theorem Inv.un{t':Nat}(I:Inv X pins σ H s)(u:Un X.fs [] H H' s.heap h')(hok:HOk X.prog X.w H' h'): Inv X pins σ H' {s with heap:=h',toks:=t'}:=by
 obtain⟨m,⟨o,es,ep,ho,r⟩,_⟩:=id I.loc;obtain⟨sl,hL⟩:=u.any ho I.free (by simp);exact I.step (g':=s.gens) (d':=s.drawn) (ch:=[]) (fun _ z=>nomatch z) (fun b o _ hb _ e n=>u.keep b o e n hb (by simp)) (fun b o _ hb _ e n=>u.slot b o e n hb (by simp)) (fun b o _ e n=>u.free b o e n (by simp)) (fun b o _ e=>u.there b o e (by simp)) u.tups u.frzs u.tbls (fun m' hm=>by
  obtain⟨o',es',ep',ho',r'⟩:=hm;rw [ho] at ho';cases ho';exact⟨_,es',ep',hL,r'⟩) hok I.bare
theorem Inv.call{g':Array GenState}{t':Nat}{d':Drawn}{ch:List Addr}(I:Inv X pins σ H s)(u:Un (frs X.stack) ch H H' s.heap h')(hok:HOk X.prog X.w H' h')(hg:AllBare g')
  (hch:∀b∈ch,(b∈X.ex\/X.s₀.heap.objs.size<=b)/\b≠X.env.locals/\(∀x c,X.env.cells.lookup x=some c->c≠b)/\∀p∈X.pn++pins,p.1≠b) :
  Inv X pins σ H' {s with heap:=h',gens:=g',drawn:=d',toks:=t'}:=by
 obtain⟨m,⟨o,es,ep,ho,r⟩,_⟩:=id I.loc;obtain⟨sl,hL⟩:=u.any ho I.free fun z=>(hch _ z).2.1 rfl;exact I.step (ch:=ch) hch (fun b o hL hb hc e n=>u.keep b o e n (fun z=>(mm.mp (I.stkSub b z)).elim hL hb) hc) (fun b o _ _ hc e n=>u.any e n hc) (fun b o hc e n=>u.free b o e n hc) (fun b o hc e=>u.there b o e hc) u.tups u.frzs u.tbls (fun m' hm=>by
  obtain⟨o',es',ep',ho',r'⟩:=hm;rw [ho] at ho';cases ho';exact⟨_,es',ep',hL,r'⟩) hok hg
theorem Inv.turned{t':Nat}{it:Addr}(I:Inv X pins σ H s)(k:∀b o,b≠it->s.heap.get? b=some o->h'.get? b=some o)(hn:H it=none)(hL:it≠X.env.locals)
  (h1:it∈X.ex\/X.s₀.heap.objs.size<=it) (h2:∀x c,X.env.cells.lookup x=some c->c≠it) (h3:∀p∈X.pn++pins,p.1≠it):Inv X pins σ H {s with heap:=h',toks:=t'}:=by
 have nit:∀b u,H b=some u->b≠it:=fun b u e z=>by rw [z,hn] at e;cases e
 refine I.step (g':=s.gens) (d':=s.drawn) (ch:=[it]) (fun b hb=>?_) (fun b o _ _ hc e _=>k b o (fun z=>hc (by simp [z])) e) (fun b o _ _ hc e _=>⟨o.slots,k b o (fun z=>hc (by simp [z])) e⟩) (fun _ _ _ _ n=>n)
  (fun b o hc e=>⟨o,k b o (fun z=>hc (by simp [z])) e⟩) (fun _ _ e=>e) (fun _ _ _ e=>e) (fun b ps e=>⟨#[],by rw [e];simp⟩) (fun m hm=>?_) (fun b u e=>?_) I.bare
 ·have e:b=it:=by simpa using hb
  subst e;exact⟨h1,hL,h2,h3⟩
 ·obtain⟨o,es,ep,ho,r⟩:=hm
  exact⟨o,es,ep,k _ o (nj hL) ho,r⟩
 ·refine(I.hok b u e).stay (fun c v hc q=>k c v ?_ q) (fun _ q=>q) fun _ _ q=>q
  rcases hc with z|z
  ·rw [z];exact nit b u e
  ·exact nit c _ z
theorem Inv.tok(I:Inv X pins σ H s)(t:Nat): Inv X pins σ H {s with toks:=t}:=I.un (h':=s.heap) (t':=t) Un.refl I.hok
theorem Inv.kept{t':Nat}(I:Inv X pins σ H s)(k:∀b u,s.heap.get? b=some u->h'.get? b=some u): Inv X pins σ H {s with heap:=h',toks:=t'}:=I.un (Un.kept k) (I.hok.kept k)
theorem Inv.laid{a:Addr}{o:HO}{t':Nat}(I:Inv X pins σ H s)(k:∀b u,s.heap.get? b=some u->h'.get? b=some u)(hp:s.heap.objs.size<=a)(new:ObjOk X.prog X.w (upd H a o) h' a o):
  Inv X pins σ (upd H a o) {s with heap:=h',toks:=t'}:=I.un (Un.laid k hp (I.hok.fresh hp)) (I.hok.laid k hp new)
theorem Inv.write{x e:Addr}{o:HO}{t':Nat}(I:Inv X pins σ H s)(mu:Mut (H x))(he:e=x\/H e=some (.own x))(k:∀b u,b≠e->s.heap.get? b=some u->h'.get? b=some u)(heo:∃u,h'.get? e=some u)
  (new:ObjOk X.prog X.w (upd H x o) h' x o):Inv X pins σ (upd H x o) {s with heap:=h',toks:=t'}:=I.un (Un.write mu he k heo) (I.hok.write mu he k heo new)
theorem Inv.pins_of{pins':List (Addr×Obj)}(I:Inv X pins σ H s)(h:∀p∈pins',s.heap.get? p.1=some p.2/\H p.1=none/\p.1≠X.env.locals/\p.1∉X.fs/\∀v,p.2.data ≠ .cell v): Inv X pins' σ H s:=
 ⟨I.ok,I.os,I.bare,I.base,I.loc,I.cell,I.free,I.freeC,fun p hp=>(nz.mp hp).elim (fun z=>I.pin p (g2l _ z)) (h p),I.hok,I.len⟩
theorem qax{N:List Str}(hN:N.Nodup){i j:Nat}{x:Str}(a:N[i]? = some x)(b:N[j]? = some x): i=j:=by
 obtain⟨h1,e1⟩:=nh.mp a;obtain⟨h2,e2⟩:=nh.mp b;exact(g5s hN).mp (e1.trans e2.symm)
theorem qhd{M:Model}{A:Around}{E:Value->Shared->Prop}{i:Nat}{x:Str}{v:V}{u:Value}{Q:Unit->Shared->Prop}(I:Inv X pins σ H s)(hN:X.N.Nodup)(hi:X.N[i]? = some x)(hx:Loc X.env.scope x)(r:RelV v u)
  (h:∀s',Inv X pins (σ.set i (some v)) H s'->(∃a,Heap.SameBut a s.heap s'.heap/\(a=X.env.locals\/X.env.cells.lookup x=some a))->Q () s') (hf:X.fn x=true\/X.env.scope.names.lookup x=some .local:=by first|exact .inl rfl|exact .inr rfl|assumption):wpAny M A (storeName X.env x u) Q E s:=by
 obtain⟨m,hn,hl⟩:=id I.loc;have hcls:(X.env.scope.kind == .class || (X.env.scope.kind == .module&&X.env.locals != X.env.globals))=false:=by rw [I.ok.kind];rfl
 have hiσ : i < σ.length:=by rw [I.len];exact(nh.mp hi).1
 have cne:=I.cne;have tracked:∀ {a:Addr} {h':Heap},(∃o,s.heap.get? a=some o/\H a=none)->Heap.SameBut a s.heap h'->HOk X.prog X.w H h':=fun {a h'} ha hs b ob e=>by
  obtain⟨_,_,hfree⟩:=ha;refine(I.hok b ob e).stay (fun c w' hc q=>(hs.2 c ?_).trans q) (fun _ q=>q) fun _ _ q=>q
  rintro rfl
  rcases hc with rfl|hc
  ·rw [hfree] at e;cases e
  ·rw [hfree] at hc;cases hc
 rcases hx with hk|hk
 ·refine wpAny_storeName_local hk hn (fun h' hn' hs=>?_) hcls
  obtain⟨oL,_,_,hoL,_⟩:=id hn;refine h _ ⟨I.ok,I.os,I.bare,⟨fun b o e n hb hx=>?_,fun b o e n hb hx=>?_,I.base.free,fun b o e hx=>?_,I.base.tups,I.base.frzs,I.base.tbls⟩,⟨_,hn',fun j y v' e1 e2 e3=>?_⟩,fun y c e=>?_,I.free,I.freeC,fun p hp=>?_,tracked ⟨oL,hoL,I.free⟩ hs,by simpa using I.len⟩ ⟨_,hs,.inl rfl⟩
  ·exact(hs.2 b (m5 (gu (gz e) I.ok.above))).trans (I.base.keep b o e n hb hx)
  ·obtain⟨sl,e1⟩:=I.base.slot b o e n hb hx
   exact⟨sl,(hs.2 b (m5 (gu (gz e) I.ok.above))).trans e1⟩
  ·obtain⟨o',e1⟩:=I.base.there b o e hx
   exact⟨o',(hs.2 b (m5 (gu (gz e) I.ok.above))).trans e1⟩
  ·by_cases hj:j=i
   ·subst hj
    rw [hi] at e1;cases e1;rw [g1h hiσ] at e2;cases e2;exact⟨u,r,.inl ⟨hk,by simp⟩⟩
   ·rw [m6 (nj hj)] at e2
    obtain⟨u',r',q⟩:=hl j y v' e1 e2 e3;refine⟨u',r',?_⟩;rcases q with⟨k,e⟩|⟨k,c,e,z⟩
    ·refine .inl ⟨k,?_⟩
     have:y≠x:=fun e=>hj (qax hN e1 (e ▸ hi));simp [this,e]
    ·exact .inr ⟨k,c,e,z.sameBut hs (cne y c e)⟩
  ·obtain⟨w',z⟩:=I.cell y c e
   exact⟨w',z.sameBut hs (cne y c e)⟩
  ·obtain⟨e,n,ne,nf,d⟩:=I.pin p hp
   exact⟨(hs.2 p.1 ne).trans e,n,ne,nf,d⟩
 ·have hfn:X.fn x=true:=by
   rcases hf with z|z
   ·exact z
   ·rw [z] at hk;cases hk
  obtain⟨c,hc⟩:=I.ok.has x (.inl hk);obtain⟨w',z⟩:=I.cell x c hc;refine wpAny_storeName_cell I.ok.kind hk hc z (fun h' hc' hs=>?_);obtain⟨oc,hoc,hocd⟩:=id z;refine h {s with heap:=h'} ⟨I.ok,I.os,I.bare,⟨fun b o e n hb hx=>?_,fun b o e n hb hx=>?_,I.base.free,fun b o e hx=>?_,I.base.tups,I.base.frzs,I.base.tbls⟩,⟨m,hn.sameBut hs (nj (cne x c hc)),fun j y v' e1 e2 e3=>?_⟩,fun y c' e=>?_,I.free,I.freeC,fun p hp=>?_,tracked ⟨oc,hoc,I.freeC x c hc⟩ hs,by simpa using I.len⟩ ⟨c,hs,.inr hc⟩
  ·exact(hs.2 b (m5 (gu (gz e) (I.ok.cab x c hfn hc)))).trans (I.base.keep b o e n hb hx)
  ·obtain⟨sl,e1⟩:=I.base.slot b o e n hb hx
   exact⟨sl,(hs.2 b (m5 (gu (gz e) (I.ok.cab x c hfn hc)))).trans e1⟩
  ·obtain⟨o',e1⟩:=I.base.there b o e hx
   exact⟨o',(hs.2 b (m5 (gu (gz e) (I.ok.cab x c hfn hc)))).trans e1⟩
  ·by_cases hj:j=i
   ·subst hj
    rw [hi] at e1;cases e1;rw [g1h hiσ] at e2;cases e2;exact⟨u,r,.inr ⟨.inl hk,c,hc,hc'⟩⟩
   ·rw [m6 (nj hj)] at e2
    obtain⟨u',r',q⟩:=hl j y v' e1 e2 e3;refine⟨u',r',?_⟩;rcases q with q|⟨k,c',e,z'⟩
    ·exact .inl q
    ·refine .inr ⟨k,c',e,z'.sameBut hs ?_⟩
     rintro rfl
     exact hj (qax hN e1 (I.ok.inj _ _ _ e hc ▸ hi))
  ·by_cases hcc:c'=c
   ·subst hcc;exact⟨_,hc'⟩
   ·obtain⟨w2,z2⟩:=I.cell y c' e
    exact⟨w2,z2.sameBut hs hcc⟩
  ·obtain⟨e,n,ne,nf,d⟩:=I.pin p hp
   refine⟨(hs.2 p.1 ?_).trans e,n,ne,nf,d⟩;intro q;rw [q,hoc] at e;have q':oc=p.2:=mf e;exact d w' (by rw [<- q'];exact hocd)
theorem q6o{M:Model}{A:Around}{E:Value->Shared->Prop}{i:Nat}{x:Str}{v:V}{u:Value}{Q:Unit->Shared->Prop}(I:Inv X pins σ H s)(hN:X.N.Nodup)(hi:X.N[i]? = some x)(hx:Loc X.env.scope x)(r:RelV v u)
  (h:∀s',Inv X pins (σ.set i (some v)) H s'->Q () s') (hf:X.fn x=true\/X.env.scope.names.lookup x=some .local:=by first|exact .inl rfl|exact .inr rfl|assumption):wpAny M A (storeName X.env x u) Q E s:=
 qhd I hN hi hx r (fun s' I' _=>h s' I') hf
theorem Inv.call'{s':Shared}{ch:List Addr}(I:Inv X pins σ H s)(ho:s'.os=s.os)(u:Un (frs X.stack) ch H H' s.heap s'.heap)(hok:HOk X.prog X.w H' s'.heap)(hg:AllBare s'.gens)
  (hch:∀b∈ch,(b∈X.ex\/X.s₀.heap.objs.size<=b)/\b≠X.env.locals/\(∀x c,X.env.cells.lookup x=some c->c≠b)/\∀p∈X.pn++pins,p.1≠b):Inv X pins σ H' s':=by
 obtain⟨h',g',d',t',o'⟩:=s';have e:o'=s.os:=ho;subst e;exact I.call (g':=g') (t':=t') (d':=d') u hok hg hch
end
abbrev XK:=Value->Option Addr->Hp->Prop
abbrev St:=List (Option V)
abbrev VK:=V->Hp->Prop
abbrev TE:=St->Hp->VK->Prop
abbrev TT:=St->Hp->(Bool->Hp->Prop)->Prop
abbrev TA:=St->Hp->(List V->Hp->Prop)->Prop
structure Ends where
 nx:St->Hp->Prop
 rt:VK
 bk:St->Hp->Prop:=fun _ _=>False
 ct:St->Hp->Prop:=fun _ _=>False
abbrev TS:=Ends->St->Hp->Prop
def EP(X:Cx)(pins:List (Addr×Obj))(σ : St)(Q:VK)(u:Value)(s':Shared): Prop:=∃v H',Inv X pins σ H' s'/\RelV v u/\Q v H'
def TP(X:Cx)(pins:List (Addr×Obj))(σ : St)(Q:Bool->Hp->Prop)(b:Bool)(s':Shared): Prop:=∃H',Inv X pins σ H' s'/\Q b H'
def AP(X:Cx)(pins:List (Addr×Obj))(σ : St)(Q:List V->Hp->Prop)(us:List Value)(s':Shared): Prop:=∃vs H',Inv X pins σ H' s'/\Vals vs us/\Q vs H'
def SP(X:Cx)(pins:List (Addr×Obj))(D:Ends)(f:Flow)(s':Shared): Prop:=
 match f with
 | .next=>∃ σ' H',Inv X pins σ' H' s'/\D.nx σ' H'
 | .brk=>∃ σ' H',Inv X pins σ' H' s'/\D.bk σ' H'
 | .cont=>∃ σ' H',Inv X pins σ' H' s'/\D.ct σ' H'
 | .ret u=>∃v σ' H',Inv X pins σ' H' s'/\RelV v u/\D.rt v H'
def PE(X:Cx)(e:Expr)(t:TE): Prop:=
 ∀(pins:List (Addr×Obj)) (s:Shared) (σ : St) (H:Hp) (Q:VK),Inv X pins σ H s->t σ H Q->wpAny (model X.prog X.w) X.A (eval e X.env) (EP X pins σ Q) X.xe s
def PT(X:Cx)(e:Expr)(t:TT): Prop:=
 ∀(pins:List (Addr×Obj)) (s:Shared) (σ : St) (H:Hp) (Q:Bool->Hp->Prop),Inv X pins σ H s->t σ H Q->wpAny (model X.prog X.w) X.A (isTrue e X.env (eval e X.env)) (TP X pins σ Q) X.xe s
def PW(X:Cx)(e:Expr)(t:TT): Prop:=
 ∀(whole:Sem Value) (pins:List (Addr×Obj)) (s:Shared) (σ : St) (H:Hp) (Q:Bool->Hp->Prop),Inv X pins σ H s->t σ H Q->wpAny (model X.prog X.w) X.A (isTrue e X.env whole) (TP X pins σ Q) X.xe s
theorem PW.pt{X:Cx}{e:Expr}{t:TT}(h:PW X e t): PT X e t:=h _
def PA(X:Cx)(es:List Expr)(t:TA): Prop:=
 ∀(pos:Pos) (pins:List (Addr×Obj)) (s:Shared) (σ : St) (H:Hp) (Q:List V->Hp->Prop),Inv X pins σ H s->t σ H Q->wpAny (model X.prog X.w) X.A (spliced (backTo pos (starEach es X.env))) (AP X pins σ Q) X.xe s
def PS(X:Cx)(st:Stmt)(t:TS): Prop:=
 ∀(pins:List (Addr×Obj)) (s:Shared) (σ : St) (H:Hp) (D:Ends),Inv X pins σ H s->t D σ H->wpAny (model X.prog X.w) X.A (exec st X.env) (SP X pins D) X.xe s
def PSs(X:Cx)(st:List Stmt)(t:TS): Prop:=
 ∀(pins:List (Addr×Obj)) (s:Shared) (σ : St) (H:Hp) (D:Ends),Inv X pins σ H s->t D σ H->wpAny (model X.prog X.w) X.A (execs st X.env) (SP X pins D) X.xe s
theorem thn{α : Type}{t:Sem α}{Q Q' : α -> Shared->Prop}{M:Model}{A:Around}{E:Value->Shared->Prop}{s:Shared}(h:wpAny M A t Q E s)(hQ:∀a s,Q a s->Q' a s): wpAny M A t Q' E s:=tq h hQ fun _ _ x=>x
section
variable{X:Cx}
theorem bin{a b:Expr}{ta tb:TE}(ha:PE X a ta)(hb:PE X b tb){pins:List (Addr×Obj)}{s:Shared}{σ : St}{H:Hp}{R:V->V->Hp->Prop}(I:Inv X pins σ H s)(h:ta σ H fun x H1=>tb σ H1 fun y H2=>R x y H2)
  {α : Type} {Q : α -> Shared->Prop} {f:Value->Value->Sem α}
  (hf:∀v u s2 x y H2,Inv X pins σ H2 s2->RelV x v->RelV y u->R x y H2->wpAny (model X.prog X.w) X.A (f v u) Q X.xe s2) :
  wpAny (model X.prog X.w) X.A (eval a X.env) (fun v s₁=>wpAny (model X.prog X.w) X.A (eval b X.env) (fun u s₂=>wpAny (model X.prog X.w) X.A (f v u) Q X.xe s₂) X.xe s₁) X.xe s:=by
 refine thn (ha pins s σ H _ I h) fun v s1 ⟨x,H1,I1,r1,q1⟩=>?_;refine thn (hb pins s1 σ H1 _ I1 q1) fun u s2 ⟨y,H2,I2,r2,q2⟩=>?_;exact hf v u s2 x y H2 I2 r1 r2 q2
def q6p(i:Nat): TE:=fun σ H Q=>∃v, σ[i]? = some (some v)/\Q v H
def tC(v:V): TE:=fun _ H Q=>Q v H
theorem qpp{i:Nat}{x:Str}{pos:Pos}(hN:X.N[i]? = some x)(hv:Vis X.env.scope x)(hd:(x==("__debug__" : Str))=false:=by decide)(hcd:(x==("__classdict__" : Str))=false:=by decide): PE X (.Name x pos) (q6p i):=by
 intro pins s σ H Q I h;obtain⟨v,e,h⟩:=h;obtain⟨m,hn,hl⟩:=I.loc;obtain⟨u,r,l⟩:=hl i x v hN e hv;have fin:EP X pins σ Q u s:=⟨v,H,I,r,h⟩
 rcases l with⟨hk,hm⟩|⟨hk,c,hc,hcell⟩
 ·exact wpAny_Name (wpAny_loadName_local I.ok.kind hk hn hm fin) hd
 ·rcases hk with hk|hk
  ·exact wpAny_Name (wpAny_loadName_cell I.ok.kind hk hc hcell fin) hd
  ·exact wpAny_Name (wpAny_loadName_free I.ok.kind hk hc hcell fin hcd) hd
theorem qpq{i j pos}: PE X (.Constant (.int i) j pos) (tC (.int i)):=fun _ _ _ H _ I h=>wpAny_Constant_int ⟨.int i,H,I.tok _,⟨_,rfl⟩,h⟩
theorem qsa{b j pos}: PE X (.Constant (.bool b) j pos) (tC (.bl b)):=fun _ _ _ H _ I h=>Constant_bool ⟨.bl b,H,I,rfl,h⟩
theorem qpr{j pos}: PE X (.Constant .none j pos) (tC .non):=fun _ _ _ H _ I h=>Constant_none ⟨.non,H,I,rfl,h⟩
def Gl(X:Cx)(x:Str): Prop:=X.env.kindOf x=some .globalImplicit
theorem qeg{E:Value->Shared->Prop}{pins:List (Addr×Obj)}{s:Shared}{σ : St}{H:Hp}{x:Str}{u:Value}{pos:Pos}{Q:Value->Shared->Prop}(I:Inv X pins σ H s)(hg:Gl X x)(hm:X.mg x=some u)(h:Q u s)
  (hd:(x==("__debug__" : Str))=false:=by decide):wpAny (model X.prog X.w) X.A (eval (.Name x pos) X.env) Q E s:=
 Calls.Name_function_global I.ok.kind hg (Calls.loadGlobal_global (by rw [I.ok.glob];exact I.mod.glob.keeps I.bk) hm h) hd
theorem q16{E:Value->Shared->Prop}{pins:List (Addr×Obj)}{s:Shared}{σ : St}{H:Hp}{x:Str}{u:Value}{pos:Pos}{Q:Value->Shared->Prop}(I:Inv X pins σ H s)(hg:Gl X x)(hm:X.mg x=none)(hv:bootBuiltins x=some u)(h:Q u s)
  (hn:x≠"__name__" :=by decide) (hd:(x==("__debug__" : Str))=false:=by decide):wpAny (model X.prog X.w) X.A (eval (.Name x pos) X.env) Q E s:=by
 obtain⟨mb,h1,h2⟩:=I.mod.blt;exact Calls.Name_function_global I.ok.kind hg (Calls.loadGlobal_builtin (by rw [I.ok.glob];exact I.mod.glob.keeps I.bk) hm (by rw [I.ok.blt];exact h1.keeps I.bk) ((h2 x hn).trans hv) h) hd
theorem qne{x:Str}{v:V}{u:Value}{pos:Pos}(hg:Gl X x)(hm:X.mg x=none)(hv:bootBuiltins x=some u)(r:RelV v u)(hn:x≠"__name__" :=by decide)(hd:(x==("__debug__" : Str))=false:=by decide): PE X (.Name x pos) (tC v):=
 fun _ _ _ H _ I h=>q16 I hg hm hv ⟨v,H,I,r,h⟩ hn hd
variable{a b:Expr}{ta tb:TE}{pos:Pos}
theorem qay(b:Expr){op:CmpOp}(h:op ≠ .In)(h2:op ≠ .NotIn): behindInMarks op b=false:=by
 have e1:(op==CmpOp.In)=false:=by cases op <;> first|rfl|exact absurd rfl h
 have e2:(op==CmpOp.NotIn)=false:=by cases op <;> first|rfl|exact absurd rfl h2
 cases b <;> simp [behindInMarks,e1,e2]
variable{tA tB':TT}{rest:List Expr}
def qtg(t u:TT): TT:=fun σ H Q=>t σ H fun c H1=>if c=true then u σ H1 Q else Q false H1
def tOr(t u:TT): TT:=fun σ H Q=>t σ H fun c H1=>if c=true then Q true H1 else u σ H1 Q
def qth(t:TT): TT:=fun σ H Q=>t σ H fun c H1=>Q (!c) H1
theorem qnf(ha:PT X a tA): PW X (.BoolOp .And [a] pos) tA:=by
 intro wh pins s σ H Q I h;refine isTrue_and (thn (ha pins s σ H Q I h) fun c s1 e=>?_);cases c with
 | true=>exact isTrue_and_nil e
 | false=>exact e
theorem qps(ha:PT X a tA): PW X (.BoolOp .Or [a] pos) tA:=by
 intro wh pins s σ H Q I h;refine isTrue_or (thn (ha pins s σ H Q I h) fun c s1 e=>?_);cases c with
 | false=>exact isTrue_or_nil e
 | true=>exact e
theorem qpt(ha:PT X a tA)(hb:PW X (.BoolOp .And (b :: rest) pos) tB'): PW X (.BoolOp .And (a :: b :: rest) pos) (qtg tA tB'):=by
 intro wh pins s σ H Q I h;refine isTrue_and (thn (ha pins s σ H _ I h) fun c s1 ⟨H1,I1,q1⟩=>?_);cases c with
 | true=>exact hb wh pins s1 σ H1 Q I1 q1
 | false=>exact⟨H1,I1,q1⟩
theorem qsb(ha:PT X a tA)(hb:PW X (.BoolOp .Or (b :: rest) pos) tB'): PW X (.BoolOp .Or (a :: b :: rest) pos) (tOr tA tB'):=by
 intro wh pins s σ H Q I h;refine isTrue_or (thn (ha pins s σ H _ I h) fun c s1 ⟨H1,I1,q1⟩=>?_);cases c with
 | true=>exact⟨H1,I1,q1⟩
 | false=>exact hb wh pins s1 σ H1 Q I1 q1
theorem qpu(ha:PT X a tA): PT X (.UnaryOp .Not a pos) (qth tA):=by
 intro pins s σ H Q I h;exact isTrue_not (ha pins s σ H (fun c H1=>Q (!c) H1) I h)
def qsc(ta tb:TE): TE:=fun σ H Q=>ta σ H fun x H1=>∃c,x=.bl c/\if c=true then tb σ H1 Q else Q (.bl false) H1
def qsd(ta:TE): TE:=fun σ H Q=>ta σ H fun x H1=>∃c,x=.bl c/\Q (.bl (!c)) H1
theorem qpv{op}{t:TE}(h:PE X a t): PE X (.BoolOp op [a] pos) t:=fun pins s σ H Q I hw=>BoolOp_one (h pins s σ H Q I hw)
theorem qpw(ha:PE X a ta)(hb:PE X (.BoolOp .And (b :: rest) pos) tb): PE X (.BoolOp .And (a :: b :: rest) pos) (qsc ta tb):=by
 intro pins s σ H Q I h;refine BoolOp_and (thn (ha pins s σ H _ I h) fun v s1 ⟨x,H1,I1,r1,q1⟩=>?_);obtain⟨c,rfl,q1⟩:=q1;cases r1;refine g1t ?_;cases c with
 | true=>exact hb pins s1 σ H1 Q I1 q1
 | false=>exact⟨.bl false,H1,I1,rfl,q1⟩
theorem qpx(ha:PE X a ta): PE X (.UnaryOp .Not a pos) (qsd ta):=by
 intro pins s σ H Q I h;refine UnaryOp_ (thn (ha pins s σ H _ I h) fun v s1 ⟨x,H1,I1,r1,q1⟩=>?_);obtain⟨c,rfl,q1⟩:=q1;cases r1;exact not_of (g1t ⟨.bl (!c),H1,I1,rfl,q1⟩)
def tIf(t:TT)(ta tb:TE): TE:=fun σ H Q=>t σ H fun c H1=>if c=true then ta σ H1 Q else tb σ H1 Q
theorem qjw{c:Expr}(hc:PT X c tA)(ha:PE X a ta)(hb:PE X b tb): PE X (.IfExp c a b pos) (tIf tA ta tb):=by
 intro pins s σ H Q I h;refine wpAny_IfExp (thn (hc pins s σ H _ I h) fun d s1 ⟨H1,I1,q1⟩=>?_);cases d with
 | true=>exact ha pins s1 σ H1 Q I1 q1
 | false=>exact hb pins s1 σ H1 Q I1 q1
end
def SqL(K:PySem.W.Frag)(H:Hp)(a:Addr)(xs:List V): Prop:=
 Rd H a (.lst xs) \/
  ∃(o:Obj) (its:Array Value) (n:Nat),K.lookup a=some o/\o.cls=.type "list" /\ o.dict=none/\o.data=.seq its n/\its.size<=sizeLine/\Vals xs its.toList
def SqT(K:PySem.W.Frag)(H:Hp)(a:Addr)(xs:List V): Prop:=
 Rd H a (.tup xs) \/
  ∃(o:Obj) (its:Array Value) (n:Nat),K.lookup a=some o/\o.cls=.type "tuple" /\ o.dict=none/\o.data=.seq its n/\its.size<=sizeLine/\Vals xs its.toList
def qti:Value->Option V
 | .none=>some .non
 | .bool b=>some (.bl b)
 | .int i _=>some (.int i)
 | .str x _=>some (.str x)
 | .bytes b _=>some (.byt b)
 | .float b _=>some (.flt b)
 | .ref a=>some (.ref a)
 | .type n=>some (.ty n)
 | _=>none
theorem RelV.abs{x:V}{u:Value}(r:RelV x u): qti u=some x:=by
 cases x with
 | non=>cases r;rfl
 | bl _=>cases r;rfl
 | int _=>obtain⟨t,rfl⟩:=r;rfl
 | str _=>obtain⟨t,rfl⟩:=r;rfl
 | byt _=>obtain⟨t,rfl⟩:=r;rfl
 | flt _=>obtain⟨t,rfl⟩:=r;rfl
 | ref _=>cases r;rfl
 | ty _=>cases r;rfl
theorem RelV.inj{x y:V}{u:Value}(r:RelV x u)(q:RelV y u): x=y:=mf (r.abs.symm.trans q.abs)
theorem Vals.inj:∀ {xs ys:List V} {us:List Value},Vals xs us->Vals ys us->xs=ys
 | _,_,_,.nil,.nil=>rfl
 | _,_,_,.cons r t,.cons r' t'=>by rw [r.inj r',Vals.inj t t']
section
variable{X:Cx}{pins:List (Addr×Obj)}{σ : St}{H:Hp}{s:Shared}{a:Addr}{xs ys:List V}
theorem SqL.of{K:PySem.W.Frag}(h:H a=some (.lst xs)): SqL K H a xs:=.inl (.inl h)
theorem SqT.of{K:PySem.W.Frag}(h:H a=some (.tup xs)): SqT K H a xs:=.inl (.inl h)
theorem Inv.list(I:Inv X pins σ H s)(h:SqL X.K H a xs): ∃its:List Value,Vals xs its/\PlainL s.heap a its.toArray/\xs.length<=sizeLine:=by
 rcases h with h|⟨o,its,n,hk,hc,hd,hs,hz,r⟩
 ·obtain⟨z,its,n,r,e⟩:=h.ok I.hok
  exact⟨its,r,⟨_,n,e,rfl,rfl,rfl⟩,z⟩
 ·refine⟨its.toList,r,⟨o,n,I.kIn a o hk,hc,hd,by simpa using hs⟩,?_⟩
  have e:=r.length;simp only [nu] at e;omega
theorem Inv.tupleX(I:Inv X pins σ H s)(h:SqT X.K H a xs): ∃its:List Value,Vals xs its/\TupX s.heap a its.toArray/\xs.length<=sizeLine:=by
 rcases h with h|⟨o,its,n,hk,hc,hd,hs,hz,r⟩
 ·obtain⟨z,its,r,p⟩:=h.ok I.hok
  exact⟨its,r,p,z⟩
 ·refine⟨its.toList,r,⟨o,I.kIn a o hk,hc,hd,n,by simpa using hs⟩,?_⟩
  have e:=r.length;simp only [nu] at e;omega
theorem Inv.tuple(I:Inv X pins σ H s)(h:SqT X.K H a xs): ∃its:List Value,Vals xs its/\IsTup s.heap a its.toArray/\xs.length<=sizeLine:=let⟨its,r,p,z⟩:=I.tupleX h; ⟨its,r,p.up,z⟩
theorem Inv.list_inj(I:Inv X pins σ H s)(h:SqL X.K H a xs)(h':SqL X.K H a ys): xs=ys:=by
 obtain⟨its,r,⟨o,n,e,_,_,d⟩,_⟩:=I.list h;obtain⟨its',r',⟨o',n',e',_,_,d'⟩,_⟩:=I.list h';rw [e] at e';cases e';rw [d] at d';injection d' with d1 _
 have:its=its':=by simpa using g0d Array.toList d1
 subst this;exact r.inj r'
theorem Inv.tuple_inj(I:Inv X pins σ H s)(h:SqT X.K H a xs)(h':SqT X.K H a ys): xs=ys:=by
 obtain⟨its,r,⟨o,e,_,n,d⟩,_⟩:=I.tuple h;obtain⟨its',r',⟨o',e',_,n',d'⟩,_⟩:=I.tuple h';rw [e] at e';cases e';rw [d] at d';injection d' with d1 _
 have:its=its':=by simpa using g0d Array.toList d1
 subst this;exact r.inj r'
end
abbrev Cx.wish(X:Cx)(E:Value->Shared->Prop): Cx:={X with xe:=E}
abbrev Cx.nox(X:Cx): Cx:=X.wish fun _ _=>False
theorem Cx.Ok.wish{X:Cx}(ok:X.Ok)(E:Value->Shared->Prop): (X.wish E).Ok:=
 ⟨ok.mod,ok.kind,ok.glob,ok.blt,ok.above,ok.inj,ok.has,ok.cab,ok.hd,ok.frames,ok.stk,ok.exf,ok.bs,ok.bsz,ok.noex,ok.exfs,ok.funs,ok.frf⟩
theorem Cx.Ok.unwish{X:Cx}{E:Value->Shared->Prop}(ok:(X.wish E).Ok): X.Ok:=
 ⟨ok.mod,ok.kind,ok.glob,ok.blt,ok.above,ok.inj,ok.has,ok.cab,ok.hd,ok.frames,ok.stk,ok.exf,ok.bs,ok.bsz,ok.noex,ok.exfs,ok.funs,ok.frf⟩
section
variable{X:Cx}{pins:List (Addr×Obj)}{σ : St}{H:Hp}{s:Shared}{E:Value->Shared->Prop}
theorem Inv.wish(I:Inv X pins σ H s)(E:Value->Shared->Prop): Inv (X.wish E) pins σ H s:=⟨I.ok.wish E,I.os,I.bare,I.base,I.loc,I.cell,I.free,I.freeC,I.pin,I.hok,I.len⟩
theorem Inv.unwish(I:Inv (X.wish E) pins σ H s): Inv X pins σ H s:=⟨I.ok.unwish,I.os,I.bare,I.base,I.loc,I.cell,I.free,I.freeC,I.pin,I.hok,I.len⟩
theorem SP.unwish{D:Ends}{f:Flow}{s':Shared}(h:SP (X.wish E) pins D f s'): SP X pins D f s':=by
 cases f with
 | next=>obtain⟨σ',H',I,q⟩:=h;exact⟨σ',H',I.unwish,q⟩
 | brk=>obtain⟨σ',H',I,q⟩:=h;exact⟨σ',H',I.unwish,q⟩
 | cont=>obtain⟨σ',H',I,q⟩:=h;exact⟨σ',H',I.unwish,q⟩
 | ret u=>obtain⟨v, σ',H',I,r,q⟩:=h;exact⟨v, σ',H',I.unwish,r,q⟩
theorem PE.nox{e:Expr}{t:TE}(h:PE X.nox e t): PE X e t:=fun pins s σ H Q I hw=>
 tq (h pins s σ H Q (I.wish _) hw) (fun _ _ ⟨v,H',I',r,q⟩=>⟨v,H',I'.unwish,r,q⟩) fun _ _ z=>False.elim z
theorem PSs.nox{st:List Stmt}{t:TS}(h:PSs X.nox st t): PSs X st t:=fun pins s σ H D I hw=>
 tq (h pins s σ H D (I.wish _) hw) (fun _ _ q=>q.unwish) fun _ _ z=>False.elim z
end
section
variable{X:Cx}{st:Stmt}{rest:List Stmt}{t u:TS}{e:Expr}{te:TE}{pos:Pos}
def tNext:TS:=fun D σ H=>D.nx σ H
def qtj(t u:TS): TS:=fun D σ H=>t {D with nx:=u D} σ H
theorem qng:PSs X [] tNext:=fun _ _ σ H _ I h=>g4j ⟨σ,H,I,h⟩
theorem q6q(h1:PS X st t)(h2:PSs X rest u): PSs X (st :: rest) (qtj t u):=by
 intro pins s σ H D I h;refine wpAny_execs_cons (thn (h1 pins s σ H {D with nx:=u D} I h) fun f s1 q=>?_);cases f with
 | next=>
  obtain⟨σ',H',I',q⟩:=q;exact h2 pins s1 σ' H' D I' q
 | ret v=>exact q
 | brk=>exact q
 | cont=>exact q
theorem qeh(h1:PS X st t): PSs X [st] t:=by
 intro pins s σ H D I h;refine wpAny_execs_cons (thn (h1 pins s σ H D I h) fun f s1 q=>?_);cases f with
 | next=>exact g4j q
 | ret v=>exact q
 | brk=>exact q
 | cont=>exact q
theorem Inv.quiet{pins:List (Addr×Obj)}{σ : St}{H:Hp}{s:Shared}(I:Inv X pins σ H s): interactive X.env=false:=by simp [interactive,I.ok.kind]
def qse(te:TE): TS:=fun D σ H=>te σ H fun _ H1=>D.nx σ H1
theorem qei(he:PE X e te)(hs:swapsWith e none pos.line X.env=pure false:=by rfl): PS X (.Expr e pos) (qse te):=by
 intro pins s σ H D I h;exact wpAny_Expr_any (thn (he pins s σ H _ I h) fun v s1 ⟨x,H1,I1,r1,q1⟩=>⟨σ,H1,I1,q1⟩) I.quiet hs
def qtk(te:TE): TS:=fun D σ H=>te σ H D.rt
theorem qpy(he:PE X e te): PS X (.Return (some e) pos) (qtk te):=by
 intro pins s σ H D I h;exact wpAny_Return_some (thn (he pins s σ H _ I h) fun v s1 ⟨x,H1,I1,r1,q1⟩=>⟨x, σ,H1,I1,r1,q1⟩)
def qtl(c:TT)(t u:TS): TS:=fun D σ H=>c σ H fun b H1=>if b=true then t D σ H1 else u D σ H1
theorem qsf{c:Expr}{a b:List Stmt}{tc:TT}(hc:PT X c tc)(ha:PSs X a t)(hb:PSs X b u): PS X (.If c a b pos) (qtl tc t u):=by
 intro pins s σ H D I h;refine wpAny_If (thn (hc pins s σ H _ I h) fun d s1 ⟨H1,I1,q1⟩=>?_);cases d with
 | true=>exact ha pins s1 σ H1 D I1 q1
 | false=>exact hb pins s1 σ H1 D I1 q1
end
abbrev TG:=V->St->Hp->(St->Hp->Prop)->Prop
abbrev TGs:=List V->St->Hp->(St->Hp->Prop)->Prop
def PG(X:Cx)(target:Expr)(t:TG): Prop:=
 ∀(pins:List (Addr×Obj)) (s:Shared) (σ : St) (H:Hp) (v:V) (u:Value) (Q:St->Hp->Prop),Inv X pins σ H s->RelV v u->t v σ H Q ->
  wpAny (model X.prog X.w) X.A (assign target X.env u) (fun _ s'=>∃ σ' H',Inv X pins σ' H' s'/\Q σ' H') X.xe s
def PGs(X:Cx)(ts:List Expr)(t:TGs): Prop:=
 ∀(pins:List (Addr×Obj)) (s:Shared) (σ : St) (H:Hp) (vs:List V) (us:List Value) (Q:St->Hp->Prop),Inv X pins σ H s->Vals vs us->t vs σ H Q ->
  wpAny (model X.prog X.w) X.A (assignInOrder ((assignEach ts X.env).map (·.2)) us) (fun _ s'=>∃ σ' H',Inv X pins σ' H' s'/\Q σ' H') X.xe s
abbrev TSet:=V->V->V->Hp->(Hp->Prop)->Prop
def qpz(X:Cx)(t:TSet): Prop:=
 ∀(pins:List (Addr×Obj)) (s:Shared) (σ : St) (H:Hp) (o i v:V) (ov iv u:Value) (Q:Hp->Prop),Inv X pins σ H s->RelV o ov->RelV i iv->RelV v u->t o i v H Q ->
  wpAny (model X.prog X.w) X.A (setItem ov iv u) (fun _ s'=>∃H',Inv X pins σ H' s'/\Q H') X.xe s
section
variable{X:Cx}{pos:Pos}
def q2u(i:Nat): TG:=fun v σ H Q=>Q (σ.set i (some v)) H
theorem qej{i:Nat}{x:Str}(hN:X.N.Nodup)(hi:X.N[i]? = some x)(hx:Loc X.env.scope x)(hf:X.fn x=true\/X.env.scope.names.lookup x=some .local:=by first|exact .inl rfl|exact .inr rfl|assumption): PG X (.Name x pos) (q2u i):=by
 intro pins s σ H v u Q I r h;exact wpAny_assign_Name (q6o I hN hi hx r (fun s' I'=>⟨_,H,I',h⟩) hf)
def gNil:TGs:=fun vs σ H Q=>vs=[]/\Q σ H
def qsg(t:TG)(u:TGs): TGs:=fun vs σ H Q=>∃v r,vs=v :: r/\t v σ H fun σ' H'=>u r σ' H' Q
theorem qnh:PGs X [] gNil:=by
 intro pins s σ H vs us Q I r h;obtain⟨e,h⟩:=h;subst e;cases r;exact assignInOrder_nil ⟨σ,H,I,h⟩
theorem qjx{e:Expr}{es:List Expr}{t:TG}{u:TGs}(h1:PG X e t)(h2:PGs X es u)
  (hs:(assignEach (e :: es) X.env).map (·.2)=assign e X.env :: (assignEach es X.env).map (·.2):=by rfl):PGs X (e :: es) (qsg t u):=by
 intro pins s σ H vs us Q I r h;obtain⟨v,vr,e1,h⟩:=h;subst e1;cases r with
 | cons r rr=>
  rw [hs];refine assignInOrder_cons (thn (h1 pins s σ H _ _ _ I r h) fun _ s1 ⟨σ1,H1,I1,q1⟩=>?_);exact h2 pins s1 σ1 H1 _ _ Q I1 rr q1
def qtm(K:PySem.W.Frag)(n:Nat)(t:TGs): TG:=fun v σ H Q=>∃a xs,v=.ref a/\SqT K H a xs/\xs.length=n/\t xs σ H Q
theorem qq0{es:List Expr}{k:Nat}{t:TGs}{n:Nat}(hc:X.calm=true)(h:PGs X es t)
  (hn:(assignEach es X.env).length=n:=by rfl) (hst:(assignEach es X.env).findIdx? (·.1)=none:=by rfl):PG X (.Tuple es k pos) (qtm X.K n t):=by
 intro pins s σ H v u Q I r hw;obtain⟨a,xs,e1,hq,hl,hw⟩:=hw;subst e1;cases r;obtain⟨its,rv,ht,hz⟩:=I.tuple hq;refine assign_Tuple_tuple (I.ok.hd hc) ht (by simp [hn, <- hl,rv.length]) hst fun h' hx=>?_;have I1:Inv X pins σ H {s with heap:=h'}:=I.kept (t':=s.toks) fun b o e=>hx b o (m5 (gz e)) e;exact h pins _ σ H xs _ Q I1 (by simpa using rv) hw
def qq1(to ti:TE)(t:TSet): TG:=fun v σ H Q=>to σ H fun o H1=>ti σ H1 fun i H2=>t o i v H2 fun H3=>Q σ H3
theorem qq2{o i:Expr}{to ti:TE}{t:TSet}(ho:PE X o to)(hi:PE X i ti)(hs:qpz X t)
  (ha:∀v,assign (.Subscript o i pos) X.env v=(do
   let ov <- holding [v] (eval o X.env)
   let iv <- holding [v,ov] (eval i X.env)
   standAt pos
   holding [v,ov,iv] (setItem ov iv v)
   release [v,ov,iv] []):=by intro _;rfl):PG X (.Subscript o i pos) (qq1 to ti t):=by
 intro pins s σ H v u Q I r h;rw [ha];refine g0 (ni (thn (ho pins s σ H _ I h) fun ov s1 ⟨x,H1,I1,r1,q1⟩=>?_));refine g0 (ni (thn (hi pins s1 σ H1 _ I1 q1) fun iv s2 ⟨y,H2,I2,r2,q2⟩=>?_));refine g0 (g59 (g0 (ni (thn (hs pins s2 σ H2 x y v ov iv u _ I2 r1 r2 r q2) fun _ s3 ⟨H3,I3,q3⟩=>?_))));exact wpAny_release ⟨σ,H3,I3,q3⟩
def qaz(te:TE)(g:TG): TS:=fun D σ H=>te σ H fun x H1=>g x σ H1 D.nx
theorem qhe{tg e:Expr}{te:TE}{g:TG}(he:PE X e te)(hg:PG X tg g)(hs:swapsWithSole [tg] e pos.line X.env=pure false:=by rfl)(hw:swappedStores [tg] e X.env=pure none:=by rfl)
  (h1:(assignEach [tg] X.env).map (·.2)=[assign tg X.env]:=by rfl):PS X (.Assign [tg] e pos) (qaz te g):=by
 intro pins s σ H D I h;refine wpAny_Assign_stores (thn (he pins s σ H _ I h) fun v s1 ⟨x,H1,I1,r1,q1⟩=>?_) hs hw;rw [h1];exact thn (hg pins s1 σ H1 x v _ I1 r1 q1) fun _ s2 q=>q
theorem qb0{i:Nat}{x:Str}{e:Expr}{te:TE}{pos':Pos}(hN:X.N.Nodup)(hi:X.N[i]? = some x)(hx:Loc X.env.scope x)(he:PE X e te)(hs:swapsWith e (some (.Name x pos')) pos.line X.env=pure false:=by rfl)(hf:X.fn x=true\/X.env.scope.names.lookup x=some .local:=by first|exact .inl rfl|exact .inr rfl|assumption):
  PS X (.Assign [.Name x pos'] e pos) (qaz te (q2u i)):=by
 intro pins s σ H D I h;refine wpAny_Assign_Name (thn (he pins s σ H _ I h) fun v s1 ⟨y,H1,I1,r1,q1⟩=>?_) hs;exact q6o I1 hN hi hx r1 (fun s2 I2=>⟨_,H1,I2,q1⟩) hf
end
section
variable{X:Cx}{pos:Pos}
def qq3(c:TT)(tb:TS): TS:=fun D σ H=>∃W:Nat->St->Hp->Prop,(∃m,W m σ H)/\∀m σ H,W m σ H ->
 c σ H fun b H1=>if b=true then ∃N:St->Hp->Prop,(∀ σ' H',N σ' H'->∃m',m'<m/\W m' σ' H')/\tb {D with nx:=N,ct:=N,bk:=D.nx} σ H1 else D.nx σ H1
theorem qjy{c:Expr}{body:List Stmt}{tc:TT}{tb:TS}(hp:PassesOwn (model X.prog X.w) X.A X.env X.xe)(hc:PT X c tc)(hb:PSs X body tb): PS X (.While c body [] pos) (qq3 tc tb):=by
 intro pins s σ H D I h;obtain⟨W,⟨m0,w0⟩,turn⟩:=h;refine wpAny_While (codeAny_whileLoop (fun n s'=>∃ σ' H',Inv X pins σ' H' s'/\W n σ' H') ?_ m0 ⟨σ,H,I,w0⟩)
 rintro n s1 ⟨σ1,H1,I1,w1⟩
 refine g1q hp (thn (hc pins s1 σ1 H1 _ I1 (turn n σ1 H1 w1)) fun b s2 ⟨H2,I2,q2⟩=>?_);cases b with
 | true=>
  obtain⟨N,hN,q2⟩:=q2;rw [md rfl];refine g1q hp (thn (hb pins s2 σ1 H2 _ I2 q2) fun f s3 q3=>?_);cases f with
  | next=>
   obtain⟨σ3,H3,I3,n3⟩:=q3;obtain⟨m',hm,w3⟩:=hN σ3 H3 n3;exact⟨m',hm, σ3,H3,I3,w3⟩
  | cont=>
   obtain⟨σ3,H3,I3,n3⟩:=q3;obtain⟨m',hm,w3⟩:=hN σ3 H3 n3;exact⟨m',hm, σ3,H3,I3,w3⟩
  | brk=>exact q3
  | ret v=>exact q3
 | false=>
  rw [mi mh];exact g4j ⟨σ1,H2,I2,q2⟩
end
structure It where
 go:Nat->Hp->Prop
 yld:Nat->Hp->V->Hp->Prop
 stop:Nat->Hp->Prop
def wm(X:Cx)(pins:List (Addr×Obj))(H:Hp)(b:Addr): Prop:=
 H b=none/\b≠X.env.locals/\b∉X.fs/\(b∈X.ex\/X.s₀.heap.objs.size<=b)/\(∀x c,X.env.cells.lookup x=some c->c≠b)/\∀p∈X.pn++pins,p.1≠b
theorem Inv.fpOk{X:Cx}{pins:List (Addr×Obj)}{σ : St}{H H':Hp}{s:Shared}{b:Addr}(I:Inv X pins σ H s)(hb:s.heap.objs.size<=b)(hn:H' b=none): wm X pins H' b:=by
 refine⟨hn,tu (gu I.lt hb),I.nofs hb,.inr (my I.sz hb),fun x c e z=>?_,fun p hp z=>?_⟩
 ·obtain⟨v,q⟩:=I.cell x c e
  exact absurd (gu q.lt (by rw [z];exact hb)) (g0q _)
 ·exact absurd (gu (gz (I.pin p hp).1) (by rw [z];exact hb)) (g0q _)
structure Turn(P:Program)(w:World)(K:PySem.W.Frag)(tg:Expr)(J:It)(fp:List Addr)(it:Addr)(tn:Nat->Heap->Prop): Prop where
 mem:it∈fp
 obj:∀i h,tn i h->∀b∈fp,∃o,h.get? b=some o/\∀v,o.data ≠ .cell v
 keep:∀i h h',tn i h->(∀b∈fp,∀o,h.get? b=some o->h'.get? b=some o)->tn i h'
 item:∀(X:Cx),X.prog=P->X.w=w->X.K=K->X.calm=true->∀(i:Nat) (pins:List (Addr×Obj)) (s:Shared) (σ : St) (H:Hp) (E:Value->Shared->Prop),Inv X pins σ H s->(∀b∈fp,wm X pins H b)->tn i s.heap->J.go i H ->
  wpAny (model P w) X.A (pyNext (.ref it)) (fun r s1=>∃u,r=some u /\
   wpAny (model P w) X.A (letOwnedTupleGo tg (.ref it) u) (fun _ s2=>∃x H',Inv X pins σ H' s2/\RelV x u/\J.yld i H x H'/\tn (i+1) s2.heap/\∀b∈fp,H' b=none) E s1) E s
 done:∀(X:Cx),X.prog=P->X.w=w->X.K=K->X.calm=true->∀(i:Nat) (pins:List (Addr×Obj)) (s:Shared) (σ : St) (H:Hp) (E:Value->Shared->Prop),Inv X pins σ H s->(∀b∈fp,wm X pins H b)->tn i s.heap->J.stop i H ->
  wpAny (model P w) X.A (pyNext (.ref it)) (fun r s1=>r=none/\Inv X pins σ H s1) E s
 self:∀(A:Around) (i:Nat) (s:Shared) (Q:Value->Shared->Prop) (E:Value->Shared->Prop),tn i s.heap->Q (.ref it) s->wpAny (model P w) A (pyIter (.ref it)) Q E s
abbrev TI:=St->Hp->(It->Hp->Prop)->Prop
def PIE(X:Cx)(pins:List (Addr×Obj))(σ : St)(tg:Expr)(R:It->Hp->Prop)(itv:Value)(s2:Shared): Prop:=
 ∃(it:Addr) (fp:List Addr) (tn:Nat->Heap->Prop) (J:It) (H':Hp),itv=.ref it/\Inv X pins σ H' s2/\Turn X.prog X.w X.K tg J fp it tn/\tn 0 s2.heap/\(∀b∈fp,wm X pins H' b)/\R J H'
def PI(X:Cx)(tg iter:Expr)(wi:TI): Prop:=
 ∀(pins:List (Addr×Obj)) (s:Shared) (σ : St) (H:Hp) (R:It->Hp->Prop),Inv X pins σ H s->wi σ H R ->
  wpAny (model X.prog X.w) X.A (eval iter X.env) (fun v s1=>wpAny (model X.prog X.w) X.A (pyIter v) (PIE X pins σ tg R) X.xe s1) X.xe s
theorem qfl{M:Model}{A:Around}{E:Value->Shared->Prop}{s:Shared}{tg:Expr}{it:Addr}{u:Value}{o:Obj}{n:String}{vs:Array Value}{Q:Unit->Shared->Prop}(ho:s.heap.get? it=some o)(hc:o.cls=.type n)(hd:o.data=.fields vs)
  (hn:["enumerate","zip","dict_itemiterator","dict_reverseitemiterator","odict_iterator","itertools.zip_longest","itertools.pairwise"].contains n=false) (hQ:Q () s):wpAny M A (letOwnedTupleGo tg (.ref it) u) Q E s:=by
 unfold letOwnedTupleGo;cases tg <;> first
  | exact g9 hQ
  | (cases u <;> first
    | exact g9 hQ
    | (refine g0 (wpAny_load ho ?_);rw [hc,hd];show wpAny M A (if(["enumerate","zip","dict_itemiterator","dict_reverseitemiterator","odict_iterator","itertools.zip_longest","itertools.pairwise"].contains n&&vs[0]? == some (rawInt _))=true then _ else _) Q E s;rw [mi (by intro h;rw [hn,g3e] at h;cases h)];exact g9 hQ))
def Itl(K:PySem.W.Frag)(a:Addr): It:=
 ⟨fun i H=>∃xs x,SqL K H a xs/\xs[i]? = some x,fun i H x H'=>H'=H/\∀xs,SqL K H a xs->xs[i]? = some x,fun i H=>∃xs,SqL K H a xs/\xs.length<=i⟩
def Itt(K:PySem.W.Frag)(a:Addr): It:=
 ⟨fun i H=>∃xs x,SqT K H a xs/\xs[i]? = some x,fun i H x H'=>H'=H/\∀xs,SqT K H a xs->xs[i]? = some x,fun i H=>∃xs,SqT K H a xs/\xs.length<=i⟩
def Itr(lo:Int)(n:Nat): It:=⟨fun i _=>i<n,fun i H x H'=>H'=H/\x=.int (lo+i),fun i _=>n<=i⟩
theorem qhf{P:Program}{w:World}{K:PySem.W.Frag}{tg:Expr}(a it:Addr): Turn P w K tg (Itl K a) [it] it (fun i h=>h.IsListIter it a i) where
 mem:=by simp
 obj:=fun i h st b hb=>by
  have e:b=it:=by simpa using hb
  subst e;obtain⟨o,e,c,d⟩:=st;exact⟨o,e,fun v z=>by rw [d] at z;cases z⟩
 keep:=fun i h h' st k=>st.at fun o e=>k it (by simp) o e
 item:=by
  intro X hP hw hK hc i pins s σ H E I hf st hg;subst hP hw hK;obtain⟨xs,x,hq,hx⟩:=hg;obtain⟨its,rv,p,hz⟩:=I.list hq;obtain⟨u,hu,ru⟩:=rv.get hx;obtain⟨f0,f1,f2,f3,f4,f5⟩:=hf it (by simp);refine g40 st p.isList (x:=u) (by simpa using hu) fun h' st' sb=>?_;have I1:Inv X pins σ H {s with heap:=h'}:=I.turned (t':=s.toks) (fun b o hb e=>(sb.2 b hb).trans e) f0 f1 f3 f4 f5;obtain⟨o,e,c,d⟩:=id st';exact⟨u,rfl,qfl (s:={s with heap:=h'}) e c d (by decide) ⟨x,H,I1,ru,⟨rfl,fun ys hy=>by rw [I.list_inj hy hq];exact hx⟩,st',fun b hb=>(hf b hb).1⟩⟩
 done:=by
  intro X hP hw hK hc i pins s σ H E I hf st hg;subst hP hw hK;obtain⟨xs,hq,hx⟩:=hg;obtain⟨its,rv,p,hz⟩:=I.list hq;obtain⟨f0,f1,f2,f3,f4,f5⟩:=hf it (by simp);have hl:=rv.length;exact g4d (I.ok.hd hc) st p.isList (by simp;omega) fun h' eb=>⟨rfl,I.turned (t':=s.toks) (fun b o hb e=>eb b o hb e) f0 f1 f3 f4 f5⟩
 self:=fun _ _ _ _ _ st h=>wpAny_pyIter_listiter st h
theorem qfm{P:Program}{w:World}{K:PySem.W.Frag}{tg:Expr}(a it:Addr): Turn P w K tg (Itt K a) [it] it (fun i h=>h.IsTupleIter it a i) where
 mem:=by simp
 obj:=fun i h st b hb=>by
  have e:b=it:=by simpa using hb
  subst e;obtain⟨o,e,c,d⟩:=st;exact⟨o,e,fun v z=>by rw [d] at z;cases z⟩
 keep:=fun i h h' st k=>st.at fun o e=>k it (by simp) o e
 item:=by
  intro X hP hw hK hc i pins s σ H E I hf st hg;subst hP hw hK;obtain⟨xs,x,hq,hx⟩:=hg;obtain⟨its,rv,p,hz⟩:=I.tuple hq;obtain⟨u,hu,ru⟩:=rv.get hx;obtain⟨f0,f1,f2,f3,f4,f5⟩:=hf it (by simp);refine wpAny_pyNext_tuple_item st (show s.heap.IsTuple a its.toArray from p) (x:=u) (by simpa using hu) fun h' st' sb=>?_;have I1:Inv X pins σ H {s with heap:=h'}:=I.turned (t':=s.toks) (fun b o hb e=>(sb.2 b hb).trans e) f0 f1 f3 f4 f5;obtain⟨o,e,c,d⟩:=id st';exact⟨u,rfl,qfl (s:={s with heap:=h'}) e c d (by decide) ⟨x,H,I1,ru,⟨rfl,fun ys hy=>by rw [I.tuple_inj hy hq];exact hx⟩,st',fun b hb=>(hf b hb).1⟩⟩
 done:=by
  intro X hP hw hK hc i pins s σ H E I hf st hg;subst hP hw hK;obtain⟨xs,hq,hx⟩:=hg;obtain⟨its,rv,p,hz⟩:=I.tuple hq;obtain⟨f0,f1,f2,f3,f4,f5⟩:=hf it (by simp);have hl:=rv.length;exact wpAny_pyNext_tuple_end (I.ok.hd hc) st (show s.heap.IsTuple a its.toArray from p) (by simp;omega) fun h' eb=>⟨rfl,I.turned (t':=s.toks) (fun b o hb e=>eb b o hb e) f0 f1 f3 f4 f5⟩
 self:=fun _ _ _ _ _ st h=>wpAny_pyIter_tupleiter st h
theorem qfn{P:Program}{w:World}{K:PySem.W.Frag}{tg:Expr}(it:Addr)(lo:Int)(n:Nat): Turn P w K tg (Itr lo n) [it] it (fun i h=>IsRangeIter h it (lo+(i:Nat)*1) ((n:Int)-(i:Nat)) 1) where
 mem:=by simp
 obj:=fun i h st b hb=>by
  have e:b=it:=by simpa using hb
  subst e;exact⟨_,st,fun v z=>by
   have z':Data.fields _=Data.cell v:=z;cases z'⟩
 keep:=fun i h h' st k=>k it (by simp) _ st
 item:=by
  intro X hP hw hK hc i pins s σ H E I hf st hg;subst hP hw hK;obtain⟨f0,f1,f2,f3,f4,f5⟩:=hf it (by simp);have W:=Walks.range (prog:=X.prog) (w:=X.w) (I.ok.hd hc) it lo 1 n;refine W.item i s _ _ hg st fun v h' tk hv st' kk=>?_;obtain⟨t,rfl⟩:=hv;have I1:Inv X pins σ H {s with heap:=h',toks:=tk}:=I.turned (fun b o hb e=>kk b o (by simpa using hb) e) f0 f1 f3 f4 f5;refine⟨_,rfl,qfl (s:={s with heap:=h',toks:=tk}) (n:="range_iterator") st' rfl rfl (by decide) ⟨.int (lo+i),H,I1,⟨t,?_⟩,⟨rfl,rfl⟩,st',fun b hb=>(hf b hb).1⟩⟩;rw [Int.mul_one]
 done:=by
  intro X hP hw hK hc i pins s σ H E I hf st hg;subst hP hw hK;obtain⟨f0,f1,f2,f3,f4,f5⟩:=hf it (by simp);exact wpAny_pyNext_range_end (I.ok.hd hc) st (by have:n<=i:=hg;omega) fun h' eb=>⟨rfl,I.turned (t':=s.toks) (fun b o hb e=>eb b o hb e) f0 f1 f3 f4 f5⟩
 self:=fun _ _ _ _ _ st h=>wpAny_pyIter_rangeiter st h
section
variable{X:Cx}{tg:Expr}
theorem qb1{pins:List (Addr×Obj)}{σ : St}{H:Hp}{s:Shared}{R:It->Hp->Prop}{E:Value->Shared->Prop}{lo hi:Int}{t u v:Tok}{tk:Nat}(I:Inv X pins σ H s)(h1 : -(2 ^ 62)<=lo)(h2:lo<2 ^ 62)(h3 : -(2 ^ 62)<=hi)(h4:hi<2 ^ 62)
  (q:R (Itr lo (hi-lo).toNat) H):wpAny (model X.prog X.w) X.A (pyIter (.ref s.heap.objs.size)) (PIE X pins σ tg R) E {s with heap:=s.heap.push {cls:=.type "range",data:=.fields #[.int lo t,.int hi u,.int 1 v]},toks:=tk}:=by
 refine wpAny_pyIter_range (IsRange.new ..) (small_one h1 h2 h3 h4) ?_;have I1:Inv X pins σ H {s with heap:=s.heap.push {cls:=.type "range",data:=.fields #[.int lo t,.int hi u,.int 1 v]},toks:=tk}:=I.kept fun b o e=>gd _ e;refine⟨(s.heap.push {cls:=.type "range",data:=.fields #[.int lo t,.int hi u,.int 1 v]}).objs.size,[(s.heap.push {cls:=.type "range",data:=.fields #[.int lo t,.int hi u,.int 1 v]}).objs.size],_,_,H,rfl,
  I1.kept (t':=tk) fun b o e=>gd _ e,qfn _ lo (hi-lo).toNat,?_,fun b hb=>?_,q⟩
 ·have e1:lo+((0:Nat):Int)*1=lo:=by simp
  have e2:(((hi-lo).toNat:Nat):Int)-((0:Nat):Int)=Builtin.Range.rangeSize lo hi 1:=by rw [rangeSize_one];split <;> omega
  show IsRangeIter _ _ (lo+((0:Nat):Int)*1) ((((hi-lo).toNat:Nat):Int)-((0:Nat):Int)) 1;rw [e1,e2];exact gf _ rfl
 ·have e:b=(s.heap.push {cls:=.type "range",data:=.fields #[.int lo t,.int hi u,.int 1 v]}).objs.size:=by simpa using hb
  subst e;exact I1.fpOk (gw _) (I1.hok.fresh (gw _))
def qsh(ta:TA): TI:=fun σ H R=>ta σ H fun vs H1=>∃j:Int,vs=[.int j] /\ -(2 ^ 62)<=j/\j<2 ^ 62/\R (Itr 0 j.toNat) H1
def qsi(ta:TA): TI:=fun σ H R=>ta σ H fun vs H1=>∃i j:Int,vs=[.int i,.int j]/\(-(2 ^ 62)<=i/\i<2 ^ 62 /\ -(2 ^ 62)<=j/\j<2 ^ 62)/\R (Itr i (j-i).toNat) H1
theorem qhg{a:Expr}{ta:TA}{p pos:Pos}(hg:Gl X "range")(hm:X.mg "range" = none)(ha:PA X [a] ta)(hs:starEach [a] X.env=[(false,eval a X.env)]:=by rfl): PI X tg (.Call (.Name "range" p) [a] [] pos) (qsh ta):=by
 intro pins s σ H R I h;refine Call_ (q16 I hg hm boot_range (g1k (thn (ha pos pins s σ H _ I h) fun us s1 ⟨vs,H1,I1,r1,q1⟩=>?_) hs rfl));obtain⟨j,e,q1,q2,q⟩:=q1;subst e;cases r1 with
 | cons r rr=>
  cases rr;obtain⟨t,rfl⟩:=r;exact call_range_1 (qb1 I1 (by omega) (by omega) q1 q2 (by simpa using q))
theorem qhh{a b:Expr}{ta:TA}{p pos:Pos}(hg:Gl X "range")(hm:X.mg "range" = none)(ha:PA X [a,b] ta)(hs:starEach [a,b] X.env=[(false,eval a X.env),(false,eval b X.env)]:=by rfl)(hs2:starEach [b] X.env=[(false,eval b X.env)]:=by rfl):
  PI X tg (.Call (.Name "range" p) [a,b] [] pos) (qsi ta):=by
 intro pins s σ H R I h;refine Call_ (q16 I hg hm boot_range (g1k (thn (ha pos pins s σ H _ I h) fun us s1 ⟨vs,H1,I1,r1,q1⟩=>?_) (by rw [hs,hs2]) (by rw [hs2];rfl)));obtain⟨i,j,e,⟨q1,q2,q3,q4⟩,q⟩:=q1;subst e;cases r1 with
 | cons r rr=>
  cases rr with
  | cons r' rr=>
   cases rr;obtain⟨t,rfl⟩:=r;obtain⟨t',rfl⟩:=r';exact call_range_2 (qb1 I1 q1 q2 q3 q4 q)
def qtn(wi:TI)(g:TG)(tb:TS): TS:=fun D σ H=>wi σ H fun J H1=>∃W:Nat->Nat->St->Hp->Prop,(∃m,W 0 m σ H1)/\∀i m σ H,W i m σ H ->
 (J.stop i H/\D.nx σ H)\/(J.go i H/\∃N:St->Hp->Prop,(∀ σ' H',N σ' H'->∃m',m'<m/\W (i+1) m' σ' H')/\∀x H',J.yld i H x H'->g x σ H' fun σ2 H2=>tb {D with nx:=N,ct:=N,bk:=D.nx} σ2 H2)
def q3d(fp:List Addr)(h:Heap): List (Addr×Obj):=fp.filterMap fun b=>(h.get? b).map fun o=>(b,o)
theorem q1m{fp:List Addr}{h:Heap}{b:Addr}{o:Obj}(hb:b∈fp)(e:h.get? b=some o): (b,o)∈q3d fp h:=g52.mpr ⟨b,hb,by rw [e];rfl⟩
theorem qhi{fp:List Addr}{h:Heap}{p:Addr×Obj}(hp:p∈q3d fp h): p.1∈fp/\h.get? p.1=some p.2:=by
 obtain⟨b,hb,e⟩:=g52.mp hp;cases q:h.get? b with
 | none=>rw [q] at e;cases e
 | some o=>
  rw [q] at e;have e':(b,o)=p:=mf e;subst e';exact⟨hb,q⟩
theorem Inv.pinned{pins:List (Addr×Obj)}{σ : St}{H:Hp}{s:Shared}{fp:List Addr}(I:Inv X pins σ H s)(hf:∀b∈fp,wm X pins H b)(ho:∀b∈fp,∃o,s.heap.get? b=some o/\∀v,o.data ≠ .cell v): Inv X (pins++q3d fp s.heap) σ H s:=
 I.pins_of fun p hp=>(nz.mp hp).elim (fun z=>I.pin p (nt _ z)) fun z=>by
  obtain⟨hb,e⟩:=qhi z;obtain⟨f0,f1,f2,_⟩:=hf p.1 hb;obtain⟨o,e',d⟩:=ho p.1 hb;rw [e] at e';cases e';exact⟨e,f0,f1,f2,d⟩
theorem Inv.unpinned{pins pl:List (Addr×Obj)}{σ : St}{H:Hp}{s:Shared}(I:Inv X (pins++pl) σ H s): Inv X pins σ H s:=I.pins_of fun p hp=>I.pin p (nt _ (g2l _ hp))
theorem qhj{iter:Expr}{body:List Stmt}{wi:TI}{g:TG}{tb:TS}{pos:Pos}(hp:PassesOwn (model X.prog X.w) X.A X.env X.xe)(hc:X.calm=true)(hi:PI X tg iter wi)(hg:PG X tg g)(hb:PSs X body tb)
  (hs:∀x,foldedSetIterable iter X.env x=pure x:=by intro _;rfl):PS X (.For tg iter body [] pos) (qtn wi g tb):=by
 intro pins s σ H D I h;refine wpAny_For (thn (hi pins s σ H _ I h) fun v s1 h1=>thn h1 fun itv s2 h2=>?_) hs;obtain⟨it,fp,tn,J,H2,e,I2,T,st2,f2,W,⟨m0,w0⟩,turn⟩:=h2;subst e
 -- what stays true of the iterator's objects through the loop
 have stat:∀ {H':Hp},(∀b∈fp,H' b=none)->∀b∈fp,wm X pins H' b:=fun hn b hb=>⟨hn b hb,(f2 b hb).2⟩
 refine codeAny_forLoop_any (fun n s'=>∃i σ' H',Inv X pins σ' H' s'/\tn i s'.heap/\(∀b∈fp,H' b=none)/\W i n σ' H') ?_ m0 ⟨0, σ,H2,I2,st2,fun b hb=>(f2 b hb).1,w0⟩
 rintro n s3 ⟨i, σ3,H3,I3,st3,fr3,w3⟩
 rcases turn i n σ3 H3 w3 with⟨stop,qn⟩|⟨go,N,hN,step⟩
 ·refine g1q hp (thn (T.done X rfl rfl rfl hc i pins s3 σ3 H3 X.xe I3 (stat fr3) st3 stop) fun r s4 ⟨hr,I4⟩=>?_)
  subst hr;exact g4j ⟨σ3,H3,I4,qn⟩
 ·refine g1q hp (thn (T.item X rfl rfl rfl hc i pins s3 σ3 H3 X.xe I3 (stat fr3) st3 go) fun r s4 ⟨u,hr,h4⟩=>?_)
  subst hr;refine g1q hp (thn h4 fun _ s5 ⟨x,H5,I5,r5,y5,st5,fr5⟩=>?_);have I5':=I5.pinned (stat fr5) (T.obj _ _ st5);refine g1q hp (thn (hg _ s5 σ3 H5 x u _ I5' r5 (step x H5 y5)) fun _ s6 ⟨σ6,H6,I6,q6⟩=>?_);refine g1q hp (thn (hb _ s6 σ6 H6 _ I6 q6) fun f s7 q7=>?_);have again:∀ {σ7:St} {H7:Hp},Inv X (pins++q3d fp s5.heap) σ7 H7 s7->N σ7 H7->∃m,m<n/\∃i σ' H',Inv X pins σ' H' s7/\tn i s7.heap/\(∀b∈fp,H' b=none)/\W i m σ' H':=fun {σ7 H7} I7 n7=>by
   obtain⟨m',hm,w7⟩:=hN σ7 H7 n7;refine⟨m',hm,i+1, σ7,H7,I7.unpinned,T.keep _ _ _ st5 fun b hb o e=>(I7.pin (b,o) (nt _ (nt _ (q1m hb e)))).1,fun b hb=>?_,w7⟩;obtain⟨o,e,d⟩:=T.obj _ _ st5 b hb;exact(I7.pin (b,o) (nt _ (nt _ (q1m hb e)))).2.1
  cases f with
  | next=>obtain⟨σ7,H7,I7,n7⟩:=q7;exact again I7 n7
  | cont=>obtain⟨σ7,H7,I7,n7⟩:=q7;exact again I7 n7
  | brk=>obtain⟨σ7,H7,I7,q7⟩:=q7;exact⟨σ7,H7,I7.unpinned,q7⟩
  | ret v=>obtain⟨x7, σ7,H7,I7,r7,q7⟩:=q7;exact⟨x7, σ7,H7,I7.unpinned,r7,q7⟩
end
abbrev R2:=V->V->Hp->VK->Prop
def OpR(X:Cx)(f:Value->Value->Sem Value)(r:R2): Prop:=
 ∀(pins:List (Addr×Obj)) (s:Shared) (σ : St) (H:Hp) (x y:V) (v u:Value) (Q:VK),Inv X pins σ H s->RelV x v->RelV y u->r x y H Q ->
  wpAny (model X.prog X.w) X.A (f v u) (EP X pins σ Q) X.xe s
def jz(X:Cx)(f:Value)(r:List V->Hp->VK->Prop): Prop:=
 ∀(pins:List (Addr×Obj)) (s:Shared) (σ : St) (H:Hp) (xs:List V) (us:List Value) (Q:VK),Inv X pins σ H s->Vals xs us->r xs H Q ->
  wpAny (model X.prog X.w) X.A (call f us) (EP X pins σ Q) X.xe s
def qto(X:Cx)(r:V->Hp->(Bool->Hp->Prop)->Prop): Prop:=
 ∀(pins:List (Addr×Obj)) (s:Shared) (σ : St) (H:Hp) (x:V) (v:Value) (Q:Bool->Hp->Prop),Inv X pins σ H s->RelV x v->r x H Q ->
  wpAny (model X.prog X.w) X.A (truthy v) (TP X pins σ Q) X.xe s
def tOp(r:R2)(ta tb:TE): TE:=fun σ H Q=>ta σ H fun x H1=>tb σ H1 fun y H2=>r x y H2 Q
def rI(C:Int->Int->Prop)(g:Int->Int->V): R2:=fun x y H Q=>∃i j,x=.int i/\y=.int j/\C i j/\Q (g i j) H
def rI0(g:Int->Int->V): R2:=fun x y H Q=>∃i j,x=.int i/\y=.int j/\Q (g i j) H
section
variable{X:Cx}{a b c:Expr}{ta tb tc:TE}{pos:Pos}
theorem qjz(ha:PE X a ta)(hb:PE X b tb){pins:List (Addr×Obj)}{s:Shared}{σ : St}{H:Hp}{R:V->V->Hp->Prop}(I:Inv X pins σ H s)
  (h:ta σ H fun x H1=>tb σ H1 fun y H2=>R x y H2) {Q:Value->Shared->Prop} {f:Value->Value->Sem Value}
  (hf:∀v u s2 x y H2,Inv X pins σ H2 s2->RelV x v->RelV y u->R x y H2->wpAny (model X.prog X.w) X.A (f v u) Q X.xe s2) :
  wpAny (model X.prog X.w) X.A (eval a X.env) (fun v s₁=>wpAny (model X.prog X.w) X.A (eval b X.env) (fun u s₂=>wpAny (model X.prog X.w) X.A (f v u) Q X.xe s₂) X.xe s₁) X.xe s:=by
 refine thn (ha pins s σ H _ I h) fun v s1 ⟨x,H1,I1,r1,q1⟩=>?_;refine thn (hb pins s1 σ H1 _ I1 q1) fun u s2 ⟨y,H2,I2,r2,q2⟩=>?_;exact hf v u s2 x y H2 I2 r1 r2 q2
theorem qmt{op:Operator}{r:R2}(ho:OpR X (binaryOp op) r)(ha:PE X a ta)(hb:PE X b tb): PE X (.BinOp a op b pos) (tOp r ta tb):=by
 intro pins s σ H Q I h;exact wpAny_BinOp (qjz ha hb I h fun v u s2 x y H2 I2 rx ry q=>ho pins s2 σ H2 x y v u Q I2 rx ry q)
theorem opI{f:Value->Value->Sem Value}{C:Int->Int->Prop}{g:Int->Int->Int}
  (rule:∀(i j:Int) (t u:Tok) (s:Shared) (Q:Value->Shared->Prop) (E:Value->Shared->Prop),C i j->Q (.int (g i j) s.toks) {s with toks:=s.toks+1}->wpAny (model X.prog X.w) X.A (f (.int i t) (.int j u)) Q E s) :
  OpR X f (rI C fun i j=>.int (g i j)):=by
 intro pins s σ H x y v u Q I rx ry h;obtain⟨i,j,rfl,rfl,hc,q⟩:=h;obtain⟨t,rfl⟩:=rx;obtain⟨t',rfl⟩:=ry;exact rule i j t t' s _ _ hc ⟨.int (g i j),H,I.tok _,⟨_,rfl⟩,q⟩
theorem qk0{f:Value->Value->Sem Value}{g:Int->Int->Int}
  (rule:∀(i j:Int) (t u:Tok) (s:Shared) (Q:Value->Shared->Prop) (E:Value->Shared->Prop),Q (.int (g i j) s.toks) {s with toks:=s.toks+1}->wpAny (model X.prog X.w) X.A (f (.int i t) (.int j u)) Q E s) :
  OpR X f (rI0 fun i j=>.int (g i j)):=by
 intro pins s σ H x y v u Q I rx ry h;obtain⟨i,j,rfl,rfl,q⟩:=h;obtain⟨t,rfl⟩:=rx;obtain⟨t',rfl⟩:=ry;exact rule i j t t' s _ _ ⟨.int (g i j),H,I.tok _,⟨_,rfl⟩,q⟩
theorem qk1{f:Value->Value->Sem Value}{g:Int->Int->Bool}
  (rule:∀(i j:Int) (t u:Tok) (s:Shared) (Q:Value->Shared->Prop) (E:Value->Shared->Prop),Q (.bool (g i j)) s->wpAny (model X.prog X.w) X.A (f (.int i t) (.int j u)) Q E s) :
  OpR X f (rI0 fun i j=>.bl (g i j)):=by
 intro pins s σ H x y v u Q I rx ry h;obtain⟨i,j,rfl,rfl,q⟩:=h;obtain⟨t,rfl⟩:=rx;obtain⟨t',rfl⟩:=ry;exact rule i j t t' s _ _ ⟨.bl (g i j),H,I,rfl,q⟩
def qtp(i j:Int): Prop:=0<j/\j<1073741824
def qq4(i j:Int): Prop:=0<=j/\j<=1000000/\i.natAbs<2 ^ 64
def CMul(i j:Int): Prop:=(-(2 ^ 64)<i/\i<2 ^ 64)\/(-(2 ^ 64)<j/\j<2 ^ 64)
theorem CMul.ok{i j:Int}(h:CMul i j): IntMulOk i j:=by
 rcases h with⟨h1,h2⟩|⟨h1,h2⟩
 ·exact .of_left (intBits_le_64 h1 h2)
 ·exact .of_right (intBits_le_64 h1 h2)
theorem qq5:OpR X (binaryOp .Add) (rI0 fun i j=>.int (i+j)):=qk0 fun _ _ _ _ _ _ _ q=>add_int q
theorem qq6:OpR X (binaryOp .Sub) (rI0 fun i j=>.int (i-j)):=qk0 fun _ _ _ _ _ _ _ q=>sub_int q
theorem qq7:OpR X (binaryOp .Mult) (rI CMul fun i j=>.int (i*j)):=opI fun _ _ _ _ _ _ _ hc q=>mul_int q hc.ok
theorem qni:OpR X (binaryOp .FloorDiv) (rI qtp fun i j=>.int (i / j)):=opI fun i j _ _ _ _ _ hc q=>by
 have h1:(0:Int)<j:=hc.1;have h2:j<1073741824:=hc.2;exact floordiv_int (by omega) (by rw [Int.fdiv_eq_ediv_of_nonneg i (by omega)];exact q) (.inl (PyProof.noPylong_small (by omega)))
theorem qq8:OpR X (binaryOp .Mod) (rI (fun _ j=>0<j) fun i j=>.int (i%j)):=opI fun i j _ _ _ _ _ hc q=>by
 have h1:(0:Int)<j:=hc;exact mod_int' (by omega) (by rw [Int.fmod_eq_emod_of_nonneg i (by omega)];exact q)
theorem qq9:OpR X (binaryOp .Pow) (rI qq4 fun i j=>.int (i ^ j.toNat)):=opI fun _ _ _ _ _ _ _ hc q=>pow_int_small hc.1 hc.2.1 hc.2.2 q
theorem qqa:OpR X (binaryOp .LShift) (rI qq4 fun i j=>.int (i*2 ^ j.toNat)):=opI fun _ _ _ _ _ _ _ hc q=>lshift_int_small hc.1 hc.2.1 hc.2.2 q
theorem qqb:OpR X (binaryOp .BitAnd) (rI0 fun i j=>.int (Builtin.bitAnd i j)):=qk0 fun _ _ _ _ _ _ _ q=>and_int q
end
def q8o:V->V->Bool
 | .non,.non=>true | .non,.int _=>true | .int _,.non=>true | .non,.bl _=>true | .bl _,.non=>true | .non,.str _=>true | .str _,.non=>true
 | .int _,.int _=>true | .bl _,.bl _=>true | .str _,.str _=>true | .byt _,.byt _=>true
 | .int _,.str _=>true | .str _,.int _=>true | .bl _,.str _=>true | .str _,.bl _=>true
 | _,_=>false
def rEq:R2:=fun x y H Q=>q8o x y=true/\Q (.bl (decide (x=y))) H
def rNe:R2:=fun x y H Q=>q8o x y=true/\Q (.bl (!decide (x=y))) H
theorem qek{i j:Int}: decide (V.int i=V.int j)=(i==j):=by
 rw [g02];simp
theorem qhk{i j:Bool}: decide (V.bl i=V.bl j)=(i==j):=by
 rw [g02];simp
theorem qel{i j:Str}: decide (V.str i=V.str j)=(i==j):=by
 rw [g02];simp
theorem qem{i j:Array UInt8}: decide (V.byt i=V.byt j)=(i.toList==j.toList):=by
 rw [g02];cases i;cases j;simp
section
variable{X:Cx}{a b c:Expr}{ta tb tc:TE}{pos:Pos}
theorem zj{pins:List (Addr×Obj)}{σ : St}{H:Hp}{s:Shared}{Q:VK}{k k':Bool}(I:Inv X pins σ H s)(q:Q (.bl k) H)(e:k=k'): EP X pins σ Q (.bool k') s:=by
 subst e;exact⟨.bl k,H,I,rfl,q⟩
theorem qsj:OpR X (compareOp .Eq) rEq:=by
 intro pins s σ H x y v u Q I rx ry h;obtain⟨hs,q⟩:=h;cases x with
 | non=>
  cases rx;cases y with
  | non=>cases ry;exact PySem.EqNone.eq_none_none (zj I q (by simp))
  | bl j=>cases ry;exact PySem.EqNone.eq_none_bool (zj I q (by simp))
  | int j=>obtain⟨t',rfl⟩:=ry;exact PySem.EqNone.eq_none_int (zj I q (by simp))
  | str j=>obtain⟨t',rfl⟩:=ry;exact PySem.EqNone.eq_none_str (zj I q (by simp))
  | _=>exact absurd (show false=true from hs) mh
 | bl i=>
  cases rx;cases y with
  | non=>cases ry;exact PySem.EqNone.eq_bool_none (zj I q (by simp))
  | bl j=>cases ry;exact eq_bool (zj I q qhk)
  | str j=>obtain⟨t',rfl⟩:=ry;exact PySem.EqMixed.eq_bool_str (zj I q (by simp))
  | _=>exact absurd (show false=true from hs) mh
 | int i=>
  obtain⟨t,rfl⟩:=rx;cases y with
  | non=>cases ry;exact PySem.EqNone.eq_int_none (zj I q (by simp))
  | int j=>obtain⟨t',rfl⟩:=ry;exact eq_int (zj I q qek)
  | str j=>obtain⟨t',rfl⟩:=ry;exact PySem.EqMixed.eq_int_str (zj I q (by simp))
  | _=>exact absurd (show false=true from hs) mh
 | str i=>
  obtain⟨t,rfl⟩:=rx;cases y with
  | non=>cases ry;exact PySem.EqNone.eq_str_none (zj I q (by simp))
  | bl j=>cases ry;exact PySem.EqMixed.eq_str_bool (zj I q (by simp))
  | int j=>obtain⟨t',rfl⟩:=ry;exact PySem.EqMixed.eq_str_int (zj I q (by simp))
  | str j=>obtain⟨t',rfl⟩:=ry;exact eq_str (zj I q qel)
  | _=>exact absurd (show false=true from hs) mh
 | byt i=>
  obtain⟨t,rfl⟩:=rx;cases y with
  | byt j=>obtain⟨t',rfl⟩:=ry;exact PySem.W.eq_bytes (zj I q qem)
  | _=>exact absurd (show false=true from hs) mh
 | _=>cases y <;> exact absurd (show false=true from hs) mh
theorem qsk:OpR X (compareOp .NotEq) rNe:=by
 intro pins s σ H x y v u Q I rx ry h;obtain⟨hs,q⟩:=h;cases x with
 | non=>
  cases rx;cases y with
  | non=>cases ry;exact PySem.EqNone.ne_none_none (zj I q (by simp))
  | bl j=>cases ry;exact PySem.EqNone.ne_none_bool (zj I q (by simp))
  | int j=>obtain⟨t',rfl⟩:=ry;exact PySem.EqNone.ne_none_int (zj I q (by simp))
  | str j=>obtain⟨t',rfl⟩:=ry;exact PySem.EqNone.ne_none_str (zj I q (by simp))
  | _=>exact absurd (show false=true from hs) mh
 | bl i=>
  cases rx;cases y with
  | non=>cases ry;exact PySem.EqNone.ne_bool_none (zj I q (by simp))
  | bl j=>cases ry;exact ne_bool (zj I q (g0d not qhk))
  | str j=>obtain⟨t',rfl⟩:=ry;exact PySem.EqMixed.ne_bool_str (zj I q (by simp))
  | _=>exact absurd (show false=true from hs) mh
 | int i=>
  obtain⟨t,rfl⟩:=rx;cases y with
  | non=>cases ry;exact PySem.EqNone.ne_int_none (zj I q (by simp))
  | int j=>obtain⟨t',rfl⟩:=ry;exact ne_int (zj I q (g0d not qek))
  | str j=>obtain⟨t',rfl⟩:=ry;exact PySem.EqMixed.ne_int_str (zj I q (by simp))
  | _=>exact absurd (show false=true from hs) mh
 | str i=>
  obtain⟨t,rfl⟩:=rx;cases y with
  | non=>cases ry;exact PySem.EqNone.ne_str_none (zj I q (by simp))
  | bl j=>cases ry;exact PySem.EqMixed.ne_str_bool (zj I q (by simp))
  | int j=>obtain⟨t',rfl⟩:=ry;exact PySem.EqMixed.ne_str_int (zj I q (by simp))
  | str j=>obtain⟨t',rfl⟩:=ry;exact ne_str (zj I q (g0d not qel))
  | _=>exact absurd (show false=true from hs) mh
 | byt i=>
  obtain⟨t,rfl⟩:=rx;cases y with
  | byt j=>obtain⟨t',rfl⟩:=ry;exact PySem.W.ne_bytes (zj I q (g0d not qem))
  | _=>exact absurd (show false=true from hs) mh
 | _=>cases y <;> exact absurd (show false=true from hs) mh
theorem qsl:OpR X (compareOp .Lt) (rI0 fun i j=>.bl (decide (i<j))):=qk1 fun _ _ _ _ _ _ _ q=>lt_int q
theorem qsm:OpR X (compareOp .Gt) (rI0 fun i j=>.bl (decide (j<i))):=qk1 fun _ _ _ _ _ _ _ q=>gt_int q
theorem qsn:OpR X (compareOp .GtE) (rI0 fun i j=>.bl (decide (j<=i))):=qk1 fun _ _ _ _ _ _ _ q=>ge_int q
theorem qnj{op:CmpOp}{r:R2}(ho:OpR X (compareOp op) r)(ha:PE X a ta)(hb:PE X b tb)(hm:behindInMarks op b=false): PE X (.Compare a [op] [b] pos) (tOp r ta tb):=by
 intro pins s σ H Q I h;exact wpAny_Compare1 (qjz ha hb I h fun v u s2 x y H2 I2 rx ry q=>ho pins s2 σ H2 x y v u Q I2 rx ry q) hm
def qso(t:TE): TT:=fun σ H Q=>t σ H fun x H'=>∃k,x=.bl k/\Q k H'
theorem qnk{op:CmpOp}{r:R2}(ho:OpR X (compareOp op) r)(ha:PE X a ta)(hb:PE X b tb)(hm:behindInMarks op b=false): PT X (.Compare a [op] [b] pos) (qso (tOp r ta tb)):=by
 intro pins s σ H Q I h;refine wpAny_isTrue_Compare1 (thn (ha pins s σ H _ I h) fun v s1 ⟨x,H1,I1,r1,q1⟩=>thn (hb pins s1 σ H1 _ I1 q1) fun u s2 ⟨y,H2,I2,r2,q2⟩=>
  thn (ho pins s2 σ H2 x y v u _ I2 r1 r2 q2) fun c s3 ⟨z,H3,I3,r3,k,e,q3⟩=>?_) hm
 subst e;cases r3;exact g1t ⟨H3,I3,q3⟩
def qk2(K:PySem.W.Frag)(x:V)(H:Hp)(k:Bool): Prop:=
 match x with
 | .non=>k=false
 | .bl b=>k=b
 | .int i=>k=(i != 0)
 | .str y=>y.length<=sizeLine/\k=((y.length:Int) != 0)
 | .byt y=>y.size<=sizeLine/\k=((y.size:Int) != 0)
 | .ref p=>(∃xs,SqL K H p xs/\k = !xs.isEmpty)\/(∃xs,SqT K H p xs/\k = !xs.isEmpty)\/∃kvs,H p=some (.dK kvs)/\k = !kvs.isEmpty
 | _=>False
theorem qfo{κ : Type}{kvs:List (κ × V)}{vs:List (κ × Value)}(r:KV kvs vs): (!vs.isEmpty) = !kvs.isEmpty:=by
 cases r <;> rfl
theorem q7j{xs:List V}{its:List Value}(r:Vals xs its): (!its.toArray.isEmpty) = !xs.isEmpty:=by
 cases r <;> simp
theorem q4p:(sizeLine:Nat)<2 ^ 63:=by rw [g2b];decide
theorem qqc:qto X (fun x H Q=>∃k,qk2 X.K x H k/\Q k H):=by
 intro pins s σ H x v Q I rx h;obtain⟨k,e,q⟩:=h;have hl:=q4p;have hs:sizeLine=16777216:=g2b;cases x with
 | non=>
  cases rx;have e':k=false:=e;subst e';exact truthy_none ⟨H,I,q⟩
 | bl b=>
  cases rx;have e':k=b:=e;subst e';exact g1t ⟨H,I,q⟩
 | int i=>
  obtain⟨t,rfl⟩:=rx;have e':k=(i != 0):=e;subst e';exact PySem.P.truthy_int ⟨H,I,q⟩
 | str y=>
  obtain⟨t,rfl⟩:=rx;obtain⟨hy,e'⟩:y.length<=sizeLine/\k=((y.length:Int) != 0):=e;subst e';exact PySem.P.truthy_str (by omega) ⟨H,I.tok _,q⟩
 | byt y=>
  obtain⟨t,rfl⟩:=rx;obtain⟨hy,e'⟩:y.size<=sizeLine/\k=((y.size:Int) != 0):=e;subst e';exact PySem.W.truthy_bytes (by omega) ⟨H,I.tok _,q⟩
 | ref p=>
  cases rx;have e':(∃xs,SqL X.K H p xs/\k = !xs.isEmpty)\/(∃xs,SqT X.K H p xs/\k = !xs.isEmpty)\/∃kvs,H p=some (.dK kvs)/\k = !kvs.isEmpty:=e;rcases e' with⟨xs,hx,e'⟩|⟨xs,hx,e'⟩|⟨kvs,hx,e'⟩
  ·subst e'
   obtain⟨its,r,pl,hz⟩:=I.list hx;have hlen:=r.length;exact wpAny_truthy_list pl.isList (by simp only [gv];omega) ⟨H,I.tok _,by rw [q7j r];exact q⟩
  ·subst e'
   obtain⟨its,r,pl,hz⟩:=I.tuple hx;have hlen:=r.length;exact truthy_tuple pl (by simp only [gv];omega) ⟨H,I.tok _,by rw [q7j r];exact q⟩
  ·subst e'
   obtain⟨hz,hS,vs,r,m⟩:kvs.length<=sizeLine/\(p==sysModules)=false/\∃vs,KV kvs vs/\s.heap.DictOf (mixKind X.prog X.w) p vs:=I.hok p _ hx;have hlen:kvs.length=vs.length:=g58 r;exact wpAny_truthy_dict hS m (by omega) ⟨H,I.tok _,by rw [qfo r];exact q⟩
 | _=>exact(show False from e).elim
theorem qk3(ha:PE X a ta)(he:∀whole,isTrue a X.env whole=(do let v <- whole;standAt a.pos;holding [v] (truthy v))):
  PT X a (fun σ H Q=>ta σ H fun x H'=>∃k,qk2 X.K x H' k/\Q k H'):=by
 intro pins s σ H Q I h;exact isTrue_plain (thn (ha pins s σ H _ I h) fun v s1 ⟨x,H1,I1,r1,q1⟩=>qqc pins s1 σ H1 x v Q I1 r1 q1) (he _)
theorem vals1{x:V}{us:List Value}(r:Vals [x] us): ∃u,us=[u]/\RelV x u:=by
 cases r with
 | cons r1 r2=>cases r2;exact⟨_,rfl,r1⟩
theorem vals2{x y:V}{us:List Value}(r:Vals [x,y] us): ∃u w',us=[u,w']/\RelV x u/\RelV y w':=by
 cases r with
 | cons r1 r2=>
  cases r2 with
  | cons r3 r4=>cases r4;exact⟨_,_,rfl,r1,r3⟩
theorem qhl(hc:X.calm=true): jz X (.builtin "max") (fun xs H Q=>∃i j,xs=[.int i,.int j]/\Q (.int (if j>i then j else i)) H):=by
 intro pins s σ H xs us Q I r h;obtain⟨i,j,rfl,q⟩:=h;obtain⟨u,w',rfl,⟨t,rfl⟩,⟨t',rfl⟩⟩:=vals2 r;refine max_two_ints (I.ok.hd hc) fun h' tk k=>⟨_,H,I.kept k,?_,q⟩
 by_cases hj:j>i
 ·rw [md hj,md hj];exact⟨_,rfl⟩
 ·rw [mi hj,mi hj];exact⟨_,rfl⟩
def qtq(K:PySem.W.Frag)(x:V)(H:Hp)(n:Nat): Prop:=
 match x with
 | .str y=>y.length<=sizeLine/\n=y.length
 | .byt y=>y.size<=sizeLine/\n=y.size
 | .ref p=>(∃xs,SqL K H p xs/\n=xs.length)\/∃xs,SqT K H p xs/\n=xs.length
 | _=>False
theorem qk4:jz X (.builtin "len") (fun xs H Q=>∃x n,xs=[x]/\qtq X.K x H n/\Q (.int n) H):=by
 intro pins s σ H xs us Q I r h;obtain⟨x,n,rfl,e,q⟩:=h;obtain⟨u,rfl,rx⟩:=vals1 r;have hl:=q4p;have hs:sizeLine=16777216:=g2b;cases x with
 | str y=>
  obtain⟨t,rfl⟩:=rx;obtain⟨hy,e'⟩:y.length<=sizeLine/\n=y.length:=e;subst e';exact len_str (by omega) ⟨.int _,H,I.tok _,⟨_,rfl⟩,q⟩
 | byt y=>
  obtain⟨t,rfl⟩:=rx;obtain⟨hy,e'⟩:y.size<=sizeLine/\n=y.size:=e;subst e';exact PySem.W.len_bytes (by omega) ⟨.int _,H,I.tok _,⟨_,rfl⟩,q⟩
 | ref p=>
  cases rx;have e':(∃xs,SqL X.K H p xs/\n=xs.length)\/∃xs,SqT X.K H p xs/\n=xs.length:=e;rcases e' with⟨xs,hx,e'⟩|⟨xs,hx,e'⟩
  ·subst e'
   obtain⟨its,r',pl,hz⟩:=I.list hx;have hlen:=r'.length;exact Calls.call_len_list pl.isList (by simp only [gv];omega) ⟨.int xs.length,H,I.tok _,⟨_,by simp only [gv];rw [hlen]⟩,q⟩
  ·subst e'
   obtain⟨its,r',pl,hz⟩:=I.tuple hx;have hlen:=r'.length;exact len_tuple pl (by simp only [gv];omega) ⟨.int xs.length,H,I.tok _,⟨_,by simp only [gv];rw [hlen]⟩,q⟩
 | _=>exact(show False from e).elim
end
structure ObjM(h:Heap)(x dx C:Addr)(mA:Str->Option Value): Prop where
 obj:h.get? x=some (PySem.W.instObj C dx)
 ns:h.Ns1 dx mA
 ne:dx≠x
theorem qhm{h:Heap}{dx:Addr}{mA:Str->Option Value}(n:h.Ns1 dx mA): ∃od,h.get? dx=some od/\∀name,PySem.W.lookIn name od=some (mA name):=by
 obtain⟨o,es,ep,ho,hd,hk,_,hm⟩:=n;refine⟨o,ho,fun name=>?_⟩;have e:=hm name;unfold nsFind findBy at e;rw [<- Array.find?_toList] at e;unfold PySem.W.lookIn;rw [hd];dsimp only
 split
 ·rename_i y q
  rw [q] at e;exact g0d some e
 ·rename_i q
  rw [q] at e;have a:es.toList.any (·.refKey)=false:=by
   rw [List.any_eq_false];intro y hy;obtain⟨z,t,hkey⟩:=hk y (Array.mem_toList_iff.mp hy);simp [DictEntry.refKey,hkey]
  have a':¬es.toList.any (·.refKey)=true:=by rw [a];exact mh
  rw [mi a'];exact g0d some e
theorem ObjM.look{h:Heap}{x dx C:Addr}{mA:Str->Option Value}(I:ObjM h x dx C mA): ∃od,PySem.W.InstAt h x (PySem.W.instObj C dx) C (some od)/\∀name,PySem.W.lookIn name od=some (mA name):=
 let⟨od,ho,hl⟩:=qhm I.ns
 ⟨od,⟨I.obj,rfl,rfl,ho⟩,hl⟩
section
variable{prog:Program}{w:World}{A:Around}{E:Value->Shared->Prop}{s:Shared}{K:PySem.W.Frag}{x dx C f:Addr}{mA:Str->Option Value}{name:Str}{v:Value}
theorem qk5{pl:Sem Bool}{Q:Value×List Value->Shared->Prop}(X:K.In s.heap)(I:ObjM s.heap x dx C mA)(hg:PySem.W.plainGet K C name=true)
  (hf:PySem.W.findIn K (.ref C) name=some (some (.ref f))) (ht:PySem.W.isFn K (.ref f)=true) (hv:mA name=none) (h:Q (.ref f,[.ref x]) s) :
  wpAny (model prog w) A (getMethod (.ref x) name pl) Q E s:=by
 obtain⟨od,J,hl⟩:=I.look;exact PySem.W.method_fn X J (PySem.W.plainGet_of hg).1 (PySem.W.plainGet_of hg).2 hf (g4k.mp ht) (by show(PySem.W.lookIn name od).map (·.isSome)=some false;rw [hl,hv];rfl) h
end
theorem RelO.none_of{o:Option Value}(r:RelO none o): o=none:=by
 cases o with
 | none=>rfl
 | some u=>exact(show False from r).elim
section
variable{P:Program}{w:World}{H H':Hp}{h h':Heap}{a C dx:Addr}{fs fs':List (Str×V)}
theorem qen(hok:HOk P w H h)(e:H a=some (.ins C dx fs)): ∃mA,ObjM h a dx C mA/\(∀f,RelO (fs.lookup f) (mA f))/\PySem.Within mA (fs.map (·.1))/\fs.length<=1000/\H dx=some (.own a):=by
 obtain⟨d,z,ne,ob,mA,n,r,q⟩:=(show ObjOk P w H h a (.ins C dx fs) from hok a _ e)
 exact⟨mA,⟨ob,n,ne⟩,r,q,z,d⟩
end
structure Cls(K:PySem.W.Frag)(C:Addr): Prop where
 pg:PySem.W.plainGet K C Str.empty=true
 hd:PySem.W.hasDictIn K C=true
 po:PySem.W.plainOver K C=true
 sa:PySem.W.findIn K (.ref C) "__setattr__" = some (some (.builtin "object.__setattr__"))
theorem Cls.get{K:PySem.W.Frag}{C:Addr}(c:Cls K C)(f:Str): PySem.W.plainGet K C f=true:=c.pg
structure Meth(K:PySem.W.Frag)(C:Addr)(m:Str)(f:Addr): Prop where
 at_:PySem.W.findIn K (.ref C) m=some (some (.ref f))
 fn:PySem.W.isFn K (.ref f)=true
 kp:PySem.W.keepIn K (.ref f)=true
section
variable{X:Cx}{pins:List (Addr×Obj)}{σ : St}{H:Hp}{s:Shared}{a C dx:Addr}{fs:List (Str×V)}{f:Str}{v:V}{A:Around}{E:Value->Shared->Prop}
theorem qfp{m:Str}{g:Addr}{pl:Sem Bool}{Q:Value×List Value->Shared->Prop}(I:Inv X pins σ H s)(e:H a=some (.ins C dx fs))(c:Cls X.K C)(k:Meth X.K C m g)(l:fs.lookup m=none)
  (h:Q (.ref g,[.ref a]) s):wpAny (model X.prog X.w) A (getMethod (.ref a) m pl) Q E s:=by
 obtain⟨mA,O,r,_,_,_⟩:=qen I.hok e;have hn:mA m=none:=RelO.none_of (by rw [<- l];exact r m);exact qk5 I.kIn O (c.get m) k.at_ k.fn hn h
theorem Inv.made(I:Inv X pins σ H s): Inv X pins σ (upd (upd H s.heap.objs.size (.own (s.heap.objs.size+1))) (s.heap.objs.size+1) (.ins C s.heap.objs.size []))
  {s with heap:=(s.heap.push PySem.W.emptyDict).push (PySem.W.instObj C s.heap.objs.size)}:=by
 have e1:(s.heap.push PySem.W.emptyDict).get? s.heap.objs.size=some PySem.W.emptyDict:=gf s.heap rfl;have e2:((s.heap.push PySem.W.emptyDict).push (PySem.W.instObj C s.heap.objs.size)).get? (s.heap.objs.size+1)=some (PySem.W.instObj C s.heap.objs.size):=by
  have:=gf (s.heap.push PySem.W.emptyDict) (o:=PySem.W.instObj C s.heap.objs.size) rfl;rwa [t6] at this
 have e3:(s.heap.push PySem.W.emptyDict).Ns s.heap.objs.size (fun _=>none):=⟨PySem.W.emptyDict, #[],_,e1,rfl,(fun e he=>absurd he (by simp)),fun _=>rfl⟩
 have I1:=I.laid (a:=s.heap.objs.size) (o:=.own (s.heap.objs.size+1)) (h':=s.heap.push PySem.W.emptyDict) (t':=s.toks) (fun b u q=>gd _ q) (gw _) ⟨_,e1⟩;refine I1.laid (a:=s.heap.objs.size+1) (o:=.ins C s.heap.objs.size []) (t':=s.toks) (fun b u q=>gd _ q) (g6w (t6 _ _)) ?_;have ne:s.heap.objs.size≠s.heap.objs.size+1:=m5 (uk _);refine⟨by rw [ql ne,qr],um _,ne,e2,fun _=>none,(Heap.Ns1.of_empty e3).at fun o q=>gd _ q,fun _=>True.intro,fun y hy=>absurd rfl hy⟩
end
section
variable{X:Cx}{o e value:Expr}{f:Str}{pos pos' tpos:Pos}{ta tv:TE}
end
section
variable{X:Cx}{pins:List (Addr×Obj)}{σ : St}{H:Hp}{s:Shared}{A:Around}{E:Value->Shared->Prop}{Q:Value->Shared->Prop}{c:Value}{b:Bool}
end
structure Room(k:Nat)(A:Around): Prop where
 hd:A.handled=none
 dp:A.depth+3*k+5<recursionLimit
 un:A.units+16*k+200<cLine
theorem Room.mono{j k:Nat}{A:Around}(r:Room k A)(h:j<=k): Room j A:=⟨r.hd,by have:=r.dp;omega,by have:=r.un;omega⟩
theorem Room.deeper{k:Nat}{A:Around}(r:Room (k+1) A)(env:Env): Room k (A.deeper env):=
 ⟨r.hd,by have:=r.dp;show A.depth+1+3*k+5<_;omega,by have:=r.un;show A.units+3+16*k+200<_;omega⟩
theorem Room.in1{k:Nat}{A:Around}(r:Room (k+1) A): Room k A.in1:=
 ⟨r.hd,by have:=r.dp;show A.depth+3*k+5<_;omega,by have:=r.un;show A.units+1+16*k+200<_;omega⟩
theorem Room.depth{k:Nat}{A:Around}(r:Room k A): A.depth<recursionLimit:=by have:=r.dp;omega
theorem Room.units{k:Nat}{A:Around}(r:Room k A): A.units+64<cLine:=by have:=r.un;omega
def tNil:TA:=fun _ H Q=>Q [] H
def qsp(ta:TE)(tr:TA): TA:=fun σ H Q=>ta σ H fun x H1=>tr σ H1 fun xs H2=>Q (x :: xs) H2
section
variable{X:Cx}{e:Expr}{es:List Expr}{te:TE}{t:TA}{pos:Pos}
theorem q1z:PA X [] tNil:=fun _ _ _ _ H Q I h=>Calls.spliced_nil ⟨[],H,I,.nil,h⟩
theorem q07(ha:PE X e te)(hr:PA X es t)(hs:starEach (e :: es) X.env=(false,eval e X.env) :: starEach es X.env:=by rfl): PA X (e :: es) (qsp te t):=by
 intro pos pins s σ H Q I h;rw [hs];show wpAny _ _ (spliced ((false,eval e X.env) :: backTo pos (starEach es X.env))) _ _ s;refine Calls.spliced_cons (thn (ha pins s σ H _ I h) fun u s1 ⟨x,H1,I1,r1,q1⟩=>?_);exact thn (hr pos pins s1 σ H1 _ I1 q1) fun us s2 ⟨xs,H2,I2,r2,q2⟩=>⟨x :: xs,H2,I2,.cons r1 r2,q2⟩
def qtr(t:TA): TE:=fun σ H Q=>t σ H fun xs H1=>xs.length<=sizeLine/\∀p,H1 p=none->Q (.ref p) (upd H1 p (.tup xs))
def qts(t:TA): TE:=fun σ H Q=>t σ H fun xs H1=>xs.length<=sizeLine/\∀p,H1 p=none->Q (.ref p) (upd H1 p (.lst xs))
theorem qqd{x1}(h:PA X es t): PE X (.Tuple es x1 pos) (qtr t):=by
 intro pins s σ H Q I hq;refine wpAny_Tuple_spliced (thn (h pos pins s σ H _ I hq) fun us s1 ⟨xs,H1,I1,r,z,q⟩=>⟨by rw [<- r.length];exact z,?_⟩);have hf:H1 s1.heap.objs.size=none:=I1.hok.fresh (gw _);refine⟨.ref s1.heap.objs.size,upd H1 s1.heap.objs.size (.tup xs),I1.laid (t':=s1.toks) (fun b u e=>gd _ e) (gw _) ?_,rfl,q _ hf⟩;exact⟨z,us,r,⟨_,gf _ rfl,rfl,rfl,_,rfl⟩⟩
theorem qqe(h:PA X es t): PE X (.List es pos) (qts t):=by
 intro pins s σ H Q I hq;refine wpAny_List_spliced (thn (h pos pins s σ H _ I hq) fun us s1 ⟨xs,H1,I1,r,z,q⟩=>⟨by rw [<- r.length];exact z,?_⟩);have hf:H1 s1.heap.objs.size=none:=I1.hok.fresh (gw _);refine⟨.ref s1.heap.objs.size,upd H1 s1.heap.objs.size (.lst xs),I1.laid (t':=s1.toks) (fun b u e=>gd _ e) (gw _) ?_,rfl,q _ hf⟩;exact⟨z,us,0,r,gf _ rfl⟩
end
abbrev Sp:=List V->Hp->VK->XK->Prop
abbrev CXT:=List Env->Hp->Shared->XK->Value->Shared->Prop
structure Env0(P:Program)(w:World)(K:PySem.W.Frag)(mg:Str->Option Value)(base:Heap)(A:Around)(outer:List Env)(s:Shared)(H:Hp): Prop where
 frames:A.frames=some outer
 mod:Mod K mg base
 bs:∀b o,base.get? b=some o->s.heap.get? b=some o/\H b=none
 bsz:base.objs.size<=s.heap.objs.size
 funs:s.heap.FunFrames base outer
 frf:∀b∈frs outer,H b=none
 hok:HOk P w H s.heap
 bare:AllBare s.gens
def CE(outer:List Env)(P:Program)(w:World)(H:Hp)(s:Shared)(Q:VK)(u:Value)(s':Shared): Prop:=
 ∃v H',s'.os=s.os/\AllBare s'.gens/\Un (frs outer) [] H H' s.heap s'.heap/\HOk P w H' s'.heap/\RelV v u/\Q v H'
def CR(CX:CXT)(outer:List Env)(P:Program)(w:World)(H:Hp)(s:Shared)(Q:VK)(E:XK)(r:Result)(s':Shared): Prop:=
 match r with
 | .ok (.ret u)=>CE outer P w H s Q u s'
 | .ok _=>False
 | .error e=>CX outer H s E e s'
structure FnOk(P:Program)(w:World)(K:PySem.W.Frag)(mg:Str->Option Value)(base:Heap)(CX:CXT)(k:Nat)(f:Addr)(fd:FuncData)(ps:List Str)(sp:Sp): Prop where
 len:∀vs H Q E,sp vs H Q E->vs.length=ps.length
 run:∀(A:Around) (outer:List Env) (s:Shared) (H:Hp) (args:Args) (us:List Value) (vs:List V) (Q:VK) (E:XK),Room k A->Env0 P w K mg base A outer s H->BindsTo s fd args (ps.zip us)->Vals vs us->sp vs H Q E ->
  codeAny (model P w) A (.call (.ref f) args) (CR CX outer P w H s Q E) s
theorem FnOk.imp{P:Program}{w:World}{K:PySem.W.Frag}{mg:Str->Option Value}{base:Heap}{CX:CXT}{k:Nat}{f:Addr}{fd:FuncData}{ps:List Str}{sp sp':Sp}(F:FnOk P w K mg base CX k f fd ps sp)
  (h:∀vs H Q E,sp' vs H Q E->sp vs H Q E):FnOk P w K mg base CX k f fd ps sp':=
 ⟨fun vs H Q E q=>F.len vs H Q E (h _ _ _ _ q),fun A outer s H args us vs Q E hr he hb hv hs=>F.run A outer s H args us vs Q E hr he hb hv (h _ _ _ _ hs)⟩
section
variable{X:Cx}{pins:List (Addr×Obj)}{σ : St}{H:Hp}{s s':Shared}
theorem Inv.env0(I:Inv X pins σ H s): Env0 X.prog X.w X.K X.mg X.base X.A X.stack s H:=
 ⟨I.ok.frames,I.ok.mod,I.bs,my I.ok.bsz I.sz,I.stack,I.stkFree,I.hok,I.bare⟩
theorem Inv.after{Q:VK}{u:Value}(I:Inv X pins σ H s)(h:CE X.stack X.prog X.w H s Q u s'): EP X pins σ Q u s':=by
 obtain⟨v,H',os,bare,un,hok,r,q⟩:=h;obtain⟨hh,g,d,t,os'⟩:=s';obtain rfl:os'=s.os:=os;exact⟨v,H',I.call (h':=hh) (g':=g) (d':=d) (t':=t) (ch:=[]) un hok bare (fun b z=>absurd z (by simp)),r,q⟩
end
def qsq(sp:Sp)(dvs:List V)(E:XK)(t:TA): TE:=fun σ H Q=>t σ H fun vs H1=>sp (vs++dvs) H1 Q E
def qsr(C:Addr)(m:Str)(sp:Sp)(dvs:List V)(E:XK)(ta:TE)(t:TA): TE:=fun σ H Q=>ta σ H fun x H1=>∃a dx fs,x=.ref a/\H1 a=some (.ins C dx fs)/\fs.lookup m=none /\
 t σ H1 fun vs H2=>sp (x :: (vs++dvs)) H2 Q E
def Binds(K:PySem.W.Frag)(fd:FuncData)(ps:List Str)(ds:List Value): Prop:=
 ∀(s:Shared) (us:List Value),K.In s.heap->(us++ds).length=ps.length->BindsTo s fd ⟨us,[]⟩ (ps.zip (us++ds))
theorem Binds.all{K:PySem.W.Frag}{fd:FuncData}{ps:List Str}(h:∀us:List Value,us.length=ps.length->bindArgs fd ⟨us,[]⟩=pure (ps.zip us)): Binds K fd ps []:=fun s us _ hl=>by
 rw [g2v] at hl ⊢;exact .of_eq (h us hl)
def q7k(CX:CXT)(X:Cx)(E:XK): Prop:=∀(pins:List (Addr×Obj)) (σ : St) (H:Hp) (s:Shared) (e:Value) (s':Shared),Inv X pins σ H s->CX X.stack H s E e s'->X.xe e s'
section
variable{X:Cx}{CX:CXT}{k:Nat}{f C:Addr}{fd:FuncData}{ps:List Str}{sp:Sp}{dvs:List V}{ds:List Value}{E:XK}{x m:Str}{p pos apos:Pos}{e o:Expr}{es:List Expr}{ta:TE}{t:TA}
theorem qhn{pins:List (Addr×Obj)}{σ : St}{H:Hp}{s:Shared}{Q:VK}{us:List Value}{vs:List V}(F:FnOk X.prog X.w X.K X.mg X.base CX k f fd ps sp)(hr:Room k X.A)(hb:Binds X.K fd ps ds)(hd:Vals dvs ds)(hx:q7k CX X E)
  (I:Inv X pins σ H s) (r:Vals vs us) (h:sp (vs++dvs) H Q E):wpAny (model X.prog X.w) X.A (call (.ref f) us) (EP X pins σ Q) X.xe s:=by
 have r2:Vals (vs++dvs) (us++ds):=r.append hd;have hl:(us++ds).length=ps.length:=by rw [<- r2.length];exact F.len _ _ _ _ h
 refine g3f (g33 (F.run X.A X.stack s H ⟨us,[]⟩ (us++ds) (vs++dvs) Q E hr I.env0 (hb s us I.kIn hl) r2 h) fun r s' hq=>?_);cases r with
 | error e=>exact hx pins σ H s e s' I hq
 | ok fl=>
  cases fl with
  | ret u=>exact I.after hq
  | next=>exact False.elim hq
  | brk=>exact False.elim hq
  | cont=>exact False.elim hq
theorem qnl(F:FnOk X.prog X.w X.K X.mg X.base CX k f fd ps sp)(hr:Room k X.A)(hg:Gl X x)(hm:X.mg x=some (.ref f))(hk:PySem.W.keepIn X.K (.ref f)=true)(hb:Binds X.K fd ps ds)(hd:Vals dvs ds)(hx:q7k CX X E)
  (ha:PA X (e :: es) t) (hdb:(x==("__debug__" : Str))=false:=by decide) (he:starEach (e :: es) X.env=(false,eval e X.env) :: starEach es X.env:=by rfl) (hpl:(backTo pos (starEach es X.env)).any (·.1)=false:=by rfl) :
  PE X (.Call (.Name x p) (e :: es) [] pos) (qsq sp dvs E t):=by
 intro pins s σ H Q I h;refine g1l (qeg I hg hm ?_ hdb);refine PySem.W.callWith_K (h₀:=X.base) I.ok.mod.kin hk (thn (ha pos pins s σ H _ I h) fun us s1 ⟨vs,H1,I1,r,q⟩=>⟨I1.kIn,?_⟩) he hpl;exact qhn F hr hb hd hx I1 r q
theorem qnm{pl:Sem Bool}(he:PE X o ta)(c:Cls X.K C)(hm:Meth X.K C m f)(F:FnOk X.prog X.w X.K X.mg X.base CX k f fd ps sp)(hr:Room k X.A)(hb:Binds X.K fd ps ds)(hd:Vals dvs ds)(hx:q7k CX X E)(ha:PA X (e :: es) t)
  (hst:starEach (e :: es) X.env=(false,eval e X.env) :: starEach es X.env:=by rfl) (hpl:(backTo pos (starEach es X.env)).any (·.1)=false:=by rfl)
  (ht:eval (.Call (.Attribute o m apos) (e :: es) [] pos) X.env=(do
   let ov <- eval o X.env
   standAt apos.atName
   let(f,first) <- holding [ov] (getMethod ov m pl)
   callWith pos f first (backTo pos (starEach (e :: es) X.env)) (backToKw pos (keywordEach [] X.env))):=by rfl) :
  PE X (.Call (.Attribute o m apos) (e :: es) [] pos) (qsr C m sp dvs E ta t):=by
 intro pins s σ H Q I h;refine PySem.W.methodCall_KW (pl:=pl) (thn (he pins s σ H _ I h) fun u s1 ⟨x,H1,I1,rx,a,dx,fs,ex,ea,l,q⟩=>?_) ht;subst ex;obtain rfl:u=Value.ref a:=rx;refine qfp I1 ea c hm l ?_;refine PySem.W.callWith_K (first:=[.ref a]) (h₀:=X.base) I.ok.mod.kin hm.kp (thn (ha pos pins s1 σ H1 _ I1 q) fun us s2 ⟨vs,H2,I2,r,q2⟩=>⟨I2.kIn,?_⟩) hst hpl;exact qhn (us:=.ref a :: us) (vs:=.ref a :: vs) F hr hb hd hx I2 (.cons rfl r) q2
end
section
variable{X:Cx}{CX:CXT}{k:Nat}{f C:Addr}{fd:FuncData}{ps ks:List Str}{sp:Sp}{E:XK}{x m:Str}{p pos apos kpos:Pos}{e o:Expr}{es:List Expr}{kws:List Keyword}{te ta:TE}{t tk:TA}{nm:Option Str}
variable{g:List Value->List Value->List Value}{gV:List V->List V->List V}
end
structure FnScope(N P:List Str)(sc:Scope): Prop where
 kind:sc.kind=.function
 co:sc.isCoroutine=false
 gen:sc.isGenerator=false
 nd:N.Nodup
 pre:N.take P.length=P
 par:∀x∈P,sc.names.lookup x=some .local\/sc.names.lookup x=some .cell
 nofree:∀y∈sc.names,y.2 ≠ .free
theorem q9f{kindOf:Str->Option NameKind}{x:Str}: ∀ {binds:List (Str×Value)} {m:Str->Option Value},(∀v,(x,v)∉binds)->bindL kindOf binds m x=m x
 | [],_,_=>rfl
 | (n,v) :: r,m,h=>by
  unfold bindL;rw [q9f fun w hw=>h w (gr _ hw)]
  split
  ·have:x≠n:=by rintro rfl;exact h v gq
   simp [this]
  ·rfl
theorem q9g{kindOf:Str->Option NameKind}{x:Str}: ∀ {binds:List (Str×Value)} {m:Str->Option Value},(∀v,(x,v)∉binds)->bindC kindOf binds m x=m x
 | [],_,_=>rfl
 | (n,v) :: r,m,h=>by
  unfold bindC;rw [q9g fun w hw=>h w (gr _ hw)]
  split
  ·rfl
  ·have:x≠n:=by rintro rfl;exact h v gq
   simp [this]
theorem q9h{kindOf:Str->Option NameKind}{x:Str}{v:Value}: ∀ {P:List Str} {vs:List Value} {i:Nat} {m:Str->Option Value},P.Nodup->P[i]? = some x->vs[i]? = some v->kindOf x=some .local ->
  bindL kindOf (P.zip vs) m x=some v
 | [],_,_,_,_,h,_,_=>by simp at h
 | _ :: _,[],_,_,_,_,h,_=>by simp at h
 | p :: P,w :: vs,0,m,nd,h1,h2,hk=>by
  simp at h1 h2;subst h1;subst h2;show bindL kindOf ((p,w) :: P.zip vs) m p=_;unfold bindL;rw [q9f fun v hv=>(g14.mp nd).1 (g2w hv).1,md hk];simp
 | p :: P,w :: vs,i+1,m,nd,h1,h2,hk=>by
  show bindL kindOf ((p,w) :: P.zip vs) m x=_;unfold bindL;exact q9h (i:=i) (g14.mp nd).2 (by simpa using h1) (by simpa using h2) hk
theorem q9i{kindOf:Str->Option NameKind}{x:Str}{v:Value}: ∀ {P:List Str} {vs:List Value} {i:Nat} {m:Str->Option Value},P.Nodup->P[i]? = some x->vs[i]? = some v->kindOf x≠some .local ->
  bindC kindOf (P.zip vs) m x=some v
 | [],_,_,_,_,h,_,_=>by simp at h
 | _ :: _,[],_,_,_,_,h,_=>by simp at h
 | p :: P,w :: vs,0,m,nd,h1,h2,hk=>by
  simp at h1 h2;subst h1;subst h2;show bindC kindOf ((p,w) :: P.zip vs) m p=_;unfold bindC;rw [q9g fun v hv=>(g14.mp nd).1 (g2w hv).1,mi hk];simp
 | p :: P,w :: vs,i+1,m,nd,h1,h2,hk=>by
  show bindC kindOf ((p,w) :: P.zip vs) m x=_;unfold bindC;exact q9i (i:=i) (g14.mp nd).2 (by simpa using h1) (by simpa using h2) hk
def start(N:List Str)(vs:List V): St:=vs.map some++List.replicate (N.length-vs.length) none
def zr(CX:CXT)(P:Program)(w:World)(K:PySem.W.Frag)(mg:Str->Option Value)(base:Heap)(N:List Str)(qual:Str)(scope:Scope)(f:Addr)(cd:Value)(A:Around)(outer:List Env)(s:Shared)(H:Hp)(E:XK): Cx where
 prog:=P
 w:=w
 K:=K
 mg:=mg
 base:=base
 A:=A.deeper (envOfC qual scope s.heap.objs.size f cd)
 N:=N
 s₀:=s
 H₀:=H
 env:=envOfC qual scope s.heap.objs.size f cd
 outer:=outer
 stack:=envOfC qual scope s.heap.objs.size f cd :: outer
 ex:=[]
 calm:=true
 fn:=fun _=>true
 pn:=[]
 xe:=fun e s'=>wpAny (model P w) (A.deeper (envOfC qual scope s.heap.objs.size f cd)) (leaving (envOfC qual scope s.heap.objs.size f cd) e) (fun _ s''=>CX outer H s E e s'') (fun e' s''=>CX outer H s E e' s'') s'
theorem qb2{sc:Scope}{n:Nat}{x:Str}(h:sc.names.lookup x=some .cell): ∃c,(cellsFrom n sc.names []).lookup x=some c:=by
 have q:=g41 sc.names n [] (.inl h);exact g15.mp q
theorem q9j{CX:CXT}{P:Program}{w:World}{K:PySem.W.Frag}{mg:Str->Option Value}{base:Heap}{N ps:List Str}{qual:Str}{scope:Scope}{f:Addr}{cd:Value}{A:Around}{outer:List Env}{s s1:Shared}{H:Hp}{E:XK}{us:List Value}{vs:List V}
  (S:FnScope N ps scope) (hd:A.handled=none) (e0:Env0 P w K mg base A outer s H) (hl:vs.length=ps.length) (r:Vals vs us)
  (x:InCallC s s.heap.objs.size (bindL (envOfC qual scope s.heap.objs.size f cd).kindOf (ps.zip us) fun _=>none) (cellsFrom (s.heap.objs.size+1) scope.names []) (bindC (envOfC qual scope s.heap.objs.size f cd).kindOf (ps.zip us) fun _=>none) s1) :
  Inv (zr CX P w K mg base N qual scope f cd A outer s H E) [] (start N vs) H s1:=by
 have hpl:ps.length<=N.length:=by have:=g0d List.length S.pre;rw [p6] at this;omega
 obtain⟨h1,tk,rfl,hk⟩:=x.done;have noA:∀b:Addr,b∉(zr CX P w K mg base N qual scope f cd A outer s H E).ex:=fun b z=>absurd (show b∈([]:List Addr) from z) (by simp);refine⟨⟨e0.mod,S.kind,rfl,rfl,gw _,fun y z c h1 h2=>?_,fun y hy=>?_,fun y c _ h=>?_,fun _=>hd,Around.frames_deeper e0.frames,.inr ⟨rfl,rfl⟩,fun b z=>absurd z (noA b),e0.bs,e0.bsz,fun b _ _=>noA b,fun b z=>absurd z (noA b),e0.funs,e0.frf⟩,
  rfl,e0.bare,Un.kept hk,⟨_,x.toInCall.ns,fun i y v h1 h2 h3=>?_⟩,fun y c h=>⟨_,x.cell y c h⟩,e0.hok.fresh (gw _),fun y c h=>?_,fun p hp=>absurd (show p∈([]:List (Addr×Obj)) from hp) (by simp),e0.hok.kept hk,?_⟩
 ·exact name_of_addr x.apart (g26 h1) (g26 h2)
 ·have hy:scope.names.lookup y=some .cell\/scope.names.lookup y=some .free:=hy
  rcases hy with hy|hy
  ·exact qb2 hy
  ·exact absurd rfl (S.nofree _ (g26 hy))
 ·exact g5r (x.above y c (g26 h))
 ·have hi:i<vs.length:=by
   unfold start at h2
   by_cases hi:i<vs.length
   ·exact hi
   ·rw [uz (by simpa using hi)] at h2
    rw [g0t] at h2
    split at h2 <;> cases h2
  have ha:vs[i]? = some v:=by
   unfold start at h2;rw [uh (by simpa using hi),mv] at h2;cases e:vs[i]? with
   | none=>rw [e] at h2;cases h2
   | some a=>rw [e] at h2;cases h2;rfl
  obtain⟨u,hu,rv⟩:=r.get ha;have hp:ps[i]? = some y:=by
   rw [<- S.pre,g1z (by omega)];exact h1
  have ndP:ps.Nodup:=by rw [<- S.pre];exact S.nd.sublist (List.take_sublist _ _)
  refine⟨u,rv,?_⟩;rcases S.par y (tw hp) with k|k
  ·exact .inl ⟨k,q9h ndP hp hu k⟩
  ·obtain⟨c,e⟩:=qb2 (n:=s.heap.objs.size+1) k
   refine .inr ⟨.inl k,c,e,?_⟩;have q:=x.cell y c e;rw [q9i ndP hp hu (by show scope.names.lookup y≠_;rw [k];decide)] at q;exact q
 ·exact e0.hok.fresh (g5r (x.above y c (g26 h)))
 ·unfold start
  show _=N.length;rw [t5,mn,g6i];omega
theorem qss{CX:CXT}{P:Program}{w:World}{K:PySem.W.Frag}{mg:Str->Option Value}{base:Heap}{k:Nat}{f:Addr}{name qual:Str}{params:Arguments}{body:List Stmt}{scope:Scope}{dV kV doc pm cdv ct oc:Value}{an od:Option Addr}
  {osl:Array (Option Value)} {N ps:List Str} {sp:Sp} (lk:K.lookup f=some ⟨oc,od,.func (PySem.W.fnOf name qual params body scope dV kV doc pm an cdv ct),osl⟩) (hcd:PySem.W.codeIn K cdv qual=true) (S:FnScope N ps scope)
  (len:∀vs H Q E,sp vs H Q E->vs.length=ps.length)
  (hbody:∀(A:Around) (outer:List Env) (s:Shared) (H:Hp) (vs:List V) (Q:VK) (E:XK),Room k (A.deeper (envOfC qual scope s.heap.objs.size f cdv))->sp vs H Q E ->
   ∃t,PSs (zr CX P w K mg base N qual scope f cdv A outer s H E) body t/\t {nx:=fun _ H'=>Q .non H',rt:=Q} (start N vs) H) :
  FnOk P w K mg base CX (k+1) f (PySem.W.fnOf name qual params body scope dV kV doc pm an cdv ct) ps sp:=by
 refine⟨len,fun A outer s H args us vs Q E hr e0 hb r hsp=>?_⟩;have hl:=len _ _ _ _ hsp;have KX:K.In s.heap:=e0.mod.kin.keeps fun b o e=>(e0.bs b o e).1;have lim:s.heap.NoLimit:=e0.mod.nolimit.keeps fun b o e=>(e0.bs b o e).1;have hkind:∀y∈ps.zip us,scope.names.lookup y.1=some .local\/(scope.names.lookup y.1=some .cell/\((cellsFrom (s.heap.objs.size+1) scope.names []).lookup y.1).isSome=true):=fun⟨n,v⟩ hy=>by
  rcases S.par n (g2w hy).1 with q|q
  ·exact .inl q
  ·exact .inr ⟨q,g41 _ _ _ (.inl q)⟩
 refine codeAny_call_function hr.depth (KX _ _ lk) rfl S.co S.gen rfl (PySem.W.codeRec_of KX hcd) (hb _ _ _ _ ?_);refine wpAny_newFunctionEnv_cells S.kind hkind fun env he s1 x=>?_;subst he;refine⟨lim.keeps x.toInCall.keep,codeAny_func ?_⟩;obtain⟨t,ht,hq⟩:=hbody A outer s H vs Q E (hr.deeper _) hsp;have I:Inv (zr CX P w K mg base N qual scope f cdv A outer s H E) [] (start N vs) H s1:=q9j S hr.hd e0 hl r x;refine tq (ht [] s1 (start N vs) H _ I hq) (fun fl s' hs=>?_) fun e s' hs=>hs;have fin:∀ {σ':St} {H':Hp} {v:V} {u:Value},Inv (zr CX P w K mg base N qual scope f cdv A outer s H E) [] σ' H' s'->RelV v u->Q v H'->CE outer P w H s Q u s':=
  fun {σ' H' v u} J rv q=>⟨v,H',J.os,J.bare,J.base,J.hok,rv,q⟩
 cases fl with
 | ret u=>
  obtain⟨v, σ',H',J,rv,q⟩:=hs;exact fin J rv q
 | next=>
  obtain⟨σ',H',J,q⟩:=hs;exact fin (v:=V.non) (u:=Value.none) J rfl q
 | brk=>
  obtain⟨_,_,_,q⟩:=hs;exact False.elim q
 | cont=>
  obtain⟨_,_,_,q⟩:=hs;exact False.elim q
section
variable{X:Cx}{x:Str}{p pos:Pos}{e:Expr}{es:List Expr}{t:TA}{id T:String}{r:List V->Hp->VK->Prop}
def tCB(r:List V->Hp->VK->Prop)(t:TA): TE:=fun σ H Q=>t σ H fun vs H1=>r vs H1 Q
theorem q3q(hc:jz X (.builtin id) r)(hg:Gl X x)(hm:X.mg x=none)(hv:bootBuiltins x=some (.builtin id))(ha:PA X (e :: es) t)(hn:x≠"__name__" :=by decide)(hdb:(x==("__debug__" : Str))=false:=by decide)
  (he:starEach (e :: es) X.env=(false,eval e X.env) :: starEach es X.env:=by rfl) (hpl:(backTo pos (starEach es X.env)).any (·.1)=false:=by rfl):PE X (.Call (.Name x p) (e :: es) [] pos) (tCB r t):=by
 intro pins s σ H Q I h;refine g1l (q16 I hg hm hv ?_ hn hdb);exact PyProof.Rows.callWith_builtin1 (thn (ha pos pins s σ H _ I h) fun us s1 ⟨vs,H1,I1,r1,q1⟩=>hc pins s1 σ H1 vs us Q I1 r1 q1) he hpl
theorem q4q(hc:jz X (.type T) r)(hg:Gl X x)(hm:X.mg x=none)(hv:bootBuiltins x=some (.type T))(ha:PA X (e :: es) t)(hn:x≠"__name__" :=by decide)(hdb:(x==("__debug__" : Str))=false:=by decide)
  (he:starEach (e :: es) X.env=(false,eval e X.env) :: starEach es X.env:=by rfl) (hpl:(backTo pos (starEach es X.env)).any (·.1)=false:=by rfl):PE X (.Call (.Name x p) (e :: es) [] pos) (tCB r t):=by
 intro pins s σ H Q I h;refine g1l (q16 I hg hm hv ?_ hn hdb);exact g1k (thn (ha pos pins s σ H _ I h) fun us s1 ⟨vs,H1,I1,r1,q1⟩=>hc pins s1 σ H1 vs us Q I1 r1 q1) he hpl
end
end L2
namespace HT
open PySem PyProof.Rows
section
open PySem.SeqAt
open PySem.AutoSeq1 (wpAny_loadPart')
open PySem.MeetsSeq PySem.MeetsSeq2 PySem.MeetsSeq3
end
section
variable{prog:Program}{w:World}{A:Around}{E:Value->Shared->Prop}{s:Shared}
theorem cat_tup{t b:Addr}{vs ws:List Value}{Q:Value->Shared->Prop}(ht:IsTup s.heap t vs.toArray)(hb:IsTup s.heap b ws.toArray)(hv:vs≠[])
  (h1:ws=[]->Q (.ref t) s) (h2:ws≠[]->Q (.ref s.heap.objs.size) {s with heap:=s.heap.push {cls:=.type "tuple",data:=.seq (vs++ws).toArray} })
  (hsz:vs.length+ws.length<=sizeLine):wpAny (model prog w) A (binaryOp .Add (.ref t) (.ref b)) Q E s:=by
 obtain⟨⟨cls,dd,data,sl⟩,ho,hc,n,hd⟩:=id ht;obtain⟨⟨cls2,dd2,data2,sl2⟩,ho2,hc2,n2,hd2⟩:=id hb;simp only at hc hd hc2 hd2;subst hc hd hc2 hd2;have e:vs.toArray++ws.toArray=(vs++ws).toArray:=by simp
 by_cases hw:ws=[]
 ·exact g5t ⟨_,ho,rfl⟩ ⟨_,ho2,rfl⟩ g5u seq_tuple_add g42 g3n (g34 _ _)
   (tuple_addW1 t b vs.toArray ws.toArray n n2 dd dd2 sl sl2 (by simpa using hv) (by simp [hw])) ⟨ho,ho2,h1 hw⟩
 ·refine g5t ⟨_,ho,rfl⟩ ⟨_,ho2,rfl⟩ g5u seq_tuple_add g42 g3n (g34 _ _)
   (tuple_addW2 t b vs.toArray ws.toArray n n2 dd dd2 sl sl2 (by simpa using hv) (by simpa using hw) (by rw [gv,gv];exact hsz)) ⟨ho,ho2,?_⟩
  rw [e];exact h2 hw
def sIx(n d:Nat): Option Int->Nat
 | none=>d
 | some v=>if v<0 then(v+(n:Int)).toNat else min v.toNat n
theorem sIx_none(n d:Nat): sIx n d none=d:=rfl
theorem sIx_nat(n d k:Nat): sIx n d (some (k:Int))=min k n:=by
 show(if(k:Int)<0 then((k:Int)+(n:Int)).toNat else min (k:Int).toNat n)=min k n;rw [mi (by omega),g0i]
theorem qqf(n d:Nat)(hd:d<=n)(o:Option Int): sIx n d o<=n:=by
 cases o with
 | none=>exact hd
 | some v=>
  show(if v<0 then(v+(n:Int)).toNat else min v.toNat n)<=n
  by_cases hv:v<0
  ·rw [md hv];omega
  ·rw [mi hv];exact Nat.min_le_right _ _
theorem qeo(v:Int)(n d:Nat): (if v<0 then max (v+(n:Int)) 0 else min v (n:Int))=((sIx n d (some v):Nat):Int):=by
 show(if v<0 then max (v+(n:Int)) 0 else min v (n:Int))=(((if v<0 then(v+(n:Int)).toNat else min v.toNat n):Nat):Int)
 by_cases hv:v<0
 ·simp only [md hv];omega
 ·simp only [mi hv];omega
theorem qfq(lo hi:Option Int)(n:Nat): Builtin.Slice.sliceAdjust lo hi 1 (n:Int)=(((sIx n 0 lo:Nat):Int),((sIx n n hi:Nat):Int)):=by
 have h1:¬((1:Int)<0):=by omega
 unfold Builtin.Slice.sliceAdjust;simp only [h1,ny];refine Prod.ext ?_ ?_
 ·cases lo with
  | none=>rfl
  | some v=>exact qeo v n 0
 ·cases hi with
  | none=>rfl
  | some v=>exact qeo v n n
theorem qfr(i j:Nat): Builtin.Slice.slicePlaces (i:Int) (j:Int) 1=j-i:=by
 unfold Builtin.Slice.slicePlaces;have h1:(1:Int)>0:=by omega
 simp only [h1,p0,Int.ediv_one]
 split <;> omega
theorem q7l{v:Value}{o:Option Int}{Q:Option Int->Shared->Prop}(p:IsPart v o)(h:Q o s): wpAny (model prog w) A (Builtin.Slice.slicePartIndex v) Q E s:=by
 cases p with
 | none=>exact slicePart_none h
 | int i t=>exact slicePart_int h
theorem sliceApplied_gen{sl:Addr}{vl vu:Value}{lo hi:Option Int}{n:Nat}{Q:Int×Int×Nat->Shared->Prop}(hs:s.heap.IsSliceOf sl vl vu .none)(pl:IsPart vl lo)(pu:IsPart vu hi)
  (h:Q (((sIx n 0 lo:Nat):Int),1,sIx n n hi-sIx n 0 lo) s):wpAny (model prog w) A (Builtin.Slice.sliceApplied (.ref sl) (pure (n:Int))) Q E s:=by
 obtain⟨os,hos,hcs,hds⟩:=id hs;unfold Builtin.Slice.sliceApplied Builtin.Slice.sliceFields;refine g0 (g0 (uy hos hds (x:=vl) rfl (g0 (uy hos hds (x:=vu) rfl (g0 (uy hos hds (x:=.none) rfl (g9 ?_)))))));refine g0 (slicePart_none ?_);show wpAny _ _ (if((1:Int)==0)=true then _ else _) _ _ s;rw [mi (by decide)];refine g0 (q7l pl (g0 (q7l pu (g0 (g9 ?_)))));show wpAny _ _ (match Builtin.Slice.sliceAdjust lo hi 1 (n:Int) with|(lo,hi)=>pure (lo,(1:Int),Builtin.Slice.slicePlaces lo hi 1)) _ _ s;rw [qfq lo hi n];show wpAny _ _ (pure (((sIx n 0 lo:Nat):Int),(1:Int),Builtin.Slice.slicePlaces ((sIx n 0 lo:Nat):Int) ((sIx n n hi:Nat):Int) 1)) _ _ s;rw [qfr];exact g9 h
theorem qk6(xs:Array Value)(i k:Nat): ((List.range k).filterMap fun(m:Nat)=>xs[((i:Int)+(m:Int)*1).toNat]?).toArray=((xs.toList.drop i).take k).toArray:=by
 have e:(fun(m:Nat)=>xs[((i:Int)+(m:Int)*1).toNat]?)=fun m=>xs[i+m]? :=by
  funext m
  have:((i:Int)+(m:Int)*1).toNat=i+m:=by omega
  rw [this]
 rw [e];have:=pick_run xs i k;rw [g35] at this;have e2:((fun x=>xs[x]?) ∘ fun x=>i+x)=fun m=>xs[i+m]? :=rfl;rw [e2] at this;rw [this]
theorem getItem_tuple_cut{t sl:Addr}{items:Array Value}{vl vu:Value}{lo hi:Option Int}{Q:Value->Shared->Prop}(ht:IsTup s.heap t items)(hs:s.heap.IsSliceOf sl vl vu .none)(pl:IsPart vl lo)(pu:IsPart vu hi)
  (hw:¬(sIx items.size 0 lo=0/\sIx items.size items.size hi=items.size))
  (h:Q (.ref s.heap.objs.size) {s with heap:=s.heap.push {cls:=.type "tuple",data:=.seq ((items.toList.drop (sIx items.size 0 lo)).take (sIx items.size items.size hi-sIx items.size 0 lo)).toArray} })
  (hsz:items.size<=sizeLine):wpAny (model prog w) A (getItem (.ref t) (.ref sl)) Q E s:=by
 have htake:sizeOk (.seq ((items.toList.drop (sIx items.size 0 lo)).take (sIx items.size items.size hi-sIx items.size 0 lo)).toArray):=by
  show((items.toList.drop (sIx items.size 0 lo)).take (sIx items.size items.size hi-sIx items.size 0 lo)).toArray.size<=sizeLine;rw [gv,p6,g00,nu];omega
 have hj:sIx items.size items.size hi<=items.size:=qqf _ _ (gw _) hi;obtain⟨os,hos,hcs,hds⟩:=id hs;have hTs:s.TypeIs (.ref sl) "slice" :=⟨os,hos,hcs⟩
 unfold getItem
 try with_reducible refine ni ?_
 first|refine g0 (g9 ?_)|skip
 refine g0 (wpAny_sequenceKey ht.typeIs (by decide) ?_);refine g0 (ug (name:=Str.ofString "__getitem__") ht.typeIs g0c
  (p7 g0c ht.typeIs entry_tuple_getitem ?_ (args_tuple_getitem _ _)))
 show wpAny _ _ (Builtin.Tuple.tupleItemsOf (.ref t) >>= _) _ _ s;refine g0 (tupleItemsOf_ ht ?_);refine g0 (g16 hTs ?_);rw [md (by decide)];refine g0 (sliceApplied_gen hs pl pu ?_);have hno:¬((((sIx items.size 0 lo:Nat):Int)==0&&(1:Int)==1&&(sIx items.size items.size hi-sIx items.size 0 lo)==items.size)=true):=by
  intro q;rw [m9,m9] at q;have q1:((sIx items.size 0 lo:Nat):Int)=0:=eq_of_beq q.1.1;have q2:sIx items.size items.size hi-sIx items.size 0 lo=items.size:=eq_of_beq q.2;exact hw ⟨by omega,by omega⟩
 show wpAny _ _ (if(((sIx items.size 0 lo:Nat):Int)==0&&(1:Int)==1&&(sIx items.size items.size hi-sIx items.size 0 lo)==items.size)=true then _ else _) _ _ s;rw [mi hno,qk6]
 first
  | exact g0 (m:=Builtin.Tuple.tupleExact _) (pk (g9 ⟨_,rfl,g9 h⟩) htake)
  | exact g0 (m:=Builtin.Tuple.tupleExact _) (pk (g0 (g9 (g9 ⟨_,rfl,g9 h⟩))) htake)
  | exact g0 (g0 (m:=Builtin.Tuple.tupleExact _) (pk (g9 (g9 ⟨_,rfl,g9 h⟩)) htake))
  | exact g0 (g0 (m:=Builtin.Tuple.tupleExact _) (pk (g9 ⟨_,rfl,g9 h⟩) htake))
end
end HT
namespace L2
open PySem PySem.Spec PyProof.Rows
abbrev TO:=St->Hp->(Option Int->Hp->Prop)->Prop
def PO(X:Cx)(e:Option Expr)(t:TO): Prop:=
 ∀(pins:List (Addr×Obj)) (s:Shared) (σ : St) (H:Hp) (Q:Option Int->Hp->Prop),Inv X pins σ H s->t σ H Q ->
  wpAny (model X.prog X.w) X.A (evalPart e X.env) (fun u s'=>∃o H',Inv X pins σ H' s'/\IsPart u o/\Q o H') X.xe s
def tNoPart:TO:=fun _ H Q=>Q none H
def qst(t:TE): TO:=fun σ H Q=>t σ H fun x H1=>∃i,x=.int i/\Q (some i) H1
theorem intsAre_of{ns:List Int}: ∀ {us:List Value},Vals (ns.map V.int) us->IntsAre us ns:=by
 induction ns with
 | nil=>intro us r;rw [g0x] at r;cases r;exact .nil
 | cons n ns ih=>
  intro us r;rw [gj] at r;cases r with
  | cons r1 r2=>
   obtain⟨t,e⟩:=r1;subst e;exact .cons n t (ih r2)
section
variable{X:Cx}{e:Expr}{te:TE}{lo hi:Option Expr}{tl th:TO}{pos p2:Pos}
theorem qnn:PO X none tNoPart:=by
 intro pins s σ H Q I h;rw [evalPart_none];exact g9 ⟨none,H,I,.none,h⟩
theorem qno(h:PE X e te): PO X (some e) (qst te):=by
 intro pins s σ H Q I hw;rw [evalPart_some];refine thn (h pins s σ H _ I hw) fun u s1 ⟨x,H1,I1,r1,q1⟩=>?_;obtain⟨i,rfl,q⟩:=q1;obtain⟨t,rfl⟩:=r1;exact⟨some i,H1,I1,.int i t,q⟩
def SlR(X:Cx)(r:V->Option Int->Option Int->Hp->VK->Prop): Prop:=
 ∀(pins:List (Addr×Obj)) (s:Shared) (σ : St) (H:Hp) (x:V) (v vl vu:Value) (lo hi:Option Int) (sl:Addr) (Q:VK),Inv X pins σ H s->RelV x v->s.heap.IsSliceOf sl vl vu .none->IsPart vl lo->IsPart vu hi->r x lo hi H Q ->
  ∃T id,typeLookup (.type T) "__getitem__" = pure (some (.builtin id))/\s.TypeIs v T/\wpAny (model X.prog X.w) X.A (getItem v (.ref sl)) (EP X pins σ Q) X.xe s
theorem SlR.or{r r':V->Option Int->Option Int->Hp->VK->Prop}(h:SlR X r)(h':SlR X r'): SlR X (fun x lo hi H Q=>r x lo hi H Q\/r' x lo hi H Q):=by
 intro pins s σ H x v vl vu lo hi sl Q I rx hs pl pu q;rcases q with q|q
 ·exact h pins s σ H x v vl vu lo hi sl Q I rx hs pl pu q
 ·exact h' pins s σ H x v vl vu lo hi sl Q I rx hs pl pu q
def tSl(r:V->Option Int->Option Int->Hp->VK->Prop)(te:TE)(tl th:TO): TE:=fun σ H Q=>te σ H fun x H1=>tl σ H1 fun l H2=>th σ H2 fun u H3=>r x l u H3 Q
theorem qk7{r:V->Option Int->Option Int->Hp->VK->Prop}(hr:SlR X r)(he:PE X e te)(hl:PO X lo tl)(hu:PO X hi th): PE X (.Subscript e (.Slice lo hi none p2) pos) (tSl r te tl th):=by
 intro pins s σ H Q I h;refine Subscript_ (thn (he pins s σ H _ I h) fun v s1 ⟨x,H1,I1,r1,q1⟩=>?_);refine wpAny_Slice (thn (hl pins s1 σ H1 _ I1 q1) fun vl s2 ⟨l,H2,I2,pl,q2⟩=>thn (hu pins s2 σ H2 _ I2 q2) fun vu s3 ⟨u,H3,I3,pu,q3⟩=>?_);rw [evalPart_none];refine g9 ?_;have I4:Inv X pins σ H3 {s3 with heap:=s3.heap.push {cls:=.type "slice",data:=.fields #[vl,vu,.none]} }:=I3.kept (t':=s3.toks) fun b ob q=>gd _ q;obtain⟨T,id,hT,ht,hg⟩:=hr pins {s3 with heap:=s3.heap.push {cls:=.type "slice",data:=.fields #[vl,vu,.none]} } σ H3 x v vl vu l u s3.heap.objs.size Q I4 r1 (Heap.IsSliceOf.new ..) pl pu q3;show wpAny (model X.prog X.w) X.A (subscriptTail e (.Slice lo hi none p2) v (.ref s3.heap.objs.size)) (EP X pins σ Q) X.xe {s3 with heap:=s3.heap.push {cls:=.type "slice",data:=.fields #[vl,vu,.none]} };exact tail_any (ops:=[.ref s3.heap.objs.size,v]) ht hT hg (by with_unfolding_all rfl)
def q1h(xs:List V)(lo hi:Option Int): List V:=(xs.drop (HT.sIx xs.length 0 lo)).take (HT.sIx xs.length xs.length hi-HT.sIx xs.length 0 lo)
theorem q68(xs:List V)(lo hi:Option Int): (q1h xs lo hi).length<=xs.length:=by
 unfold q1h;rw [p6,g00];omega
def qtt(K:PySem.W.Frag): V->Option Int->Option Int->Hp->VK->Prop:=fun x lo hi H Q=>∃a xs,x=.ref a/\SqT K H a xs /\
 ¬(HT.sIx xs.length 0 lo=0/\HT.sIx xs.length xs.length hi=xs.length)/\∀p,H p=none->Q (.ref p) (upd H p (.tup (q1h xs lo hi)))
theorem sl_tup:SlR X (qtt X.K):=by
 intro pins s σ H x v vl vu lo hi sl Q I rx hs pl pu h;obtain⟨a,xs,rfl,hx,hw,q⟩:=h;cases rx;obtain⟨its,r,ht,hz⟩:=I.tuple hx;have hlen:its.toArray.size=xs.length:=by rw [gv];exact r.length.symm
 refine⟨"tuple",_,g0c.lookup,ht.typeIs,?_⟩;refine HT.getItem_tuple_cut ht hs pl pu (by rw [hlen];exact hw) ?_ (by rw [hlen];exact hz);rw [hlen];refine⟨.ref s.heap.objs.size,_,I.laid (t':=s.toks) (o:=.tup (q1h xs lo hi)) (fun b ob q=>gd _ q) (gw _) ?_,rfl,q _ (I.hok.fresh (gw _))⟩;exact⟨my (q68 xs lo hi) hz,_,(r.drop (HT.sIx xs.length 0 lo)).take (HT.sIx xs.length xs.length hi-HT.sIx xs.length 0 lo),TupX.new _ _⟩
def qsu(K:PySem.W.Frag): R2:=fun x y H Q=>∃a b xs ys,x=.ref a/\y=.ref b/\SqT K H a xs/\SqT K H b ys/\xs≠[]/\xs.length+ys.length<=sizeLine /\
 (ys=[]->Q (.ref a) H)/\(ys≠[]->∀p,H p=none->Q (.ref p) (upd H p (.tup (xs++ys))))
theorem Vals.nil_iff{xs:List V}{us:List Value}(r:Vals xs us): us=[]↔xs=[]:=by
 cases r with
 | nil=>simp
 | cons _ _=>simp
theorem qnp:OpR X (binaryOp .Add) (qsu X.K):=by
 intro pins s σ H x y v u Q I rx ry h;obtain⟨a,b,xs,ys,rfl,rfl,ha,hb,hx,hz,q1,q2⟩:=h;cases rx;cases ry;obtain⟨its,r1,p1,_⟩:=I.tuple ha;obtain⟨its2,r2,p2,_⟩:=I.tuple hb;refine HT.cat_tup p1 p2 (fun z=>hx (r1.nil_iff.mp z)) (fun z=>⟨.ref a,H,I,rfl,q1 (r2.nil_iff.mp z)⟩) (fun z=>?_) (by rw [<- r1.length, <- r2.length];exact hz);refine⟨.ref s.heap.objs.size,_,I.laid (t':=s.toks) (o:=.tup (xs++ys)) (fun b ob q=>gd _ q) (gw _) ?_,rfl,q2 (fun w=>z (r2.nil_iff.mpr w)) _ (I.hok.fresh (gw _))⟩;exact⟨by rw [t5];exact hz,_,r1.append r2,TupX.new _ _⟩
end
def ixN(n:Nat)(i:Int): Option Nat:=if 0<=i then(if i<n then some i.toNat else none) else if -(n:Int)<=i then some (i+n).toNat else none
def atI{α : Type}(xs:List α)(i:Int): Option α :=(ixN xs.length i).bind fun j=>xs[j]?
theorem qnq{n:Nat}{i:Int}{j:Nat}(h:ixN n i=some j): seqIndex? i n=some j/\j<n /\ -(n:Int)<=i/\i<n:=by
 unfold ixN at h
 by_cases h0:0<=i
 ·rw [md h0] at h
  by_cases h1:i<n
  ·rw [md h1] at h
   have e:i.toNat=j:=mf h;exact⟨by rw [seqIndex_of h0 h1,e],by omega,by omega,h1⟩
  ·rw [mi h1] at h;cases h
 ·rw [mi h0] at h
  by_cases h1 : -(n:Int)<=i
  ·rw [md h1] at h
   have e:(i+n).toNat=j:=mf h;exact⟨by rw [seqIndex_neg (by omega) h1,e],by omega,h1,by omega⟩
  ·rw [mi h1] at h;cases h
theorem q8p{α : Type}{xs:List α}{i:Int}{v : α}(h:atI xs i=some v): ∃j,seqIndex? i xs.length=some j/\xs[j]? = some v/\j<xs.length /\ -(xs.length:Int)<=i/\i<xs.length:=by
 unfold atI at h;cases e:ixN xs.length i with
 | none=>rw [e] at h;cases h
 | some j=>
  rw [e] at h;obtain⟨h1,h2,h3,h4⟩:=qnq e;exact⟨j,h1,h,h2,h3,h4⟩
def q8q(b:Expr): Prop:=∀o i,subscripted b false o i=operate [o,i] (getItem o i)
def IxR(X:Cx)(r:R2): Prop:=
 ∀(value slice:Expr) (pins:List (Addr×Obj)) (s:Shared) (σ : St) (H:Hp) (x y:V) (v u:Value) (Q:VK),Inv X pins σ H s->RelV x v->RelV y u->r x y H Q ->
  subscripted slice false v u=operate [v,u] (getItem v u)->wpAny (model X.prog X.w) X.A (subscriptTail value slice v u) (EP X pins σ Q) X.xe s
def MtR(X:Cx)(id:String)(r:V->List V->Hp->VK->Prop): Prop:=
 ∀(pins:List (Addr×Obj)) (s:Shared) (σ : St) (H:Hp) (x:V) (xs:List V) (v:Value) (us:List Value) (Q:VK),Inv X pins σ H s->RelV x v->Vals xs us->r x xs H Q ->
  wpAny (model X.prog X.w) X.A (call (.builtin id) (v :: us)) (EP X pins σ Q) X.xe s
section
variable{X:Cx}{a b:Expr}{ta tb:TE}{pos:Pos}
theorem IxR.or{r r':R2}(h:IxR X r)(h':IxR X r'): IxR X (fun x y H Q=>r x y H Q\/r' x y H Q):=by
 intro value slice pins s σ H x y v u Q I rx ry q hs;rcases q with q|q
 ·exact h value slice pins s σ H x y v u Q I rx ry q hs
 ·exact h' value slice pins s σ H x y v u Q I rx ry q hs
theorem qmu{r:R2}(hr:IxR X r)(ha:PE X a ta)(hb:PE X b tb)(hs:q8q b): PE X (.Subscript a b pos) (tOp r ta tb):=by
 intro pins s σ H Q I h;exact Subscript_ (qjz ha hb I h fun v u s2 x y H2 I2 rx ry q=>hr a b pins s2 σ H2 x y v u Q I2 rx ry q (hs _ _))
def qqg(K:PySem.W.Frag): R2:=fun x y H Q=>∃p xs i v,x=.ref p/\y=.int i/\SqL K H p xs/\atI xs i=some v/\Q v H
def qqh(K:PySem.W.Frag): R2:=fun x y H Q=>∃p xs i v,x=.ref p/\y=.int i/\SqT K H p xs/\atI xs i=some v/\Q v H
def rIxS:R2:=fun x y H Q=>∃z i c,x=.str z/\y=.int i/\z.length<=sizeLine/\atI z.cps.toList i=some c/\Q (.str ⟨#[c]⟩) H
theorem ix_list:IxR X (qqg X.K):=by
 intro value slice pins s σ H x y v u Q I rx ry h hs;obtain⟨p,xs,i,z,rfl,rfl,hq,he,q⟩:=h;cases rx;obtain⟨t,rfl⟩:=ry;obtain⟨its,r,pl,hz⟩:=I.list hq;obtain⟨j,h1,h2,h3,h4,h5⟩:=q8p he;obtain⟨w,ew,rw'⟩:=r.get h2;have hl:=r.length;have hn:=q4p;have fin:EP X pins σ Q w s:=⟨z,H,I,rw',q⟩
 by_cases h0:0<=i
 ·have hj:i.toNat=j:=by
   rw [seqIndex_of h0 h5] at h1;exact mf h1
  exact item_listR pl.isList h0 (by omega) (by rw [hj];simpa using ew) fin hs
 ·have hj:(i+(its.toArray.size:Int)).toNat=j:=by
   rw [seqIndex_neg (by omega) h4] at h1;rw [gv, <- hl];exact mf h1
  exact subscriptTail_builtinR (x:=w) pl.isList.typeIs slot_list_getitem.lookup
   (wpAny_getItem_list_neg (Q:=fun r s'=>r=w/\EP X pins σ Q r s') pl.isList (by omega) (by rw [gv] <;> omega) (by omega) (by rw [hj];simpa using ew) ⟨rfl,fin⟩) hs
theorem ix_tup:IxR X (qqh X.K):=by
 intro value slice pins s σ H x y v u Q I rx ry h hs;obtain⟨p,xs,i,z,rfl,rfl,hq,he,q⟩:=h;cases rx;obtain⟨t,rfl⟩:=ry;obtain⟨its,r,pl,hz⟩:=I.tuple hq;obtain⟨j,h1,h2,h3,h4,h5⟩:=q8p he;obtain⟨w,ew,rw'⟩:=r.get h2;have hl:=r.length;have hn:=q4p;have fin:EP X pins σ Q w s:=⟨z,H,I,rw',q⟩
 exact subscriptTail_builtinR (x:=w) pl.typeIs slot_tuple_getitem.lookup
  (getItem_tuple (j:=j) (Q:=fun r s'=>r=w/\EP X pins σ Q r s') pl (by omega) (by omega) (by rw [gv, <- hl];exact h1) (by simpa using ew) ⟨rfl,fin⟩) hs
theorem qqi:IxR X rIxS:=by
 intro value slice pins s σ H x y v u Q I rx ry h hs;obtain⟨z,i,c,rfl,rfl,hz,he,q⟩:=h;obtain⟨t,rfl⟩:=rx;obtain⟨t',rfl⟩:=ry;obtain⟨j,h1,h2,h3,h4,h5⟩:=q8p he;have hl:z.cps.toList.length=z.length:=by simp [Str.length]
 rw [hl] at h1 h4 h5;have hn:=q4p;exact tail_any (typeIs_str s z t) slot_str_getitem.lookup (getItem_str (c:=c) (by
  have e1:decide (i < -(2 ^ 63:Int))=false:=p9 (by omega);have e2:decide (i>=2 ^ 63)=false:=p9 (by omega);rw [e1,e2,Bool.or_false]) (by rw [h1];simpa using h2) ⟨.str ⟨#[c]⟩,H,I.tok _,⟨_,rfl⟩,q⟩) hs
def rIx(K:PySem.W.Frag): R2:=fun x y H Q=>qqg K x y H Q\/qqh K x y H Q\/rIxS x y H Q
theorem qqj:IxR X (rIx X.K):=ix_list.or (ix_tup.or qqi)
theorem qb3(lo hi:Option Int)(n:Nat): (sliceBounds lo hi none n).1=((HT.sIx n 0 lo:Nat):Int)/\(sliceBounds lo hi none n).2.1=((HT.sIx n n hi:Nat):Int)/\(sliceBounds lo hi none n).2.2=1:=by
 refine⟨?_,?_,rfl⟩
 ·cases lo with
  | none=>simp [sliceBounds,HT.sIx]
  | some i=>
   simp only [sliceBounds,HT.sIx,Option.getD_none,show(1:Int)>0 by decide,p0]
   by_cases h:i<0
   ·simp only [h,p0] <;> omega
   ·simp only [h,ny] <;> omega
 ·cases hi with
  | none=>simp [sliceBounds,HT.sIx]
  | some i=>
   simp only [sliceBounds,HT.sIx,Option.getD_none,show(1:Int)>0 by decide,p0]
   by_cases h:i<0
   ·simp only [h,p0] <;> omega
   ·simp only [h,ny] <;> omega
theorem qag(its:List Value)(lo hi:Option Int): slicePick its.toArray lo hi none=((its.drop (HT.sIx its.length 0 lo)).take (HT.sIx its.length its.length hi-HT.sIx its.length 0 lo)).toArray:=by
 obtain⟨h1,h2,h3⟩:=qb3 lo hi its.toArray.size;unfold slicePick;rw [h1,h2,h3];simp only [sliceRange_one,pick_run,gv] <;> rfl
def qtu(K:PySem.W.Frag): V->Option Int->Option Int->Hp->VK->Prop:=fun x lo hi H Q=>∃a xs,x=.ref a/\SqL K H a xs/\∀p,H p=none->Q (.ref p) (upd H p (.lst (q1h xs lo hi)))
theorem sl_list:SlR X (qtu X.K):=by
 intro pins s σ H x v vl vu lo hi sl Q I rx hs pl pu h;obtain⟨a,xs,rfl,hx,q⟩:=h;cases rx;obtain⟨its,r,ht,hz⟩:=I.list hx;have hlen:=r.length;refine⟨"list",_,slot_list_getitem.lookup,ht.isList.typeIs,?_⟩;refine wpAny_getItem_list_slice ht.isList hs pl pu .none (by simp) ?_ (by rw [gv] <;> omega);rw [qag, <- hlen];refine⟨.ref s.heap.objs.size,_,I.laid (t':=s.toks) (o:=.lst (q1h xs lo hi)) (fun b ob q=>gd _ q) (gw _) ?_,rfl,q _ (I.hok.fresh (gw _))⟩;exact⟨my (q68 xs lo hi) hz,_,0,(r.drop (HT.sIx xs.length 0 lo)).take (HT.sIx xs.length xs.length hi-HT.sIx xs.length 0 lo),gf _ rfl⟩
def q00:V->Bool
 | .non=>true
 | .bl _=>true
 | .int _=>true
 | .str _=>true
 | _=>false
def eqV:V->V->Bool
 | .non,.non=>true
 | .bl a,.bl b=>a==b
 | .bl a,.int b=>(if a then 1 else 0)==b
 | .int a,.bl b=>a==(if b then 1 else 0)
 | .int a,.int b=>a==b
 | .str a,.str b=>a==b
 | _,_=>false
theorem qho{A:Around}{s:Shared}{y x:V}{u v:Value}(ry:RelV y u)(rx:RelV x v)(fy:q00 y=true)(fx:q00 x=true): SeqAt.EqAt A s u v (eqV y x):=by
 cases y with
 | non=>
  cases ry;cases x with
  | non=>cases rx;exact g66 _
  | bl b=>cases rx;exact SeqAt.EqAt.none_bool b
  | int b=>obtain⟨t,rfl⟩:=rx;exact SeqAt.EqAt.none_int b t
  | str b=>obtain⟨t,rfl⟩:=rx;exact SeqAt.EqAt.none_str b t
  | _=>exact absurd (show false=true from fx) mh
 | bl a=>
  cases ry;cases x with
  | non=>cases rx;exact SeqAt.EqAt.bool_none a
  | bl b=>cases rx;exact SeqAt.EqAt.bool_bool a b
  | int b=>obtain⟨t,rfl⟩:=rx;exact SeqAt.EqAt.bool_int a b t
  | str b=>obtain⟨t,rfl⟩:=rx;exact SeqAt.EqAt.bool_str a b t
  | _=>exact absurd (show false=true from fx) mh
 | int a=>
  obtain⟨t',rfl⟩:=ry;cases x with
  | non=>cases rx;exact SeqAt.EqAt.int_none a t'
  | bl b=>cases rx;exact SeqAt.EqAt.int_bool a t' b
  | int b=>obtain⟨t,rfl⟩:=rx;exact SeqAt.EqAt.int_int a t' b t
  | str b=>obtain⟨t,rfl⟩:=rx;exact SeqAt.EqAt.int_str a t' b t
  | _=>exact absurd (show false=true from fx) mh
 | str a=>
  obtain⟨t',rfl⟩:=ry;cases x with
  | non=>cases rx;exact SeqAt.EqAt.str_none a t'
  | bl b=>cases rx;exact SeqAt.EqAt.str_bool a t' b
  | int b=>obtain⟨t,rfl⟩:=rx;exact SeqAt.EqAt.str_int a t' b t
  | str b=>obtain⟨t,rfl⟩:=rx;exact SeqAt.EqAt.str_str a t' b t
  | _=>exact absurd (show false=true from fx) mh
 | _=>exact absurd (show false=true from fy) mh
def eqU(x:V)(u:Value): Bool:=match u with
 | .none=>eqV .non x
 | .bool b=>eqV (.bl b) x
 | .int i _=>eqV (.int i) x
 | .str z _=>eqV (.str z) x
 | _=>false
theorem qhp{x y:V}{u:Value}(r:RelV y u)(f:q00 y=true): eqU x u=eqV y x:=by
 cases y with
 | non=>cases r;rfl
 | bl b=>cases r;rfl
 | int i=>obtain⟨t,rfl⟩:=r;rfl
 | str z=>obtain⟨t,rfl⟩:=r;rfl
 | _=>exact absurd (show false=true from f) mh
theorem q3e{x:V}: ∀ {xs:List V} {us:List Value},Vals xs us->xs.all q00=true->us.any (eqU x)=xs.any fun y=>eqV y x
 | _,_,.nil,_=>rfl
 | y :: xs,u :: us,.cons r t,f=>by
  rw [g46,m9] at f;rw [List.any_cons,List.any_cons,qhp r f.1,q3e t f.2]
theorem q20{A:Around}{s:Shared}{x:V}{v:Value}(rx:RelV x v)(fx:q00 x=true): ∀ {xs:List V} {us:List Value},Vals xs us->xs.all q00=true->∀u∈us,SeqAt.EqAt A s u v (eqU x u)
 | _,_,.nil,_=>fun u hu=>by cases hu
 | y :: xs,u :: us,.cons r t,f=>fun u' hu=>by
  rw [g46,m9] at f;rcases mm.mp hu with rfl|hu
  ·rw [qhp r f.1];exact qho r rx f.1 fx
  ·exact q20 rx fx t f.2 u' hu
def inV(x:V)(xs:List V): Bool:=xs.any fun y=>eqV y x
def rIn(K:PySem.W.Frag)(neg:Bool): R2:=fun x y H Q=>∃p xs,y=.ref p/\(SqL K H p xs\/SqT K H p xs)/\q00 x=true/\xs.all q00=true/\Q (.bl (if neg then !inV x xs else inV x xs)) H
theorem qhq:OpR X (compareOp .In) (rIn X.K false):=by
 intro pins s σ H x y v u Q I rx ry h;obtain⟨p,xs,rfl,hq,fx,fs,q⟩:=h;cases ry;rcases hq with hq|hq
 ·obtain⟨its,r,pl,hz⟩:=I.list hq
  refine SeqAt.in_listAt (eqU x) pl.isList (fun w hw=>q20 rx fx r fs w (by simpa using hw)) ⟨.bl _,H,I,rfl,?_⟩;rw [show its.toArray.any (eqU x)=its.any (eqU x) by simp,q3e r fs];exact q
 ·obtain⟨its,r,pl,hz⟩:=I.tuple hq
  refine SeqAt.in_tupleAt (eqU x) pl (fun w hw=>q20 rx fx r fs w (by simpa using hw)) ⟨.bl _,H,I,rfl,?_⟩;rw [show its.toArray.any (eqU x)=its.any (eqU x) by simp,q3e r fs];exact q
theorem qb4:OpR X (compareOp .NotIn) (rIn X.K true):=by
 intro pins s σ H x y v u Q I rx ry h;obtain⟨p,xs,rfl,hq,fx,fs,q⟩:=h;cases ry;rcases hq with hq|hq
 ·obtain⟨its,r,pl,hz⟩:=I.list hq
  refine SeqAt.notIn_listAt (eqU x) pl.isList (fun w hw=>q20 rx fx r fs w (by simpa using hw)) ⟨.bl _,H,I,rfl,?_⟩;rw [show its.toArray.any (eqU x)=its.any (eqU x) by simp,q3e r fs];exact q
 ·obtain⟨its,r,pl,hz⟩:=I.tuple hq
  refine SeqAt.notIn_tupleAt (eqU x) pl (fun w hw=>q20 rx fx r fs w (by simpa using hw)) ⟨.bl _,H,I,rfl,?_⟩;rw [show its.toArray.any (eqU x)=its.any (eqU x) by simp,q3e r fs];exact q
theorem qah:jz X (.type "tuple") (fun xs H Q=>∃p ys,xs=[.ref p]/\((SqL X.K H p ys/\∀l,H l=none->Q (.ref l) (upd H l (.tup ys)))\/(SqT X.K H p ys/\Q (.ref p) H))):=by
 intro pins s σ H xs us Q I r h;obtain⟨p,ys,rfl,h⟩:=h;obtain⟨u,rfl,rx⟩:=vals1 r;cases rx;rcases h with⟨hq,q⟩|⟨hq,q⟩
 ·obtain⟨its,r',pl,hz⟩:=I.list hq
  have hlen:=r'.length;refine call_tuple_list pl.isList (fun h' kp=>?_) (by simp only [gv] <;> omega);have I1:Inv X pins σ H {s with heap:=h'}:=I.kept (t':=s.toks) kp;have I2:Inv X pins σ (upd H h'.objs.size (.tup ys)) {s with heap:=h'.push {cls:=.type "tuple",data:=.seq its.toArray} }:=
   I1.laid (t':=s.toks) (fun b o e=>gd _ e) (gw _) (show ObjOk X.prog X.w _ _ _ (.tup ys) from⟨hz,its,r',TupX.new _ _⟩)
  exact⟨.ref h'.objs.size,_,I2,rfl,q _ (I1.hok.fresh (gw _))⟩
 ·obtain⟨its,r',pl,hz⟩:=I.tuple hq
  exact call_tuple_same pl ⟨.ref p,H,I,rfl,q⟩
def tyV(K:PySem.W.Frag)(T:String)(x:V)(H:Hp): Prop:=match x with
 | .str _=>T="str"
 | .int _=>T="int"
 | .ref p=>(T="list" /\ ∃xs,SqL K H p xs)\/(T="tuple" /\ ∃o,K.lookup p=some o/\o.cls=.type "tuple" /\ o.dict=none) \/
   (T="dict" /\ ((∃kvs,H p=some (.dK kvs))\/∃kvs,H p=some (.dT kvs)))\/(T="set" /\ ∃S n,H p=some (.set S n))
 | _=>False
theorem qqk{pins:List (Addr×Obj)}{σ : St}{H:Hp}{s:Shared}{T:String}{x:V}{v:Value}(I:Inv X pins σ H s)(r:RelV x v)(ty:tyV X.K T x H):
  s.TypeIs v T/\∀a,v=.ref a->∃ob,s.heap.get? a=some ob/\ob.dict=none:=by
 cases x with
 | str z=>
  obtain⟨t,rfl⟩:=r;cases(show T="str" from ty);exact⟨typeIs_str s z t,fun _ e=>nomatch e⟩
 | int i=>
  obtain⟨t,rfl⟩:=r;cases(show T="int" from ty);exact⟨typeIs_int s i t,fun _ e=>nomatch e⟩
 | ref p=>
  cases r;rcases ty with⟨rfl,xs,hq⟩|⟨rfl,o,hk,hc,hd⟩|⟨rfl,hk⟩|⟨rfl,S,n,hk⟩
  ·obtain⟨its,_,pl,_⟩:=I.list hq
   refine⟨pl.isList.typeIs,fun a e=>?_⟩;cases e;obtain⟨o,n,e,c,hd,_⟩:=pl;exact⟨o,e,hd⟩
  ·refine⟨⟨o,I.kIn p o hk,hc⟩,fun a e=>?_⟩
   cases e;exact⟨o,I.kIn _ o hk,hd⟩
  ·have z:∃o,s.heap.get? p=some o/\o.ExactDict:=by
    rcases hk with⟨kvs,hk⟩|⟨kvs,hk⟩
    ·obtain⟨_,_,_,_,o,_,_,e,ex,_⟩:=I.hok p _ hk
     exact⟨o,e,ex⟩
    ·obtain⟨_,_,_,_,o,_,_,e,ex,_⟩:=I.hok p _ hk
     exact⟨o,e,ex⟩
   obtain⟨o,e,ex⟩:=z;refine⟨⟨o,e,ex.1⟩,fun a e2=>?_⟩;cases e2;exact⟨o,e,ex.2.1⟩
  ·obtain⟨o,_,_,_,e,ex,_⟩:=I.hok p _ hk
   refine⟨⟨o,e,ex.1⟩,fun a e2=>?_⟩;cases e2;exact⟨o,e,ex.2.1⟩
 | _=>exact False.elim ty
def tBM(K:PySem.W.Frag)(T:String)(r:V->List V->Hp->VK->Prop)(to:TE)(t:TA): TE:=fun σ H Q=>to σ H fun x H1=>tyV K T x H1/\t σ H1 fun xs H2=>r x xs H2 Q
variable{o e:Expr}{es:List Expr}{to:TE}{t:TA}{name:Str}{apos cpos:Pos}{T id:String}{r:V->List V->Hp->VK->Prop}
theorem qmv(pa:PlainAttrs T)(slot:Slot T name id)(hty:typeOf (.builtin id)=pure (.type "method_descriptor"))(hm:MtR X id r)(ho:PE X o to)(ha:PA X (e :: es) t)
  (hbase:attributeBase o name X.env (eval o X.env)=eval o X.env:=by rfl)
  (hfew:((backTo cpos (starEach (e :: es) X.env)).all (fun x=> !x.1)&&(backToKw cpos (keywordEach [] X.env)).all (fun x=>x.1.isSome)
   && decide ((e :: es).length+([]:List Keyword).length+(if([]:List Keyword).isEmpty then 0 else 1)<30))=true:=by rfl)
  (hline:(apos.endLine==cpos.line)=true:=by rfl) (hs:starEach (e :: es) X.env=(false,eval e X.env) :: starEach es X.env:=by rfl) (hplain:(backTo cpos (starEach es X.env)).any (·.1)=false:=by rfl) :
  PE X (.Call (.Attribute o name apos) (e :: es) [] cpos) (tBM X.K T r to t):=by
 intro pins s σ H Q I h;refine wpAny_Call_method_late hbase hfew hline rfl (thn (ho pins s σ H _ I h) fun v s1 ⟨x,H1,I1,r1,ty,q1⟩=>?_);obtain⟨h1,h2⟩:=qqk I1 r1 ty;refine⟨T,id,pa,slot,hty,h1,h2,?_⟩;have hA:=ha cpos pins s1 σ H1 _ I1 q1;rw [hs] at hA ⊢;refine g43 (by show(false || (backTo cpos (starEach es X.env)).any (·.1))=false;rw [hplain] <;> rfl) (Calls.evalArgs_plain ?_);exact thn hA fun us s2 ⟨vs,H2,I2,r2,q2⟩=>hm pins s2 σ H2 x vs v us Q I2 r1 r2 q2
end
def MtM(X:Cx)(id:String)(r:V->List V->Hp->VK->Prop): Prop:=
 ∀(pins:List (Addr×Obj)) (s:Shared) (σ : St) (H:Hp) (x:V) (xs:List V) (v:Value) (us:List Value) (Q:VK),Inv X pins σ H s->RelV x v->Vals xs us->r x xs H Q ->
  wpAny (model X.prog X.w) X.A (call (.builtin id) (v :: us)) (EP X pins σ Q) X.xe s
theorem Vals.one:∀ {x:V} {us:List Value},Vals [x] us->∃u,us=[u]/\RelV x u
 | _,_,.cons r .nil=>⟨_,rfl,r⟩
theorem Vals.two:∀ {x y:V} {us:List Value},Vals [x,y] us->∃u v,us=[u,v]/\RelV x u/\RelV y v
 | _,_,_,.cons r (.cons q .nil)=>⟨_,_,rfl,r,q⟩
section
variable{X:Cx}{pins:List (Addr×Obj)}{σ : St}{H:Hp}{s:Shared}{l b:Addr}{xs ys zs:List V}
theorem Inv.lset{its its':List Value}{n:Nat}{f:Array Value->Array Value}{t':Nat}(I:Inv X pins σ H s)(hH:H l=some (.lst xs))
  (e:s.heap.get? l=some {cls:=.type "list",data:=.seq its.toArray n}) (hf:f its.toArray=its'.toArray) (hv:Vals ys its') (hz:ys.length<=sizeLine) :
  Inv X pins σ (upd H l (.lst ys)) {s with heap:=s.heap.update l (Obj.mapSeq f),toks:=t'}:=by
 have q:=PySem.IsL.update e f;rw [hf] at q;refine I.write (x:=l) (e:=l) (by rw [hH];exact trivial) (.inl rfl) (fun b' u hb hu=>(g0g s.heap (Obj.mapSeq f) (nj hb)).trans hu) ⟨_,q⟩ ?_;exact⟨hz,its',_,hv,q⟩
theorem Inv.lnew{its:List Value}{t':Nat}(I:Inv X pins σ H s)(hv:Vals ys its)(hz:ys.length<=sizeLine):
  Inv X pins σ (upd H s.heap.objs.size (.lst ys)) {s with heap:=s.heap.push {cls:=.type "list",data:=.seq its.toArray},toks:=t'}:=
 I.laid (fun _ _ q=>gd _ q) (gw _) ⟨hz,its,0,hv,gf _ rfl⟩
theorem Inv.fresh(I:Inv X pins σ H s): H s.heap.objs.size=none:=I.hok.fresh (gw _)
theorem Inv.lstM(I:Inv X pins σ H s)(hH:H l=some (.lst xs)): xs.length<=sizeLine/\∃(its:List Value) (n:Nat),Vals xs its/\xs.length=its.length/\s.heap.get? l=some {cls:=.type "list",data:=.seq its.toArray n}:=by
 obtain⟨z,its,n,r,e⟩:=I.hok l _ hH;exact⟨z,its,n,r,r.length,e⟩
theorem qk8{n:Nat}(h:n<=sizeLine): Builtin.List.listTooLong n=false:=by
 unfold Builtin.List.listTooLong;exact p9 (by omega)
end
section
variable{X:Cx}
def rAppend:V->List V->Hp->VK->Prop:=fun x vs H Q=>∃l xs y,x=.ref l/\vs=[y]/\H l=some (.lst xs)/\xs.length<sizeLine/\Q .non (upd H l (.lst (xs++[y])))
theorem q9k:MtM X "list.append" rAppend:=by
 intro pins s σ H x vs v us Q I rx rv h;obtain⟨l,xs,y,rfl,rfl,hH,hz,q⟩:=h;cases rx;obtain⟨u,rfl,ru⟩:=rv.one;obtain⟨z,its,n,r,hl,e⟩:=I.lstM hH;refine g4l F.slot_list_append ⟨_,e,rfl⟩ F.entry_list_append (F.args_list_append_2 _ _) (PySem.list_append l its.toArray n u (by rw [gv];omega)) ⟨e,?_⟩;refine⟨.non,_,I.lset (its':=its++[u]) hH e (by simp) (r.append (.cons ru .nil)) ?_,rfl,q⟩;rw [t5,g4e];omega
end
section
variable{prog:Program}{w:World}{A:Around}{E:Value->Shared->Prop}{s:Shared}
end
section
variable{X:Cx}
end
end L2
namespace Att
open PySem PySem.W PySem.Calls PyProof.Rows
theorem q7m{P:Params}{h:Heap}: ∀(ns:List Int) (vs:List Value),WellAll P h vs (ns.map WData.int)->IntsAre vs ns:=by
 intro ns
 induction ns with
 | nil=>
  intro vs w;rw [g0x] at w;cases w;exact .nil
 | cons n ns ih=>
  intro vs w;rw [gj] at w;cases w with
  | cons a b=>
   cases a;exact .cons _ _ (ih _ b)
theorem qhr{l:OpenLaw}{n:Nat}(hn:l.most=some n){P:Params}{h:Heap}{args:List WData}{vals:List Value}
  (hpre:l.row.toRowW.claim.pre args=true) (hwl:WellAll P h vals args) :
  ∃a vs ns,vals=[Value.ref a]/\args=[WData.list (ns.map WData.int)]/\h.get? a=some {cls:=.type "list",data:=.seq vs.toArray}/\IntsAre vs ns/\ns.length<=n:=by
 have hsh:WShape.hasAll [] args [.list .int]=true:=(pre_splitW hpre).1;have hc:l.pre.holds [] {args:=args}=true:=(pre_splitW hpre).2;obtain⟨d,r,rfl,h1,h2⟩:=hasAllW_cons hsh;obtain rfl:=hasAllW_nil h2;obtain⟨xs,rfl,h3⟩:=hasW_list h1;obtain⟨ns,rfl⟩:=items_int h3;have hlen:ns.length<=n:=by
  unfold OpenLaw.pre at hc;have h4:(WTm.not (.lt (.lit (.int (n:Int))) (.len (.arg 0)))).holds [] {args:=[.list (ns.map .int)]}=true:=by
   have h4:=(holds_andW hc).1;rw [hn] at h4;exact h4
  have h5:=condW_of h4 (w_not (w_lt w_lit (w_len_list (w_arg rfl))));rw [mn] at h5;refine Nat.le_of_not_lt fun q=>?_;have q':(n:Int)<((ns.length:Nat):Int):=by omega
  first
   | (rw [nk q'] at h5;exact absurd h5 (by decide))
   | (simp at h5;omega)
 cases hwl with
 | cons w1 w2=>
  cases w2;cases w1 with
  | list ho hall=>exact⟨_,_,ns,rfl,rfl,ho,q7m ns _ hall,hlen⟩
theorem qhs(l:OpenLaw)(args:List WData): l.row.toRowW.claim.post args (.bool true) args=true:=
 postW_of (r:=l.row.toRowW) (X:=(true==true))
  (show WShape.has [] (.bool true) .bool=true by first|rfl|decide|simp [WShape.has,WShape.arms,WShape.armsAll])
  (show(WTm.eq .res (.lit (.bool true))).value [] {args:=args,res:=some (.bool true),after:=args}=some (.bool (true==true)) from w_eq_bool (w_res rfl) w_lit) rfl
theorem attach_call{l:OpenLaw}{n:Nat}{q:Program}{loose:List Str}{XP:(Str->Option Value)->Heap->Prop}{YP:World->Heap->Prop}{d:DefRec}
  (hn:l.most=some n) (hdf:d.params.defaults=[])
  (call:∀(w:World) (s₀ s₁:Shared) (mg mb:Str->Option Value) (fa:Addr) (o:Obj) (pm cd doc:Value) (a:Addr) (vs:List Value) (ns:List Int),
   Ground q loose [] XP w s₀ mg mb s₁.heap->YP w s₁.heap ->
   s₁.heap.get? fa=some o->o.data=.func (docDef d.name d.params d.body d.scope pm cd doc)->s₁.heap.CodeRec cd d.name->mg d.name=some (.ref fa) ->
   s₁.heap.get? a=some {cls:=.type "list",data:=.seq vs.toArray}->IntsAre vs ns->ns.length<=n->s₁.gens = #[] ->
   codeAny (model l.prog w) callerA (.call (.ref fa) ⟨[.ref a],[]⟩) (fun r s'=>r=.ok (.ret (.bool true))/\OldK s₁.heap s'.heap/\s'.os=s₁.os/\AllBare s'.gens) s₁) :
  WalkO q loose XP YP l.row.toRowW d [] (fun f vs=>PySem.call f vs):=by
 intro w s₀ s₁ mg mb G Y fa o pm cd doc dV kV ho hd hcd hD hmg hg args vals as hpre hlay hrd hwl hlo;obtain rfl:dV=.none:=Dflts.none hD hdf;obtain rfl:kV=.none:=Dflts.noKw hD;obtain⟨a,vs,ns,rfl,rfl,hobj,hints,hlen⟩:=qhr hn hpre hwl;refine enter_call (g33 (call w s₀ s₁ mg mb fa o pm cd doc a vs ns G Y ho (fd_plain hd) hcd hmg hobj hints hlen hg) fun r s' hq=>?_);obtain⟨rfl,h2,h3,h4⟩:=hq;exact⟨.inl ⟨.bool true,.bool true,[],rfl,fun _=>rfl,.bool true,qhs l _,fun _=>⟨List.Pairwise.nil,fun _ hm=>(nomatch hm)⟩⟩,h2,h3,h4⟩
section
variable{prog:Program}{w:World}{A:Around}{E:Value->Shared->Prop}{s:Shared}{K:Frag}
end
end Att
namespace L2
open PySem PySem.Spec PyProof.Rows
theorem q17:∀ {vs:List Value} {ns:List Int},IntsAre vs ns->Vals (ns.map V.int) vs
 | _,_,.nil=>.nil
 | _,_,.cons n t h=>.cons ⟨t,rfl⟩ (q17 h)
def vf(s:Stmt): Arguments:=match s with
 | .FunctionDef _ a _ _ _ _ _ _ _ _=>a
 | _=>{posonlyargs:=[],args:=[],vararg:=none,kwonlyargs:=[],kw_defaults:=[],kwarg:=none,defaults:=[]}
def qt(s:Stmt): List Stmt:=match s with
 | .FunctionDef _ _ b _ _ _ _ _ _ _=>b
 | _=>[]
def qd(s:Stmt): Scope:=match s with
 | .FunctionDef _ _ _ _ _ _ sc _ _ _=>sc
 | _=>{kind:=.function,names:=[],isGenerator:=false,isCoroutine:=false}
abbrev CX0:CXT:=fun _ _ _ _ _ _=>False
abbrev E0:XK:=fun _ _ _=>False
theorem qmw{X:Cx}: q7k CX0 X E0:=fun _ _ _ _ _ _ _ h=>h.elim
structure Fun(K:PySem.W.Frag)(x qual:Str)(st:Stmt)(f:Addr)(fd:FuncData): Prop where
 ex:∃(oc:Value) (od:Option Addr) (kV doc pm:Value) (an:Option Addr) (cdv ct:Value) (osl:Array (Option Value)),
  fd=PySem.W.fnOf x qual (vf st) (qt st) (qd st) .none kV doc pm an cdv ct/\K.lookup f=some ⟨oc,od,.func fd,osl⟩/\PySem.W.codeIn K cdv qual=true
 kp:PySem.W.keepIn K (.ref f)=true
section
variable{P:Program}{w:World}{K:PySem.W.Frag}{mg:Str->Option Value}{base:Heap}
end
section
variable{X:Cx}
theorem pv(i:Nat){x:Str}{pos:Pos}(hN:X.N[i]? = some x:=by rfl)(hv:Vis X.env.scope x:=by first|exact Or.inl rfl|exact Or.inr (Or.inl rfl)|exact Or.inr (Or.inr rfl))(hd:(x==("__debug__" : Str))=false:=by decide)
  (hcd:(x==("__classdict__" : Str))=false:=by decide):PE X (.Name x pos) (q6p i):=qpp hN hv hd hcd
end
theorem qtv{A B:Prop}(h:B): if false=true then A else B:=by
 rw [mi mh];exact h
theorem qtw{A B:Prop}(h:A): if true=true then A else B:=by
 rw [md rfl];exact h
def Same(H H':Hp): Prop:=∀b o,H b=some o->H' b=some o
theorem Same.refl(H:Hp): Same H H:=fun _ _ h=>h
theorem Same.trans{H H1 H2:Hp}(a:Same H H1)(b:Same H1 H2): Same H H2:=fun c o h=>b c o (a c o h)
theorem Same.free{H H':Hp}(e:Same H H'){l:Addr}(h:H' l=Option.none): H l=Option.none:=by
 cases q:H l with
 | none=>rfl
 | some o=>
  rw [e l o q] at h;cases h
theorem Same.seq{K:PySem.W.Frag}{H H':Hp}{a:Addr}{xs:List V}(e:Same H H')(h:SqL K H a xs): SqL K H' a xs:=by
 rcases h with(h|⟨o,h⟩)|h
 ·exact .inl (.inl (e _ _ h))
 ·exact .inl (.inr ⟨o,e _ _ h⟩)
 ·exact .inr h
theorem q21(env:Env): ∀(names:List (Str×NameKind)) (acc:List (Str×Addr)),
  (∀y∈names,y.2=.free->∃c,env.cells.lookup y.1=some c)->(∀x c,acc.lookup x=some c->env.cells.lookup x=some c) ->
  ∃ cl,(forIn names acc (fun(x:Str×NameKind) (r:List (Str×Addr))=>(do
    if x.2==NameKind.free then do
     let a <- cellOf env x.1
     pure (ForInStep.yield ((x.1,a) :: r))
    else pure (ForInStep.yield r):Sem (ForInStep (List (Str×Addr))))):Sem (List (Str×Addr)))=pure cl /\
   (∀x c,cl.lookup x=some c->env.cells.lookup x=some c)/\(∀x c,acc.lookup x=some c->∃d,cl.lookup x=some d)/\(∀y∈names,y.2=.free->∃c,cl.lookup y.1=some c)
 | [],acc,_,h2=>⟨acc,rfl,h2,fun x c h=>⟨c,h⟩,fun y hy=>by cases hy⟩
 | (n,k) :: r,acc,h1,h2=>by
  by_cases hk:k=NameKind.free
  ·subst hk
   obtain⟨c,hc⟩:=h1 (n,.free) gq rfl;have h2':∀x d,((n,c) :: acc).lookup x=some d->env.cells.lookup x=some d:=fun x d e=>by
    rw [tx] at e
    split at e
    ·rename_i q
     have q':x=n:=by simpa using q
     subst q';cases e;exact hc
    ·exact h2 x d e
   obtain⟨cl,e,a1,a2,a3⟩:=q21 env r ((n,c) :: acc) (fun y hy=>h1 y (gr _ hy)) h2';refine⟨cl,?_,a1,fun x d e2=>?_,fun y hy hf=>?_⟩
   ·rw [g28]
    simp only [beq_self_eq_true,p0];have hco:cellOf env n=pure c:=by unfold cellOf;rw [hc]
    rw [hco];exact e
   ·by_cases q:x=n
    ·subst q
     exact a2 x c (by rw [tx];simp)
    ·exact a2 x d (by rw [tx,show(x==n)=false by simpa using q];exact e2)
   ·rcases mm.mp hy with rfl|hy
    ·exact a2 n c (by rw [tx];simp)
    ·exact a3 y hy hf
  ·obtain⟨cl,e,a1,a2,a3⟩:=q21 env r acc (fun y hy=>h1 y (gr _ hy)) h2
   refine⟨cl,?_,a1,a2,fun y hy hf=>?_⟩
   ·rw [g28]
    have hb:(k==NameKind.free)=false:=by simpa using hk
    simp only [hb,gh,ny];exact e
   ·rcases mm.mp hy with rfl|hy
    ·exact absurd hf hk
    ·exact a3 y hy hf
theorem q7n{scope:Scope}{env:Env}(h:∀y∈scope.names,y.2=.free->∃c,env.cells.lookup y.1=some c):
  ∃cl,closureFor scope env=pure cl/\(∀x c,cl.lookup x=some c->env.cells.lookup x=some c)/\(∀y∈scope.names,y.2=.free->∃c,cl.lookup y.1=some c):=by
 obtain⟨cl,e,a1,_,a3⟩:=q21 env scope.names [] h (fun x c q=>by cases q);refine⟨cl,?_,a1,a3⟩;unfold closureFor;exact(g0d (fun m=>m >>= fun r=>(pure r:Sem (List (Str×Addr)))) e).trans rfl
abbrev qht(ifs:List Expr)(env:Env): Sem Bool:=
 forIn ifs true fun c r=>if r=true then do let ok <- isTrue c env (eval c env);pure (ForInStep.yield ok) else pure (ForInStep.yield r)
def q1i(X:Cx)(ifs:List Expr)(t:TT): Prop:=
 ∀(pins:List (Addr×Obj)) (s:Shared) (σ : St) (H:Hp) (Q:Bool->Hp->Prop),Inv X pins σ H s->t σ H Q->wpAny (model X.prog X.w) X.A (qht ifs X.env) (TP X pins σ Q) X.xe s
def tTrue:TT:=fun _ H Q=>Q true H
theorem qk9{X:Cx}: q1i X [] tTrue:=fun pins s σ H Q I h=>wpAny_tests_nil ⟨H,I,h⟩
theorem qka{X:Cx}{c:Expr}{t:TT}(h:PT X c t): q1i X [c] t:=fun pins s σ H Q I hq=>wpAny_tests_one (h pins s σ H Q I hq)
section
variable{prog:Program}{w:World}{A:Around}{R:Result->Shared->Prop}{s:Shared}
theorem qdj{elt target iter:Expr}{ifs:List Expr}{scope:Scope}{pos:Pos}{it acc:Value}{env:Env}(I:Nat->Shared->Prop)
  (turn:∀n s,I n s->wpAny (model prog w) A (pyNext it) (fun r s₁=>match r with
   | none=>R (.ok .next) s₁
   | some v=>wpAny (model prog w) A (letOwnedTupleGo target it v) (fun _ s'=>wpAny (model prog w) A (assign target env v) (fun _ s₂=>
     wpAny (model prog w) A (qht ifs env) (fun ok s₃=>
      if ok=true then wpAny (model prog w) A (eval elt env) (fun x s₄=>
       wpAny (model prog w) A (call (.builtin "list.append") [acc,x]) (fun _ s₅=>∃m,m<n/\I m s₅) (fun _ _=>False) s₄) (fun _ _=>False) s₃
      else ∃m,m<n/\I m s₃) (fun _ _=>False) s₂) (fun _ _=>False) s') (fun _ _=>False) s₁) (fun _ _=>False) s)
  (n:Nat) (h:I n s) :
  codeAny (model prog w) A (.compLoop (.ListComp elt [⟨target,iter,ifs,0⟩] scope pos) 0 it acc env) R s:=by
 refine codeAny_loop rfl I (fun n s hI=>?_) n h;show wpAny _ A ((compTurn (.ListComp elt [⟨target,iter,ifs,0⟩] scope pos) 0 it acc env).onRaise (fun x=>do noteFrame x env;theTreesLotGoes x)) _ _ s;refine wpAny_noted ?_;rw [compTurn_list];refine g0 (g59 (g0 (tq (turn n s hI) (fun r s₁ h₁=>?_) fun _ _ h'=>h'.elim)));cases r with
 | none=>exact g9 h₁
 | some v=>
  refine g0 (tq h₁ (fun _ s' h'=>?_) fun _ _ h'=>h'.elim);refine g0 (tq h' (fun _ s₂ h₂=>g0 (tq h₂ (fun ok s₃ h₃=>?_) fun _ _ h'=>h'.elim)) fun _ _ h'=>h'.elim);cases ok with
  | false=>exact g9 ⟨rfl,h₃⟩
  | true=>
   exact g0 (g0 (tq h₃ (fun x s₄ h₄=>g0 (tq h₄ (fun _ s₅ h₅=>g9 (g9 ⟨rfl,h₅⟩)) fun _ _ h'=>h'.elim)) fun _ _ h'=>h'.elim))
end
def q8r(cap:List (Option Nat))(σ : St): St:=cap.map fun o=>o.bind fun j=>(σ[j]?).join
theorem lookup_mem{α β : Type}[BEq α][LawfulBEq α]{l:List (α × β)}{a : α}{b : β}(h:l.lookup a=some b): (a,b)∈l:=by
 induction l with
 | nil=>cases h
 | cons p r ih=>
  obtain⟨x,y⟩:=p;rw [tx] at h
  split at h
  ·rename_i q
   have q':a=x:=by simpa using q
   subst q';cases h;exact gq
  ·exact gr _ (ih h)
theorem q22{env:Env}: ∀ {names:List (Str×NameKind)} {x:Str} {k:NameKind},(names.map fun(n,k)=>if(k==NameKind.free&&env.scope.kind == .function&&env.kindOf n==some .cell) then(n,NameKind.cell) else(n,k)).lookup x=some k ->
  (names.lookup x=some k)\/(k=.cell/\names.lookup x=some .free)
 | [],_,_,h=>by cases h
 | (n,k0) :: r,x,k,h=>by
  have ih:=@q22 env r x k;have h':List.lookup x ((if(k0==NameKind.free&&env.scope.kind == .function&&env.kindOf n==some .cell)=true then(n,NameKind.cell) else(n,k0)) :: _)=some k:=h
  by_cases hc:(k0==NameKind.free&&env.scope.kind == .function&&env.kindOf n==some .cell)=true
  ·rw [md hc,tx] at h'
   have hf:k0=.free:=by
    simp only [m9,g4k] at hc;exact hc.1.1
   cases q:x==n with
   | true=>rw [q] at h';cases h';exact .inr ⟨rfl,by rw [tx,q,hf]⟩
   | false=>rw [q] at h';rw [tx,q];exact ih h'
  ·rw [mi hc,tx] at h'
   cases q:x==n with
   | true=>rw [q] at h';rw [tx,q];exact .inl h'
   | false=>rw [q] at h';rw [tx,q];exact ih h'
theorem q4r{env:Env}: ∀ {names:List (Str×NameKind)} {x:Str},names.lookup x=some .free ->
  (names.map fun(n,k)=>if(k==NameKind.free&&env.scope.kind == .function&&env.kindOf n==some .cell) then(n,NameKind.cell) else(n,k)).lookup x=some .cell \/
  (names.map fun(n,k)=>if(k==NameKind.free&&env.scope.kind == .function&&env.kindOf n==some .cell) then(n,NameKind.cell) else(n,k)).lookup x=some .free
 | [],_,h=>by cases h
 | (n,k0) :: r,x,h=>by
  have ih:=@q4r env r x;show List.lookup x ((if(k0==NameKind.free&&env.scope.kind == .function&&env.kindOf n==some .cell)=true then(n,NameKind.cell) else(n,k0)) :: _)=_\/List.lookup x ((if(k0==NameKind.free&&env.scope.kind == .function&&env.kindOf n==some .cell)=true then(n,NameKind.cell) else(n,k0)) :: _)=_;rw [tx] at h
  by_cases hc:(k0==NameKind.free&&env.scope.kind == .function&&env.kindOf n==some .cell)=true
  ·rw [md hc,tx]
   cases q:x==n with
   | true=>exact .inl rfl
   | false=>rw [q] at h;exact ih h
  ·rw [mi hc,tx]
   cases q:x==n with
   | true=>rw [q] at h;exact .inr h
   | false=>rw [q] at h;exact ih h
section
variable{X:Cx}{pins:List (Addr×Obj)}{σ : St}{H:Hp}{s:Shared}{N':List Str}{scope:Scope}{cap:List (Option Nat)}{cl:List (Str×Addr)}{fp:List Addr}
end
def qql(J:It)(cap:List (Option Nat))(g:TG)(tc:TT)(te:TE)(σ : St)(H1:Hp)(p:Addr)(K:Hp->Prop): Prop:=
 ∃ W:Nat->Nat->St->Hp->Prop,(∃m,W 0 m (q8r cap σ) (upd H1 p (.lst [])))/\∀i m σ' H',W i m σ' H' ->
  (J.stop i H'/\K H')\/(J.go i H'/\∀x H'',J.yld i H' x H''->g x σ' H'' fun σ2 H2=>tc σ2 H2 fun b H3=>
   if b=true then te σ2 H3 fun y H4=>∃xs,H4 p=some (.lst xs)/\xs.length<sizeLine/\∃m',m'<m/\W (i+1) m' σ2 (upd H4 p (.lst (xs++[y])))
   else ∃m',m'<m/\W (i+1) m' σ2 H3)
def qfs(wi:TI)(cap:List (Option Nat))(g:TG)(tc:TT)(te:TE): TE:=fun σ H Q=>wi σ H fun J H1=>∀p,H1 p=none->qql J cap g tc te σ H1 p (Q (.ref p))
section
variable{X:Cx}{N':List Str}{scope:Scope}{cap:List (Option Nat)}{tg iter elt:Expr}{ifs:List Expr}{wi:TI}{g:TG}{tc:TT}{te:TE}{pos:Pos}
end
section
variable{X:Cx}{N':List Str}{scope:Scope}{cap:List (Option Nat)}{tg iter elt:Expr}{ifs:List Expr}{wi:TI}{g:TG}{tc:TT}{te:TE}{pos:Pos}
end
section
variable{M:Model}{A:Around}{E:Value->Shared->Prop}{s:Shared}
theorem q4s:∀(names:List (Str×NameKind)) (n:Nat) (acc:List (Str×Addr)),cellsFrom n names acc=cellsFrom n names []++acc
 | [],_,_=>rfl
 | (x,k) :: r,n,acc=>by
  unfold cellsFrom
  split
  ·rw [q4s r (n+1) ((x,n) :: acc),q4s r (n+1) [(x,n)],n8];rfl
  ·exact q4s r n acc
theorem qb5:∀ {names:List (Str×NameKind)} {n:Nat} {acc:List (Str×Addr)} {x:Str} {c:Addr},(x,c)∈cellsFrom n names acc->(x,c)∈acc\/(x,NameKind.cell)∈names
 | [],_,_,_,_,h=>.inl h
 | (y,k) :: r,n,acc,x,c,h=>by
  unfold cellsFrom at h
  split at h
  ·rename_i hk
   have hk:k=.cell:=by simpa using hk
   subst hk;rcases qb5 h with h|h
   ·rcases mm.mp h with e|h
    ·cases e;exact .inr gq
    ·exact .inl h
   ·exact .inr (gr _ h)
  ·rcases qb5 h with h|h
   ·exact .inl h
   ·exact .inr (gr _ h)
theorem qkb{l:List (Str×Addr)}{x:Str}{c:Addr}(h:(x,c)∈l): ∃d,l.lookup x=some d:=by
 induction l with
 | nil=>cases h
 | cons p r ih=>
  obtain⟨y,d⟩:=p;rw [tx];cases q:x==y with
  | true=>exact⟨d,rfl⟩
  | false=>
   rcases mm.mp h with e|h
   ·cases e;simp at q
   ·exact ih h
theorem qb6:∀ {names:List (Str×NameKind)} {n:Nat} {acc:List (Str×Addr)} {x:Str},(x,NameKind.cell)∈names->∃c,(x,c)∈cellsFrom n names acc
 | [],_,_,_,h=>by cases h
 | (y,k) :: r,n,acc,x,h=>by
  unfold cellsFrom;rcases mm.mp h with e|h
  ·cases e
   rw [md (show(NameKind.cell==NameKind.cell)=true from rfl),q4s];exact⟨n,nt _ gq⟩
  ·split
   ·exact qb6 h
   ·exact qb6 h
theorem qhu{scope:Scope}{globals:Addr}{cl:List (Str×Addr)}{qual:Str}{outer:Env}{Q:Env->Shared->Prop}
  (hQ:Q {scope,locals:=s.heap.objs.size,globals,cells:=cellsFrom (s.heap.objs.size+1) scope.names []++cl,qual,func:=none,code:=outer.code,frame:=outer.frame,builtins:=outer.builtins} {s with heap:=pushCells (s.heap.push {cls:=.type "dict",data:=.dict #[]}) scope.names}) :
  wpAny M A (newFunctionEnv scope globals cl [] qual none .none (some outer)) Q E s:=by
 simp only [newFunctionEnv,Option.isSome_some,p0];refine g0 (wpAny_alloc ?_);refine g0 (wpAny_layCells _ (fun name kind cells=>by cases hkc:kind==NameKind.cell <;> simp [hkc]) _ _ _ _ ?_);rw [show({s with heap:=s.heap.push {cls:=.type "dict",data:=.dict #[]} }:Shared).heap.objs.size=s.heap.objs.size+1 from t6 ..,q4s];rw [g3g];exact g0 (g9 (g9 hQ))
end
abbrev j5(X:Cx)(N':List Str)(scope:Scope)(cl:List (Str×Addr))(C:Addr)(s₀:Shared)(H₀:Hp)(fp:List Addr): Cx:=
 {X with N:=N',env:=compEnvC scope cl C X.env,s₀:=s₀,H₀:=H₀,outer:=X.stack,ex:=fp,fn:=fun x=>scope.names.lookup x==some .cell,pn:=[],xe:=fun _ _=>False}
structure CapOkC(X:Cx)(N':List Str)(scope:Scope)(cap:List (Option Nat)): Prop where
 kind:scope.kind=.function
 cells:∀y∈scope.names,y.2=.cell->scope.names.lookup y.1=some .cell
 names:∀y∈scope.names,y.2=.local->scope.names.lookup y.1=some .local
 frees:∀y∈scope.names,y.2=.free->X.env.kindOf y.1=some .cell\/X.env.kindOf y.1=some .free
 len:cap.length=N'.length
 cap:∀(i j:Nat),cap[i]? = some (some j)->∃x,N'[i]? = some x/\X.N[j]? = some x/\scope.names.lookup x=some .free
section
variable{X:Cx}{pins:List (Addr×Obj)}{σ : St}{H:Hp}{s:Shared}{N':List Str}{scope:Scope}{cap:List (Option Nat)}{cl:List (Str×Addr)}{fp:List Addr}
theorem qhv(I:Inv X pins σ H s)(co:CapOkC X N' scope cap)(h1:∀x c,cl.lookup x=some c->X.env.cells.lookup x=some c)(h2:∀y∈scope.names,y.2=.free->∃c,cl.lookup y.1=some c)
  (hf:∀b∈fp,wm X pins H b) (ho:∀b∈fp,∃o,s.heap.get? b=some o) {t':Nat} :
  Inv (j5 X N' scope (cellsFrom (s.heap.objs.size+1) scope.names []++cl) s.heap.objs.size s H fp) [] (q8r cap σ) H {s with heap:=pushCells (s.heap.push {cls:=.type "dict",data:=.dict #[]}) scope.names,toks:=t'}:=by
 have flt:∀b∈fp,b<s.heap.objs.size:=fun b hb=>let⟨o,e⟩:=ho b hb;gz e
 have okc:=cellsFrom_ok scope.names (s.heap.push {cls:=.type "dict",data:=.dict #[]}) (s.heap.objs.size+1) [] ⟨fun _ _ hm=>(nomatch hm),List.Pairwise.nil⟩ (by rw [t6];exact gw _);rw [t6] at okc;have hk:∀b o,s.heap.get? b=some o->(pushCells (s.heap.push {cls:=.type "dict",data:=.dict #[]}) scope.names).get? b=some o:=fun b o e=>g67 _ _ b o (gd _ e);have hn:(pushCells (s.heap.push {cls:=.type "dict",data:=.dict #[]}) scope.names).Ns s.heap.objs.size (fun _=>none):=(Heap.Ns.new s.heap (.type "dict")).keeps (g67 _ _);generalize hnw:cellsFrom (s.heap.objs.size+1) scope.names []=nw at okc;have newc:∀ {x c},nw.lookup x=some c->(x,NameKind.cell)∈scope.names/\s.heap.objs.size+1<=c:=fun {x c} e=>by
  have m:=g5a e;have m2:=m;rw [<- hnw] at m2;rcases qb5 m2 with z|z
  ·cases z
  ·exact⟨z,(okc.empty x c m).2⟩
 have hasN:∀ {x},(x,NameKind.cell)∈scope.names->∃c,nw.lookup x=some c:=fun {x} e=>by
  obtain⟨c,hc⟩:=qb6 (n:=s.heap.objs.size+1) (acc:=[]) e;rw [hnw] at hc;exact qkb hc
 have old:∀ {x c},cl.lookup x=some c->c<s.heap.objs.size:=fun {x c} e=>let⟨v,q⟩:=I.cell x c (h1 x c e);q.lt
 have cases2:∀ {x c},(nw++cl).lookup x=some c->nw.lookup x=some c\/(nw.lookup x=none/\cl.lookup x=some c):=fun {x c} e=>by
  rw [g53] at e;cases q:nw.lookup x with
  | some d=>rw [q] at e;exact .inl e
  | none=>rw [q] at e;exact .inr ⟨rfl,e⟩
 refine⟨⟨I.ok.mod,co.kind,I.ok.glob,I.ok.blt,gw _,fun x y c e1 e2=>?_,fun x hx=>?_,fun x c z e=>?_,I.ok.hd,I.ok.frames,.inl rfl,fun b hb=>?_,I.bs,my I.ok.bsz I.sz,fun b o e hb=>?_,fun b hb z=>?_,I.stack,I.stkFree⟩,
  rfl,I.bare,Un.kept hk,⟨_,hn,fun i x v e1 e2 e3=>?_⟩,fun x c e=>?_,I.hok.fresh (gw _),fun x c e=>?_,fun p hp=>(nomatch hp),I.hok.kept hk,?_⟩
 ·rcases cases2 e1 with a|⟨_,a⟩ <;> rcases cases2 e2 with b|⟨_,b⟩
  ·exact name_of_addr okc.apart (g5a a) (g5a b)
  ·exact absurd (gu (old b) (g1b (newc a).2)) (g0q _)
  ·exact absurd (gu (old a) (g1b (newc b).2)) (g0q _)
  ·exact I.ok.inj x y c (h1 x c a) (h1 y c b)
 ·have hx':(relabel scope X.env).names.lookup x=some .cell\/(relabel scope X.env).names.lookup x=some .free:=hx
  have key:(scope.names.lookup x=some .cell)\/(scope.names.lookup x=some .free):=by
   rcases hx' with q|q
   ·rcases q22 q with z|⟨_,z⟩
    ·exact .inl z
    ·exact .inr z
   ·rcases q22 q with z|⟨z,_⟩
    ·exact .inr z
    ·cases z
  show ∃c,(nw++cl).lookup x=some c;rw [g53];rcases key with z|z
  ·obtain⟨c,hc⟩:=hasN (lookup_mem z)
   exact⟨c,by rw [hc];rfl⟩
  ·obtain⟨c,hc⟩:=h2 (x,.free) (lookup_mem z) rfl
   cases q:nw.lookup x with
   | some d=>exact⟨d,rfl⟩
   | none=>exact⟨c,hc⟩
 ·have z':scope.names.lookup x=some .cell:=by simpa using z
  obtain⟨d,hd⟩:=hasN (lookup_mem z');rcases cases2 e with a|⟨a,_⟩
  ·exact g1b (newc a).2
  ·rw [hd] at a;cases a
 ·obtain⟨f0,f1,f2,f3,f4,f5⟩:=hf b hb
  refine⟨m5 (flt b hb),fun x c e=>?_⟩;rcases cases2 e with a|⟨_,a⟩
  ·exact tu (gu (flt b hb) (g1b (newc a).2))
  ·exact f4 x c (h1 x c a)
 ·obtain⟨f0,f1,f2,f3,f4,f5⟩:=hf b hb
  rcases f3 with z|z
  ·exact I.ok.noex b o e z
  ·exact absurd (gu (gz e) (my I.ok.bsz z)) (g0q _)
 ·obtain⟨f0,f1,f2,f3,f4,f5⟩:=hf b hb
  rcases mm.mp (I.stkSub b z) with q|q
  ·exact f1 q
  ·exact f2 q
 ·have e2':(cap.map fun o=>o.bind fun j=>(σ[j]?).join)[i]? = some (some v):=e2
  rw [mv] at e2';cases q:cap[i]? with
  | none=>rw [q] at e2';cases e2'
  | some o=>
   rw [q] at e2';cases o with
   | none=>cases e2'
   | some j=>
    obtain⟨y,a1,a2,a3⟩:=co.cap i j q;have e1':N'[i]? = some x:=e1;rw [a1] at e1';obtain rfl:y=x:=mf e1';have ej:(σ[j]?).join=some v:=by
     have:=e2';simp only [pb,ma,g3s] at this;exact this
    have ej' : σ[j]? = some (some v):=by
     cases z : σ[j]? with
     | none=>rw [z] at ej;cases ej
     | some u=>rw [z] at ej;simp only [g49] at ej;rw [ej]
    have kd:=co.frees (y,.free) (lookup_mem a3) rfl;obtain⟨m0,hn0,hl0⟩:=I.loc;have vis:Vis X.env.scope y:=by
     rcases kd with k|k
     ·exact .inr (.inl k)
     ·exact .inr (.inr k)
    obtain⟨u,ru,lk⟩:=hl0 j y v a2 ej' vis;refine⟨u,ru,.inr ⟨q4r a3,?_⟩⟩;obtain⟨c,hc⟩:=h2 (y,.free) (lookup_mem a3) rfl;have nn:nw.lookup y=none:=by
     cases q:nw.lookup y with
     | none=>rfl
     | some d=>
      have:=co.cells (y,.cell) (newc q).1 rfl;rw [a3] at this;cases this
    rcases lk with⟨k,_⟩|⟨_,c',hc',z⟩
    ·rcases kd with k'|k'
     ·rw [k] at k';cases k'
     ·rw [k] at k';cases k'
    ·have:=h1 _ _ hc
     rw [hc'] at this;obtain rfl:c'=c:=mf this;obtain⟨o,eo,ed⟩:=z;exact⟨c',by show(nw++cl).lookup y=_;rw [g53,nn];exact hc,o,hk _ _ eo,ed⟩
 ·rcases cases2 e with a|⟨_,a⟩
  ·exact⟨none,(okc.empty x c (g5a a)).1⟩
  ·obtain⟨v,o,eo,ed⟩:=I.cell x c (h1 x c a)
   exact⟨v,o,hk _ _ eo,ed⟩
 ·rcases cases2 e with a|⟨_,a⟩
  ·exact I.hok.fresh (g1b (newc a).2)
  ·exact I.freeC x c (h1 x c a)
 ·show(cap.map _).length=N'.length
  rw [mn];exact co.len
theorem qdk{N':List Str}{C:Addr}{H':Hp}{s':Shared}{σ':St}{h':Heap}(I:Inv X pins σ H s)(hf:∀b∈fp,wm X pins H b)(J:Inv (j5 X N' scope cl C s H fp) [] σ' H' s')(hs:Heap.SameBut C s'.heap h'):
  Inv X pins σ H' {s' with heap:=h'}:=by
 have hC:s.heap.objs.size<=C:=J.ok.above;have kp:∀b o,b≠C->s'.heap.get? b=some o->h'.get? b=some o:=fun b o hb e=>(hs.2 b hb).trans e;have hC0:H' C=none:=J.free;have un:Un (frs X.stack) fp H H' s.heap h':=by
  have u:Un (frs X.stack) fp H H' s.heap s'.heap:=J.base;have neC:∀b o,s.heap.get? b=some o->b≠C:=fun b o e=>m5 (gu (gz e) hC);exact⟨fun b o e n h1 h2=>kp b o (neC b o e) (u.keep b o e n h1 h2),fun b o e n h1 h2=>let⟨sl,q⟩:=u.slot b o e n h1 h2; ⟨sl,kp b _ (neC b o e) q⟩,u.free,fun b o e h=>let⟨o',q⟩:=u.there b o e h; ⟨o',kp b o' (neC b o e) q⟩,u.tups,u.frzs,u.tbls⟩
 have hok:HOk X.prog X.w H' h':=fun b u e=>by
  refine(J.hok b u e).stay (fun c v hc q=>kp c v ?_ q) (fun _ q=>q) fun _ _ q=>q;rcases hc with z|z
  ·rw [z];intro z2;rw [z2,hC0] at e;cases e
  ·intro z2;rw [z2,hC0] at z;cases z
 exact I.call' (s':={s' with heap:=h'}) (ch:=fp) J.os un hok J.bare fun b hb=>by
  obtain⟨f0,f1,f2,f3,f4,f5⟩:=hf b hb;exact⟨f3,f1,f4,f5⟩
end
section
variable{X:Cx}{N':List Str}{scope:Scope}{cap:List (Option Nat)}{tg iter elt:Expr}{ifs:List Expr}{wi:TI}{g:TG}{tc:TT}{te:TE}{pos:Pos}
theorem q7o{cl:List (Str×Addr)}{pins:List (Addr×Obj)}{s:Shared}{σ : St}{H:Hp}{it:Addr}{fp:List Addr}{tn:Nat->Heap->Prop}{J:It}{E:Value->Shared->Prop}{K:Addr->Hp->Prop}
  {RR:Value->Addr->Result->Shared->Prop} (hc:X.calm=true) (co:CapOkC X N' scope cap)
  (h1:∀x c,cl.lookup x=some c->X.env.cells.lookup x=some c) (h2:∀y∈scope.names,y.2=.free->∃c,cl.lookup y.1=some c)
  (hg:∀cl C s₀ H₀ fp,PG (j5 X N' scope cl C s₀ H₀ fp) tg g) (hcs:∀cl C s₀ H₀ fp,q1i (j5 X N' scope cl C s₀ H₀ fp) ifs tc) (he:∀cl C s₀ H₀ fp,PE (j5 X N' scope cl C s₀ H₀ fp) elt te)
  (I:Inv X pins σ H s) (T:Turn X.prog X.w X.K tg J fp it tn) (st:tn 0 s.heap) (hf:∀b∈fp,wm X pins H b) (h:∀p,H p=none->qql J cap g tc te σ H p (K p))
  (hRR:∀(D C:Addr) (s':Shared) (H':Hp),s.heap.objs.size<=C->(∃m,s'.heap.Ns C m)->(∀h',Heap.SameBut C s'.heap h'->Inv X pins σ H' {s' with heap:=h'})->H' C=none->K D H'->RR (.ref D) C (.ok .next) s') :
  wpAny (model X.prog X.w) X.A (newList []) (fun acc s₃=>wpAny (model X.prog X.w) X.A (newFunctionEnv scope X.env.globals cl [] X.env.qual none .none (some X.env)) (fun cenv s₄=>
   codeAny (model X.prog X.w) X.A (.compStart (.ListComp elt [⟨tg,iter,ifs,0⟩] scope pos) 0 (.ref it) acc {cenv with scope:=relabel scope X.env}) (RR acc cenv.locals) s₄) E s₃) E s:=by
 refine pk (qhu ?_);have hD:H s.heap.objs.size=none:=I.fresh;have I3:Inv X pins σ (upd H s.heap.objs.size (.lst [])) {s with heap:=s.heap.push {cls:=.type "list",dict:=none,data:=.seq ([]:List Value).toArray} }:=I.lnew (ys:=[]) (its:=[]) (t':=s.toks) .nil (um _);obtain⟨W,⟨m0,w0⟩,turn⟩:=h s.heap.objs.size hD;have fobj:∀b∈fp,∃o,s.heap.get? b=some o:=fun b hb=>let⟨o,e,_⟩:=T.obj 0 _ st b hb; ⟨o,e⟩
 generalize e3:({s with heap:=s.heap.push {cls:=.type "list",dict:=none,data:=.seq ([]:List Value).toArray} }:Shared)=s3 at I3;have es3:s3.heap=s.heap.push {cls:=.type "list",dict:=none,data:=.seq ([]:List Value).toArray}:=by rw [<- e3]
 have eC:(s.heap.push {cls:=.type "list",dict:=none,data:=.seq ([]:List Value).toArray}).objs.size=s3.heap.objs.size:=by rw [es3]
 have hf3:∀b∈fp,wm X pins (upd H s.heap.objs.size (.lst [])) b:=fun b hb=>by
  obtain⟨f0,f1⟩:=hf b hb;obtain⟨o,e⟩:=fobj b hb;exact⟨by rw [ql (m5 (gz e))];exact f0,f1⟩
 generalize ehh:pushCells (s3.heap.push {cls:=.type "dict",data:=.dict #[]}) scope.names=hh;have ehh3:hh=pushCells (s3.heap.push {cls:=.type "dict",data:=.dict #[]}) scope.names:=ehh.symm;have kp:∀b o,s3.heap.get? b=some o->hh.get? b=some o:=fun b o e=>by rw [ehh3];exact g67 _ _ b o (gd _ e)
 have hle:s.heap.objs.size<=s3.heap.objs.size:=by rw [es3,t6];exact g1i _
 have s3e:∀t:Nat,({s with heap:=hh,toks:=t}:Shared) = {s3 with heap:=hh,toks:=t}:=fun t=>by rw [<- e3]
 have I4:Inv (j5 X N' scope (cellsFrom (s3.heap.objs.size+1) scope.names []++cl) s3.heap.objs.size s3 (upd H s.heap.objs.size (.lst [])) fp) [] (q8r cap σ) (upd H s.heap.objs.size (.lst [])) {s3 with heap:=hh,toks:=s.toks}:=by
  rw [ehh3];exact qhv I3 co h1 h2 hf3 (fun b hb=>let⟨o,e⟩:=fobj b hb; ⟨o,by rw [es3];exact gd _ e⟩)
 have st4:tn 0 hh:=T.keep 0 _ _ st fun b hb o e=>kp b o (by rw [es3];exact gd _ e);have etk:s3.toks=s.toks:=by rw [<- e3]
 show codeAny (model X.prog X.w) X.A (.compStart (.ListComp elt [⟨tg,iter,ifs,0⟩] scope pos) 0 (.ref it) (.ref s.heap.objs.size) (compEnvC scope (cellsFrom (s3.heap.objs.size+1) scope.names []++cl) s3.heap.objs.size X.env)) (RR (.ref s.heap.objs.size) s3.heap.objs.size)
  {s3 with heap:=hh,toks:=s3.toks}
 rw [etk];generalize eX:j5 X N' scope (cellsFrom (s3.heap.objs.size+1) scope.names []++cl) s3.heap.objs.size s3 (upd H s.heap.objs.size (.lst [])) fp=X' at I4;have hg':PG X' tg g:=by rw [<- eX];exact hg _ _ _ _ _
 have hcs':q1i X' ifs tc:=by rw [<- eX];exact hcs _ _ _ _ _
 have he':PE X' elt te:=by rw [<- eX];exact he _ _ _ _ _
 have eenv:X'.env=compEnvC scope (cellsFrom (s3.heap.objs.size+1) scope.names []++cl) s3.heap.objs.size X.env:=by rw [<- eX]
 have exe:X'.xe=fun _ _=>False:=by rw [<- eX]
 have eex:X'.ex=fp:=by rw [<- eX]
 have eprog:X'.prog=X.prog:=by rw [<- eX]
 have ew:X'.w=X.w:=by rw [<- eX]
 have eK:X'.K=X.K:=by rw [<- eX]
 have eA:X'.A=X.A:=by rw [<- eX]
 have ecalm:X'.calm=true:=by rw [<- eX];exact hc
 have epn:X'.pn=[]:=by rw [<- eX]
 have eloc:X'.env.locals=s3.heap.objs.size:=by rw [eenv];rfl
 have ok':=I4.ok;have stat:∀ {H':Hp},(∀b∈fp,H' b=none)->∀b∈fp,wm X' [] H' b:=fun hn b hb=>by
  have hbx:b∈X'.ex:=by rw [eex];exact hb
  exact⟨hn b hb,(ok'.exf b hbx).1,ok'.exfs b hbx,.inl hbx,(ok'.exf b hbx).2,fun p hp=>by rw [epn] at hp;cases hp⟩
 have back:∀ {σ':St} {H':Hp} {s':Shared},Inv X' [] σ' H' s'->K s.heap.objs.size H'->RR (.ref s.heap.objs.size) s3.heap.objs.size (.ok .next) s':=fun {σ' H' s'} J' k=>by
  refine hRR _ _ _ H' hle ?_ (fun h' hs'=>?_) ?_ k
  ·obtain⟨m,hm,_⟩:=J'.loc
   exact⟨m,by rw [<- eloc];exact hm⟩
  ·rw [<- eX] at J'
   exact qdk I3 hf3 J' hs'
  ·rw [<- eloc];exact J'.free
 have loop:codeAny (model X.prog X.w) X.A (.compLoop (.ListComp elt [⟨tg,iter,ifs,0⟩] scope pos) 0 (.ref it) (.ref s.heap.objs.size) (compEnvC scope (cellsFrom (s3.heap.objs.size+1) scope.names []++cl) s3.heap.objs.size X.env)) (RR (.ref s.heap.objs.size) s3.heap.objs.size)
   {s3 with heap:=hh,toks:=s.toks}:=by
  refine qdj (fun n s'=>∃i σ' H',Inv X' [] σ' H' s'/\tn i s'.heap/\(∀b∈fp,H' b=none)/\W i n σ' H') ?_ m0 ⟨0,_,_,I4,st4,fun b hb=>(hf3 b hb).1,w0⟩
  rintro n s5 ⟨i, σ5,H5,I5,st5,fr5,w5⟩
  rw [<- eenv];rcases turn i n σ5 H5 w5 with⟨stop,qn⟩|⟨go,step⟩
  ·have:=T.done X' eprog ew eK ecalm i [] s5 σ5 H5 (fun _ _=>False) I5 (stat fr5) st5 stop
   rw [eA] at this;refine thn this fun r s6 ⟨hr,I6⟩=>?_;subst hr;exact back I6 qn
  ·have:=T.item X' eprog ew eK ecalm i [] s5 σ5 H5 (fun _ _=>False) I5 (stat fr5) st5 go
   rw [eA] at this;refine thn this fun r s6 ⟨u,hr,h6⟩=>?_;subst hr;refine thn h6 fun _ s7 ⟨x,H7,I7,r7,y7,st7,fr7⟩=>?_;have I7':=I7.pinned (stat fr7) (T.obj _ _ st7);have hg2:=hg' _ s7 σ5 H7 x u _ I7' r7 (step x H7 y7);rw [exe,eprog,ew,eA] at hg2;refine thn hg2 fun _ s8 ⟨σ8,H8,I8,q8⟩=>?_;have hc2:=hcs' _ s8 σ8 H8 _ I8 q8;rw [exe,eprog,ew,eA] at hc2;refine thn hc2 fun ok s9 ⟨H9,I9,q9⟩=>?_;have again:∀ {H':Hp} {s':Shared} {m':Nat},Inv X' ([]++q3d fp s7.heap) σ8 H' s'->m'<n->W (i+1) m' σ8 H'->∃m,m<n/\∃i σ' H',Inv X' [] σ' H' s'/\tn i s'.heap/\(∀b∈fp,H' b=none)/\W i m σ' H':=fun {H' s' m'} J' hm w'=>by
    refine⟨m',hm,i+1, σ8,H',J'.unpinned,T.keep _ _ _ st7 fun b hb o e=>(J'.pin (b,o) (nt _ (nt _ (q1m hb e)))).1,fun b hb=>?_,w'⟩;obtain⟨o,e,d⟩:=T.obj _ _ st7 b hb;exact(J'.pin (b,o) (nt _ (nt _ (q1m hb e)))).2.1
   cases ok with
   | false=>
    rw [mi mh] at q9 ⊢;obtain⟨m',hm,w'⟩:=q9;exact again I9 hm w'
   | true=>
    rw [md rfl] at q9 ⊢;have he2:=he' _ s9 σ8 H9 _ I9 q9;rw [exe,eprog,ew,eA] at he2;refine thn he2 fun y s10 ⟨yv,H10,I10,r10,xs,hp,hz,m',hm,w'⟩=>?_;have ha2:=q9k (X:=X') ([]++q3d fp s7.heap) s10 σ8 H10 (.ref s.heap.objs.size) [yv] (.ref s.heap.objs.size) [y] (fun _ H'=>H'=upd H10 s.heap.objs.size (.lst (xs++[yv]))) I10 rfl (.cons r10 .nil) ⟨_,xs,yv,rfl,rfl,hp,hz,rfl⟩;rw [exe,eprog,ew,eA] at ha2;refine thn ha2 fun _ s11 ⟨_,H11,I11,_,e11⟩=>?_;subst e11;exact again I11 hm w'
 exact codeAny_compStart_list loop (T.self _ 0 _ _ _ st4 loop)
theorem qkc(hc:X.calm=true)(co:CapOkC X N' scope cap)(hi:PI X tg iter wi)
  (hg:∀cl C s₀ H₀ fp,PG (j5 X N' scope cl C s₀ H₀ fp) tg g) (hcs:∀cl C s₀ H₀ fp,q1i (j5 X N' scope cl C s₀ H₀ fp) ifs tc) (he:∀cl C s₀ H₀ fp,PE (j5 X N' scope cl C s₀ H₀ fp) elt te)
  (hs:∀x,foldedSetIterable iter X.env x=pure x:=by intro _;rfl):PE X (.ListComp elt [⟨tg,iter,ifs,0⟩] scope pos) (qfs wi cap g tc te):=by
 intro pins s σ H Q I h;obtain⟨cl,ecl,c1,c2⟩:=q7n (scope:=scope) (env:=X.env) fun y hy hf=>I.ok.has y.1 (co.frees y hy hf);rw [eval_ListComp];refine wpAny_comprehension_free (use:=none) rfl hs ecl co.kind co.names (tq (hi pins s σ H _ I h) (fun v s1 h1=>tq h1 (fun itv s2 h2=>?_) fun _ _ e=>e) fun _ _ e=>e);obtain⟨it,fp,tn,J,H2,rfl,I2,T,st2,f2,h2⟩:=h2;refine q7o (K:=fun p=>Q (.ref p)) (RR:=fun acc C=>compPost (model X.prog X.w) X.A X.xe none (EP X pins σ Q) acc C) hc co c1 c2 hg hcs he I2 T st2 f2 h2 ?_;intro D C s' H' hle ⟨m,hm⟩ hI hC q;exact⟨m,hm,fun h' hs'=>⟨.ref D,H',hI h' hs',rfl,q⟩⟩
end
section
variable{X:Cx}{N':List Str}{scope:Scope}{cap:List (Option Nat)}{tg iter elt:Expr}{ifs:List Expr}{wi:TI}{g:TG}{tc:TT}{te:TE}{pos:Pos}
theorem qdl{i:Nat}{x:Str}{px pe:Pos}(hc:X.calm=true)(hN:X.N.Nodup)(hx0:X.N[i]? = some x)(hx:X.env.scope.names.lookup x=some .local)(co:CapOkC X N' scope cap)(hi:PI X tg iter wi)
  (hg:∀cl C s₀ H₀ fp,PG (j5 X N' scope cl C s₀ H₀ fp) tg g) (hcs:∀cl C s₀ H₀ fp,q1i (j5 X N' scope cl C s₀ H₀ fp) ifs tc) (he:∀cl C s₀ H₀ fp,PE (j5 X N' scope cl C s₀ H₀ fp) elt te)
  (hsw:swapsWith (.ListComp elt [⟨tg,iter,ifs,0⟩] scope pe) (some (.Name x px)) pos.line X.env=pure true:=by rfl)
  (hs:∀x,foldedSetIterable iter X.env x=pure x:=by intro _;rfl):PS X (.Assign [.Name x px] (.ListComp elt [⟨tg,iter,ifs,0⟩] scope pe) pos) (qaz (qfs wi cap g tc te) (q2u i)):=by
 intro pins s σ H D I h;obtain⟨cl,ecl,c1,c2⟩:=q7n (scope:=scope) (env:=X.env) fun y hy hf=>I.ok.has y.1 (co.frees y hy hf);rw [exec_Assign_Name_used _ _ _ _ hsw];refine g0 (g59 (g0 ?_));show wpAny _ X.A (do let _ <- comprehension (.ListComp elt [⟨tg,iter,ifs,0⟩] scope pe) scope X.env _ (newList []) false (eval iter X.env) (some (assign (.Name x px) X.env))) _ _ s;refine g0 (tq (wpAny_comprehension_free (use:=some (assign (.Name x px) X.env)) (Q:=fun _ s'=>SP X pins D .next s') rfl hs ecl co.kind co.names
  (tq (hi pins s σ H _ I h) (fun v s1 h1=>tq h1 (fun itv s2 h2=>?_) fun _ _ e=>e) fun _ _ e=>e)) (fun _ s' hq=>g9 (g9 hq)) fun _ _ e=>e)
 obtain⟨it,fp,tn,J,H2,rfl,I2,T,st2,f2,h2⟩:=h2;refine q7o (K:=fun p H'=>q2u i (.ref p) σ H' D.nx) (RR:=fun acc C=>compPost (model X.prog X.w) X.A X.xe (some (assign (.Name x px) X.env)) (fun _ s'=>SP X pins D .next s') acc C) hc co c1 c2 hg hcs he I2 T st2 f2 h2 ?_;intro Da C s' H' hle ⟨m,hm⟩ hI hC q;have I':Inv X pins σ H' s':=hI s'.heap (g1u ..);obtain⟨o,es,ep,ho,hd,hk⟩:=id hm;have hCL:C≠X.env.locals:=tu (gu I2.lt hle);have hCf:C∉X.fs:=I2.nofs hle;have I'':Inv X (pins++[(C,o)]) σ H' s':=I'.pins_of fun p hp=>(nz.mp hp).elim (fun z=>I'.pin p (nt _ z)) fun z=>by
  obtain rfl:p=(C,o):=by simpa using z
  exact⟨ho,hC,hCL,hCf,fun v z=>by rw [hd] at z;cases z⟩
 show wpAny (model X.prog X.w) X.A (assign (.Name x px) X.env (.ref Da)) _ _ _;refine wpAny_assign_Name (q6o I'' hN hx0 (.inl hx) (v:=.ref Da) rfl (fun s'' J=>?_) (.inr hx));have hC2:s''.heap.get? C=some o:=(J.pin (C,o) (nt _ (nt _ gq))).1;refine⟨m,⟨o,es,ep,hC2,hd,hk⟩,fun h' hs'=>?_⟩;have J2:Inv X pins (σ.set i (some (.ref Da))) H' {s'' with heap:=h'}:=J.unpinned.turned (t':=s''.toks) (it:=C) (fun b ob hb e=>(hs'.2 b hb).trans e) hC hCL
  (.inr (my I2.sz hle)) (fun y c e z=>by
   obtain⟨v,q2⟩:=I2.cell y c e;exact absurd (gu q2.lt (by rw [z];exact hle)) (g0q _)) fun p hp z=>by
   exact absurd (gu (gz (I2.pin p hp).1) (by rw [z];exact hle)) (g0q _)
 exact⟨_,H',J2,q⟩
end
end L2
namespace DL
open PySem PySem.Spec PyProof.Rows L2
structure ExcC(K:PySem.W.Frag)(D:Addr): Prop where
 ga:PySem.W.findIn K (.ref D) "__getattribute__" = some (some (.builtin "BaseException.__getattribute__"))
 gk:PySem.W.findIn K (.ref D) "__getattr__" = some none
 cc:PySem.W.findIn K (.ref D) "__class__" = some (some (.builtin "object.__class__"))
 cs:PySem.W.specialIn K (.builtin "object.__class__") "__get__" = some (some (.builtin "getset_descriptor.__get__"))
 ct:PySem.W.takesIn K (.builtin "object.__class__")=some true
 cm:PySem.W.mroIn K D (.type "object")=some true
 cb:PySem.W.mroIn K D (.type "BaseException")=some true
section
variable{prog:Program}{w:World}{A:Around}{E:Value->Shared->Prop}{K:PySem.W.Frag}{s:Shared}{x D:Addr}{ox:Obj}
open PySem.W in
theorem qep(c:ExcC K D): (clsIn K D).isSome=true:=by
 have:=c.cm;unfold mroIn at this;cases q:clsIn K D with
 | none=>rw [q] at this;cases this
 | some cd=>rfl
def XE(a C:Addr)(h:Heap): Prop:=∃o vs,h.get? a=some o/\o.cls=.ref C/\o.data=.fields vs
open PySem.W in
theorem q3f{M:Model}{a C:Addr}{h:Heap}(e:XE a C h): Looks M h (typeOf (.ref a)) (.ref C):=by
 obtain⟨o,vs,e1,e2,e3⟩:=e;exact e2 ▸ (Looks.ld e1).andThen .now
open PySem.W Builtin.ObjectAttr in
theorem qnr{M:Model}{h:Heap}(c:ExcC K D)(X:K.In h): Looks M h (find (.ref x) (.ref D) "__class__") (.bind (.builtin "getset_descriptor.__get__") (.builtin "object.__class__")):=by
 refine(looks_findIn (M:=M) X c.cc).andThen ((looks_specialIn (M:=M) X c.cs).andThen ?_);exact(show Looks M h (dataDescriptor? (some (.builtin "object.__class__")) (some (.builtin "getset_descriptor.__get__"))) (some (.builtin "getset_descriptor.__get__",.builtin "object.__class__")) from(looks_takesIn (M:=M) X c.ct).andThen .now).andThen (Looks.tag .now)
open PySem.W Builtin Builtin.ObjectAttr Builtin.Getset_descriptor in
theorem qqm{tp:Value}{R:Result->Shared->Prop}(c:ExcC K D)(X:K.In s.heap)(I:XE x D s.heap)(h:R (.ok (.ret (.ref D))) s):
  codeAny (model prog w) A (.call (.builtin "getset_descriptor.__get__") ⟨[.builtin "object.__class__",.ref x,tp],[]⟩) R s:=by
 obtain⟨hh,g,dr,t,os⟩:=s;have L0:=q3f (M:=model prog w) I;have L1:=looks_mroIn (M:=model prog w) X c.cm;refine g1w KF.slot_gs.plain KF.entry_gs (KF.slot_gs.check _ _ _ _ _ _ _ _ KF.type_class (KF.args_gs _ _ _) ?_);unfold Builtin.«getset_descriptor.__get__» descrGet;rw [dga_obj];refine g0 (g9 ?_);unfold descrGetter descrCheckInstance descrNameAndClass isInstance;simp only [KF.owner_class]
 repeat lk
 refine⟨Code.quiet_builtin _ (by decide +kernel),ui KF.entry_class ?_⟩;unfold Builtin.«object.__class__» shownTypeOf
 repeat lk
 exact h
open PySem.W in
theorem qkd{tk:Tok}{Q:Fin->Shared->Prop}(c:ExcC K D)(X:K.In s.heap)(I:XE x D s.heap)(hq:Q (.done (.ret (.ref D))) s):
  wpAny (model prog w) A (Builtin.«object.__getattribute__» ⟨[.ref x,.str "__class__" tk],[]⟩) Q E s:=by
 obtain⟨hh,g,dr,t,os⟩:=s;have L0:=q3f (M:=model prog w) I;have L1:=qnr (x:=x) (M:=model prog w) c X;unfold Builtin.«object.__getattribute__»;refine g0 (g9 (g0 (g9 (g0 (L0.at (g0 (L1.at ?_)))))));show wpAny _ _ (Builtin.ObjectAttr.bindTo _ _ _ _) _ _ _;unfold Builtin.ObjectAttr.bindTo;refine g0 (ni (g3f (qqm c X I ?_)));exact g9 hq
open PySem.W in
theorem qke{M:Model}{nameV:Value}{Q:Unit->Shared->Prop}(c:ExcC K D)(X:K.In s.heap)(I:XE x D s.heap)(hq:Q () s): wpAny M A (checkBuiltinCall "BaseException.__getattribute__" ⟨[.ref x,nameV],[]⟩) Q E s:=by
 obtain⟨hh,g,dr,t,os⟩:=s;have L0:=q3f (M:=M) I;have L1:=looks_mroIn (M:=M) X c.cb;have hk:builtinKind "BaseException.__getattribute__" = some .slot:=by decide +kernel
 have hsplit:splitId "BaseException.__getattribute__" = some ("BaseException","__getattribute__"):=by decide +kernel
 have ha:=F.args_bexc_ga (.ref x) nameV;simp only [checkBuiltinCall,hk,hsplit];refine g0 ?_;unfold isInstance;refine g0 (L0.at (L1.at ?_))
 repeat (first|wp_step)
 exact hq
open PySem.W in
theorem qkf{Q:Option Value->Shared->Prop}(c:ExcC K D)(X:K.In s.heap)(I:XE x D s.heap)(h:Q (some (.ref D)) {s with toks:=s.toks+1}): wpAny (model prog w) A (getAttr? (.ref x) "__class__") Q E s:=by
 obtain⟨hh,g,dr,t,os⟩:=s;have L0:=q3f (M:=model prog w) I;have L1:=looks_findIn (M:=model prog w) X c.ga;have L2:=looks_findIn (M:=model prog w) X c.gk;have f3:=g54.ga.bind (.ref x);unfold getAttr? getAttrBy? getAttrBy;refine g0 (wpAny_mkText (g0 (g0y (ni (g0 (L0.at (g0 (L1.at ?_))))))));show wpAny _ _ (getAttrByItsOwn _ _ _ _ _ _) _ _ _;unfold getAttrByItsOwn hookBefore;rw [md (show onTheHeap (Value.ref D)=true from rfl)];refine g0 (L2.at ?_);refine g0 (g0y (ni ?_));unfold callGetattribute boundAndCalled;rw [mi (by decide)];rw [f3];refine g0 (g9 ?_);refine g3f (g1w g54.ga.plain F.entry_bexc_ga (qke c X I (qkd c X I ?_)));dsimp only;exact handed_on rfl (g9 h)
theorem qkg(c:ExcC K D): PySem.W.KitX K (.ref x) (.ref D) (XE x D) where
 ty:=fun M h _ e=>q3f e
 it:=fun _ _ X _=>by
  obtain⟨cdD,hcD⟩:=g15.mp (qep c);unfold PySem.W.clsIn at hcD
  split at hcD
  ·rename_i c' d' cd' sl' ho
   intro A' Q' E' s' k q;unfold isType loadHead;exact g0 (wpAny_loadPart (k _ _ (X _ _ ho)) (g9 q))
  ·cases hcD
 ne:=fun h tp dd its n sl X htp=>by
  obtain⟨cdD,hcD⟩:=g15.mp (qep c);refine Bool.eq_false_iff.mpr fun q=>?_;have e:D=tp:=Value.ref.inj (g4k.mp q);subst e;unfold PySem.W.clsIn at hcD
  split at hcD
  ·rename_i c' d' cd' sl' ho
   have z:=(X _ _ ho).symm.trans htp;cases z
  ·cases hcD
 ca:=fun X e k=>qkf c X e k
end
def qqn(K:PySem.W.Frag)(C:Addr): Prop:=ExcC K C/\∀T:String,T∈["int","bool","tuple","list","str","dict"]->PySem.W.kitOne K (.ref C) (.type T)=some false
inductive D where
 | non
 | bl (b:Bool)
 | int (i:Int)
 | str (x:Str)
 | tup (ds:List D)
 | lst (ds:List D)
 | dct (ks:List Key) (vs:List D)
 | dtt (ks:List (List Int)) (vs:List D)
 | obj (x:Str)
 | exc (x:Str)
abbrev Frag:=PySem.W.Frag
abbrev St:=L2.St
def qkh(K:Frag)(C:Addr): Prop:=PySem.W.plainGet K C "__class__" = true/\PySem.W.hasDictIn K C=true/\PySem.W.findIn K (.ref C) "__class__" = some (some (.builtin "object.__class__")) /\
 PySem.W.specialIn K (.builtin "object.__class__") "__get__" = some (some (.builtin "getset_descriptor.__get__"))/\PySem.W.takesIn K (.builtin "object.__class__")=some true/\PySem.W.mroIn K C (.type "object")=some true /\
 ∀T:String,T∈["int","bool","tuple","list","str","dict"]->PySem.W.kitOne K (.ref C) (.type T)=some false
def qki(x:List Int×Addr×Value): DictEntry:=⟨reduceHash (Builtin.Tuple.tupleHashOf (x.1.map hashInt)),.ref x.2.1,x.2.2⟩
def DE(a:Addr)(xs:List (List Int×Addr×Value))(ep:Nat)(h:Heap): Prop:=∃o es,h.get? a=some o/\o.ExactDict/\o.data=.dict es ep/\es.toList=xs.map qki
mutual
/-- v stands for the datum in the heap H -/
def Rep(K:Frag)(H:Hp): D->V->Prop
 | .non,v=>v=.non
 | .bl b,v=>v=.bl b
 | .int i,v=>v=.int i
 | .str x,v=>v=.str x
 | .tup ds,v=>∃a xs,v=.ref a/\SqT K H a xs/\RepL K H ds xs
 | .lst ds,v=>∃a xs,v=.ref a/\SqL K H a xs/\RepL K H ds xs
 | .dct ks vs,v=>∃a xs,v=.ref a/\H a=some (.dK (ks.zip xs))/\ks.length=xs.length/\RepL K H vs xs
 | .dtt ks vs,v=>∃a xs ys ep,v=.ref a/\H a=some (.ext (DE a xs ep))/\xs.map (·.1)=ks/\ks.Nodup/\xs.length<=sizeLine/\(a==sysModules)=false/\(∀x∈xs,SqT K H x.2.1 (x.1.map V.int))/\Vals ys (xs.map fun x=>x.2.2)/\RepL K H vs ys
 | .obj x,v=>∃a dx C,v=.ref a/\H a=some (.ins C dx [])/\PySem.W.nsIn K mainGlobals x=some (some (.ref C))/\qkh K C
 | .exc x,v=>∃a C,v=.ref a/\H a=some (.ext (XE a C))/\PySem.W.nsIn K mainGlobals x=some (some (.ref C))/\qqn K C
def RepL(K:Frag)(H:Hp): List D->List V->Prop
 | [],xs=>xs=[]
 | d :: ds,xs=>∃x r,xs=x :: r/\Rep K H d x/\RepL K H ds r
end
theorem qk{K:Frag}{H H':Hp}{a:Addr}{xs:List V}(e:Same H H')(h:SqT K H a xs): SqT K H' a xs:=by
 rcases h with(h|⟨o,h⟩)|h
 ·exact .inl (.inl (e _ _ h))
 ·exact .inl (.inr ⟨o,e _ _ h⟩)
 ·exact .inr h
mutual
theorem Rep.mono{K:Frag}{H H':Hp}(e:Same H H'): ∀ {d:D} {v:V},Rep K H d v->Rep K H' d v
 | .non,v,h=>by simpa only [Rep] using h
 | .bl b,v,h=>by simpa only [Rep] using h
 | .int i,v,h=>by simpa only [Rep] using h
 | .str x,v,h=>by simpa only [Rep] using h
 | .tup ds,v,h=>by
  simp only [Rep] at h ⊢;obtain⟨a,xs,e1,e2,e3⟩:=h;exact⟨a,xs,e1,qk e e2,RepL.mono e e3⟩
 | .lst ds,v,h=>by
  simp only [Rep] at h ⊢;obtain⟨a,xs,e1,e2,e3⟩:=h;exact⟨a,xs,e1,e.seq e2,RepL.mono e e3⟩
 | .dct ks vs,v,h=>by
  simp only [Rep] at h ⊢;obtain⟨a,xs,e1,e2,e3,e4⟩:=h;exact⟨a,xs,e1,e _ _ e2,e3,RepL.mono e e4⟩
 | .dtt ks vs,v,h=>by
  simp only [Rep] at h ⊢;obtain⟨a,xs,ys,ep,e1,e2,e3,e4,e5,e6,e7,e8,e9⟩:=h;exact⟨a,xs,ys,ep,e1,e _ _ e2,e3,e4,e5,e6,fun x hx=>qk e (e7 x hx),e8,RepL.mono e e9⟩
 | .obj x,v,h=>by
  simp only [Rep] at h ⊢;obtain⟨a,dx,C,e1,e2,e3⟩:=h;exact⟨a,dx,C,e1,e _ _ e2,e3⟩
 | .exc x,v,h=>by
  simp only [Rep] at h ⊢;obtain⟨a,C,e1,e2,e3⟩:=h;exact⟨a,C,e1,e _ _ e2,e3⟩
theorem RepL.mono{K:Frag}{H H':Hp}(e:Same H H'): ∀ {ds:List D} {xs:List V},RepL K H ds xs->RepL K H' ds xs
 | [],xs,h=>by simpa only [RepL] using h
 | d :: ds,xs,h=>by
  simp only [RepL] at h ⊢;obtain⟨x,r,e1,e2,e3⟩:=h;exact⟨x,r,e1,Rep.mono e e2,RepL.mono e e3⟩
end
section
variable{K:Frag}{H:Hp}
theorem RepL.nil:RepL K H [] []:=by simp only [RepL]
theorem RepL.cons{d:D}{ds:List D}{x:V}{xs:List V}(h:Rep K H d x)(t:RepL K H ds xs): RepL K H (d :: ds) (x :: xs):=by
 simp only [RepL];exact⟨x,xs,rfl,h,t⟩
theorem RepL.nil_inv{xs:List V}(h:RepL K H [] xs): xs=[]:=by simpa only [RepL] using h
theorem RepL.cons_inv{d:D}{ds:List D}{xs:List V}(h:RepL K H (d :: ds) xs): ∃x r,xs=x :: r/\Rep K H d x/\RepL K H ds r:=by simpa only [RepL] using h
theorem RepL.length:∀ {ds:List D} {xs:List V},RepL K H ds xs->ds.length=xs.length
 | [],xs,h=>by rw [h.nil_inv];rfl
 | d :: ds,xs,h=>by
  obtain⟨x,r,rfl,_,t⟩:=h.cons_inv;simp [RepL.length t]
theorem RepL.append:∀ {ds es:List D} {xs ys:List V},RepL K H ds xs->RepL K H es ys->RepL K H (ds++es) (xs++ys)
 | [],es,xs,ys,h,t=>by rw [h.nil_inv];exact t
 | d :: ds,es,xs,ys,h,t=>by
  obtain⟨x,r,rfl,h1,h2⟩:=h.cons_inv;exact .cons h1 (RepL.append h2 t)
theorem RepL.get:∀ {ds:List D} {xs:List V} {i:Nat} {d:D},RepL K H ds xs->ds[i]? = some d->∃x,xs[i]? = some x/\Rep K H d x
 | [],xs,i,d,h,e=>by simp at e
 | d :: ds,xs,0,d',h,e=>by
  obtain⟨x,r,rfl,h1,h2⟩:=h.cons_inv;simp at e;subst e;exact⟨x,rfl,h1⟩
 | d :: ds,xs,i+1,d',h,e=>by
  obtain⟨x,r,rfl,h1,h2⟩:=h.cons_inv;obtain⟨y,e1,e2⟩:=RepL.get (i:=i) h2 (by simpa using e);exact⟨y,by simpa using e1,e2⟩
theorem RepL.take:∀ {ds:List D} {xs:List V} (n:Nat),RepL K H ds xs->RepL K H (ds.take n) (xs.take n)
 | _,_,0,_=>by simp only [List.take_zero];exact .nil
 | [],xs,n+1,h=>by rw [h.nil_inv];exact .nil
 | d :: ds,xs,n+1,h=>by
  obtain⟨x,r,rfl,h1,h2⟩:=h.cons_inv;exact .cons h1 (RepL.take n h2)
theorem RepL.drop:∀ {ds:List D} {xs:List V} (n:Nat),RepL K H ds xs->RepL K H (ds.drop n) (xs.drop n)
 | ds,xs,0,h=>by simpa only [g3h] using h
 | [],xs,n+1,h=>by rw [h.nil_inv];exact .nil
 | d :: ds,xs,n+1,h=>by
  obtain⟨x,r,rfl,h1,h2⟩:=h.cons_inv;exact RepL.drop n h2
theorem RepL.ints:∀ {ns:List Int} {xs:List V},RepL K H (ns.map D.int) xs↔xs=ns.map V.int
 | [],xs=>by simp only [g0x,RepL]
 | n :: ns,xs=>by
  simp only [gj,RepL]
  constructor
  ·rintro⟨x,r,rfl,h1,h2⟩
   simp only [Rep] at h1;rw [h1,RepL.ints.mp h2]
  ·rintro rfl
   exact⟨_,_,rfl,by simp only [Rep],RepL.ints.mpr rfl⟩
theorem rep_int{i:Int}{v:V}: Rep K H (.int i) v↔v=.int i:=by simp only [Rep]
theorem rep_bl{i:Bool}{v:V}: Rep K H (.bl i) v↔v=.bl i:=by simp only [Rep]
theorem rep_str{i:Str}{v:V}: Rep K H (.str i) v↔v=.str i:=by simp only [Rep]
theorem rep_non{v:V}: Rep K H .non v↔v=.non:=by simp only [Rep]
theorem rep_tup{ds:List D}{v:V}: Rep K H (.tup ds) v↔∃a xs,v=.ref a/\SqT K H a xs/\RepL K H ds xs:=by simp only [Rep]
theorem rep_lst{ds:List D}{v:V}: Rep K H (.lst ds) v↔∃a xs,v=.ref a/\SqL K H a xs/\RepL K H ds xs:=by simp only [Rep]
theorem rep_dct{ks:List Key}{vs:List D}{v:V}: Rep K H (.dct ks vs) v↔∃a xs,v=.ref a/\H a=some (.dK (ks.zip xs))/\ks.length=xs.length/\RepL K H vs xs:=by simp only [Rep]
theorem rep_dtt{ks:List (List Int)}{vs:List D}{v:V}: Rep K H (.dtt ks vs) v↔∃a xs ys ep,v=.ref a/\H a=some (.ext (DE a xs ep))/\xs.map (·.1)=ks/\ks.Nodup/\xs.length<=sizeLine/\(a==sysModules)=false/\(∀x∈xs,SqT K H x.2.1 (x.1.map V.int))/\Vals ys (xs.map fun x=>x.2.2)/\RepL K H vs ys:=by simp only [Rep]
theorem rep_exc{x:Str}{v:V}: Rep K H (.exc x) v↔∃a C,v=.ref a/\H a=some (.ext (XE a C))/\PySem.W.nsIn K mainGlobals x=some (some (.ref C))/\qqn K C:=by simp only [Rep]
theorem rep_obj{x:Str}{v:V}: Rep K H (.obj x) v↔∃a dx C,v=.ref a/\H a=some (.ins C dx [])/\PySem.W.nsIn K mainGlobals x=some (some (.ref C))/\qkh K C:=by simp only [Rep]
end
class Lam where
 tab:List (Addr×Str)
variable[Lam]
def Tab(H:Hp): Prop:=∀p∈Lam.tab,∃ps,H p.1=some (.tbl ps)/\TriplesOk ps.toList/\∀pos cv,codeAmong pos ps.toList=some cv->∃c φ,cv=.ref c/\H c=some (.ext φ)/\∀h, φ h->h.CodeRec (.ref c) p.2
def qkj(F:Hp): Prop:=∀p∈Lam.tab,F p.1=none
theorem Tab.updG{H:Hp}(t:Tab H){p:Addr}{o:HO}(h:∀u,H p=some u->(∀ps,u ≠ .tbl ps)/\∀ φ,u ≠ .ext φ): Tab (upd H p o):=fun q hq=>by
 obtain⟨ps,e,ht,k⟩:=t q hq;refine⟨ps,by rw [ql (fun z=>by subst z;exact(h _ e).1 ps rfl)];exact e,ht,fun pos cv z=>?_⟩;obtain⟨c, φ,e1,e2,e3⟩:=k pos cv z;exact⟨c, φ,e1,by rw [ql (fun z=>by subst z;exact(h _ e2).2 φ rfl)];exact e2,e3⟩
theorem Tab.upd{H:Hp}(t:Tab H){p:Addr}{o:HO}(h:H p=none\/∃xs,H p=some (.lst xs)): Tab (upd H p o):=t.updG fun u e=>by
 rcases h with h|⟨xs,h⟩
 ·rw [h] at e;cases e
 ·rw [h] at e;cases e;exact⟨nofun,nofun⟩
structure Kept(H H':Hp): Prop where
 lst:∀b xs,H b=some (.lst xs)->H' b=some (.lst xs)
 ext:∀b φ,H b=some (.ext φ)->H' b=some (.ext φ)
 free:∀ {b},H' b=none->H b=none
 tb:Tab H->Tab H'
 dk:∀b kvs,H b=some (.dK kvs)->H' b=some (.dK kvs)
theorem Kept.refl(H:Hp): Kept H H:=⟨fun _ _ e=>e,fun _ _ e=>e,fun e=>e,fun t=>t,fun _ _ e=>e⟩
theorem Kept.trans{H H1 H2:Hp}(a:Kept H H1)(b:Kept H1 H2): Kept H H2:=⟨fun c xs e=>b.lst c xs (a.lst c xs e),fun c φ e=>b.ext c φ (a.ext c φ e),fun e=>a.free (b.free e),fun t=>b.tb (a.tb t),fun c kvs e=>b.dk c kvs (a.dk c kvs e)⟩
theorem Kept.new{H:Hp}{p:Addr}{o:HO}(hp:H p=none): Kept H (upd H p o):=⟨fun b xs e=>by rw [ql (jg e hp)];exact e,fun b φ e=>by rw [ql (jg e hp)];exact e,fun {b} e=>by
 by_cases z:b=p
 ·subst z;exact hp
 ·rw [ql z] at e;exact e,fun t=>t.upd (.inl hp),fun b kvs e=>by rw [ql (jg e hp)];exact e⟩
structure SameT(F H:Hp): Prop where
 s:Same F H
 t:Tab H
 f:qkj F
structure Grow(F H F' H':Hp): Prop where
 ff:Same F F'
 hh:Kept H H'
 fh:Same F' H'
 nw:∀b,F' b≠none->F b≠none\/H b=none
theorem Grow.refl{F H:Hp}(h:Same F H): Grow F H F H:=⟨.refl _,.refl _,h,fun _ h=>.inl h⟩
theorem Grow.trans{F H F1 H1 F2 H2:Hp}(a:Grow F H F1 H1)(b:Grow F1 H1 F2 H2): Grow F H F2 H2:=
 ⟨a.ff.trans b.ff,a.hh.trans b.hh,b.fh,fun c h=>(b.nw c h).elim (fun z=>a.nw c z) fun z=>.inr (a.hh.free z)⟩
theorem k7{H:Hp}{p:Addr}{o:HO}(h:H p=none): Same H (upd H p o):=fun b u q=>by rw [ql (jg q h)];exact q
theorem qhw{F H:Hp}{p:Addr}{o:HO}(h:Same F H): Same (upd F p o) (upd H p o):=fun b u q=>by
 unfold upd at q ⊢
 split
 ·rename_i z;rw [md z] at q;exact q
 ·rename_i z;rw [mi z] at q;exact h _ _ q
theorem Grow.new{F H:Hp}{p:Addr}{o:HO}(h:Same F H)(hp:H p=none): Grow F H (upd F p o) (upd H p o):=
 ⟨k7 (h.free hp),.new hp,qhw h,fun b hb=>by
  by_cases e:b=p
  ·subst e;exact .inr hp
  ·rw [ql e] at hb;exact .inl hb⟩
theorem Grow.own{F H:Hp}{p:Addr}{o:HO}(h:Same F H)(hp:H p=none): Grow F H F (upd H p o):=
 ⟨.refl _,.new hp,h.trans (k7 hp),fun _ h=>.inl h⟩
inductive B where
 | fz (d:D)
 | ow (ds:List D)
 | od (kvs:List (Int×List D))
abbrev Rho:=List (Option B)
def qtx(ks:List Int)(bs:List Addr): List (Key×V):=(ks.map Sum.inl).zip (bs.map V.ref)
structure ODt(K:Frag)(F H H0:Hp)(a:Addr)(bs:List Addr)(kvs:List (Int×List D)): Prop where
 h:H a=some (.dK (qtx (kvs.map (·.1)) bs))
 f:F a=none
 z:H0 a=none
 len:bs.length=kvs.length
 nd:bs.Nodup
 b:∀(j:Nat) (b:Addr) (k:Int) (ds:List D),bs[j]? = some b->kvs[j]? = some (k,ds)->∃xs,H b=some (.lst xs)/\F b=none/\H0 b=none/\RepL K F ds xs
structure RS(K:Frag)(F0 H0 F H:Hp)(σ : St)(ρ : Rho): Prop where
 t0:Tab H0/\qkj F0
 g:Grow F0 H0 F H
 len : σ.length = ρ.length
 fz:∀(i:Nat) (d:D), ρ[i]? = some (some (.fz d))->∃v, σ[i]? = some (some v)/\Rep K F d v
 ow:∀(i:Nat) (ds:List D), ρ[i]? = some (some (.ow ds))->∃a xs, σ[i]? = some (some (.ref a))/\H a=some (.lst xs)/\F a=none/\H0 a=none/\RepL K F ds xs
 dj:∀(i j:Nat) (ds es:List D) (a:Addr),i≠j -> ρ[i]? = some (some (.ow ds)) -> ρ[j]? = some (some (.ow es)) -> σ[i]? = some (some (.ref a)) -> σ[j]? ≠ some (some (.ref a))
 od:∀(i:Nat) (kvs:List (Int×List D)), ρ[i]? = some (some (.od kvs))->∃a bs, σ[i]? = some (some (.ref a))/\ODt K F H H0 a bs kvs/\∀(j:Nat) (es:List D) (b:Addr), ρ[j]? = some (some (.ow es))->b∈bs -> σ[j]? ≠ some (some (.ref b))
 o1:∀(i j:Nat) (k1 k2:List (Int×List D)), ρ[i]? = some (some (.od k1)) -> ρ[j]? = some (some (.od k2))->i=j
theorem qeq{F H F' H':Hp}{a:Addr}{o:HO}(g:Grow F H F' H')(h1:F a=none)(h2:H a=some o): F' a=none:=by
 cases q:F' a with
 | none=>rfl
 | some o=>
  rcases g.nw a (by rw [q];simp) with z|z
  ·exact absurd h1 z
  ·rw [h2] at z;cases z
theorem ODt.mem{K:Frag}{F H H0:Hp}{a:Addr}{bs:List Addr}{kvs:List (Int×List D)}(o:ODt K F H H0 a bs kvs){b:Addr}(h:b∈bs): ∃xs,H b=some (.lst xs)/\F b=none/\H0 b=none:=by
 obtain⟨j,hj⟩:=g4f.mp h;have hl:j<kvs.length:=by rw [<- o.len];exact(nh.mp hj).1
 obtain⟨xs,e1,e2,e3,_⟩:=o.b j b _ _ hj (mj hl);exact⟨xs,e1,e2,e3⟩
theorem ODt.grow{K:Frag}{F H F' H' H0:Hp}{a:Addr}{bs:List Addr}{kvs:List (Int×List D)}(o:ODt K F H H0 a bs kvs)(g:Grow F H F' H'): ODt K F' H' H0 a bs kvs where
 h:=g.hh.dk _ _ o.h
 f:=qeq g o.f o.h
 z:=o.z
 len:=o.len
 nd:=o.nd
 b:=fun j b k ds e1 e2=>by
  obtain⟨xs,z1,z2,z3,z4⟩:=o.b j b k ds e1 e2;exact⟨xs,g.hh.lst _ _ z1,qeq g z2 z1,z3,z4.mono g.ff⟩
theorem ODt.other{K:Frag}{F H H0:Hp}{a p:Addr}{bs:List Addr}{kvs:List (Int×List D)}{u:HO}(o:ODt K F H H0 a bs kvs)(h1:p≠a)(h2:p∉bs): ODt K F (upd H p u) H0 a bs kvs where
 h:=by rw [ql (nj h1)];exact o.h
 f:=o.f
 z:=o.z
 len:=o.len
 nd:=o.nd
 b:=fun j b k ds e1 e2=>by
  obtain⟨xs,z1,z2,z3,z4⟩:=o.b j b k ds e1 e2;have ne:b≠p:=fun q=>h2 (by rw [<- q];exact tw e1);exact⟨xs,by rw [ql ne];exact z1,z2,z3,z4⟩
theorem ODt.otherF{K:Frag}{F H H0:Hp}{a p:Addr}{bs:List Addr}{kvs:List (Int×List D)}{u:HO}(o:ODt K F H H0 a bs kvs)(hs:Same F (upd F p u))(h1:p≠a)(h2:p∉bs): ODt K (upd F p u) H H0 a bs kvs where
 h:=o.h
 f:=by rw [ql (nj h1)];exact o.f
 z:=o.z
 len:=o.len
 nd:=o.nd
 b:=fun j b k ds e1 e2=>by
  obtain⟨xs,z1,z2,z3,z4⟩:=o.b j b k ds e1 e2;have ne:b≠p:=fun q=>h2 (by rw [<- q];exact tw e1);exact⟨xs,z1,by rw [ql ne];exact z2,z3,z4.mono hs⟩
section
variable{K:Frag}{F0 H0 F H F' H':Hp}{σ : St}{ρ : Rho}
theorem RS.fh(r:RS K F0 H0 F H σ ρ): Same F H:=r.g.fh
theorem RS.tab(r:RS K F0 H0 F H σ ρ): Tab H:=r.g.hh.tb r.t0.1
theorem RS.tabF(r:RS K F0 H0 F H σ ρ): qkj F:=fun p hp=>by
 cases q:F p.1 with
 | none=>rfl
 | some o=>
  rcases r.g.nw p.1 (by rw [q];simp) with z|z
  ·exact absurd (r.t0.2 p hp) z
  ·obtain⟨ps,e,_⟩:=r.t0.1 p hp
   rw [e] at z;cases z
theorem RS.grow(r:RS K F0 H0 F H σ ρ)(g:Grow F H F' H'): RS K F0 H0 F' H' σ ρ where
 t0:=r.t0
 g:=r.g.trans g
 len:=r.len
 fz:=fun i d e=>let⟨v,e1,e2⟩:=r.fz i d e; ⟨v,e1,e2.mono g.ff⟩
 ow:=fun i ds e=>by
  obtain⟨a,xs,e1,e2,e3,e4,e5⟩:=r.ow i ds e;refine⟨a,xs,e1,g.hh.lst _ _ e2,?_,e4,e5.mono g.ff⟩;cases q:F' a with
  | none=>rfl
  | some o=>
   rcases g.nw a (by rw [q];simp) with z|z
   ·exact absurd e3 z
   ·rw [e2] at z;cases z
 dj:=r.dj
 od:=fun i kvs e=>let⟨a,bs,e1,e2,e3⟩:=r.od i kvs e; ⟨a,bs,e1,e2.grow g,e3⟩
 o1:=r.o1
theorem RS.sameT(r:RS K F0 H0 F H σ ρ)(g:Grow F H F' H'): SameT F' H':=⟨g.fh,(r.grow g).tab,(r.grow g).tabF⟩
theorem qu{α : Type}{l:List α}{i:Nat}{x y : α}(h:(l.set i x)[i]? = some y): y=x/\i<l.length:=by
 rw [g5h] at h;simp only [p0] at h
 split at h
 ·exact⟨(mf h).symm,by assumption⟩
 ·cases h
theorem RS.set(r:RS K F0 H0 F H σ ρ){d:D}{v:V}(i:Nat)(h:Rep K F d v): RS K F0 H0 F H (σ.set i (some v)) (ρ.set i (some (.fz d))) where
 t0:=r.t0
 g:=r.g
 len:=by rw [g03,g03];exact r.len
 fz:=fun j e h1=>by
  by_cases q:j=i
  ·subst q
   obtain⟨z,l⟩:=qu h1;cases z;exact⟨v,by rw [g5h];simp [r.len,l],h⟩
  ·rw [m6 (nj q)] at h1 ⊢
   exact r.fz j e h1
 ow:=fun j ds h1=>by
  by_cases q:j=i
  ·subst q
   obtain⟨z,l⟩:=qu h1;cases z
  ·rw [m6 (nj q)] at h1 ⊢
   exact r.ow j ds h1
 dj :=fun j k ds es a hjk h1 h2 h3=>by
  by_cases q:j=i
  ·subst q
   obtain⟨z,l⟩:=qu h1;cases z
  ·by_cases q2:k=i
   ·subst q2
    obtain⟨z,l⟩:=qu h2;cases z
   ·rw [m6 (nj q)] at h1 h3
    rw [m6 (nj q2)] at h2 ⊢;exact r.dj j k ds es a hjk h1 h2 h3
 od :=fun j kvs h1=>by
  by_cases q:j=i
  ·subst q
   obtain⟨z,l⟩:=qu h1;cases z
  ·rw [m6 (nj q)] at h1 ⊢
   obtain⟨a,bs,e1,e2,e3⟩:=r.od j kvs h1;refine⟨a,bs,e1,e2,fun k es b h2 h3=>?_⟩
   by_cases q2:k=i
   ·subst q2
    obtain⟨z,l⟩:=qu h2;cases z
   ·rw [m6 (nj q2)] at h2 ⊢
    exact e3 k es b h2 h3
 o1 :=fun j k k1 k2 h1 h2=>by
  by_cases q:j=i
  ·subst q
   obtain⟨z,l⟩:=qu h1;cases z
  ·by_cases q2:k=i
   ·subst q2
    obtain⟨z,l⟩:=qu h2;cases z
   ·rw [m6 (nj q)] at h1
    rw [m6 (nj q2)] at h2;exact r.o1 j k k1 k2 h1 h2
theorem RS.setO(r:RS K F0 H0 F H σ ρ){ds:List D}{xs:List V}{a:Addr}(i:Nat)(h1:H a=some (.lst xs))(h2:F a=none)(h3:H0 a=none)(h4:RepL K F ds xs)
  (h5:∀(j:Nat) (es:List D), ρ[j]? = some (some (.ow es)) -> σ[j]? ≠ some (some (.ref a)))
  (h6:∀(j:Nat) (kvs:List (Int×List D)), ρ[j]? = some (some (.od kvs))->∃a' bs, σ[j]? = some (some (.ref a'))/\ODt K F H H0 a' bs kvs/\a∉bs/\∀(j':Nat) (es:List D) (b:Addr), ρ[j']? = some (some (.ow es))->b∈bs -> σ[j']? ≠ some (some (.ref b))):RS K F0 H0 F H (σ.set i (some (.ref a))) (ρ.set i (some (.ow ds))) where
 t0:=r.t0
 g:=r.g
 len:=by rw [g03,g03];exact r.len
 fz:=fun j e q1=>by
  by_cases q:j=i
  ·subst q
   obtain⟨z,l⟩:=qu q1;cases z
  ·rw [m6 (nj q)] at q1 ⊢
   exact r.fz j e q1
 ow:=fun j es q1=>by
  by_cases q:j=i
  ·subst q
   obtain⟨z,l⟩:=qu q1;cases z;exact⟨a,xs,by rw [g5h];simp [r.len,l],h1,h2,h3,h4⟩
  ·rw [m6 (nj q)] at q1 ⊢
   exact r.ow j es q1
 dj :=fun j k ds' es b hjk q1 q2 q3=>by
  by_cases q:j=i
  ·subst q
   have e3:=qu q3;have eb:b=a:=by have:=e3.1;simpa using this
   subst eb;rw [m6 hjk] at q2 ⊢;exact h5 k es q2
  ·rw [m6 (nj q)] at q1 q3
   by_cases q4:k=i
   ·subst q4
    intro z;have eb:b=a:=by have:=(qu z).1;simpa using this
    subst eb;exact h5 j ds' q1 q3
   ·rw [m6 (nj q4)] at q2 ⊢
    exact r.dj j k ds' es b hjk q1 q2 q3
 od :=fun j kvs q1=>by
  by_cases q:j=i
  ·subst q
   obtain⟨z,l⟩:=qu q1;cases z
  ·rw [m6 (nj q)] at q1 ⊢
   obtain⟨a',bs,e1,e2,e3,e4⟩:=h6 j kvs q1;refine⟨a',bs,e1,e2,fun k es b p1 p2 p3=>?_⟩
   by_cases q2:k=i
   ·subst q2
    have eb:b=a:=by have:=(qu p3).1;simpa using this
    exact e3 (eb ▸ p2)
   ·rw [m6 (nj q2)] at p1 p3
    exact e4 k es b p1 p2 p3
 o1 :=fun j k k1 k2 p1 p2=>by
  by_cases q:j=i
  ·subst q
   obtain⟨z,l⟩:=qu p1;cases z
  ·by_cases q2:k=i
   ·subst q2
    obtain⟨z,l⟩:=qu p2;cases z
   ·rw [m6 (nj q)] at p1
    rw [m6 (nj q2)] at p2;exact r.o1 j k k1 k2 p1 p2
theorem RS.wrt(r:RS K F0 H0 F H σ ρ){ds es:List D}{ys:List V}{a:Addr}{i:Nat}(h1 : ρ[i]? = some (some (.ow ds)))(h2 : σ[i]? = some (some (.ref a)))(h4:RepL K F es ys):
  RS K F0 H0 F (upd H a (.lst ys)) σ (ρ.set i (some (.ow es))):=by
 obtain⟨a',xs,e1,e2,e3,e4,e5⟩:=r.ow i ds h1;rw [h2] at e1;obtain rfl:a=a':=by simpa using e1
 have nF:∀b o,F b=some o->b≠a:=fun b o e z=>by subst z;rw [e3] at e;cases e
 exact {
  t0:=r.t0
  g :=⟨r.g.ff,⟨fun b o e=>by rw [ql (fun z=>by subst z;rw [e4] at e;cases e)];exact r.g.hh.lst b o e,fun b o e=>by rw [ql (fun z=>by subst z;rw [e4] at e;cases e)];exact r.g.hh.ext b o e,fun {b} e=>by
    by_cases z:b=a
    ·subst z;exact e4
    ·rw [ql z] at e;exact r.g.hh.free e,fun t=>(r.g.hh.tb t).upd (.inr ⟨_,e2⟩),fun b o e=>by rw [ql (fun z=>by subst z;rw [e4] at e;cases e)];exact r.g.hh.dk b o e⟩,fun b o e=>by rw [ql (nF b o e)];exact r.g.fh b o e,r.g.nw⟩
  len:=by rw [g03];exact r.len
  fz:=fun j e q1=>by
   by_cases q:j=i
   ·subst q
    obtain⟨z,l⟩:=qu q1;cases z
   ·rw [m6 (nj q)] at q1
    exact r.fz j e q1
  ow :=fun j es' q1=>by
   by_cases q:j=i
   ·subst q
    obtain⟨z,l⟩:=qu q1;cases z;exact⟨a,ys,h2,qr,e3,e4,h4⟩
   ·rw [m6 (nj q)] at q1
    obtain⟨b,zs,f1,f2,f3,f4,f5⟩:=r.ow j es' q1;have hb:b≠a:=fun z=>by
     subst z;exact r.dj i j ds es' b (nj q) h1 q1 h2 f1
    exact⟨b,zs,f1,by rw [ql hb];exact f2,f3,f4,f5⟩
  dj:=fun j k ds' es' b hjk q1 q2 q3=>by
   have back:∀(l:Nat) (us:List D),(ρ.set i (some (.ow es)))[l]? = some (some (.ow us))->∃ws, ρ[l]? = some (some (.ow ws)):=fun l us z=>by
    by_cases q:l=i
    ·subst q;exact⟨ds,h1⟩
    ·rw [m6 (nj q)] at z;exact⟨us,z⟩
   obtain⟨w1,z1⟩:=back j ds' q1;obtain⟨w2,z2⟩:=back k es' q2;exact r.dj j k w1 w2 b hjk z1 z2 q3
  od:=fun j kvs q1=>by
   by_cases q:j=i
   ·subst q
    obtain⟨z,l⟩:=qu q1;cases z
   ·rw [m6 (nj q)] at q1
    obtain⟨a',bs,f1,f2,f3⟩:=r.od j kvs q1;refine⟨a',bs,f1,f2.other (fun z=>by subst z;have:=f2.h;rw [e2] at this;cases this) fun z=>f3 i ds a h1 z h2,fun k es' b p1 p2=>?_⟩
    by_cases q2:k=i
    ·subst q2;exact f3 k ds b h1 p2
    ·rw [m6 (nj q2)] at p1;exact f3 k es' b p1 p2
  o1 :=fun j k k1 k2 p1 p2=>by
   have back:∀(l:Nat) (us),(ρ.set i (some (.ow es)))[l]? = some (some (.od us)) -> ρ[l]? = some (some (.od us)):=fun l us z=>by
    by_cases q:l=i
    ·subst q
     obtain⟨z',_⟩:=qu z;cases z'
    ·rw [m6 (nj q)] at z;exact z
   exact r.o1 j k k1 k2 (back _ _ p1) (back _ _ p2)}
theorem RS.freeze(r:RS K F0 H0 F H σ ρ){ds:List D}{i:Nat}(h1 : ρ[i]? = some (some (.ow ds))): ∃F',Same F F'/\RS K F0 H0 F' H σ (ρ.set i (some (.fz (.lst ds)))):=by
 obtain⟨a,xs,e1,e2,e3,e4,e5⟩:=r.ow i ds h1;have sF:Same F (upd F a (.lst xs)):=k7 e3;refine⟨upd F a (.lst xs),sF,?_⟩;exact {
  t0:=r.t0
  g :=⟨r.g.ff.trans sF,r.g.hh,fun b o e=>by
    by_cases q:b=a
    ·subst q;rw [qr] at e;cases e;exact e2
    ·rw [ql q] at e;exact r.g.fh b o e,fun b hb=>by
    by_cases q:b=a
    ·subst q;exact .inr e4
    ·rw [ql q] at hb;exact r.g.nw b hb⟩
  len:=by rw [g03];exact r.len
  fz:=fun j e q1=>by
   by_cases q:j=i
   ·subst q
    obtain⟨z,l⟩:=qu q1;cases z;exact⟨_,e1,rep_lst.mpr ⟨a,xs,rfl,SqL.of qr,e5.mono sF⟩⟩
   ·rw [m6 (nj q)] at q1
    obtain⟨v,z1,z2⟩:=r.fz j e q1;exact⟨v,z1,z2.mono sF⟩
  ow :=fun j es' q1=>by
   by_cases q:j=i
   ·subst q
    obtain⟨z,l⟩:=qu q1;cases z
   ·rw [m6 (nj q)] at q1
    obtain⟨b,zs,f1,f2,f3,f4,f5⟩:=r.ow j es' q1;have hb:b≠a:=fun z=>by
     subst z;exact r.dj i j ds es' b (nj q) h1 q1 e1 f1
    exact⟨b,zs,f1,f2,by rw [ql hb];exact f3,f4,f5.mono sF⟩
  dj :=fun j k ds' es' b hjk q1 q2 q3=>by
   have back:∀(l:Nat) (us:List D),(ρ.set i (some (.fz (.lst ds))))[l]? = some (some (.ow us)) -> ρ[l]? = some (some (.ow us)):=fun l us z=>by
    by_cases q:l=i
    ·subst q
     obtain⟨z',_⟩:=qu z;cases z'
    ·rw [m6 (nj q)] at z;exact z
   exact r.dj j k ds' es' b hjk (back _ _ q1) (back _ _ q2) q3
  od:=fun j kvs q1=>by
   by_cases q:j=i
   ·subst q
    obtain⟨z,l⟩:=qu q1;cases z
   ·rw [m6 (nj q)] at q1
    obtain⟨a',bs,f1,f2,f3⟩:=r.od j kvs q1;refine⟨a',bs,f1,f2.otherF sF (fun z=>by subst z;have:=f2.h;rw [e2] at this;cases this) fun z=>f3 i ds a h1 z e1,fun k es' b p1 p2=>?_⟩
    by_cases q2:k=i
    ·subst q2;exact f3 k ds b h1 p2
    ·rw [m6 (nj q2)] at p1;exact f3 k es' b p1 p2
  o1 :=fun j k k1 k2 p1 p2=>by
   have back:∀(l:Nat) (us),(ρ.set i (some (.fz (.lst ds))))[l]? = some (some (.od us)) -> ρ[l]? = some (some (.od us)):=fun l us z=>by
    by_cases q:l=i
    ·subst q
     obtain⟨z',_⟩:=qu z;cases z'
    ·rw [m6 (nj q)] at z;exact z
   exact r.o1 j k k1 k2 (back _ _ p1) (back _ _ p2)}
end
end DL
namespace DL
open PySem PySem.Spec PyProof.Rows L2
variable[Lam]
abbrev lim:Nat:=1000000
theorem ja{n:Nat}(h:n<=lim): n<=sizeLine:=my h (by decide)
theorem q9l{n:Nat}(h:n<lim): n<sizeLine:=gu h (by decide)
abbrev FE:=Rho->Option D
abbrev FT:=Rho->Option Bool
abbrev FA:=Rho->Option (List D)
inductive Fl where
 | nx|bk|ct
 | rt (d:D)
abbrev FS:=Rho->Option (Fl×Rho)
def tD(K:Frag)(f:FE): TE:=fun σ H Q=>∃F0 H0 F ρ d,RS K F0 H0 F H σ ρ /\ f ρ = some d/\∀v F' H',Grow F H F' H'->Rep K F' d v->Q v H'
def tL(K:Frag)(f:FA): TE:=fun σ H Q=>∃F0 H0 F ρ ds,RS K F0 H0 F H σ ρ /\ f ρ = some ds/\∀a xs F' H',Grow F H F' H'->F' a=none->H a=none->H' a=some (.lst xs)->RepL K F' ds xs->Q (.ref a) H'
def tDT(K:Frag)(f:FT): TT:=fun σ H Q=>∃F0 H0 F ρ b,RS K F0 H0 F H σ ρ /\ f ρ = some b/\∀F' H',Grow F H F' H'->Q b H'
def tDA(K:Frag)(f:FA): TA:=fun σ H Q=>∃F0 H0 F ρ ds,RS K F0 H0 F H σ ρ /\ f ρ = some ds/\∀vs F' H',Grow F H F' H'->RepL K F' ds vs->Q vs H'
def qft(K:Frag)(F0 H0 F:Hp)(D:Ends)(fl:Fl)(ρ':Rho): Prop:=match fl with
 | .nx=>∀ σ' F' H',Same F F'->RS K F0 H0 F' H' σ' ρ'->D.nx σ' H'
 | .bk=>∀ σ' F' H',Same F F'->RS K F0 H0 F' H' σ' ρ'->D.bk σ' H'
 | .ct=>∀ σ' F' H',Same F F'->RS K F0 H0 F' H' σ' ρ'->D.ct σ' H'
 | .rt d=>∀v F' H',Grow F0 H0 F' H'->Rep K F' d v->D.rt v H'
def tDS(K:Frag)(f:FS): TS:=fun D σ H=>∃F0 H0 F ρ fl ρ',RS K F0 H0 F H σ ρ /\ f ρ = some (fl, ρ')/\qft K F0 H0 F D fl ρ'
section
variable{X:Cx}{e:Expr}{pos:Pos}
theorem j6{t t':TE}(h:PE X e t)(i:∀ σ H Q,t' σ H Q->t σ H Q): PE X e t':=fun pins s σ H Q I q=>h pins s σ H Q I (i σ H Q q)
theorem qb7{t t':TT}(h:PT X e t)(i:∀ σ H Q,t' σ H Q->t σ H Q): PT X e t':=fun pins s σ H Q I q=>h pins s σ H Q I (i σ H Q q)
theorem qhx{es:List Expr}{t t':TA}(h:PA X es t)(i:∀ σ H Q,t' σ H Q->t σ H Q): PA X es t':=fun pos pins s σ H Q I q=>h pos pins s σ H Q I (i σ H Q q)
theorem wx{st:Stmt}{t t':TS}(h:PS X st t)(i:∀D σ H,t' D σ H->t D σ H): PS X st t':=fun pins s σ H D I q=>h pins s σ H D I (i D σ H q)
theorem q5s{st:List Stmt}{t t':TS}(h:PSs X st t)(i:∀D σ H,t' D σ H->t D σ H): PSs X st t':=fun pins s σ H D I q=>h pins s σ H D I (i D σ H q)
def eV(i:Nat): FE:=fun ρ =>match ρ[i]? with
 | some (some (.fz d))=>some d
 | _=>none
def eC(d:D): FE:=fun _=>some d
theorem qns{i:Nat}{ρ : Rho}{d:D}(h:eV i ρ = some d): ρ[i]? = some (some (.fz d)):=by
 unfold eV at h
 split at h
 ·rename_i e;rw [e,mf h]
 ·cases h
theorem qa{K:Frag}{i:Nat}(h:PE X e (q6p i)): PE X e (tD K (eV i)):=j6 h fun σ H Q ⟨F0,H0,F, ρ,d,r,hf,q⟩=>by
 obtain⟨v,e1,e2⟩:=r.fz i d (qns hf);exact⟨v,e1,q v F H (.refl r.fh) e2⟩
theorem q6r{K:Frag}{v:V}{d:D}(h:PE X e (tC v))(hd:∀H,Rep K H d v): PE X e (tD K (eC d)):=j6 h fun σ H Q ⟨F0,H0,F, ρ,d',r,hf,q⟩=>by
 cases hf;exact q v F H (.refl r.fh) (hd F)
theorem qe{K:Frag}{i j}: PE X (.Constant (.int i) j pos) (tD K (eC (.int i))):=q6r qpq fun _=>rep_int.mpr rfl
theorem q2v{K:Frag}{b j}: PE X (.Constant (.bool b) j pos) (tD K (eC (.bl b))):=q6r qsa fun _=>rep_bl.mpr rfl
theorem qhy{K:Frag}{j}: PE X (.Constant .none j pos) (tD K (eC .non)):=q6r qpr fun _=>rep_non.mpr rfl
def rD(K:Frag)(op:D->D->Option D): R2:=fun x y H Q=>∃F d1 d2 d,Same F H/\Rep K F d1 x/\Rep K F d2 y/\op d1 d2=some d/\∀v F' H',Grow F H F' H'->Rep K F' d v->Q v H'
def eOp(op:D->D->Option D)(f g:FE): FE:=fun ρ =>(f ρ).bind fun x=>(g ρ).bind fun y=>op x y
theorem two{K:Frag}{f g:FE}{op:D->D->Option D}{σ : St}{H:Hp}{Q:VK}(h:tD K (eOp op f g) σ H Q): tD K f σ H fun x H1=>tD K g σ H1 fun y H2=>rD K op x y H2 Q:=by
 obtain⟨F0,H0,F, ρ,d,r,hf,q⟩:=h;obtain⟨d1,h1,hf⟩:=gc.mp hf;obtain⟨d2,h2,h3⟩:=gc.mp hf;refine⟨F0,H0,F, ρ,d1,r,h1,fun v F1 H1 g1 r1=>⟨F0,H0,F1, ρ,d2,r.grow g1,h2,fun u F2 H2 g2 r2=>?_⟩⟩;exact⟨F2,d1,d2,d,g2.fh,r1.mono g2.ff,r2,h3,fun w F3 H3 g3 r3=>q w F3 H3 (g1.trans (g2.trans g3)) r3⟩
variable{a b:Expr}{f g:FE}
theorem qo{op:Operator}{o:D->D->Option D}(ho:OpR X (binaryOp op) (rD X.K o))(ha:PE X a (tD X.K f))(hb:PE X b (tD X.K g)): PE X (.BinOp a op b pos) (tD X.K (eOp o f g)):=
 j6 (qmt ho ha hb) fun σ H Q h=>two h
theorem q0t{f:Value->Value->Sem Value}{r r':R2}(h:OpR X f r)(i:∀x y H Q,r' x y H Q->r x y H Q): OpR X f r':=fun pins s σ H x y v u Q I rx ry q=>h pins s σ H x y v u Q I rx ry (i x y H Q q)
theorem qb8{f:Value->Value->Sem Value}{K:Frag}{o o':D->D->Option D}(h:OpR X f (rD K o))(h':OpR X f (rD K o')): OpR X f (rD K fun x y=>(o x y).or (o' x y)):=fun pins s σ H x y v u Q I rx ry q=>by
 obtain⟨F,d1,d2,d,q1,q2,q3,q4,q5⟩:=q;have q4:(o d1 d2).or (o' d1 d2)=some d:=q4;cases e:o d1 d2 with
 | some d'=>rw [e] at q4;cases q4;exact h pins s σ H x y v u Q I rx ry ⟨F,d1,d2,_,q1,q2,q3,e,q5⟩
 | none=>rw [e] at q4;exact h' pins s σ H x y v u Q I rx ry ⟨F,d1,d2,d,q1,q2,q3,q4,q5⟩
def oI(C:Int->Int->Bool)(z:Int->Int->Int): D->D->Option D
 | .int i,.int j=>if C i j then some (.int (z i j)) else none
 | _,_=>none
def oB(z:Int->Int->Bool): D->D->Option D
 | .int i,.int j=>some (.bl (z i j))
 | _,_=>none
theorem qer{C:Int->Int->Bool}{z:Int->Int->Int}{d1 d2 d:D}(h:oI C z d1 d2=some d): ∃i j,d1=.int i/\d2=.int j/\C i j=true/\d=.int (z i j):=by
 cases d1 <;> cases d2 <;> simp only [oI] at h <;> first|(cases h;done)|skip
 split at h
 ·exact⟨_,_,rfl,rfl,by assumption,(mf h).symm⟩
 ·cases h
theorem qnt{z:Int->Int->Bool}{d1 d2 d:D}(h:oB z d1 d2=some d): ∃i j,d1=.int i/\d2=.int j/\d=.bl (z i j):=by
 cases d1 <;> cases d2 <;> simp only [oB] at h <;> first|(cases h;done)|skip
 exact⟨_,_,rfl,rfl,(mf h).symm⟩
theorem q7p{fv:Value->Value->Sem Value}{P:Int->Int->Prop}{C:Int->Int->Bool}{z:Int->Int->Int}(h:OpR X fv (rI P fun i j=>.int (z i j)))(hC:∀i j,C i j=true->P i j): OpR X fv (rD X.K (oI C z)):=
 q0t h fun x y H Q ⟨F,d1,d2,d,q1,q2,q3,q4,q5⟩=>by
  obtain⟨i,j,rfl,rfl,c,rfl⟩:=qer q4;exact⟨i,j,rep_int.mp q2,rep_int.mp q3,hC i j c,q5 _ F H (.refl q1) (rep_int.mpr rfl)⟩
theorem qb9{fv:Value->Value->Sem Value}{z:Int->Int->Int}(h:OpR X fv (rI0 fun i j=>.int (z i j))): OpR X fv (rD X.K (oI (fun _ _=>true) z)):=
 q0t h fun x y H Q ⟨F,d1,d2,d,q1,q2,q3,q4,q5⟩=>by
  obtain⟨i,j,rfl,rfl,c,rfl⟩:=qer q4;exact⟨i,j,rep_int.mp q2,rep_int.mp q3,q5 _ F H (.refl q1) (rep_int.mpr rfl)⟩
theorem qba{fv:Value->Value->Sem Value}{z:Int->Int->Bool}(h:OpR X fv (rI0 fun i j=>.bl (z i j))): OpR X fv (rD X.K (oB z)):=
 q0t h fun x y H Q ⟨F,d1,d2,d,q1,q2,q3,q4,q5⟩=>by
  obtain⟨i,j,rfl,rfl,rfl⟩:=qnt q4;exact⟨i,j,rep_int.mp q2,rep_int.mp q3,q5 _ F H (.refl q1) (rep_bl.mpr rfl)⟩
abbrev oAdd:=oI (fun _ _=>true) fun i j=>i+j
abbrev oSub:=oI (fun _ _=>true) fun i j=>i-j
abbrev oMul:=oI (fun i j=>(decide (-(2 ^ 64)<i)&&decide (i<2 ^ 64)) || (decide (-(2 ^ 64)<j)&&decide (j<2 ^ 64))) fun i j=>i*j
abbrev oDiv:=oI (fun _ j=>decide (0<j)&&decide (j<1073741824)) fun i j=>i / j
abbrev oMod:=oI (fun _ j=>decide (0<j)) fun i j=>i%j
theorem q1t{p q:Prop}[Decidable p][Decidable q](h:(decide p&&decide q)=true): p/\q:=by simpa using h
theorem qqo:OpR X (binaryOp .Add) (rD X.K oAdd):=qb9 qq5
theorem qqp:OpR X (binaryOp .Sub) (rD X.K oSub):=qb9 qq6
theorem qqq:OpR X (binaryOp .Mult) (rD X.K oMul):=q7p qq7 fun i j h=>by
 rcases g17 _ _ ▸ h with z|z
 ·exact .inl (q1t z)
 ·exact .inr (q1t z)
theorem wy:OpR X (binaryOp .FloorDiv) (rD X.K oDiv):=q7p qni fun i j h=>q1t h
theorem jc:OpR X (binaryOp .Mod) (rD X.K oMod):=q7p qq8 fun i j h=>g0j h
abbrev oShl:=oI (fun i j=>decide (0<=j)&&(decide (j<=1000000)&&decide (i.natAbs<2 ^ 64))) fun i j=>i*2 ^ j.toNat
abbrev oPow:=oI (fun i j=>decide (0<=j)&&(decide (j<=1000000)&&decide (i.natAbs<2 ^ 64))) fun i j=>i ^ j.toNat
theorem qbb{p q r:Prop}[Decidable p][Decidable q][Decidable r](h:(decide p&&(decide q&&decide r))=true): p/\q/\r:=by simpa using h
theorem qqr:OpR X (binaryOp .LShift) (rD X.K oShl):=q7p qqa fun i j h=>qbb h
theorem qhz:OpR X (binaryOp .Pow) (rD X.K oPow):=q7p qq9 fun i j h=>qbb h
abbrev oLt:=oB fun i j=>decide (i<j)
abbrev oLe:=oB fun i j=>decide (i<=j)
abbrev oGt:=oB fun i j=>decide (j<i)
abbrev oGe:=oB fun i j=>decide (j<=i)
theorem qsv:OpR X (compareOp .Lt) (rD X.K oLt):=qba qsl
theorem q7q:OpR X (compareOp .Gt) (rD X.K oGt):=qba qsm
theorem qfu:OpR X (compareOp .GtE) (rD X.K oGe):=qba qsn
def flD:D->Option V
 | .non=>some .non
 | .bl b=>some (.bl b)
 | .int i=>some (.int i)
 | .str x=>some (.str x)
 | _=>none
theorem q5t{K:Frag}{H:Hp}{d:D}{v u:V}(h:flD d=some u)(r:Rep K H d v): v=u:=by
 cases d <;> simp only [flD] at h <;> first|(cases h;done)|skip
 ·cases h;exact rep_non.mp r
 ·cases h;exact rep_bl.mp r
 ·cases h;exact rep_int.mp r
 ·cases h;exact rep_str.mp r
def qkk:D->D->Option D:=fun d e=>(flD d).bind fun x=>(flD e).bind fun y=>if q8o x y then some (.bl (decide (x=y))) else none
def q4t:D->D->Option D:=fun d e=>(flD d).bind fun x=>(flD e).bind fun y=>if q8o x y then some (.bl (!decide (x=y))) else none
theorem qqs:OpR X (compareOp .Eq) (rD X.K qkk):=q0t qsj fun x y H Q ⟨F,d1,d2,d,q1,q2,q3,q4,q5⟩=>by
 obtain⟨u,h1,q4⟩:=gc.mp q4;obtain⟨w,h2,q4⟩:=gc.mp q4;cases q5t h1 q2;cases q5t h2 q3
 split at q4
 ·rename_i z
  cases q4;exact⟨z,q5 _ F H (.refl q1) (rep_bl.mpr rfl)⟩
 ·cases q4
theorem qi0:OpR X (compareOp .NotEq) (rD X.K q4t):=q0t qsk fun x y H Q ⟨F,d1,d2,d,q1,q2,q3,q4,q5⟩=>by
 obtain⟨u,h1,q4⟩:=gc.mp q4;obtain⟨w,h2,q4⟩:=gc.mp q4;cases q5t h1 q2;cases q5t h2 q3
 split at q4
 ·rename_i z
  cases q4;exact⟨z,q5 _ F H (.refl q1) (rep_bl.mpr rfl)⟩
 ·cases q4
theorem q7r{op:CmpOp}{o:D->D->Option D}(ho:OpR X (compareOp op) (rD X.K o))(ha:PE X a (tD X.K f))(hb:PE X b (tD X.K g))(hm:behindInMarks op b=false:=by first|exact qay _ (by decide) (by decide)|rfl):
  PE X (.Compare a [op] [b] pos) (tD X.K (eOp o f g)):=j6 (qnj ho ha hb hm) fun σ H Q h=>two h
def qbc:D->Option Bool
 | .non=>some false
 | .bl b=>some b
 | .int i=>some (i != 0)
 | .tup ds=>some (!ds.isEmpty)
 | .lst ds=>some (!ds.isEmpty)
 | .str x=>if x.length<=lim then some ((x.length:Int) != 0) else none
 | _=>none
def bT(f:FE): FT:=fun ρ =>(f ρ).bind qbc
theorem qqt{K:Frag}{F H:Hp}{d:D}{b:Bool}{v:V}(h:qbc d=some b)(fh:Same F H)(r:Rep K F d v): qk2 K v H b:=by
 cases d with
 | non=>cases h;rw [rep_non.mp r];rfl
 | bl c=>cases h;rw [rep_bl.mp r];rfl
 | int i=>cases h;rw [rep_int.mp r];rfl
 | str x=>
  simp only [qbc] at h
  split at h
  ·rename_i z
   cases h;rw [rep_str.mp r];exact⟨ja z,rfl⟩
  ·cases h
 | tup ds=>
  cases h;obtain⟨p,xs,rfl,q1,q2⟩:=rep_tup.mp r;refine .inr (.inl ⟨xs,qk fh q1,?_⟩);cases ds with
  | nil=>rw [q2.nil_inv];rfl
  | cons d ds=>obtain⟨y,r',rfl,_⟩:=q2.cons_inv;rfl
 | lst ds=>
  cases h;obtain⟨p,xs,rfl,q1,q2⟩:=rep_lst.mp r;refine .inl ⟨xs,fh.seq q1,?_⟩;cases ds with
  | nil=>rw [q2.nil_inv];rfl
  | cons d ds=>obtain⟨y,r',rfl,_⟩:=q2.cons_inv;rfl
 | dct _ _=>cases h
 | dtt _ _=>cases h
 | obj _=>cases h
 | exc _=>cases h
theorem k8(ha:PE X a (tD X.K f))(he:∀whole,isTrue a X.env whole=(do let v <- whole;standAt a.pos;holding [v] (truthy v)):=by intro _;rfl): PT X a (tDT X.K (bT f)):=
 qb7 (qk3 ha he) fun σ H Q ⟨F0,H0,F, ρ,b,r,hf,q⟩=>by
  obtain⟨d,h1,h2⟩:=gc.mp hf;exact⟨F0,H0,F, ρ,d,r,h1,fun v F' H' g' r'=>⟨b,qqt h2 g'.fh r',q F' H' g'⟩⟩
def isB:D->Option Bool
 | .bl b=>some b
 | _=>none
def jb(o:D->D->Option D)(f g:FE): FT:=fun ρ =>(eOp o f g ρ).bind isB
theorem zx{op:CmpOp}{o:D->D->Option D}(ho:OpR X (compareOp op) (rD X.K o))(ha:PE X a (tD X.K f))(hb:PE X b (tD X.K g))(hm:behindInMarks op b=false:=by first|exact qay _ (by decide) (by decide)|rfl):
  PT X (.Compare a [op] [b] pos) (tDT X.K (jb o f g)):=qb7 (qnk ho ha hb hm) fun σ H Q ⟨F0,H0,F, ρ,c,r,hf,q⟩=>by
 obtain⟨d,h1,h2⟩:=gc.mp hf;refine two ⟨F0,H0,F, ρ,d,r,h1,fun v F' H' g' r'=>?_⟩;cases d <;> simp only [isB] at h2 <;> first|(cases h2;done)|skip
 cases h2;exact⟨_,rep_bl.mp r',q F' H' g'⟩
def q6s(t:FT): FT:=fun ρ =>(t ρ).map not
def q4u(t u:FT): FT:=fun ρ =>(t ρ).bind fun c=>if c then u ρ else some false
def bOr(t u:FT): FT:=fun ρ =>(t ρ).bind fun c=>if c then some true else u ρ
variable{t u:FT}{rest:List Expr}
theorem q4v(ha:PT X a (tDT X.K t)): PT X (.UnaryOp .Not a pos) (tDT X.K (q6s t)):=qb7 (qpu ha) fun σ H Q ⟨F0,H0,F, ρ,c,r,hf,q⟩=>by
 obtain⟨d,h1,h2⟩:=m8.mp hf;subst h2;exact⟨F0,H0,F, ρ,d,r,h1,fun F' H' g'=>q F' H' g'⟩
theorem qi1{t t':TT}(h:PW X a t)(i:∀ σ H Q,t' σ H Q->t σ H Q): PW X a t':=fun wh pins s σ H Q I q=>h wh pins s σ H Q I (i σ H Q q)
theorem q1u(ha:PT X a (tDT X.K t)): PW X (.BoolOp .And [a] pos) (tDT X.K t):=qnf ha
theorem qqu(ha:PT X a (tDT X.K t)): PW X (.BoolOp .Or [a] pos) (tDT X.K t):=qps ha
theorem q3g(ha:PT X a (tDT X.K t))(hb:PW X (.BoolOp .And (b :: rest) pos) (tDT X.K u)): PW X (.BoolOp .And (a :: b :: rest) pos) (tDT X.K (q4u t u)):=qi1 (qpt ha hb) fun σ H Q ⟨F0,H0,F, ρ,c,r,hf,q⟩=>by
 obtain⟨d,h1,h2⟩:=gc.mp hf;refine⟨F0,H0,F, ρ,d,r,h1,fun F' H' g'=>?_⟩;cases d with
 | true=>rw [md rfl] at h2 ⊢;exact⟨F0,H0,F', ρ,c,r.grow g',h2,fun F2 H2 g2=>q F2 H2 (g'.trans g2)⟩
 | false=>rw [mi mh] at h2 ⊢;cases h2;exact q F' H' g'
theorem qsw(ha:PT X a (tDT X.K t))(hb:PW X (.BoolOp .Or (b :: rest) pos) (tDT X.K u)): PW X (.BoolOp .Or (a :: b :: rest) pos) (tDT X.K (bOr t u)):=qi1 (qsb ha hb) fun σ H Q ⟨F0,H0,F, ρ,c,r,hf,q⟩=>by
 obtain⟨d,h1,h2⟩:=gc.mp hf;refine⟨F0,H0,F, ρ,d,r,h1,fun F' H' g'=>?_⟩;cases d with
 | false=>rw [mi mh] at h2 ⊢;exact⟨F0,H0,F', ρ,c,r.grow g',h2,fun F2 H2 g2=>q F2 H2 (g'.trans g2)⟩
 | true=>rw [md rfl] at h2 ⊢;cases h2;exact q F' H' g'
def qfv(f g:FE): FE:=fun ρ =>(f ρ).bind fun x=>(isB x).bind fun c=>if c then g ρ else some (.bl false)
def eOr(f g:FE): FE:=fun ρ =>(f ρ).bind fun x=>(isB x).bind fun c=>if c then some (.bl true) else g ρ
def qkl(f:FE): FE:=fun ρ =>(f ρ).bind fun x=>(isB x).map fun c=>.bl (!c)
def eIf(t:FT)(f g:FE): FE:=fun ρ =>(t ρ).bind fun c=>if c then f ρ else g ρ
theorem qbd{d:D}{c:Bool}(h:isB d=some c): d=.bl c:=by
 cases d <;> simp only [isB] at h <;> first|(cases h;done)|skip
 rw [mf h]
theorem qqv{op}(h:PE X a (tD X.K f)): PE X (.BoolOp op [a] pos) (tD X.K f):=qpv h
theorem qi2(ha:PE X a (tD X.K f))(hb:PE X (.BoolOp .And (b :: rest) pos) (tD X.K g)): PE X (.BoolOp .And (a :: b :: rest) pos) (tD X.K (qfv f g)):=j6 (qpw ha hb) fun σ H Q ⟨F0,H0,F, ρ,d,r,hf,q⟩=>by
 obtain⟨x,h1,hf⟩:=gc.mp hf;obtain⟨c,h2,h3⟩:=gc.mp hf;refine⟨F0,H0,F, ρ,x,r,h1,fun v F' H' g' r'=>?_⟩;rw [qbd h2] at r';refine⟨c,rep_bl.mp r',?_⟩;cases c with
 | true=>rw [md rfl] at h3 ⊢;exact⟨F0,H0,F', ρ,d,r.grow g',h3,fun w F2 H2 g2 r2=>q w F2 H2 (g'.trans g2) r2⟩
 | false=>rw [mi mh] at h3 ⊢;cases h3;exact q _ F' H' g' (rep_bl.mpr rfl)
theorem qqw(ha:PE X a (tD X.K f)): PE X (.UnaryOp .Not a pos) (tD X.K (qkl f)):=j6 (qpx ha) fun σ H Q ⟨F0,H0,F, ρ,d,r,hf,q⟩=>by
 obtain⟨x,h1,hf⟩:=gc.mp hf;obtain⟨c,h2,h3⟩:=m8.mp hf;subst h3;refine⟨F0,H0,F, ρ,x,r,h1,fun v F' H' g' r'=>?_⟩;rw [qbd h2] at r';exact⟨c,rep_bl.mp r',q _ F' H' g' (rep_bl.mpr rfl)⟩
theorem qsx{c:Expr}(hc:PT X c (tDT X.K t))(ha:PE X a (tD X.K f))(hb:PE X b (tD X.K g)): PE X (.IfExp c a b pos) (tD X.K (eIf t f g)):=j6 (qjw hc ha hb) fun σ H Q ⟨F0,H0,F, ρ,d,r,hf,q⟩=>by
 obtain⟨x,h1,h2⟩:=gc.mp hf;refine⟨F0,H0,F, ρ,x,r,h1,fun F' H' g'=>?_⟩;cases x with
 | true=>rw [md rfl] at h2 ⊢;exact⟨F0,H0,F', ρ,d,r.grow g',h2,fun w F2 H2 g2 r2=>q w F2 H2 (g'.trans g2) r2⟩
 | false=>rw [mi mh] at h2 ⊢;exact⟨F0,H0,F', ρ,d,r.grow g',h2,fun w F2 H2 g2 r2=>q w F2 H2 (g'.trans g2) r2⟩
end
section
variable{X:Cx}{e:Expr}{es:List Expr}{pos:Pos}{f g:FE}{fa:FA}
def notStar:Expr->Bool
 | .Starred _ _=>false
 | _=>true
theorem qes{e:Expr}{es:List Expr}{env:Env}(h:notStar e=true): starEach (e :: es) env=(false,eval e env) :: starEach es env:=by
 cases e <;> first|rfl|cases h
def qh:FA:=fun _=>some []
def qc(f:FE)(fa:FA): FA:=fun ρ =>(f ρ).bind fun d=>(fa ρ).map fun ds=>d :: ds
theorem qf:PA X [] (tDA X.K qh):=qhx q1z fun σ H Q ⟨F0,H0,F, ρ,ds,r,hf,q⟩=>by
 cases hf;exact q [] F H (.refl r.fh) .nil
theorem qnu(ha:PE X e (tD X.K f))(hr:PA X es (tDA X.K fa))(hs:starEach (e :: es) X.env=(false,eval e X.env) :: starEach es X.env:=by first|exact qes rfl|rfl): PA X (e :: es) (tDA X.K (qc f fa)):=
 qhx (q07 ha hr hs) fun σ H Q ⟨F0,H0,F, ρ,ds,r,hf,q⟩=>by
  obtain⟨d,h1,hf⟩:=gc.mp hf;obtain⟨ds',h2,h3⟩:=m8.mp hf;subst h3;refine⟨F0,H0,F, ρ,d,r,h1,fun v F1 H1 g1 r1=>⟨F0,H0,F1, ρ,ds',r.grow g1,h2,fun vs F2 H2 g2 r2=>?_⟩⟩;exact q _ F2 H2 (g1.trans g2) (.cons (r1.mono g2.ff) r2)
def xf(fa:FA): FE:=fun ρ =>(fa ρ).bind fun ds=>if ds.length<=lim then some (.tup ds) else none
def q23(fa:FA): FA:=fun ρ =>(fa ρ).bind fun ds=>if ds.length<=lim then some ds else none
theorem y9{x1}(h:PA X es (tDA X.K fa)): PE X (.Tuple es x1 pos) (tD X.K (xf fa)):=j6 (qqd h) fun σ H Q ⟨F0,H0,F, ρ,d,r,hf,q⟩=>by
 obtain⟨ds,h1,h2⟩:=gc.mp hf
 split at h2
 ·rename_i hl
  cases h2;refine⟨F0,H0,F, ρ,ds,r,h1,fun vs F1 H1 g1 r1=>⟨ja (by rw [<- r1.length];exact hl),fun p hp=>?_⟩⟩;have gn:Grow F1 H1 (upd F1 p (.tup vs)) (upd H1 p (.tup vs)):=Grow.new g1.fh hp;exact q _ _ _ (g1.trans gn) (rep_tup.mpr ⟨p,vs,rfl,SqT.of qr,r1.mono gn.ff⟩)
 ·cases h2
theorem q0f(h:PA X es (tDA X.K fa)): PE X (.List es pos) (tL X.K (q23 fa)):=j6 (qqe h) fun σ H Q ⟨F0,H0,F, ρ,ds,r,hf,q⟩=>by
 obtain⟨ds',h1,h2⟩:=gc.mp hf
 split at h2
 ·rename_i hl
  cases h2;refine⟨F0,H0,F, ρ,ds,r,h1,fun vs F1 H1 g1 r1=>⟨ja (by rw [<- r1.length];exact hl),fun p hp=>?_⟩⟩;exact q p vs F1 (upd H1 p (.lst vs)) (g1.trans (Grow.own g1.fh hp)) (g1.fh.free hp) (g1.hh.free hp) qr r1
 ·cases h2
def eL(fa:FA): FE:=fun ρ =>(fa ρ).map .lst
theorem xu(h:PE X e (tL X.K fa)): PE X e (tD X.K (eL fa)):=j6 h fun σ H Q ⟨F0,H0,F, ρ,d,r,hf,q⟩=>by
 obtain⟨ds,h1,h2⟩:=m8.mp hf;subst h2;refine⟨F0,H0,F, ρ,ds,r,h1,fun a xs F1 H1 g1 fa' ha' hl r1=>?_⟩;have sF:Same F1 (upd F1 a (.lst xs)):=k7 fa';refine q _ (upd F1 a (.lst xs)) H1 ⟨g1.ff.trans sF,g1.hh,fun b o z=>?_,fun b hb=>?_⟩ (rep_lst.mpr ⟨a,xs,rfl,SqL.of qr,r1.mono sF⟩)
 ·by_cases q':b=a
  ·subst q';rw [qr] at z;cases z;exact hl
  ·rw [ql q'] at z;exact g1.fh b o z
 ·by_cases q':b=a
  ·subst q';exact .inr ha'
  ·rw [ql q'] at hb;exact g1.nw b hb
def rC(K:Frag)(op:List D->Option D): List V->Hp->VK->Prop:=fun xs H Q=>∃F ds d,Same F H/\RepL K F ds xs/\op ds=some d/\∀v F' H',Grow F H F' H'->Rep K F' d v->Q v H'
def qj(op:List D->Option D)(fa:FA): FE:=fun ρ =>(fa ρ).bind op
theorem q4w{f:Value}{r r':List V->Hp->VK->Prop}(h:jz X f r)(i:∀xs H Q,r' xs H Q->r xs H Q): jz X f r':=fun pins s σ H xs us Q I rv q=>h pins s σ H xs us Q I rv (i xs H Q q)
theorem qi3{K:Frag}{op:List D->Option D}{σ : St}{H:Hp}{Q:VK}(h:tD K (qj op fa) σ H Q): tDA K fa σ H fun vs H1=>rC K op vs H1 Q:=by
 obtain⟨F0,H0,F, ρ,d,r,hf,q⟩:=h;obtain⟨ds,h1,h2⟩:=gc.mp hf;exact⟨F0,H0,F, ρ,ds,r,h1,fun vs F1 H1 g1 r1=>⟨F1,ds,d,g1.fh,r1,h2,fun v F2 H2 g2 r2=>q v F2 H2 (g1.trans g2) r2⟩⟩
theorem j3{x:Str}{p:Pos}{id:String}{op:List D->Option D}(hc:jz X (.builtin id) (rC X.K op))(hg:Gl X x)(hm:X.mg x=none)(hv:bootBuiltins x=some (.builtin id))(ha:PA X (e :: es) (tDA X.K fa))
  (hn:x≠"__name__" :=by decide) (hdb:(x==("__debug__" : Str))=false:=by decide)
  (he:starEach (e :: es) X.env=(false,eval e X.env) :: starEach es X.env:=by rfl) (hpl:(backTo pos (starEach es X.env)).any (·.1)=false:=by rfl):PE X (.Call (.Name x p) (e :: es) [] pos) (tD X.K (qj op fa)):=
 j6 (q3q hc hg hm hv ha hn hdb he hpl) fun σ H Q h=>qi3 h
theorem xg{x:Str}{p:Pos}{T:String}{op:List D->Option D}(hc:jz X (.type T) (rC X.K op))(hg:Gl X x)(hm:X.mg x=none)(hv:bootBuiltins x=some (.type T))(ha:PA X (e :: es) (tDA X.K fa))
  (hn:x≠"__name__" :=by decide) (hdb:(x==("__debug__" : Str))=false:=by decide)
  (he:starEach (e :: es) X.env=(false,eval e X.env) :: starEach es X.env:=by rfl) (hpl:(backTo pos (starEach es X.env)).any (·.1)=false:=by rfl):PE X (.Call (.Name x p) (e :: es) [] pos) (tD X.K (qj op fa)):=
 j6 (q4q hc hg hm hv ha hn hdb he hpl) fun σ H Q h=>qi3 h
def spD(K:Frag)(ar:Nat)(op:List D->Option D): Sp:=fun vs H Q _=>∃F ds d,SameT F H/\RepL K F ds vs/\ds.length=ar/\op ds=some d/\∀v F' H',Grow F H F' H'->Rep K F' d v->Q v H'
theorem SameT.grow{F H F' H':Hp}(s:SameT F H)(g:Grow F H F' H'): SameT F' H':=⟨g.fh,g.hh.tb s.t,fun p hp=>by
 cases q:F' p.1 with
 | none=>rfl
 | some o=>
  rcases g.nw p.1 (by rw [q];simp) with z|z
  ·exact absurd (s.f p hp) z
  ·obtain⟨ps,e,_⟩:=s.t p hp
   rw [e] at z;cases z⟩
def qq(ar:Nat)(dds:List D)(op:List D->Option D): List D->Option D:=fun ds=>if(ds++dds).length=ar then op (ds++dds) else none
theorem qnv{k ar:Nat}{fn:Addr}{fd:FuncData}{ps:List Str}{op:List D->Option D}{x:Str}{p:Pos}{dvs:List V}{dds:List D}{dv:List Value}(F:FnOk X.prog X.w X.K X.mg X.base CX0 k fn fd ps (spD X.K ar op))(hr:Room k X.A)(hg:Gl X x)(hm:X.mg x=some (.ref fn))(hk:PySem.W.keepIn X.K (.ref fn)=true)
  (hb:Binds X.K fd ps dv) (hd:Vals dvs dv) (hdd:∀H,RepL X.K H dds dvs) (ha:PA X (e :: es) (tDA X.K fa)) (hdb:(x==("__debug__" : Str))=false:=by decide)
  (he:starEach (e :: es) X.env=(false,eval e X.env) :: starEach es X.env:=by rfl) (hpl:(backTo pos (starEach es X.env)).any (·.1)=false:=by rfl) :
  PE X (.Call (.Name x p) (e :: es) [] pos) (tD X.K (qj (qq ar dds op) fa)):=
 j6 (qnl F hr hg hm hk hb hd qmw ha hdb he hpl) fun σ H Q ⟨F0,H0,Fz, ρ,d,r,hf,q⟩=>by
  obtain⟨ds,h1,h2⟩:=gc.mp hf;unfold qq at h2
  split at h2
  ·rename_i hl
   exact⟨F0,H0,Fz, ρ,ds,r,h1,fun vs F1 H1 g1 r1=>⟨F1,ds++dds,d,r.sameT g1,r1.append (hdd F1),hl,h2,fun v F2 H2 g2 r2=>q v F2 H2 (g1.trans g2) r2⟩⟩
  ·cases h2
end
section
variable{X:Cx}{st:Stmt}{rest:List Stmt}{e:Expr}{pos:Pos}{f:FE}{fa:FA}{t:FT}{u w:FS}
def v9:FS:=fun ρ =>some (.nx, ρ)
def z6(u w:FS): FS:=fun ρ =>(u ρ).bind fun r=>match r with
 | (.nx, ρ')=>w ρ'
 | (fl, ρ')=>some (fl, ρ')
def sIf(t:FT)(u w:FS): FS:=fun ρ =>(t ρ).bind fun c=>if c then u ρ else w ρ
def zw(i:Nat)(f:FE): FS:=fun ρ =>(f ρ).map fun d=>(.nx, ρ.set i (some (.fz d)))
def q32(i:Nat)(fa:FA): FS:=fun ρ =>(fa ρ).map fun ds=>(.nx, ρ.set i (some (.ow ds)))
def zk(f:FE): FS:=fun ρ =>(f ρ).map fun d=>(.rt d, ρ)
def qsy:FS:=fun ρ =>some (.rt .non, ρ)
def qty:FS:=fun ρ =>some (.bk, ρ)
def qtz:FS:=fun ρ =>some (.ct, ρ)
def qsz(f:FE): FS:=fun ρ =>(f ρ).map fun _=>(.nx, ρ)
theorem jd:PSs X [] (tDS X.K v9):=q5s qng fun D σ H ⟨F0,H0,F, ρ,fl, ρ',r,hf,q⟩=>by
 cases hf;exact q σ F H (.refl _) r
theorem q24{K:Frag}{F0 H0 F F':Hp}{D:Ends}{fl:Fl}{ρ':Rho}(s:Same F F')(h:qft K F0 H0 F D fl ρ'): qft K F0 H0 F' D fl ρ':=by
 cases fl with
 | nx=>exact fun σ' F2 H2 s2 r=>h σ' F2 H2 (s.trans s2) r
 | bk=>exact fun σ' F2 H2 s2 r=>h σ' F2 H2 (s.trans s2) r
 | ct=>exact fun σ' F2 H2 s2 r=>h σ' F2 H2 (s.trans s2) r
 | rt d=>exact h
theorem qm(h1:PS X st (tDS X.K u))(h2:PSs X rest (tDS X.K w)): PSs X (st :: rest) (tDS X.K (z6 u w)):=q5s (q6q h1 h2) fun D σ H ⟨F0,H0,F, ρ,fl, ρ',r,hf,q⟩=>by
 obtain⟨⟨fl1, ρ1⟩,h3,h4⟩:=gc.mp hf;refine⟨F0,H0,F, ρ,fl1, ρ1,r,h3,?_⟩;cases fl1 with
 | nx=>exact fun σ' F' H' s r'=>⟨F0,H0,F', ρ1,fl, ρ',r',h4,q24 s q⟩
 | bk=>cases h4;exact q
 | ct=>cases h4;exact q
 | rt d=>cases h4;exact q
theorem qp(h1:PS X st (tDS X.K u)): PSs X [st] (tDS X.K u):=qeh h1
theorem xi{c:Expr}{a b:List Stmt}(hc:PT X c (tDT X.K t))(ha:PSs X a (tDS X.K u))(hb:PSs X b (tDS X.K w)): PS X (.If c a b pos) (tDS X.K (sIf t u w)):=wx (qsf hc ha hb) fun D σ H ⟨F0,H0,F, ρ,fl, ρ',r,hf,q⟩=>by
 obtain⟨c,h1,h2⟩:=gc.mp hf;refine⟨F0,H0,F, ρ,c,r,h1,fun F' H' g'=>?_⟩;cases c with
 | true=>rw [md rfl] at h2 ⊢;exact⟨F0,H0,F', ρ,fl, ρ',r.grow g',h2,q24 g'.ff q⟩
 | false=>rw [mi mh] at h2 ⊢;exact⟨F0,H0,F', ρ,fl, ρ',r.grow g',h2,q24 g'.ff q⟩
theorem z8(he:PE X e (tD X.K f)): PS X (.Return (some e) pos) (tDS X.K (zk f)):=wx (qpy he) fun D σ H ⟨F0,H0,F, ρ,fl, ρ',r,hf,q⟩=>by
 obtain⟨d,h1,h2⟩:=m8.mp hf;cases h2;exact⟨F0,H0,F, ρ,d,r,h1,fun v F' H' g' r'=>q v F' H' (r.g.trans g') r'⟩
theorem qt0{K:Frag}{i:Nat}{D:Ends}{σ : St}{H:Hp}(h:tDS K (zw i f) D σ H): tD K f σ H fun x H1=>q2u i x σ H1 D.nx:=by
 obtain⟨F0,H0,F, ρ,fl, ρ',r,hf,q⟩:=h;obtain⟨d,h1,h2⟩:=m8.mp hf;cases h2;exact⟨F0,H0,F, ρ,d,r,h1,fun v F' H' g' r'=>q _ F' H' g'.ff ((r.grow g').set i r')⟩
theorem qmx{K:Frag}{i:Nat}{D:Ends}{σ : St}{H:Hp}(h:tDS K (q32 i fa) D σ H): tL K fa σ H fun x H1=>q2u i x σ H1 D.nx:=by
 obtain⟨F0,H0,F, ρ,fl, ρ',r,hf,q⟩:=h;obtain⟨ds,h1,h2⟩:=m8.mp hf;cases h2;refine⟨F0,H0,F, ρ,ds,r,h1,fun a xs F' H' g' fa' ha' hl r'=>q _ F' H' g'.ff ((r.grow g').setO i hl fa' (r.g.hh.free ha') r' (fun j es z1 z2=>?_) fun j kvs z1=>?_)⟩
 ·obtain⟨b,ys,e1,e2,_⟩:=r.ow j es z1
  rw [z2] at e1;obtain rfl:a=b:=by simpa using e1
  rw [ha'] at e2;cases e2
 ·obtain⟨b,bs,e1,e2,e3⟩:=r.od j kvs z1
  refine⟨b,bs,e1,e2.grow g',fun z=>?_,e3⟩;obtain⟨xs,f,_⟩:=e2.mem z;rw [ha'] at f;cases f
theorem zd{i:Nat}{x:Str}{px:Pos}(hN:X.N.Nodup)(hi:X.N[i]? = some x)(hx:Loc X.env.scope x)(he:PE X e (tD X.K f))(hs:swapsWith e (some (.Name x px)) pos.line X.env=pure false:=by rfl)(hf:X.fn x=true\/X.env.scope.names.lookup x=some .local:=by first|exact .inl rfl|exact .inr rfl|assumption):
  PS X (.Assign [.Name x px] e pos) (tDS X.K (zw i f)):=wx (qb0 hN hi hx he hs hf) fun D σ H h=>qt0 h
theorem q4x{i:Nat}{x:Str}{px:Pos}(hN:X.N.Nodup)(hi:X.N[i]? = some x)(hx:Loc X.env.scope x)(he:PE X e (tL X.K fa))(hs:swapsWith e (some (.Name x px)) pos.line X.env=pure false:=by rfl)(hf:X.fn x=true\/X.env.scope.names.lookup x=some .local:=by first|exact .inl rfl|exact .inr rfl|assumption):
  PS X (.Assign [.Name x px] e pos) (tDS X.K (q32 i fa)):=wx (qb0 hN hi hx he hs hf) fun D σ H h=>qmx h
def q6t(i:Nat)(ρ : Rho): Option (List D):=match ρ[i]? with
 | some (some (.ow ds))=>some ds
 | _=>none
theorem q9m{i:Nat}{ρ : Rho}{ds:List D}(h:q6t i ρ = some ds): ρ[i]? = some (some (.ow ds)):=by
 unfold q6t at h
 split at h
 ·rename_i e;rw [e,mf h]
 ·cases h
def q25(i:Nat)(f:FE): FS:=fun ρ =>(q6t i ρ).bind fun ds=>(f ρ).bind fun d=>if ds.length<lim then some (.nx, ρ.set i (some (.ow (ds++[d])))) else none
theorem q7s{i:Nat}{x:Str}{px apos cpos:Pos}(hv:PE X (.Name x px) (q6p i))(he:PE X e (tD X.K f))
  (hbase:attributeBase (.Name x px) "append" X.env (eval (.Name x px) X.env)=eval (.Name x px) X.env:=by rfl)
  (hfew:((backTo cpos (starEach [e] X.env)).all (fun x=> !x.1)&&(backToKw cpos (keywordEach [] X.env)).all (fun x=>x.1.isSome)&&decide ([e].length+([]:List Keyword).length+(if([]:List Keyword).isEmpty then 0 else 1)<30))=true:=by rfl)
  (hline:(apos.endLine==cpos.line)=true:=by rfl) (hse:starEach [e] X.env=(false,eval e X.env) :: starEach [] X.env:=by rfl)
  (hs:swapsWith (.Call (.Attribute (.Name x px) "append" apos) [e] [] cpos) none pos.line X.env=pure false:=by rfl):PS X (.Expr (.Call (.Attribute (.Name x px) "append" apos) [e] [] cpos) pos) (tDS X.K (q25 i f)):=
 wx (qei (qmv g64 PySem.F.slot_list_append PySem.F.type_list_append q9k hv (q07 he q1z hse) hbase hfew hline hse rfl) hs) fun D σ H ⟨F0,H0,F, ρ,fl, ρ',r,hf,q⟩=>by
  obtain⟨ds,h1,hf⟩:=gc.mp hf;obtain⟨d,h2,h3⟩:=gc.mp hf;have h1:=q9m h1
  split at h3
  ·rename_i hl
   cases h3;obtain⟨a,xs,e1,e2,e3,e4,e5⟩:=r.ow i ds h1;refine⟨.ref a,e1,.inl ⟨rfl,xs,SqL.of e2⟩,F0,H0,F, ρ,d,r,h2,fun v F' H' g' r'=>?_⟩;have r2:=r.grow g';refine⟨a,xs,v,rfl,rfl,g'.hh.lst _ _ e2,q9l (by rw [<- e5.length];exact hl),?_⟩;exact q _ F' _ g'.ff (r2.wrt h1 e1 ((e5.mono g'.ff).append (.cons r' .nil)))
  ·cases h3
def frz(i:Nat)(ρ : Rho): Rho:=match ρ[i]? with
 | some (some (.ow ds))=> ρ.set i (some (.fz (.lst ds)))
 | _=> ρ
def q3r(i:Nat)(u:FS): FS:=fun ρ =>u (frz i ρ)
theorem qqx{K:Frag}{F0 H0 F H:Hp}{σ : St}{ρ : Rho}(i:Nat)(r:RS K F0 H0 F H σ ρ): ∃F',Same F F'/\RS K F0 H0 F' H σ (frz i ρ):=by
 unfold frz
 split
 ·rename_i ds h
  exact r.freeze h
 ·exact⟨F,.refl _,r⟩
theorem q26(i:Nat){sts:List Stmt}(h:PSs X sts (tDS X.K u)): PSs X sts (tDS X.K (q3r i u)):=q5s h fun D σ H ⟨F0,H0,F, ρ,fl, ρ',r,hf,q⟩=>by
 obtain⟨F',s',r'⟩:=qqx i r;exact⟨F0,H0,F',frz i ρ,fl, ρ',r',hf,q24 s' q⟩
end
def za(n:Nat)(u:FS)(ds:List D): Option D:=match u (ds.map (fun d=>some (.fz d))++List.replicate (n-ds.length) none) with
 | some (.rt d,_)=>some d
 | some (.nx,_)=>some .non
 | _=>none
theorem qi4{N:List Str}{vs:List V}{i:Nat}{v:V}(h:vs[i]? = some v): (L2.start N vs)[i]? = some (some v):=by
 unfold L2.start;have hi:i<vs.length:=(nh.mp h).1;rw [uh (by simpa using hi),mv,h];rfl
theorem qi5{P:Program}{w:World}{K:Frag}{H:Hp}{vs:List V}{Q:VK}{N:List Str}{u:FS}{ar:Nat}{E:XK}(hl:ar<=N.length)(h:spD K ar (za N.length u) vs H Q E): tDS K u {nx:=fun _ H'=>Q .non H',rt:=Q} (L2.start N vs) H:=by
 obtain⟨F,ds,d,fh,rl,el,hd,q⟩:=h;have hlen:=rl.length;have r:RS K F H F H (L2.start N vs) (ds.map (fun d=>some (.fz d))++List.replicate (N.length-ds.length) none):={
  t0:=⟨fh.t,fh.f⟩
  g:=.refl fh.s
  len:=by unfold L2.start;simp only [t5,mn,g6i];omega
  fz :=fun i e h1=>by
   by_cases hi:i<ds.length
   ·rw [uh (by simpa using hi),mv] at h1
    cases z:ds[i]? with
    | none=>rw [z] at h1;cases h1
    | some d'=>
     rw [z] at h1;cases h1;obtain⟨v,e1,e2⟩:=rl.get z;exact⟨v,qi4 e1,e2⟩
   ·rw [uz (by simpa using hi),g0t] at h1
    split at h1 <;> cases h1
  ow:=fun i es h1=>by
   by_cases hi:i<ds.length
   ·rw [uh (by simpa using hi),mv] at h1
    cases z:ds[i]? with
    | none=>rw [z] at h1;cases h1
    | some d'=>rw [z] at h1;cases h1
   ·rw [uz (by simpa using hi),g0t] at h1
    split at h1 <;> cases h1
  dj:=fun i j us es a _ h1=>by
   by_cases hi:i<ds.length
   ·rw [uh (by simpa using hi),mv] at h1
    cases z:ds[i]? with
    | none=>rw [z] at h1;cases h1
    | some d'=>rw [z] at h1;cases h1
   ·rw [uz (by simpa using hi),g0t] at h1
    split at h1 <;> cases h1
  od:=fun i kvs h1=>by
   by_cases hi:i<ds.length
   ·rw [uh (by simpa using hi),mv] at h1
    cases z:ds[i]? with
    | none=>rw [z] at h1;cases h1
    | some d'=>rw [z] at h1;cases h1
   ·rw [uz (by simpa using hi),g0t] at h1
    split at h1 <;> cases h1
  o1:=fun i j k1 k2 h1=>by
   by_cases hi:i<ds.length
   ·rw [uh (by simpa using hi),mv] at h1
    cases z:ds[i]? with
    | none=>rw [z] at h1;cases h1
    | some d'=>rw [z] at h1;cases h1
   ·rw [uz (by simpa using hi),g0t] at h1
    split at h1 <;> cases h1}
 unfold za at hd;cases z:u (ds.map (fun d=>some (.fz d))++List.replicate (N.length-ds.length) none) with
 | none=>rw [z] at hd;cases hd
 | some p=>
  obtain⟨fl, ρ'⟩:=p;rw [z] at hd;refine⟨F,H,F,_,fl, ρ',r,z,?_⟩;cases fl with
  | nx=>cases hd;exact fun σ' F' H' s' r'=>q .non F' H' r'.g (rep_non.mpr rfl)
  | bk=>cases hd
  | ct=>cases hd
  | rt d'=>cases hd;exact fun v F' H' g' r'=>q v F' H' g' r'
theorem qmy{P:Program}{w:World}{K:Frag}{mg:Str->Option Value}{base:Heap}{k:Nat}{f:Addr}{name qual:Str}{params:Arguments}{body:List Stmt}{scope:Scope}{dV kV doc pm cdv ct oc:Value}{an od:Option Addr}
  {osl:Array (Option Value)} {N ps:List Str} {u:FS} (lk:K.lookup f=some ⟨oc,od,.func (PySem.W.fnOf name qual params body scope dV kV doc pm an cdv ct),osl⟩) (hcd:PySem.W.codeIn K cdv qual=true) (S:FnScope N ps scope)
  (hb:∀(A:Around) (outer:List Env) (s:Shared) (H:Hp) (E:XK),Room k (A.deeper (envOfC qual scope s.heap.objs.size f cdv))->PSs (zr CX0 P w K mg base N qual scope f cdv A outer s H E).nox body (tDS K u)) :
  FnOk P w K mg base CX0 (k+1) f (PySem.W.fnOf name qual params body scope dV kV doc pm an cdv ct) ps (spD K ps.length (za N.length u)):=by
 have hpl:ps.length<=N.length:=by have:=g0d List.length S.pre;rw [p6] at this;omega
 refine qss lk hcd S (fun vs H Q E h=>?_) fun A outer s H vs Q E hr hsp=>⟨_,(hb A outer s H E hr).nox,qi5 (P:=P) (w:=w) hpl hsp⟩
 obtain⟨F,ds,d,_,rl,el,_⟩:=h;rw [<- rl.length];exact el
structure ItD(K:Frag)(F:Hp)(ds:List D)(J:It): Prop where
 go:∀(i:Nat) (F' H:Hp),Same F F'->Same F' H->i<ds.length->J.go i H
 yld:∀(i:Nat) (d:D) (F' H:Hp) (x:V) (H':Hp),Same F F'->Same F' H->ds[i]? = some d->J.yld i H x H'->∃F'',Grow F' H F'' H'/\Rep K F'' d x
 stop:∀(i:Nat) (F' H:Hp),Same F F'->Same F' H->ds.length<=i->J.stop i H
def tDI(K:Frag)(f:FA): TI:=fun σ H R=>∃F0 H0 F ρ ds,RS K F0 H0 F H σ ρ /\ f ρ = some ds/\∀J F' H',Grow F H F' H'->ItD K F' ds J->R J H'
abbrev FB:=D->Rho->Option Rho
abbrev FBs:=List D->Rho->Option Rho
def tDG(K:Frag)(b:FB): TG:=fun v σ H Q=>∃F0 H0 F ρ d ρ',RS K F0 H0 F H σ ρ /\ Rep K F d v/\b d ρ = some ρ'/\∀ σ',RS K F0 H0 F H σ' ρ'->Q σ' H
def qbe(K:Frag)(b:FBs): TGs:=fun vs σ H Q=>∃F0 H0 F ρ ds ρ',RS K F0 H0 F H σ ρ /\ RepL K F ds vs/\b ds ρ = some ρ'/\∀ σ',RS K F0 H0 F H σ' ρ'->Q σ' H
section
variable{X:Cx}{tg e:Expr}{es:List Expr}{pos:Pos}
theorem q4y{t t':TI}(h:PI X tg e t)(i:∀ σ H R,t' σ H R->t σ H R): PI X tg e t':=fun pins s σ H R I q=>h pins s σ H R I (i σ H R q)
theorem qbf{t t':TG}(h:PG X e t)(i:∀v σ H Q,t' v σ H Q->t v σ H Q): PG X e t':=fun pins s σ H v u Q I r q=>h pins s σ H v u Q I r (i v σ H Q q)
theorem qet{t t':TGs}(h:PGs X es t)(i:∀v σ H Q,t' v σ H Q->t v σ H Q): PGs X es t':=fun pins s σ H v u Q I r q=>h pins s σ H v u Q I r (i v σ H Q q)
def bN(i:Nat): FB:=fun d ρ =>some (ρ.set i (some (.fz d)))
def xv:FBs:=fun ds ρ =>if ds.isEmpty then some ρ else none
def zb(b:FB)(bs:FBs): FBs:=fun ds ρ =>match ds with
 | d :: r=>(b d ρ).bind fun ρ'=>bs r ρ'
 | []=>none
def va(n:Nat)(bs:FBs): FB:=fun d ρ =>match d with
 | .tup ds=>if ds.length=n then bs ds ρ else none
 | _=>none
theorem qz{i:Nat}{x:Str}(hN:X.N.Nodup)(hi:X.N[i]? = some x)(hx:Loc X.env.scope x)(hf:X.fn x=true\/X.env.scope.names.lookup x=some .local:=by first|exact .inl rfl|exact .inr rfl|assumption): PG X (.Name x pos) (tDG X.K (bN i)):=
 qbf (qej hN hi hx hf) fun v σ H Q ⟨F0,H0,F, ρ,d, ρ',r,hr,hb,q⟩=>by
  cases hb;exact q _ (r.set i hr)
theorem q18:PGs X [] (qbe X.K xv):=qet qnh fun vs σ H Q ⟨F0,H0,F, ρ,ds, ρ',r,hr,hb,q⟩=>by
 unfold xv at hb
 split at hb
 ·rename_i z
  cases hb;have z':ds=[]:=by simpa using z
  subst z';exact⟨hr.nil_inv,q σ r⟩
 ·cases hb
theorem jq{b:FB}{bs:FBs}(h1:PG X e (tDG X.K b))(h2:PGs X es (qbe X.K bs))(hs:(assignEach (e :: es) X.env).map (·.2)=assign e X.env :: (assignEach es X.env).map (·.2):=by rfl): PGs X (e :: es) (qbe X.K (zb b bs)):=
 qet (qjx h1 h2 hs) fun vs σ H Q ⟨F0,H0,F, ρ,ds, ρ',r,hr,hb,q⟩=>by
  cases ds with
  | nil=>cases hb
  | cons d ds=>
   obtain⟨v,vr,rfl,h3,h4⟩:=hr.cons_inv;obtain⟨ρ1,h5,h6⟩:=gc.mp hb;exact⟨v,vr,rfl,F0,H0,F, ρ,d, ρ1,r,h3,h5,fun σ' r'=>⟨F0,H0,F, ρ1,ds, ρ',r',h4,h6,q⟩⟩
theorem q27{k n:Nat}{bs:FBs}(hc:X.calm=true)(h:PGs X es (qbe X.K bs))(hn:(assignEach es X.env).length=n:=by rfl)(hst:(assignEach es X.env).findIdx? (·.1)=none:=by rfl): PG X (.Tuple es k pos) (tDG X.K (va n bs)):=
 qbf (qq0 hc h hn hst) fun v σ H Q ⟨F0,H0,F, ρ,d, ρ',r,hr,hb,q⟩=>by
  cases d <;> simp only [va] at hb <;> first|(cases hb;done)|skip
  rename_i ds
  split at hb
  ·rename_i hl
   obtain⟨a,xs,rfl,h1,h2⟩:=rep_tup.mp hr;exact⟨a,xs,rfl,qk r.fh h1,by rw [<- h2.length];exact hl,F0,H0,F, ρ,ds, ρ',r,h2,hb,q⟩
  ·cases hb
def q5u(f:FE)(b:FB): FS:=fun ρ =>(f ρ).bind fun d=>(b d ρ).map fun ρ'=>(.nx, ρ')
theorem qnw{f:FE}{b:FB}{ts:Expr}(he:PE X e (tD X.K f))(hg:PG X ts (tDG X.K b))(hs:swapsWithSole [ts] e pos.line X.env=pure false:=by rfl)(hw:swappedStores [ts] e X.env=pure none:=by rfl)
  (h1:(assignEach [ts] X.env).map (·.2)=[assign ts X.env]:=by rfl):PS X (.Assign [ts] e pos) (tDS X.K (q5u f b)):=wx (qhe he hg hs hw h1) fun D σ H ⟨F0,H0,F, ρ,fl, ρ',r,hf,q⟩=>by
 obtain⟨d,h2,h3⟩:=gc.mp hf;obtain⟨ρ1,h4,h5⟩:=m8.mp h3;cases h5;exact⟨F0,H0,F, ρ,d,r,h2,fun v F' H' g' r'=>⟨F0,H0,F', ρ,d, ρ',r.grow g',r',h4,fun σ' r2=>q σ' F' H' g'.ff r2⟩⟩
theorem qkm{K:Frag}{F:Hp}{a:Addr}{xs:List V}{ds:List D}(h:SqL K F a xs)(hd:RepL K F ds xs): ItD K F ds (Itl K a) where
 go:=fun i F' H s1 s2 hi=>⟨xs,xs[i]'(by rw [<- hd.length];exact hi),(s1.trans s2).seq h,by simp⟩
 yld:=fun i d F' H x H' s1 s2 hi ⟨e,y⟩=>by
  subst e;obtain⟨z,h1,h2⟩:=hd.get hi;have:=y xs ((s1.trans s2).seq h);rw [h1] at this;cases this;exact⟨F',.refl s2,h2.mono s1⟩
 stop:=fun i F' H s1 s2 hi=>⟨xs,(s1.trans s2).seq h,by rw [<- hd.length];exact hi⟩
theorem qnx{K:Frag}{F:Hp}{a:Addr}{xs:List V}{ds:List D}(h:SqT K F a xs)(hd:RepL K F ds xs): ItD K F ds (Itt K a) where
 go:=fun i F' H s1 s2 hi=>⟨xs,xs[i]'(by rw [<- hd.length];exact hi),qk (s1.trans s2) h,by simp⟩
 yld:=fun i d F' H x H' s1 s2 hi ⟨e,y⟩=>by
  subst e;obtain⟨z,h1,h2⟩:=hd.get hi;have:=y xs (qk (s1.trans s2) h);rw [h1] at this;cases this;exact⟨F',.refl s2,h2.mono s1⟩
 stop:=fun i F' H s1 s2 hi=>⟨xs,qk (s1.trans s2) h,by rw [<- hd.length];exact hi⟩
def z5(lo:Int)(n:Nat): List D:=(List.range n).map fun i:Nat=>.int (lo+i)
theorem q9n{K:Frag}{F:Hp}(lo:Int)(n:Nat): ItD K F (z5 lo n) (Itr lo n) where
 go:=fun i F' H s1 s2 hi=>by show i<n;simpa [z5] using hi
 yld:=fun i d F' H x H' s1 s2 hi ⟨e,y⟩=>by
  subst e y;simp only [z5,mv] at hi;cases q:(List.range n)[i]? with
  | none=>rw [q] at hi;cases hi
  | some j=>
   rw [q] at hi;cases hi;have:j=i:=by
    have h2:=nh.mp q;obtain⟨h3,h4⟩:=h2;rw [List.getElem_range] at h4;exact h4.symm
   subst this;exact⟨F',.refl s2,rep_int.mpr rfl⟩
 stop:=fun i F' H s1 s2 hi=>by show n<=i;simpa [z5] using hi
def q6u:D->Option (List D)
 | .tup ds=>some ds
 | .lst ds=>some ds
 | _=>none
def xw(f:FE): FA:=fun ρ =>(f ρ).bind q6u
theorem qt1{l:Expr}{tl:TE}(hl:PE X l tl): PI X tg l (fun σ H R=>tl σ H fun x H1=>(∃a,x=.ref a/\(∃xs,SqL X.K H1 a xs)/\R (Itl X.K a) H1)\/(∃a,x=.ref a/\(∃xs,SqT X.K H1 a xs)/\R (Itt X.K a) H1)):=by
 intro pins s σ H R I h;refine thn (hl pins s σ H _ I h) fun v s1 ⟨x,H1,I1,r1,q1⟩=>?_;rcases q1 with⟨a,e,⟨xs,hq⟩,q⟩|⟨a,e,⟨xs,hq⟩,q⟩
 ·subst e
  cases r1;obtain⟨its,rv,p,hz⟩:=I1.list hq;refine g1v p.isList ?_;refine⟨s1.heap.objs.size,[s1.heap.objs.size],_,_,H1,rfl,I1.kept (t':=s1.toks) fun b o e=>gd _ e,qhf a _,⟨_,gf _ rfl,rfl,rfl⟩,fun b hb=>?_,q⟩;have e:b=s1.heap.objs.size:=by simpa using hb
  subst e;exact I1.fpOk (gw _) (I1.hok.fresh (gw _))
 ·subst e
  cases r1;obtain⟨its,rv,p,hz⟩:=I1.tuple hq;refine g36 (show s1.heap.IsTuple a its.toArray from p) ?_;refine⟨s1.heap.objs.size,[s1.heap.objs.size],_,_,H1,rfl,I1.kept (t':=s1.toks) fun b o e=>gd _ e,qfm a _,⟨_,gf _ rfl,rfl,rfl⟩,fun b hb=>?_,q⟩;have e:b=s1.heap.objs.size:=by simpa using hb
  subst e;exact I1.fpOk (gw _) (I1.hok.fresh (gw _))
theorem jr{f:FE}(h:PE X e (tD X.K f)): PI X tg e (tDI X.K (xw f)):=q4y (qt1 h) fun σ H R ⟨F0,H0,F, ρ,ds,r,hf,q⟩=>by
 obtain⟨d,h1,h2⟩:=gc.mp hf;refine⟨F0,H0,F, ρ,d,r,h1,fun v F' H' g' r'=>?_⟩;cases d <;> simp only [q6u] at h2 <;> first|(cases h2;done)|skip
 ·cases h2
  obtain⟨a,xs,rfl,h3,h4⟩:=rep_tup.mp r';exact .inr ⟨a,rfl,⟨xs,qk g'.fh h3⟩,q _ F' H' g' (qnx h3 h4)⟩
 ·cases h2
  obtain⟨a,xs,rfl,h3,h4⟩:=rep_lst.mp r';exact .inl ⟨a,rfl,⟨xs,g'.fh.seq h3⟩,q _ F' H' g' (qkm h3 h4)⟩
def iR1(fa:FA): FA:=fun ρ =>(fa ρ).bind fun ds=>match ds with
 | [.int j]=>if decide (-(2 ^ 62)<=j)&&decide (j<2 ^ 62) then some (z5 0 j.toNat) else none
 | _=>none
def iR2(fa:FA): FA:=fun ρ =>(fa ρ).bind fun ds=>match ds with
 | [.int i,.int j]=>if(decide (-(2 ^ 62)<=i)&&decide (i<2 ^ 62))&&(decide (-(2 ^ 62)<=j)&&decide (j<2 ^ 62)) then some (z5 i (j-i).toNat) else none
 | _=>none
theorem q08{a:Expr}{fa:FA}{p:Pos}(hg:Gl X "range")(hm:X.mg "range" = none)(ha:PA X [a] (tDA X.K fa))(hs:starEach [a] X.env=[(false,eval a X.env)]:=by rfl): PI X tg (.Call (.Name "range" p) [a] [] pos) (tDI X.K (iR1 fa)):=
 q4y (qhg hg hm ha hs) fun σ H R ⟨F0,H0,F, ρ,ds,r,hf,q⟩=>by
  obtain⟨es,h1,h2⟩:=gc.mp hf;refine⟨F0,H0,F, ρ,es,r,h1,fun vs F' H' g' r'=>?_⟩
  split at h2
  ·rename_i j
   split at h2
   ·rename_i z
    cases h2;obtain⟨x,t,rfl,h3,h4⟩:=r'.cons_inv;cases h4.nil_inv;obtain⟨z1,z2⟩:=q1t z;exact⟨j,by rw [rep_int.mp h3],z1,z2,q _ F' H' g' (q9n 0 _)⟩
   ·cases h2
  ·cases h2
theorem qi6{a b:Expr}{fa:FA}{p:Pos}(hg:Gl X "range")(hm:X.mg "range" = none)(ha:PA X [a,b] (tDA X.K fa))(hs:starEach [a,b] X.env=[(false,eval a X.env),(false,eval b X.env)]:=by rfl)(hs2:starEach [b] X.env=[(false,eval b X.env)]:=by rfl):
  PI X tg (.Call (.Name "range" p) [a,b] [] pos) (tDI X.K (iR2 fa)):=
 q4y (qhh hg hm ha hs hs2) fun σ H R ⟨F0,H0,F, ρ,ds,r,hf,q⟩=>by
  obtain⟨es,h1,h2⟩:=gc.mp hf;refine⟨F0,H0,F, ρ,es,r,h1,fun vs F' H' g' r'=>?_⟩
  split at h2
  ·rename_i i j
   split at h2
   ·rename_i z
    cases h2;obtain⟨x,t,rfl,h3,h4⟩:=r'.cons_inv;obtain⟨x2,t2,rfl,h5,h6⟩:=h4.cons_inv;cases h6.nil_inv;rw [m9] at z;obtain⟨z1,z2⟩:=q1t z.1;obtain⟨z3,z4⟩:=q1t z.2;exact⟨i,j,by rw [rep_int.mp h3,rep_int.mp h5],⟨z1,z2,z3,z4⟩,q _ F' H' g' (q9n _ _)⟩
   ·cases h2
  ·cases h2
def runFor(b:FB)(body:FS): List D->Rho->Option (Fl×Rho)
 | [], ρ =>some (.nx, ρ)
 | d :: ds, ρ =>(b d ρ).bind fun ρ1=>(body ρ1).bind fun r=>match r with
  | (.nx, ρ2)=>runFor b body ds ρ2
  | (.ct, ρ2)=>runFor b body ds ρ2
  | (.bk, ρ2)=>some (.nx, ρ2)
  | (.rt v, ρ2)=>some (.rt v, ρ2)
def ya(it:FA)(b:FB)(body:FS): FS:=fun ρ =>(it ρ).bind fun ds=>runFor b body ds ρ
theorem q0g{iter:Expr}{body:List Stmt}{it:FA}{b:FB}{u:FS}(hp:PassesOwn (model X.prog X.w) X.A X.env X.xe)(hc:X.calm=true)(hi:PI X tg iter (tDI X.K it))(hg:PG X tg (tDG X.K b))(hb:PSs X body (tDS X.K u))
  (hs:∀x,foldedSetIterable iter X.env x=pure x:=by intro _;rfl):PS X (.For tg iter body [] pos) (tDS X.K (ya it b u)):=wx (qhj hp hc hi hg hb hs) fun D σ H ⟨F0,H0,F, ρ,fl, ρ',r,hf,q⟩=>by
 obtain⟨ds,h1,h2⟩:=gc.mp hf;refine⟨F0,H0,F, ρ,ds,r,h1,fun J F1 H1 g1 itd=>?_⟩;refine⟨fun i m σ H=>m=ds.length-i/\i<=ds.length/\∃F' ρi,Same F1 F'/\RS X.K F0 H0 F' H σ ρi/\runFor b u (ds.drop i) ρi=some (fl, ρ'),⟨ds.length,by simp,um _,F1, ρ,.refl _,r.grow g1,by simpa using h2⟩,?_⟩
 rintro i m σ H ⟨rfl,hi,F', ρi,s1,r1,h3⟩
 by_cases hlt:i<ds.length
 ·have hd:ds.drop i=ds[i] :: ds.drop (i+1):=pj hlt
  rw [hd] at h3;obtain⟨ρ1,h4,h5⟩:=gc.mp h3;obtain⟨⟨fl1, ρ2⟩,h6,h7⟩:=gc.mp h5;refine .inr ⟨itd.go i F' H s1 r1.fh hlt,fun σ' H'=>∃F',Same F1 F'/\RS X.K F0 H0 F' H' σ' ρ2/\runFor b u (ds.drop (i+1)) ρ2=some (fl, ρ'),fun σ' H' ⟨F',z1,z2,z3⟩=>⟨ds.length-(i+1),by omega,rfl,hlt,F', ρ2,z1,z2,z3⟩,fun x H' y=>?_⟩;obtain⟨F2,g2,r2⟩:=itd.yld i ds[i] F' H x H' s1 r1.fh (by simp [hlt]) y;refine⟨F0,H0,F2, ρi,ds[i], ρ1,r1.grow g2,r2,h4,fun σ' r3=>⟨F0,H0,F2, ρ1,fl1, ρ2,r3,h6,?_⟩⟩;cases fl1 with
  | nx=>exact fun σ2 F3 H3 s3 r4=>⟨F3,(s1.trans g2.ff).trans s3,r4,h7⟩
  | ct=>exact fun σ2 F3 H3 s3 r4=>⟨F3,(s1.trans g2.ff).trans s3,r4,h7⟩
  | bk=>cases h7;exact fun σ2 F3 H3 s3 r4=>q σ2 F3 H3 ((g1.ff.trans (s1.trans g2.ff)).trans s3) r4
  | rt d=>cases h7;exact q
 ·have e:i=ds.length:=by omega
  subst e;rw [g5v] at h3;cases h3;exact .inl ⟨itd.stop _ F' H s1 r1.fh (gw _),q σ F' H (g1.ff.trans s1) r1⟩
def yj(t:FT)(body:FS): Nat->Rho->Option (Fl×Rho)
 | 0,_=>none
 | n+1, ρ =>(t ρ).bind fun c=>if c then(body ρ).bind fun r=>match r with
   | (.nx, ρ2)=>yj t body n ρ2
   | (.ct, ρ2)=>yj t body n ρ2
   | (.bk, ρ2)=>some (.nx, ρ2)
   | (.rt v, ρ2)=>some (.rt v, ρ2)
  else some (.nx, ρ)
theorem qkn{c:Expr}{body:List Stmt}{t:FT}{u:FS}(n:Nat)(hp:PassesOwn (model X.prog X.w) X.A X.env X.xe)(hc:PT X c (tDT X.K t))(hb:PSs X body (tDS X.K u)): PS X (.While c body [] pos) (tDS X.K (yj t u n)):=
 wx (qjy hp hc hb) fun D σ H ⟨F0,H0,F, ρ,fl, ρ',r,hf,q⟩=>by
  refine⟨fun m σ H=>∃F' ρi,Same F F'/\RS X.K F0 H0 F' H σ ρi/\yj t u m ρi=some (fl, ρ'),⟨n,F, ρ,.refl _,r,hf⟩,?_⟩
  rintro m σ H ⟨F', ρi,s1,r1,h1⟩
  cases m with
  | zero=>cases h1
  | succ m=>
   obtain⟨c,h2,h3⟩:=gc.mp h1;refine⟨F0,H0,F', ρi,c,r1,h2,fun F2 H2 g2=>?_⟩;cases c with
   | false=>rw [mi mh] at h3 ⊢;cases h3;exact q σ F2 H2 (s1.trans g2.ff) (r1.grow g2)
   | true=>
    rw [md rfl] at h3 ⊢;obtain⟨⟨fl1, ρ2⟩,h6,h7⟩:=gc.mp h3;refine⟨fun σ' H'=>∃F',Same F F'/\RS X.K F0 H0 F' H' σ' ρ2/\yj t u m ρ2=some (fl, ρ'),fun σ' H' ⟨F',z1,z2,z3⟩=>⟨m,uk _,F', ρ2,z1,z2,z3⟩,F0,H0,F2, ρi,fl1, ρ2,r1.grow g2,h6,?_⟩;cases fl1 with
    | nx=>exact fun σ2 F3 H3 s3 r4=>⟨F3,(s1.trans g2.ff).trans s3,r4,h7⟩
    | ct=>exact fun σ2 F3 H3 s3 r4=>⟨F3,(s1.trans g2.ff).trans s3,r4,h7⟩
    | bk=>cases h7;exact fun σ2 F3 H3 s3 r4=>q σ2 F3 H3 ((s1.trans g2.ff).trans s3) r4
    | rt d=>cases h7;exact q
end
def qqy:Option B->Option B
 | some (.fz d)=>some (.fz d)
 | _=>none
def wo(cap:List (Option Nat))(ρ : Rho): Rho:=cap.map fun o=>o.bind fun j=>qqy (ρ[j]?).join
structure Sub(ρ ρ':Rho): Prop where
 len : ρ.length = ρ'.length
 sub:∀(i:Nat) (b:B), ρ[i]? = some (some b) -> ρ'[i]? = some (some b)
theorem RS.weak{K:Frag}{F0 H0 F H:Hp}{σ : St}{ρ ρ':Rho}(r:RS K F0 H0 F H σ ρ')(s:Sub ρ ρ'): RS K F0 H0 F H σ ρ where
 t0:=r.t0
 g:=r.g
 len:=by rw [s.len];exact r.len
 fz:=fun i d e=>r.fz i d (s.sub i _ e)
 ow:=fun i ds e=>r.ow i ds (s.sub i _ e)
 dj:=fun i j ds es a h e1 e2=>r.dj i j ds es a h (s.sub i _ e1) (s.sub j _ e2)
 od:=fun i kvs e=>let⟨a,bs,e1,e2,e3⟩:=r.od i kvs (s.sub i _ e); ⟨a,bs,e1,e2,fun j es b h=>e3 j es b (s.sub j _ h)⟩
 o1:=fun i j k1 k2 e1 e2=>r.o1 i j k1 k2 (s.sub i _ e1) (s.sub j _ e2)
def xx(ρ : Rho): Prop:=∀(i:Nat) (b:B), ρ[i]? = some (some b)->∃d,b=.fz d
theorem y3{ρ : Rho}(no:xx ρ){i:Nat}{ds:List D}(h : ρ[i]? = some (some (.ow ds))): False:=let⟨_,e⟩:=no i _ h;nomatch e
theorem y4{ρ : Rho}(no:xx ρ){i:Nat}{ds}(h : ρ[i]? = some (some (.od ds))): False:=let⟨_,e⟩:=no i _ h;nomatch e
theorem yh(cap:List (Option Nat))(ρ : Rho): xx (wo cap ρ):=fun i ds h=>by
 unfold wo at h;rw [mv] at h;cases q:cap[i]? with
 | none=>rw [q] at h;cases h
 | some o=>
  rw [q] at h;cases o with
  | none=>cases h
  | some j=>
   simp only [pb,ma,g3s] at h;generalize (ρ[j]?).join=z at h;cases z with
   | none=>cases h
   | some b=>cases b with
    | fz d=>cases h;exact⟨d,rfl⟩
    | ow _=>cases h
    | od _=>cases h
theorem qqz{K:Frag}{F0 H0 F H:Hp}{σ : St}{ρ : Rho}(cap:List (Option Nat))(r:RS K F0 H0 F H σ ρ): RS K F H F H (q8r cap σ) (wo cap ρ) where
 t0:=⟨r.tab,r.tabF⟩
 g:=.refl r.fh
 len:=by unfold q8r wo;rw [mn,mn]
 fz := fun i d h=>by
  unfold wo at h;rw [mv] at h;cases q:cap[i]? with
  | none=>rw [q] at h;cases h
  | some o=>
   rw [q] at h;cases o with
   | none=>cases h
   | some j=>
    simp only [pb,ma,g3s] at h;have e : ρ[j]? = some (some (.fz d)):=by
     cases z : ρ[j]? with
     | none=>rw [z] at h;cases h
     | some b=>
      rw [z] at h;cases b with
      | none=>cases h
      | some b=>cases b with
       | fz d'=>cases h;rfl
       | ow _=>cases h
       | od _=>cases h
    obtain⟨v,e1,e2⟩:=r.fz j d e;refine⟨v,?_,e2⟩;unfold q8r;rw [mv,q];simp only [pb,ma,e1,g49]
 ow:=fun i ds h=>(y3 (yh cap ρ) h).elim
 dj:=fun i j ds es a _ h=>(y3 (yh cap ρ) h).elim
 od:=fun i ds h=>(y4 (yh cap ρ) h).elim
 o1:=fun i j ds es h=>(y4 (yh cap ρ) h).elim
theorem RS.other{K:Frag}{F0 H0 F H:Hp}{σ : St}{ρ : Rho}(r:RS K F0 H0 F H σ ρ)(no:xx ρ){p:Addr}{o:HO}(h1:F p=none)(h2:H0 p=none)(h3:H p=none\/∃xs,H p=some (.lst xs)): RS K F0 H0 F (upd H p o) σ ρ where
 t0:=r.t0
 g :=⟨r.g.ff,⟨fun b u e=>by rw [ql (fun z=>by subst z;rw [h2] at e;cases e)];exact r.g.hh.lst b u e,fun b u e=>by rw [ql (fun z=>by subst z;rw [h2] at e;cases e)];exact r.g.hh.ext b u e,fun {b} e=>by
   by_cases z:b=p
   ·subst z;exact h2
   ·rw [ql z] at e;exact r.g.hh.free e,fun t=>(r.g.hh.tb t).upd h3,fun b u e=>by rw [ql (fun z=>by subst z;rw [h2] at e;cases e)];exact r.g.hh.dk b u e⟩,fun b u e=>by rw [ql (fun z=>by subst z;rw [h1] at e;cases e)];exact r.g.fh b u e,r.g.nw⟩
 len:=r.len
 fz:=r.fz
 ow:=fun i ds h=>(y3 no h).elim
 dj:=fun i j ds es a _ h=>(y3 no h).elim
 od:=fun i ds h=>(y4 no h).elim
 o1:=fun i j ds es h=>(y4 no h).elim
theorem q2w{F H F' H':Hp}{p:Addr}(g:Grow F H F' H')(h1:F p=none){o:HO}(h2:H p=some o): F' p=none:=by
 cases q:F' p with
 | none=>rfl
 | some u=>
  rcases g.nw p (by rw [q];simp) with z|z
  ·exact absurd h1 z
  ·rw [h2] at z;cases z
def qw(b:FB)(c:FT)(f:FE)(ρ : Rho): List D->Option (List D)
 | []=>some []
 | d :: ds=>(b d ρ).bind fun ρ1=>(c ρ1).bind fun t=>if t then(f ρ1).bind fun y=>(qw b c f ρ ds).map fun ys=>y :: ys else qw b c f ρ ds
def zf:FT:=fun _=>some true
def z9(it:FA)(cap:List (Option Nat))(b:FB)(c:FT)(f:FE): FA:=fun ρ =>(it ρ).bind fun ds=>if ds.length<=lim then qw b c f (wo cap ρ) ds else none
def q7t(b:FB)(cap:List (Option Nat)): Prop:=∀ ρ d ρ',b d (wo cap ρ)=some ρ'->Sub (wo cap ρ) ρ'/\xx ρ'
section
variable{X:Cx}
theorem qko{ifs:List Expr}{t t':TT}(h:q1i X ifs t)(i:∀ σ H Q,t' σ H Q->t σ H Q): q1i X ifs t':=fun pins s σ H Q I q=>h pins s σ H Q I (i σ H Q q)
theorem yp:q1i X [] (tDT X.K zf):=qko qk9 fun σ H Q ⟨F0,H0,F, ρ,b,r,hf,q⟩=>by cases hf;exact q F H (.refl r.fh)
theorem q3h{c:Expr}{t:FT}(h:PT X c (tDT X.K t)): q1i X [c] (tDT X.K t):=qka h
theorem qi7{K:Frag}{it:FA}{cap:List (Option Nat)}{b:FB}{c:FT}{f:FE}{σ : St}{H:Hp}{Q:VK}(fr:q7t b cap)(h:tL K (z9 it cap b c f) σ H Q): qfs (tDI K it) cap (tDG K b) (tDT K c) (tD K f) σ H Q:=by
 obtain⟨F0,H0,F, ρ,zs,r,hf,q⟩:=h;obtain⟨ds,h1,h2⟩:=gc.mp hf;have hlim:ds.length<=lim:=Decidable.byContradiction fun z=>by rw [mi z] at h2;cases h2
 rw [md hlim] at h2;refine⟨F0,H0,F, ρ,ds,r,h1,fun J F1 H1 g1 itd p hp=>?_⟩;have rc:=qqz cap (r.grow g1);have hF1:F1 p=none:=g1.fh.free hp;refine⟨fun i m σ H=>m=ds.length-i/\i<=ds.length/\∃F' xs ys us,Same F1 F'/\RS K F1 H1 F' H σ (wo cap ρ)/\H p=some (.lst xs)/\F' p=none/\RepL K F' ys xs/\qw b c f (wo cap ρ) (ds.drop i)=some us/\ys++us=zs/\ys.length<=i,
  ⟨ds.length,by simp,um _,F1,[],[],zs,.refl _,rc.other (yh cap ρ) hF1 hp (.inl hp),qr,hF1,.nil,by simpa using h2,rfl,gw _⟩,?_⟩
 rintro i m σ' H' ⟨rfl,hi,F',xs,ys,us,s1,r1,hl,hn,ry,h3,h4,hyi⟩
 by_cases hlt:i<ds.length
 ·have hd:ds.drop i=ds[i] :: ds.drop (i+1):=pj hlt
  rw [hd] at h3;obtain⟨ρ1,h5,h3⟩:=gc.mp h3;obtain⟨t,h6,h3⟩:=gc.mp h3;obtain⟨sb,no1⟩:=fr ρ _ _ h5;refine .inr ⟨itd.go i F' H' s1 r1.fh hlt,fun x H'' y=>?_⟩;obtain⟨F2,g2,r2⟩:=itd.yld i ds[i] F' H' x H'' s1 r1.fh (by simp [hlt]) y;refine⟨F1,H1,F2,wo cap ρ,ds[i], ρ1,r1.grow g2,r2,h5,fun σ2 r3=>⟨F1,H1,F2, ρ1,t,r3,h6,fun F3 H3 g3=>?_⟩⟩;have r4:=r3.grow g3;have hl2:=g2.hh.lst _ _ hl;have hn2:=q2w g2 hn hl;have hl3:=g3.hh.lst _ _ hl2;have hn3:=q2w g3 hn2 hl2;cases t with
  | false=>
   rw [mi mh] at h3;exact qtv ⟨ds.length-(i+1),by omega,rfl,hlt,F3,xs,ys,us,(s1.trans g2.ff).trans g3.ff,r4.weak sb,hl3,hn3,ry.mono (g2.ff.trans g3.ff),h3,h4,Nat.le_succ_of_le hyi⟩
  | true=>
   rw [md rfl] at h3;obtain⟨yd,h7,h3⟩:=gc.mp h3;obtain⟨us',h8,h9⟩:=m8.mp h3;refine qtw ⟨F1,H1,F3, ρ1,yd,r4,h7,fun v F4 H4 g4 r5=>?_⟩;have hl4:=g4.hh.lst _ _ hl3;have hn4:=q2w g4 hn3 hl3;have ss:Same F' F4:=(g2.ff.trans g3.ff).trans g4.ff;refine⟨xs,hl4,q9l (by have:=ry.length;omega),ds.length-(i+1),by omega,rfl,hlt,F4,xs++[v],ys++[yd],us',(s1.trans ss),?_,qr,hn4,(ry.mono ss).append (.cons r5 .nil),h8,?_,?_⟩
   ·exact((r4.grow g4).weak sb).other (yh cap ρ) hn4 hp (.inr ⟨_,hl4⟩)
   ·rw [n8,List.singleton_append,h9];exact h4
   ·rw [t5,g4e];omega
 ·have e:i=ds.length:=by omega
  subst e;rw [g5v] at h3;cases h3;rw [g2v] at h4;subst h4;have gg:Grow F1 H1 F' H':=r1.g;exact .inl ⟨itd.stop _ F' H' s1 r1.fh (gw _),q p xs F' H' (g1.trans gg) hn (g1.hh.free hp) hl ry⟩
variable{N':List Str}{scope:Scope}{cap:List (Option Nat)}{tg iter elt:Expr}{ifs:List Expr}{it:FA}{b:FB}{c:FT}{f:FE}{pos:Pos}
end
theorem qbg{cap:List (Option Nat)}{ρ : Rho}{i:Nat}(h:cap[i]? = some none): (wo cap ρ)[i]? = some none:=by
 unfold wo;rw [mv,h];rfl
theorem qeu{ρ ρ':Rho}{i:Nat}{b:Option B}(s:Sub ρ ρ')(h : ρ[i]? = some none): Sub ρ (ρ'.set i b):=
 ⟨by rw [g03];exact s.len,fun j c e=>by
  by_cases q:j=i
  ·subst q;rw [h] at e;cases e
  ·rw [m6 (nj q)];exact s.sub j c e⟩
theorem q4z{ρ : Rho}{i:Nat}{d:D}(h:xx ρ): xx (ρ.set i (some (.fz d))):=fun j ds e=>by
 by_cases q:j=i
 ·subst q
  obtain⟨z,_⟩:=qu e;cases z;exact⟨d,rfl⟩
 ·rw [m6 (nj q)] at e;exact h j ds e
theorem Sub.refl(ρ : Rho): Sub ρ ρ :=⟨rfl,fun _ _ h=>h⟩
theorem zq{cap:List (Option Nat)}{i:Nat}(h:cap[i]? = some none): q7t (bN i) cap:=fun ρ d ρ' e=>by
 cases e;exact⟨qeu (.refl _) (qbg h),q4z (yh cap ρ)⟩
def q7u(bs:FBs)(cap:List (Option Nat)): Prop:=∀ ρ ds ρ1 ρ',Sub (wo cap ρ) ρ1->xx ρ1->bs ds ρ1=some ρ'->Sub (wo cap ρ) ρ'/\xx ρ'
theorem q3s{cap:List (Option Nat)}: q7u xv cap:=fun ρ ds ρ1 ρ' s n e=>by
 unfold xv at e
 split at e
 ·cases e;exact⟨s,n⟩
 ·cases e
theorem yr{cap:List (Option Nat)}{i:Nat}{bs:FBs}(h:cap[i]? = some none)(t:q7u bs cap): q7u (zb (bN i) bs) cap:=fun ρ ds ρ1 ρ' s n e=>by
 cases ds with
 | nil=>cases e
 | cons d ds=>exact t ρ ds _ ρ' (qeu s (qbg h)) (q4z n) e
theorem q50{cap:List (Option Nat)}{n:Nat}{bs:FBs}(t:q7u bs cap): q7t (va n bs) cap:=fun ρ d ρ' e=>by
 cases d <;> simp only [va] at e <;> first|(cases e;done)|skip
 split at e
 ·exact t ρ _ _ ρ' (.refl _) (yh cap ρ) e
 ·cases e
section
variable{X:Cx}{e:Expr}{es:List Expr}{pos:Pos}{f g:FE}{fa:FA}
inductive Ty where
 | int|bool|tuple|list|str|dict
def Ty.name:Ty->String
 | .int=>"int" | .bool=>"bool" | .tuple=>"tuple" | .list=>"list" | .str=>"str" | .dict=>"dict"
def zc:Ty->D->Bool
 | .int,.int _=>true
 | .int,.bl _=>true
 | .bool,.bl _=>true
 | .tuple,.tup _=>true
 | .list,.lst _=>true
 | .str,.str _=>true
 | .dict,.dct _ _=>true
 | .dict,.dtt _ _=>true
 | _,_=>false
theorem qkp{prog:Program}{w:World}{A:Around}{E:Value->Shared->Prop}{s:Shared}{Q:Value->Shared->Prop}{K:Frag}{T:String}{b:Bool}(hk:K.In s.heap)(h:∀tk,Q (.bool b) {s with toks:=tk})(hT:PySem.W.kitOne K (.type "NoneType") (.type T)=some b):
  wpAny (model prog w) A (call (.builtin "isinstance") [.none,.type T]) Q E s:=g68 PySem.W.kitx_none hk True.intro hT (fun z=>nomatch z) h
theorem qkq(T:Ty): jz X (.builtin "isinstance") (fun xs H Q=>∃x F d,xs=[x,.ty T.name]/\Same F H/\Rep X.K F d x/\Q (.bl (zc T d)) H):=by
 intro pins s σ H xs us Q I r h;obtain⟨x,F,d,rfl,fh,rd,q⟩:=h;obtain⟨u,w',rfl,rx,rt⟩:=r.two;obtain rfl:w'=Value.type T.name:=rt;have fin:∀ {b:Bool},Q (.bl b) H->EP X pins σ Q (.bool b) s:=fun q=>⟨.bl _,H,I,rfl,q⟩
 have fin1:∀ {b:Bool},Q (.bl b) H->EP X pins σ Q (.bool b) {s with toks:=s.toks+1}:=fun q=>⟨.bl _,H,I.tok _,rfl,q⟩
 cases d with
 | non=>
  cases rep_non.mp rd;cases rx;cases T <;> exact qkp I.kIn (fun tk=>⟨.bl _,H,I.tok _,rfl,q⟩) (by rfl)
 | bl b=>
  cases rep_bl.mp rd;cases rx;cases T
  ·exact IsiPair.bool_int (fin q)
  ·exact IsiPair.bool_bool (fin q)
  ·exact IsiPair.bool_tuple (fin1 q)
  ·exact IsiPair.bool_list (fin1 q)
  ·exact IsiPair.bool_str (fin1 q)
  ·exact IsiPair.bool_dict (fin1 q)
 | int i=>
  cases rep_int.mp rd;obtain⟨t,rfl⟩:=rx;cases T
  ·exact IsiPair.int_int (fin q)
  ·exact IsiPair.int_bool (fin1 q)
  ·exact IsiPair.int_tuple (fin1 q)
  ·exact IsiPair.int_list (fin1 q)
  ·exact IsiPair.int_str (fin1 q)
  ·exact IsiPair.int_dict (fin1 q)
 | str z=>
  cases rep_str.mp rd;obtain⟨t,rfl⟩:=rx;cases T
  ·exact IsiPair.str_int (fin1 q)
  ·exact IsiPair.str_bool (fin1 q)
  ·exact IsiPair.str_tuple (fin1 q)
  ·exact IsiPair.str_list (fin1 q)
  ·exact IsiPair.str_str (fin q)
  ·exact IsiPair.str_dict (fin1 q)
 | tup ds=>
  obtain⟨a,ys,rfl,h1,h2⟩:=rep_tup.mp rd;cases rx;obtain⟨its,_,⟨o,ho,hc,_⟩,_⟩:=I.tuple (qk fh h1);cases T
  ·exact IsiPair.tuple_int ho hc (fin1 q)
  ·exact IsiPair.tuple_bool ho hc (fin1 q)
  ·exact IsiPair.tuple_tuple ho hc (fin q)
  ·exact IsiPair.tuple_list ho hc (fin1 q)
  ·exact IsiPair.tuple_str ho hc (fin1 q)
  ·exact IsiPair.tuple_dict ho hc (fin1 q)
 | lst ds=>
  obtain⟨a,ys,rfl,h1,h2⟩:=rep_lst.mp rd;cases rx;obtain⟨its,_,⟨o,n,ho,hc,_⟩,_⟩:=I.list (fh.seq h1);cases T
  ·exact IsiPair.list_int ho hc (fin1 q)
  ·exact IsiPair.list_bool ho hc (fin1 q)
  ·exact IsiPair.list_tuple ho hc (fin1 q)
  ·exact IsiPair.list_list ho hc (fin q)
  ·exact IsiPair.list_str ho hc (fin1 q)
  ·exact IsiPair.list_dict ho hc (fin1 q)
 | dct ks vs=>
  obtain⟨a,ys,rfl,h1,h2,h3⟩:=rep_dct.mp rd;cases rx;obtain⟨_,_,vs',_,o,es',ep,ho,hc,_⟩:=(show ObjOk X.prog X.w H s.heap a _ from I.hok a _ (fh _ _ h1))
  cases T
  ·exact IsiPair.dict_int ho hc.1 (fin1 q)
  ·exact IsiPair.dict_bool ho hc.1 (fin1 q)
  ·exact IsiPair.dict_tuple ho hc.1 (fin1 q)
  ·exact IsiPair.dict_list ho hc.1 (fin1 q)
  ·exact IsiPair.dict_str ho hc.1 (fin1 q)
  ·exact IsiPair.dict_dict ho hc.1 (fin q)
 | dtt ks vs=>
  obtain⟨a,xs',ys,ep,rfl,h1,_⟩:=rep_dtt.mp rd;cases rx;obtain⟨⟨o,es',ho,hc,_⟩,_,_⟩:=(show ObjOk X.prog X.w H s.heap a _ from I.hok a _ (fh _ _ h1))
  cases T
  ·exact IsiPair.dict_int ho hc.1 (fin1 q)
  ·exact IsiPair.dict_bool ho hc.1 (fin1 q)
  ·exact IsiPair.dict_tuple ho hc.1 (fin1 q)
  ·exact IsiPair.dict_list ho hc.1 (fin1 q)
  ·exact IsiPair.dict_str ho hc.1 (fin1 q)
  ·exact IsiPair.dict_dict ho hc.1 (fin q)
 | obj x=>
  obtain⟨a,dx,C,rfl,h1,_,c1,c2,c3,c4,c5,c6,c7⟩:=rep_obj.mp rd;cases rx;obtain⟨mA,O,_⟩:=qen I.hok (fh _ _ h1);obtain⟨od,J,_⟩:=O.look;cases T <;> exact g68 (PySem.W.kitx_own c1 c2 c3 c4 c5 c6) I.kIn J (c7 _ (by decide)) (fun z=>nomatch z) (fun tk=>⟨.bl _,H,I.tok _,rfl,q⟩)
 | exc x=>
  obtain⟨a,C,rfl,h1,_,c1,c2⟩:=rep_exc.mp rd;cases rx;obtain⟨J,_,_⟩:=(show ObjOk X.prog X.w H s.heap a _ from I.hok a _ (fh _ _ h1))
  cases T <;> exact g68 (qkg c1) I.kIn J (c2 _ (by decide)) (fun z=>nomatch z) (fun tk=>⟨.bl _,H,I.tok _,rfl,q⟩)
def q8s(T:Ty)(f:FE): FE:=fun ρ =>(f ρ).map fun d=>.bl (zc T d)
theorem qkr:bootBuiltins "isinstance" = some (.builtin "isinstance"):=by decide +kernel
theorem q7v{x:Str}{p px:Pos}(T:Ty)(hg:Gl X "isinstance")(hm:X.mg "isinstance" = none)(hgT:Gl X x)(hmT:X.mg x=none)(hvT:bootBuiltins x=some (.type T.name))(ha:PE X e (tD X.K f))
  (hnT:x≠"__name__" :=by decide) (hdT:(x==("__debug__" : Str))=false:=by decide) (he2:starEach [e,.Name x px] X.env=(false,eval e X.env) :: starEach [.Name x px] X.env:=by rfl) :
  PE X (.Call (.Name "isinstance" p) [e,.Name x px] [] pos) (tD X.K (q8s T f)):=
 j6 (q3q (qkq T) hg hm qkr (q07 ha (q07 (qne (v:=.ty T.name) hgT hmT hvT rfl hnT hdT) q1z) he2) (by decide) (by decide) he2 rfl) fun σ H Q ⟨F0,H0,F, ρ,d,r,hf,q⟩=>by
  obtain⟨d',h1,h2⟩:=m8.mp hf;subst h2;exact⟨F0,H0,F, ρ,d',r,h1,fun v F' H' g' r'=>⟨v,F',d',rfl,g'.fh,r',q _ F' H' g' (rep_bl.mpr rfl)⟩⟩
def jh:List D->Option (List Int)
 | []=>some []
 | .int i :: r=>(jh r).map fun is=>i :: is
 | _ :: _=>none
def q3i:List D->Option (List Bool)
 | []=>some []
 | .bl i :: r=>(q3i r).map fun is=>i :: is
 | _ :: _=>none
theorem q7w:∀ {ds:List D} {ns:List Int},jh ds=some ns->ds=ns.map D.int
 | [],ns,h=>by cases h;rfl
 | d :: r,ns,h=>by
  cases d <;> simp only [jh] at h <;> first|(cases h;done)|skip
  obtain⟨is,h1,h2⟩:=m8.mp h;subst h2;rw [q7w h1];rfl
omit [Lam] in
theorem vg:∀(ns:List Int),jh (ns.map D.int)=some ns
 | []=>rfl
 | n :: r=>by simp only [gj,jh,vg r,pb]
theorem q69:∀ {ds:List D} {bs:List Bool},q3i ds=some bs->ds=bs.map D.bl
 | [],ns,h=>by cases h;rfl
 | d :: r,ns,h=>by
  cases d <;> simp only [q3i] at h <;> first|(cases h;done)|skip
  obtain⟨is,h1,h2⟩:=m8.mp h;subst h2;rw [q69 h1];rfl
omit [Lam] in
theorem q7x:∀(ns:List Bool),q3i (ns.map D.bl)=some ns
 | []=>rfl
 | n :: r=>by simp only [gj,q3i,q7x r,pb]
theorem RepL.bools{K:Frag}{H:Hp}: ∀ {bs:List Bool} {xs:List V},RepL K H (bs.map D.bl) xs->xs=bs.map V.bl
 | [],xs,h=>h.nil_inv
 | b :: bs,xs,h=>by
  obtain⟨x,r,rfl,h1,h2⟩:=h.cons_inv;rw [rep_bl.mp h1,RepL.bools h2];rfl
def o1L(z:List D->Option D): List D->Option D
 | [.lst ds]=>z ds
 | _=>none
theorem qbh{z:List D->Option D}{es:List D}{d:D}(h:o1L z es=some d): ∃ds,es=[.lst ds]/\z ds=some d:=by
 unfold o1L at h
 split at h
 ·exact⟨_,rfl,h⟩
 ·cases h
theorem rep1{K:Frag}{F:Hp}{d:D}{xs:List V}(h:RepL K F [d] xs): ∃x,xs=[x]/\Rep K F d x:=by
 obtain⟨x,r,rfl,h1,h2⟩:=h.cons_inv;cases h2.nil_inv;exact⟨x,rfl,h1⟩
abbrev qbi:List D->Option D:=o1L fun ds=>(jh ds).map fun ns=>.int ns.sum
abbrev q51:List D->Option D:=o1L fun ds=>(q3i ds).map fun bs=>.bl (bs.all id)
theorem qi8(hc:X.calm=true): jz X (.builtin "sum") (rC X.K qbi):=by
 intro pins s σ H xs us Q I r h;obtain⟨F,ds,d,fh,rl,ho,q⟩:=h;obtain⟨es,rfl,h1⟩:=qbh ho;obtain⟨ns,h2,h3⟩:=m8.mp h1;subst h3;cases q7w h2;obtain⟨x,rfl,rx⟩:=rep1 rl;obtain⟨u,rfl,ru⟩:=r.one;obtain⟨a,ys,rfl,k1,k2⟩:=rep_lst.mp rx;cases ru;cases RepL.ints.mp k2;obtain⟨its,rv,pl,_⟩:=I.list (fh.seq k1);have hi:=intsAre_of rv;obtain⟨zs,hz⟩:=hi.allInts.items;have hl:s.heap.IsList a (intItems zs):=hz ▸ pl.isList;refine sum_intListG (I.ok.hd hc) hl fun h' tk t' hk=>?_;have e1:ns=zs.toList.map (·.1):=by
  rw [<- nums_intItems, <- hz];exact(show numsOf its.toArray.toList=ns from hi.numsOf).symm
 have e2:preSum (numAt zs) zs.size=ns.sum:=by
  rw [preSum_eq,tm (by simp),e1]
 rw [e2];exact⟨.int ns.sum,H,I.kept hk,⟨_,rfl⟩,q _ F H (.refl fh) (rep_int.mpr rfl)⟩
theorem q7y:∀ {bs:List Bool} {us:List Value},Vals (bs.map V.bl) us->us=bs.map Value.bool
 | [],us,h=>by cases h;rfl
 | b :: bs,us,h=>by
  rw [gj] at h;cases h with
  | cons r t=>
   cases(show _=Value.bool b from r);rw [q7y t];rfl
theorem qbj(hc:X.calm=true): jz X (.builtin "all") (rC X.K q51):=by
 intro pins s σ H xs us Q I r h;obtain⟨F,ds,d,fh,rl,ho,q⟩:=h;obtain⟨es,rfl,h1⟩:=qbh ho;obtain⟨bs,h2,h3⟩:=m8.mp h1;subst h3;cases q69 h2;obtain⟨x,rfl,rx⟩:=rep1 rl;obtain⟨u,rfl,ru⟩:=r.one;obtain⟨a,ys,rfl,k1,k2⟩:=rep_lst.mp rx;cases ru;cases k2.bools;obtain⟨its,rv,pl,_⟩:=I.list (fh.seq k1);cases q7y rv;have hlt:a<s.heap.objs.size:=by obtain⟨_,e,_⟩:=pl.isList;exact gz e
 refine call_all_walk (g1v pl.isList ?_);refine⟨s.heap.objs.size,[s.heap.objs.size,a],[s.heap.objs.size],(bs.map Value.bool).toArray.size,_,_,fun i=>(bs[i]?).getD true,rfl,Walks.list (A:=X.A.in1) (I.ok.hd hc) _ a (m5 hlt) (bs.map Value.bool).toArray,
  ⟨⟨_,gf _ rfl,rfl,rfl⟩,pl.isList.push _⟩,fun i v s' Q' E' hP hQ=>?_,fun h' tk hk=>?_⟩
 ·have hP':(bs.map Value.bool)[i]? = some v:=by simpa using hP
  rw [mv] at hP';cases z:bs[i]? with
  | none=>rw [z] at hP';cases hP'
  | some b=>
   rw [z] at hP';cases hP';simp only [z,Option.getD_some] at hQ;exact g1t hQ
 ·have e:((List.range (bs.map Value.bool).toArray.size).all fun i=>(bs[i]?).getD true)=bs.all id:=by
   rw [gv,mn];exact LSm.range_all bs
  rw [e];exact⟨.bl _,H,I.kept (LSm.kept_iter hk),rfl,q _ F H (.refl fh) (rep_bl.mpr rfl)⟩
theorem boot_sum:bootBuiltins "sum" = some (.builtin "sum"):=by decide +kernel
theorem boot_all:bootBuiltins "all" = some (.builtin "all"):=by decide +kernel
theorem boot_max:bootBuiltins "max" = some (.builtin "max"):=by decide +kernel
theorem xh:bootBuiltins "len" = some (.builtin "len"):=by decide +kernel
theorem boot_tuple:bootBuiltins "tuple" = some (.type "tuple"):=by decide +kernel
theorem boot_int:bootBuiltins "int" = some (.type "int"):=by decide +kernel
theorem boot_bool:bootBuiltins "bool" = some (.type "bool"):=by decide +kernel
theorem boot_dict:bootBuiltins "dict" = some (.type "dict"):=by decide +kernel
def o2I(z:Int->Int->Int): List D->Option D
 | [.int i,.int j]=>some (.int (z i j))
 | _=>none
theorem qks{z:Int->Int->Int}{es:List D}{d:D}(h:o2I z es=some d): ∃i j,es=[.int i,.int j]/\d=.int (z i j):=by
 unfold o2I at h
 split at h
 ·cases h;exact⟨_,_,rfl,rfl⟩
 ·cases h
theorem qt2{K:Frag}{F:Hp}{i j:Int}{xs:List V}(h:RepL K F [.int i,.int j] xs): xs=[.int i,.int j]:=RepL.ints (ns:=[i,j]).mp h
abbrev oMax:=o2I fun i j=>if j>i then j else i
theorem qr0(hc:X.calm=true): jz X (.builtin "max") (rC X.K oMax):=q4w (qhl hc) fun xs H Q ⟨F,ds,d,fh,rl,ho,q⟩=>by
 obtain⟨i,j,rfl,rfl⟩:=qks ho;exact⟨i,j,qt2 rl,q _ F H (.refl fh) (rep_int.mpr rfl)⟩
def yz:List D->Option D
 | [.tup ds]=>some (.int ds.length)
 | [.lst ds]=>some (.int ds.length)
 | [.str x]=>if x.length<=lim then some (.int x.length) else none
 | _=>none
theorem k9:jz X (.builtin "len") (rC X.K yz):=q4w qk4 fun xs H Q ⟨F,ds,d,fh,rl,ho,q⟩=>by
 unfold yz at ho
 split at ho
 ·cases ho
  obtain⟨x,rfl,rx⟩:=rep1 rl;obtain⟨a,ys,rfl,k1,k2⟩:=rep_tup.mp rx;exact⟨_,ys.length,rfl,.inr ⟨ys,qk fh k1,rfl⟩,by rw [<- k2.length];exact q _ F H (.refl fh) (rep_int.mpr rfl)⟩
 ·cases ho
  obtain⟨x,rfl,rx⟩:=rep1 rl;obtain⟨a,ys,rfl,k1,k2⟩:=rep_lst.mp rx;exact⟨_,ys.length,rfl,.inl ⟨ys,fh.seq k1,rfl⟩,by rw [<- k2.length];exact q _ F H (.refl fh) (rep_int.mpr rfl)⟩
 ·split at ho
  ·rename_i z
   cases ho;obtain⟨x,rfl,rx⟩:=rep1 rl;cases rep_str.mp rx;exact⟨_,_,rfl,⟨ja z,rfl⟩,q _ F H (.refl fh) (rep_int.mpr rfl)⟩
  ·cases ho
 ·cases ho
def yb:List D->Option D
 | [.tup ds]=>some (.tup ds)
 | [.lst ds]=>some (.tup ds)
 | _=>none
theorem yk:jz X (.type "tuple") (rC X.K yb):=q4w qah fun xs H Q ⟨F,ds,d,fh,rl,ho,q⟩=>by
 unfold yb at ho
 split at ho
 ·cases ho
  obtain⟨x,rfl,rx⟩:=rep1 rl;obtain⟨a,ys,rfl,k1,k2⟩:=rep_tup.mp rx;exact⟨a,ys,rfl,.inr ⟨qk fh k1,q _ F H (.refl fh) rx⟩⟩
 ·cases ho
  obtain⟨x,rfl,rx⟩:=rep1 rl;obtain⟨a,ys,rfl,k1,k2⟩:=rep_lst.mp rx;refine⟨a,ys,rfl,.inl ⟨fh.seq k1,fun l hl=>?_⟩⟩;have gn:Grow F H (upd F l (.tup ys)) (upd H l (.tup ys)):=Grow.new fh hl;exact q _ _ _ gn (rep_tup.mpr ⟨l,ys,rfl,SqT.of qr,k2.mono gn.ff⟩)
 ·cases ho
def rCL(K:Frag)(op:List D->Option (List D)): List V->Hp->VK->Prop:=fun xs H Q=>∃F ds es,Same F H/\RepL K F ds xs/\op ds=some es/\∀a ys F' H',Grow F H F' H'->F' a=none->H a=none->H' a=some (.lst ys)->RepL K F' es ys->Q (.ref a) H'
def q5v(op:List D->Option (List D))(fa:FA): FA:=fun ρ =>(fa ρ).bind op
theorem qny{K:Frag}{op:List D->Option (List D)}{σ : St}{H:Hp}{Q:VK}(h:tL K (q5v op fa) σ H Q): tDA K fa σ H fun vs H1=>rCL K op vs H1 Q:=by
 obtain⟨F0,H0,F, ρ,d,r,hf,q⟩:=h;obtain⟨ds,h1,h2⟩:=gc.mp hf;exact⟨F0,H0,F, ρ,ds,r,h1,fun vs F1 H1 g1 r1=>⟨F1,ds,d,g1.fh,r1,h2,fun a ys F2 H2 g2 k1 k2 k3 k4=>q a ys F2 H2 (g1.trans g2) k1 (g1.hh.free k2) k3 k4⟩⟩
theorem qkt{x:Str}{p:Pos}{id:String}{op:List D->Option (List D)}(hc:jz X (.builtin id) (rCL X.K op))(hg:Gl X x)(hm:X.mg x=none)(hv:bootBuiltins x=some (.builtin id))(ha:PA X (e :: es) (tDA X.K fa))
  (hn:x≠"__name__" :=by decide) (hdb:(x==("__debug__" : Str))=false:=by decide)
  (he:starEach (e :: es) X.env=(false,eval e X.env) :: starEach es X.env:=by rfl) (hpl:(backTo pos (starEach es X.env)).any (·.1)=false:=by rfl):PE X (.Call (.Name x p) (e :: es) [] pos) (tL X.K (q5v op fa)):=
 j6 (q3q hc hg hm hv ha hn hdb he hpl) fun σ H Q h=>qny h
def qmz:List D->Option (List D)
 | [.tup ds]=>some ds
 | [.lst ds]=>some ds
 | _=>none
theorem qev{K:Frag}{H:Hp}{ds:List D}{xs:List V}{i:Int}{d:D}(h:RepL K H ds xs)(e:atI ds i=some d): ∃x,atI xs i=some x/\Rep K H d x:=by
 unfold atI at e ⊢;rw [<- h.length];cases q:ixN ds.length i with
 | none=>rw [q] at e;cases e
 | some j=>
  rw [q] at e;exact h.get e
def oIx:D->D->Option D
 | .tup ds,.int i=>atI ds i
 | .lst ds,.int i=>atI ds i
 | _,_=>none
theorem x5{a b:Expr}(ha:PE X a (tD X.K f))(hb:PE X b (tD X.K g))(hs:q8q b:=by intro _ _;rfl): PE X (.Subscript a b pos) (tD X.K (eOp oIx f g)):=j6 (qmu qqj ha hb hs) fun σ H Q h=>by
 have h':=two h;obtain⟨F0,H0,F, ρ,d,r,hf,q⟩:=h';refine⟨F0,H0,F, ρ,d,r,hf,fun v F1 H1 g1 r1=>?_⟩;obtain⟨F0',H0',F', ρ',d',r',hf',q'⟩:=q v F1 H1 g1 r1;refine⟨F0',H0',F', ρ',d',r',hf',fun v2 F2 H2 g2 r2=>?_⟩;obtain⟨F3,d1,d2,d3,fh,k1,k2,k3,k4⟩:=q' v2 F2 H2 g2 r2;unfold oIx at k3
 split at k3
 ·obtain⟨p,ys,rfl,z1,z2⟩:=rep_tup.mp k1
  obtain⟨y,z3,z4⟩:=qev z2 k3;exact .inr (.inl ⟨p,ys,_,y,rfl,rep_int.mp k2,qk fh z1,z3,k4 y F3 H2 (.refl fh) z4⟩)
 ·obtain⟨p,ys,rfl,z1,z2⟩:=rep_lst.mp k1
  obtain⟨y,z3,z4⟩:=qev z2 k3;exact .inl ⟨p,ys,_,y,rfl,rep_int.mp k2,fh.seq z1,z3,k4 y F3 H2 (.refl fh) z4⟩
 ·cases k3
def eUn(o:D->Option D)(f:FE): FE:=fun ρ =>(f ρ).bind o
end
section
variable{prog:Program}{w:World}{A:Around}{E:Value->Shared->Prop}{s:Shared}
theorem qai{t sl:Addr}{items:Array Value}{vl vu:Value}{lo hi:Option Int}{Q:Value->Shared->Prop}(ht:IsTup s.heap t items)(hs:s.heap.IsSliceOf sl vl vu .none)
  (pl:IsPart vl lo) (pu:IsPart vu hi) (w1:HT.sIx items.size 0 lo=0) (w2:HT.sIx items.size items.size hi=items.size) (h:Q (.ref t) s) :
  wpAny (model prog w) A (getItem (.ref t) (.ref sl)) Q E s:=by
 obtain⟨os,hos,hcs,hds⟩:=id hs;have hTs:s.TypeIs (.ref sl) "slice" :=⟨os,hos,hcs⟩
 unfold getItem
 try with_reducible refine ni ?_
 first|refine g0 (g9 ?_)|skip
 refine g0 (wpAny_sequenceKey ht.typeIs (by decide) (g0 (ug (name:=Str.ofString "__getitem__") ht.typeIs g0c
  (p7 g0c ht.typeIs entry_tuple_getitem ?_ (args_tuple_getitem _ _)))))
 show wpAny _ _ (Builtin.Tuple.tupleItemsOf (.ref t) >>= _) _ _ s;refine g0 (tupleItemsOf_ ht (g0 (g16 hTs ?_)));rw [md (by decide)];refine g0 (HT.sliceApplied_gen hs pl pu ?_);rw [w1,w2];show wpAny _ _ (if(((0:Nat):Int)==0&&(1:Int)==1&&(items.size-0)==items.size)=true then _ else _) _ _ s;rw [md (by simp)];refine g0 ?_;unfold Builtin.Tuple.tupleIsExact;refine g0 (g16 ht.typeIs (g9 ?_))
 first
  | rw [md (by decide)]
  | skip
 first
  | exact g0 (g06 (g0 (g9 (g9 ⟨_,rfl,g9 h⟩))))
  | exact g0 (g06 (g9 ⟨_,rfl,g9 h⟩))
  | exact g0 (g0 (g06 (g9 (g9 ⟨_,rfl,g9 h⟩))))
end
section
variable{X:Cx}{e:Expr}{es:List Expr}{pos:Pos}{f g:FE}{fa:FA}
def qu0(K:Frag): V->Option Int->Option Int->Hp->VK->Prop:=fun x lo hi H Q=>∃a xs,x=.ref a/\SqT K H a xs/\HT.sIx xs.length 0 lo=0/\HT.sIx xs.length xs.length hi=xs.length/\Q (.ref a) H
theorem qku:SlR X (qu0 X.K):=by
 intro pins s σ H x v vl vu lo hi sl Q I rx hs pl pu h;obtain⟨a,xs,rfl,hx,w1,w2,q⟩:=h;cases rx;obtain⟨its,r,ht,hz⟩:=I.tuple hx;have hlen:its.toArray.size=xs.length:=by rw [gv];exact r.length.symm
 exact⟨"tuple",_,g0c.lookup,ht.typeIs,qai ht hs pl pu (by rw [hlen];exact w1) (by rw [hlen];exact w2) ⟨.ref a,H,I,rfl,q⟩⟩
def cutD(ds:List D)(lo hi:Option Int): List D:=(ds.drop (HT.sIx ds.length 0 lo)).take (HT.sIx ds.length ds.length hi-HT.sIx ds.length 0 lo)
def oSl:D->Option Int->Option Int->Option D
 | .tup ds,lo,hi=>some (.tup (cutD ds lo hi))
 | .lst ds,lo,hi=>some (.lst (cutD ds lo hi))
 | _,_,_=>none
abbrev FO:=Rho->Option (Option Int)
def oNo:FO:=fun _=>some none
def oAt(f:FE): FO:=fun ρ =>(f ρ).bind fun d=>match d with
 | .int i=>some (some i)
 | _=>none
def tDO(K:Frag)(f:FO): TO:=fun σ H Q=>∃F0 H0 F ρ i,RS K F0 H0 F H σ ρ /\ f ρ = some i/\∀F' H',Grow F H F' H'->Q i H'
theorem qi9{o:Option Expr}{t t':TO}(h:PO X o t)(i:∀ σ H Q,t' σ H Q->t σ H Q): PO X o t':=fun pins s σ H Q I q=>h pins s σ H Q I (i σ H Q q)
theorem q3t:PO X none (tDO X.K oNo):=qi9 qnn fun σ H Q ⟨F0,H0,F, ρ,i,r,hf,q⟩=>by cases hf;exact q F H (.refl r.fh)
theorem q0u(h:PE X e (tD X.K f)): PO X (some e) (tDO X.K (oAt f)):=qi9 (qno h) fun σ H Q ⟨F0,H0,F, ρ,i,r,hf,q⟩=>by
 obtain⟨d,h1,h2⟩:=gc.mp hf;cases d <;> simp only at h2 <;> first|(cases h2;done)|skip
 cases h2;exact⟨F0,H0,F, ρ,_,r,h1,fun v F' H' g' r'=>⟨_,rep_int.mp r',q F' H' g'⟩⟩
def eSl(f:FE)(lo hi:FO): FE:=fun ρ =>(f ρ).bind fun d=>(lo ρ).bind fun l=>(hi ρ).bind fun h=>oSl d l h
theorem q28{a:Expr}{lo hi:Option Expr}{fl fh:FO}{p2:Pos}(ha:PE X a (tD X.K f))(hl:PO X lo (tDO X.K fl))(hh:PO X hi (tDO X.K fh)): PE X (.Subscript a (.Slice lo hi none p2) pos) (tD X.K (eSl f fl fh)):=
 j6 (qk7 (sl_list.or (sl_tup.or qku)) ha hl hh) fun σ H Q ⟨F0,H0,F, ρ,d,r,hf,q⟩=>by
  obtain⟨x,h1,hf⟩:=gc.mp hf;obtain⟨l,h2,hf⟩:=gc.mp hf;obtain⟨u,h3,h4⟩:=gc.mp hf;refine⟨F0,H0,F, ρ,x,r,h1,fun v F1 H1 g1 r1=>⟨F0,H0,F1, ρ,l,r.grow g1,h2,fun F2 H2 g2=>⟨F0,H0,F2, ρ,u,(r.grow g1).grow g2,h3,fun F3 H3 g3=>?_⟩⟩⟩;have gg:=g1.trans (g2.trans g3);have r3:Rep X.K F3 x v:=r1.mono (g2.ff.trans g3.ff);cases x with
  | tup ds=>
   cases h4;obtain⟨p,xs,rfl,k1,k2⟩:=rep_tup.mp r3;have hlen:=k2.length
   by_cases wh:HT.sIx xs.length 0 l=0/\HT.sIx xs.length xs.length u=xs.length
   ·refine .inr (.inr ⟨p,xs,rfl,qk g3.fh k1,wh.1,wh.2,q _ F3 H3 gg ?_⟩)
    have e:cutD ds l u=ds:=by
     unfold cutD;rw [hlen,wh.1,wh.2,g3h,Nat.sub_zero, <- hlen,g5w]
    rw [e];exact r3
   ·refine .inr (.inl ⟨p,xs,rfl,qk g3.fh k1,wh,fun p' hp=>?_⟩)
    have gn:Grow F3 H3 (upd F3 p' (.tup (q1h xs l u))) (upd H3 p' (.tup (q1h xs l u))):=Grow.new g3.fh hp;refine q _ _ _ (gg.trans gn) (rep_tup.mpr ⟨p',_,rfl,SqT.of qr,?_⟩);unfold cutD q1h;rw [hlen];exact((k2.mono gn.ff).drop _).take _
  | lst ds=>
   cases h4;obtain⟨p,xs,rfl,k1,k2⟩:=rep_lst.mp r3;have hlen:=k2.length;refine .inl ⟨p,xs,rfl,g3.fh.seq k1,fun p' hp=>?_⟩;have gn:Grow F3 H3 (upd F3 p' (.lst (q1h xs l u))) (upd H3 p' (.lst (q1h xs l u))):=Grow.new g3.fh hp;refine q _ _ _ (gg.trans gn) (rep_lst.mpr ⟨p',_,rfl,SqL.of qr,?_⟩);unfold cutD q1h;rw [hlen];exact((k2.mono gn.ff).drop _).take _
  | _=>cases h4
def qbk:D->D->Option D
 | .tup xs,.tup ys=>if xs.length+ys.length<=lim then some (.tup (xs++ys)) else none
 | .lst xs,.lst ys=>if xs.length+ys.length<=lim then some (.lst (xs++ys)) else none
 | _,_=>none
theorem qr1:OpR X (binaryOp .Add) (rD X.K qbk):=by
 intro pins s σ H x y v u Q I rx ry h;obtain⟨F,d1,d2,d,fh,r1,r2,ho,q⟩:=h;unfold qbk at ho
 split at ho
 ·rename_i ds es
  split at ho
  ·rename_i hl
   cases ho;obtain⟨a,xs,rfl,k1,k2⟩:=rep_tup.mp r1;obtain⟨b,ys,rfl,k3,k4⟩:=rep_tup.mp r2
   by_cases hd:ds=[]
   ·subst hd
    cases k2.nil_inv;cases rx;cases ry;obtain⟨i1,v1,⟨⟨c1,dd1,dt1,sl1⟩,o1,e1,n1,t1⟩,_⟩:=I.tuple (qk fh k1);obtain⟨i2,v2,⟨⟨c2,dd2,dt2,sl2⟩,o2,e2,n2,t2⟩,_⟩:=I.tuple (qk fh k3);simp only at e1 t1 e2 t2;subst e1 t1 e2 t2;cases v1;exact g5t ⟨_,o1,rfl⟩ ⟨_,o2,rfl⟩ g5u seq_tuple_add g42 g3n (g34 _ _)
     (tuple_addW0 a b #[] i2.toArray n1 n2 dd1 dd2 sl1 sl2 rfl) ⟨o1,o2,⟨.ref b,H,I,rfl,q _ F H (.refl fh) (by simpa using r2)⟩⟩
   ·refine qnp pins s σ H _ _ v u Q I rx ry ⟨a,b,xs,ys,rfl,rfl,qk fh k1,qk fh k3,fun z=>hd ?_,ja (by rw [<- k2.length, <- k4.length];exact hl),fun z=>?_,fun z p hp=>?_⟩
    ·have:=k2.length;rw [z] at this;exact g2f this
    ·have e:es=[]:=by have:=k4.length;rw [z] at this;exact g2f this
     subst e;rw [g2v] at q;exact q _ F H (.refl fh) r1
    ·have gn:Grow F H (upd F p (.tup (xs++ys))) (upd H p (.tup (xs++ys))):=Grow.new fh hp
     exact q _ _ _ gn (rep_tup.mpr ⟨p,_,rfl,SqT.of qr,(k2.mono gn.ff).append (k4.mono gn.ff)⟩)
  ·cases ho
 ·rename_i ds es
  split at ho
  ·rename_i hl
   cases ho;obtain⟨a,xs,rfl,k1,k2⟩:=rep_lst.mp r1;obtain⟨b,ys,rfl,k3,k4⟩:=rep_lst.mp r2;cases rx;cases ry;obtain⟨i1,v1,⟨⟨c1,dd1,dt1,sl1⟩,n1,o1,e1,g1,t1⟩,_⟩:=I.list (fh.seq k1);obtain⟨i2,v2,⟨⟨c2,dd2,dt2,sl2⟩,n2,o2,e2,g2,t2⟩,_⟩:=I.list (fh.seq k3);simp only at e1 t1 e2 t2;subst e1 t1 e2 t2;have hz:xs.length+ys.length<=sizeLine:=ja (by rw [<- k2.length, <- k4.length];exact hl);refine g5t ⟨_,o1,rfl⟩ ⟨_,o2,rfl⟩ noFill_list_add seq_list_add PySem.F.slot_list_add PySem.F.entry_list_add (PySem.F.args_list_add_2 _ _)
    (list_addW a b i1.toArray i2.toArray n1 n2 dd1 dd2 sl1 sl2 (by rw [gv,gv, <- v1.length, <- v2.length];exact hz)) ⟨o1,o2,?_⟩
   have ea:i1.toArray++i2.toArray=(i1++i2).toArray:=by simp
   rw [ea];have gn:Grow F H (upd F s.heap.objs.size (.lst (xs++ys))) (upd H s.heap.objs.size (.lst (xs++ys))):=Grow.new fh I.fresh;exact⟨.ref _,_,I.lnew (t':=s.toks) (v1.append v2) (by rw [t5];exact hz),rfl,q _ _ _ gn (rep_lst.mpr ⟨_,_,rfl,SqL.of qr,(k2.mono gn.ff).append (k4.mono gn.ff)⟩)⟩
  ·cases ho
 ·cases ho
abbrev zg:D->D->Option D:=fun x y=>(oAdd x y).or (qbk x y)
theorem zp:OpR X (binaryOp .Add) (rD X.K zg):=qb8 qqo qr1
def flat(d:D): Bool:=(flD d).isSome
def eqF:D->D->Bool
 | .non,.non=>true
 | .bl a,.bl b=>a==b
 | .bl a,.int b=>(if a then 1 else 0)==b
 | .int a,.bl b=>a==(if b then 1 else 0)
 | .int a,.int b=>a==b
 | .str a,.str b=>a==b
 | _,_=>false
def inF(d:D)(ds:List D): Bool:=ds.any fun e=>eqF e d
theorem qat{K:Frag}{H:Hp}{d e:D}{x y:V}(h1:flat d=true)(h2:flat e=true)(r1:Rep K H d x)(r2:Rep K H e y): eqV x y=eqF d e/\q00 x=true/\q00 y=true:=by
 cases d <;> first|(cases h1;done)|skip
 all_goals (cases e <;> first|(cases h2;done)|skip)
 all_goals (first|(cases rep_non.mp r1)|(cases rep_bl.mp r1)|(cases rep_int.mp r1)|(cases rep_str.mp r1))
 all_goals (first|(cases rep_non.mp r2)|(cases rep_bl.mp r2)|(cases rep_int.mp r2)|(cases rep_str.mp r2))
 all_goals exact⟨rfl,rfl,rfl⟩
theorem qfw{K:Frag}{H:Hp}{d:D}{x:V}(h1:flat d=true)(r1:Rep K H d x): ∀ {ds:List D} {xs:List V},ds.all flat=true->RepL K H ds xs->inV x xs=inF d ds/\q00 x=true/\xs.all q00=true
 | [],xs,_,r=>by cases r.nil_inv;exact⟨rfl,(qat h1 h1 r1 r1).2.1,rfl⟩
 | e :: ds,xs,h2,r=>by
  obtain⟨y,ys,rfl,k1,k2⟩:=r.cons_inv;rw [g46,m9] at h2;obtain⟨z1,z2,z3⟩:=qfw h1 r1 h2.2 k2;obtain⟨w1,w2,w3⟩:=qat h2.1 h1 k1 r1;refine⟨?_,z2,?_⟩
  ·show(eqV y x || inV x ys)=(eqF e d || inF d ds)
   rw [w1,z1]
  ·rw [g46,w2,z3];rfl
def oIn(neg:Bool): D->D->Option D
 | d,.tup ds=>if flat d&&ds.all flat then some (.bl (if neg then !inF d ds else inF d ds)) else none
 | d,.lst ds=>if flat d&&ds.all flat then some (.bl (if neg then !inF d ds else inF d ds)) else none
 | _,_=>none
theorem qn0{K:Frag}{neg:Bool}{x y:V}{H:Hp}{Q:VK}(h:rD K (oIn neg) x y H Q): rIn K neg x y H Q:=by
 obtain⟨F,d1,d2,d,fh,r1,r2,ho,q⟩:=h;cases d2 <;> simp only [oIn] at ho <;> first|(cases ho;done)|skip
 ·split at ho
  ·rename_i hc
   cases ho;rw [m9] at hc;obtain⟨p,xs,rfl,k1,k2⟩:=rep_tup.mp r2;obtain⟨z1,z2,z3⟩:=qfw hc.1 r1 hc.2 k2;exact⟨p,xs,rfl,.inr (qk fh k1),z2,z3,by rw [z1];exact q _ F H (.refl fh) (rep_bl.mpr rfl)⟩
  ·cases ho
 ·split at ho
  ·rename_i hc
   cases ho;rw [m9] at hc;obtain⟨p,xs,rfl,k1,k2⟩:=rep_lst.mp r2;obtain⟨z1,z2,z3⟩:=qfw hc.1 r1 hc.2 k2;exact⟨p,xs,rfl,.inl (fh.seq k1),z2,z3,by rw [z1];exact q _ F H (.refl fh) (rep_bl.mpr rfl)⟩
  ·cases ho
theorem qn1:OpR X (compareOp .In) (rD X.K (oIn false)):=q0t qhq fun x y H Q h=>qn0 h
theorem qbl:OpR X (compareOp .NotIn) (rD X.K (oIn true)):=q0t qb4 fun x y H Q h=>qn0 h
end
mutual
def eqD:D->D->Bool
 | .tup ds,.tup es=>eqL ds es
 | .lst ds,.lst es=>eqL ds es
 | d,e=>eqF d e
def eqL:List D->List D->Bool
 | [],[]=>true
 | d :: ds,e :: es=>eqD d e&&eqL ds es
 | _,_=>false
end
mutual
def okE:D->D->Bool
 | .tup ds,.tup es=>kb ds es
 | .lst ds,.lst es=>kb ds es
 | d,e=>flat d&&flat e
def kb:List D->List D->Bool
 | d :: ds,e :: es=>okE d e&&kb ds es
 | _,_=>true
end
mutual
def kc:D->Nat
 | .tup ds=>yl ds+1
 | .lst ds=>yl ds+1
 | _=>0
def yl:List D->Nat
 | []=>0
 | d :: ds=>max (kc d) (yl ds)
end
def eqJ(ds es:List D)(j:Nat): Bool:=match ds[j]?,es[j]? with
 | some d,some e=>eqD d e
 | _,_=>true
theorem kf:∀(ds es:List D),((List.range (min ds.length es.length)).all (eqJ ds es)&&ds.length==es.length)=eqL ds es
 | [],[]=>by simp [eqL]
 | [],e :: es=>by simp [eqL]
 | d :: ds,[]=>by simp [eqL]
 | d :: ds,e :: es=>by
  have ih:=kf ds es;have e1:min (d :: ds).length (e :: es).length=min ds.length es.length+1:=by simp only [p8];lia
  rw [e1,g2c,g46,g04];have e2:(eqJ (d :: ds) (e :: es) ∘ Nat.succ)=eqJ ds es:=by funext j;simp [eqJ]
  have e3:eqJ (d :: ds) (e :: es) 0=eqD d e:=by simp [eqJ]
  have e4:((d :: ds).length==(e :: es).length)=(ds.length==es.length):=by simp
  rw [e2,e3,e4,Bool.and_assoc,ih];simp only [eqL]
theorem qbm{d e:D}(h1:flat d=true)(h2:flat e=true): eqD d e=eqF d e:=by
 cases d <;> first|(cases h1;done)|skip
 all_goals (cases e <;> first|(cases h2;done)|skip)
 all_goals simp only [eqD]
section
variable{X:Cx}{pins:List (Addr×Obj)}{σ : St}{F H:Hp}{s:Shared}
theorem qia{A:Around}{d e:D}{x y:V}{u v:Value}(h1:flat d=true)(h2:flat e=true)(r1:Rep X.K F d x)(r2:Rep X.K F e y)(q1:RelV x u)(q2:RelV y v): SeqAt.EqAt A s u v (eqD d e):=by
 obtain⟨z1,z2,z3⟩:=qat h1 h2 r1 r2;rw [qbm h1 h2, <- z1];exact qho q1 q2 z2 z3
theorem qbn{d e:D}(h:okE d e=true): (∃ds es,d=.tup ds/\e=.tup es/\kb ds es=true)\/(∃ds es,d=.lst ds/\e=.lst es/\kb ds es=true)\/(flat d=true/\flat e=true):=by
 cases d <;> cases e <;> simp only [okE,m9] at h <;> first
  | exact .inl ⟨_,_,rfl,rfl,h⟩
  | exact .inr (.inl ⟨_,_,rfl,rfl,h⟩)
  | exact .inr (.inr h)
theorem qew(I:Inv X pins σ H s)(fh:Same F H): ∀ {d e:D} {x:V},okE d e=true->Rep X.K F d x->Rep X.K F e x->eqD d e=true:=by
 suffices hh:∀n,(∀d e x,sizeOf d<n->okE d e=true->Rep X.K F d x->Rep X.K F e x->eqD d e=true) from fun {d e x}=>hh (sizeOf d+1) d e x (uk _)
 intro n
 induction n with
 | zero=>intro d e x h;exact absurd h (u6 _)
 | succ n ih=>
  intro d e x hn ok r1 r2;have seq:∀(ds es:List D) (xs:List V),sizeOf ds<n->kb ds es=true->RepL X.K F ds xs->RepL X.K F es xs->eqL ds es=true:=by
   intro ds
   induction ds with
   | nil=>
    intro es xs _ _ k1 k2;cases k1.nil_inv;cases es with
    | nil=>simp only [eqL]
    | cons e es=>obtain⟨_,_,z,_⟩:=k2.cons_inv;cases z
   | cons d ds ihd=>
    intro es xs hs ho k1 k2;obtain⟨x,r,rfl,a1,a2⟩:=k1.cons_inv;cases es with
    | nil=>cases k2.nil_inv
    | cons e es=>
     obtain⟨x',r',z,b1,b2⟩:=k2.cons_inv;cases z;simp only [kb,m9] at ho;have hs1:sizeOf d<n:=by simp only [g2i] at hs;lia
     have hs2:sizeOf ds<n:=by simp only [g2i] at hs;lia
     simp only [eqL,m9];exact⟨ih d e x hs1 ho.1 a1 b1,ihd es r hs2 ho.2 a2 b2⟩
  rcases qbn ok with⟨ds,es,rfl,rfl,ho⟩|⟨ds,es,rfl,rfl,ho⟩|⟨h1,h2⟩
  ·obtain⟨a,xs,rfl,k1,k2⟩:=rep_tup.mp r1
   obtain⟨b,ys,z,k3,k4⟩:=rep_tup.mp r2;cases z;cases I.tuple_inj (qk fh k1) (qk fh k3);simp only [eqD];exact seq ds es xs (by simp only [D.tup.sizeOf_spec] at hn;lia) ho k2 k4
  ·obtain⟨a,xs,rfl,k1,k2⟩:=rep_lst.mp r1
   obtain⟨b,ys,z,k3,k4⟩:=rep_lst.mp r2;cases z;cases I.list_inj (fh.seq k1) (fh.seq k3);simp only [eqD];exact seq ds es xs (by simp only [D.lst.sizeOf_spec] at hn;lia) ho k2 k4
  ·obtain⟨z1,_⟩:=qat h1 h2 r1 r2
   rw [qbm h1 h2, <- z1];cases d <;> first|(cases h1;done)|skip
   ·cases rep_non.mp r1;rfl
   ·cases rep_bl.mp r1;simp [eqV]
   ·cases rep_int.mp r1;simp [eqV]
   ·cases rep_str.mp r1;simp [eqV]
theorem qbo (I:Inv X pins σ H s) (fh:Same F H):∀ {d e:D} {x y:V} {u v:Value} (A:Around),okE d e=true->A.units+kc d<cLine->Rep X.K F d x->Rep X.K F e y->RelV x u->RelV y v->SeqAt.EqAt A s u v (eqD d e):=by
 suffices hh:∀n,(∀d e x y u v (A:Around),sizeOf d<n->okE d e=true->A.units+kc d<cLine->Rep X.K F d x->Rep X.K F e y->RelV x u->RelV y v->SeqAt.EqAt A s u v (eqD d e)) from
  fun {d e x y u v} A=>hh (sizeOf d+1) d e x y u v A (uk _)
 intro n
 induction n with
 | zero=>intro d e x y u v A h;exact absurd h (u6 _)
 | succ n ih=>
  intro d e x y u v A hn ok hu r1 r2 q1 q2;have seq:∀(ds es:List D) (xs ys:List V) (us vs:List Value) (A:Around),sizeOf ds<n->kb ds es=true->A.units+yl ds<cLine->RepL X.K F ds xs->RepL X.K F es ys->Vals xs us->Vals ys vs ->
    ∀j (h1:j<us.length) (h2:j<vs.length),SeqAt.EqAt A s us[j] vs[j] (eqJ ds es j):=by
   intro ds
   induction ds with
   | nil=>
    intro es xs ys us vs A _ _ _ k1 _ w1 _ j h1;cases k1.nil_inv;cases w1;exact absurd h1 (u6 _)
   | cons d ds ihd=>
    intro es xs ys us vs A hs ho hu k1 k2 w1 w2 j h1 h2;obtain⟨x,r,rfl,a1,a2⟩:=k1.cons_inv;cases w1 with
    | cons p1 p2=>
     cases es with
     | nil=>cases k2.nil_inv;cases w2;exact absurd h2 (u6 _)
     | cons e es=>
      obtain⟨y,r',rfl,b1,b2⟩:=k2.cons_inv;cases w2 with
      | cons p3 p4=>
       simp only [kb,m9] at ho;have hs1:sizeOf d<n:=by simp only [g2i] at hs;lia
       have hs2:sizeOf ds<n:=by simp only [g2i] at hs;lia
       simp only [yl] at hu;cases j with
       | zero=>
        have e0:eqJ (d :: ds) (e :: es) 0=eqD d e:=by simp [eqJ]
        rw [e0];exact ih d e x y _ _ A hs1 ho.1 (by lia) a1 b1 p1 p3
       | succ j=>
        have e0:eqJ (d :: ds) (e :: es) (j+1)=eqJ ds es j:=by simp [eqJ]
        rw [e0];exact ihd es r r' _ _ A hs2 ho.2 (by lia) a2 b2 p2 p4 j (by simpa using h1) (by simpa using h2)
  rcases qbn ok with⟨ds,es,rfl,rfl,ho⟩|⟨ds,es,rfl,rfl,ho⟩|⟨h1,h2⟩
  ·have rr:=qew I fh ok r1
   obtain⟨a,xs,rfl,k1,k2⟩:=rep_tup.mp r1;obtain⟨b,ys,rfl,k3,k4⟩:=rep_tup.mp r2;cases q1;cases q2
   by_cases hab:a=b
   ·subst hab
    rw [rr r2];exact g66 _
   ·obtain⟨i1,v1,t1,_⟩:=I.tuple (qk fh k1)
    obtain⟨i2,v2,t2,_⟩:=I.tuple (qk fh k3);simp only [kc] at hu;refine SeqAt.EqAt.of_refs hab ?_;have hq:=seq ds es xs ys i1 i2 A.in1 (by simp only [D.tup.sizeOf_spec] at hn;lia) ho (by show A.units+1+yl ds<cLine;lia) k2 k4 v1 v2;have:=SeqAt.RcAt.tuples (A:=A) (e:=eqJ ds es) (show s.heap.IsTuple a i1.toArray from t1) (show s.heap.IsTuple b i2.toArray from t2) (by lia) (fun j h1 h2=>by simpa using hq j (by simpa using h1) (by simpa using h2));simp only [gv, <- v1.length, <- v2.length, <- k2.length, <- k4.length,kf] at this
    simpa only [eqD] using this
  ·have rr:=qew I fh ok r1
   obtain⟨a,xs,rfl,k1,k2⟩:=rep_lst.mp r1;obtain⟨b,ys,rfl,k3,k4⟩:=rep_lst.mp r2;cases q1;cases q2
   by_cases hab:a=b
   ·subst hab
    rw [rr r2];exact g66 _
   ·obtain⟨i1,v1,t1,_⟩:=I.list (fh.seq k1)
    obtain⟨i2,v2,t2,_⟩:=I.list (fh.seq k3);simp only [kc] at hu;refine SeqAt.EqAt.of_refs hab ?_;have hq:=seq ds es xs ys i1 i2 A.in1 (by simp only [D.lst.sizeOf_spec] at hn;lia) ho (by show A.units+1+yl ds<cLine;lia) k2 k4 v1 v2;have hl1:i1.length=ds.length:=by rw [<- v1.length, <- k2.length]
    have hl2:i2.length=es.length:=by rw [<- v2.length, <- k4.length]
    simp only [eqD]
    by_cases hl:ds.length=es.length
    ·have:=SeqAt.RcAt.lists (A:=A) (e:=eqJ ds es) t1.isList t2.isList (by rw [gv,gv,hl1,hl2];exact hl) (by lia) (fun j h1 h2=>by simpa using hq j (by simpa using h1) (by simpa using h2))
     have e1:(List.range i1.toArray.size).all (eqJ ds es)=eqL ds es:=by
      rw [<- kf,gv,hl1, <- hl,g5x];simp
     rw [e1] at this;exact this
    ·have e1:eqL ds es=false:=by rw [<- kf];simp [hl]
     rw [e1];exact SeqAt.RcAt.lists_lengths t1.isList t2.isList (by rw [gv,gv,hl1,hl2];simpa using hl) (by lia)
  ·exact qia h1 h2 r1 r2 q1 q2
def qkv:D->D->Option D
 | .tup ds,.tup es=>if kb ds es&&decide (yl ds<=60) then some (.bl (eqL ds es)) else none
 | .lst ds,.lst es=>if kb ds es&&decide (yl ds<=60) then some (.bl (eqL ds es)) else none
 | _,_=>none
theorem qr2(hu:X.A.units+64<cLine): OpR X (compareOp .Eq) (rD X.K qkv):=by
 intro pins s σ H x y v u Q I rx ry h;obtain⟨F,d1,d2,d,fh,r1,r2,ho,q⟩:=h;have part:∀ {ds es:List D} {xs ys:List V} {us vs:List Value},kb ds es=true->yl ds<=60->RepL X.K F ds xs->RepL X.K F es ys->Vals xs us->Vals ys vs ->
   ∀j (h1:j<us.length) (h2:j<vs.length),SeqAt.EqAt X.A.in1 s us[j] vs[j] (eqJ ds es j):=by
  intro ds
  induction ds with
  | nil=>
   intro es xs ys us vs _ _ k1 _ w1 _ j h1;cases k1.nil_inv;cases w1;exact absurd h1 (u6 _)
  | cons d ds ihd=>
   intro es xs ys us vs ho hd k1 k2 w1 w2 j h1 h2;obtain⟨x,r,rfl,a1,a2⟩:=k1.cons_inv;cases w1 with
   | cons p1 p2=>
    cases es with
    | nil=>cases k2.nil_inv;cases w2;exact absurd h2 (u6 _)
    | cons e es=>
     obtain⟨y,r',rfl,b1,b2⟩:=k2.cons_inv;cases w2 with
     | cons p3 p4=>
      simp only [kb,m9] at ho;simp only [yl] at hd;cases j with
      | zero=>
       have e0:eqJ (d :: ds) (e :: es) 0=eqD d e:=by simp [eqJ]
       rw [e0];exact qbo I fh _ ho.1 (by show X.A.units+1+kc d<cLine;lia) a1 b1 p1 p3
      | succ j=>
       have e0:eqJ (d :: ds) (e :: es) (j+1)=eqJ ds es j:=by simp [eqJ]
       rw [e0];exact ihd ho.2 (by lia) a2 b2 p2 p4 j (by simpa using h1) (by simpa using h2)
 unfold qkv at ho
 split at ho
 ·rename_i ds es
  split at ho
  ·rename_i hc
   cases ho;rw [m9] at hc;obtain⟨a,xs,rfl,k1,k2⟩:=rep_tup.mp r1;obtain⟨b,ys,rfl,k3,k4⟩:=rep_tup.mp r2;cases rx;cases ry;obtain⟨i1,v1,t1,_⟩:=I.tuple (qk fh k1);obtain⟨i2,v2,t2,_⟩:=I.tuple (qk fh k3);have hq:=part hc.1 (g0j hc.2) k2 k4 v1 v2;refine SeqAt.eq_tupleAt (e:=eqJ ds es) (show s.heap.IsTuple a i1.toArray from t1) (show s.heap.IsTuple b i2.toArray from t2) (by lia) (fun j h1 h2=>by simpa using hq j (by simpa using h1) (by simpa using h2)) ?_;simp only [gv, <- v1.length, <- v2.length, <- k2.length, <- k4.length,kf];exact⟨.bl _,H,I,rfl,q _ F H (.refl fh) (rep_bl.mpr rfl)⟩
  ·cases ho
 ·rename_i ds es
  split at ho
  ·rename_i hc
   cases ho;rw [m9] at hc;obtain⟨a,xs,rfl,k1,k2⟩:=rep_lst.mp r1;obtain⟨b,ys,rfl,k3,k4⟩:=rep_lst.mp r2;cases rx;cases ry;obtain⟨i1,v1,t1,_⟩:=I.list (fh.seq k1);obtain⟨i2,v2,t2,_⟩:=I.list (fh.seq k3);have hq:=part hc.1 (g0j hc.2) k2 k4 v1 v2;have hl1:i1.length=ds.length:=by rw [<- v1.length, <- k2.length]
   have hl2:i2.length=es.length:=by rw [<- v2.length, <- k4.length]
   by_cases hl:ds.length=es.length
   ·refine SeqAt.eq_listAt (e:=eqJ ds es) t1.isList t2.isList (by rw [gv,gv,hl1,hl2];exact hl) (by lia) (fun j h1 h2=>by simpa using hq j (by simpa using h1) (by simpa using h2)) ?_
    have e1:(List.range i1.toArray.size).all (eqJ ds es)=eqL ds es:=by
     rw [<- kf,gv,hl1, <- hl,g5x];simp
    rw [e1];exact⟨.bl _,H,I,rfl,q _ F H (.refl fh) (rep_bl.mpr rfl)⟩
   ·have e1:eqL ds es=false:=by rw [<- kf];simp [hl]
    rw [e1] at q;exact SeqAt.eq_list_lengthsAt t1.isList t2.isList (by rw [gv,gv,hl1,hl2];simpa using hl) (by lia) ⟨.bl _,H,I,rfl,q _ F H (.refl fh) (rep_bl.mpr rfl)⟩
  ·cases ho
 ·cases ho
abbrev oEq:D->D->Option D:=fun x y=>(qkk x y).or (qkv x y)
theorem q0h(hu:X.A.units+64<cLine): OpR X (compareOp .Eq) (rD X.K oEq):=qb8 qqs (qr2 hu)
end
def itN:Bool->String
 | true=>"list_iterator"
 | false=>"tuple_iterator"
def sqN:Bool->String
 | true=>"list"
 | false=>"tuple"
def SI(b:Bool)(h:Heap)(it l:Addr)(k:Nat): Prop:=∃o,h.get? it=some o/\o.cls=.type (itN b)/\o.data=.fields #[.ref l,.int k 0]
def SO(b:Bool)(h:Heap)(l:Addr)(xs:Array Value): Prop:=∃o,h.get? l=some o/\o.cls=.type (sqN b)/\∃n,o.data=.seq xs n
theorem SI.ext{b:Bool}{h h':Heap}{it l c:Addr}{k:Nat}(x:SI b h it l k)(e:Heap.ExtBut c h h')(n:it≠c): SI b h' it l k:=let⟨o,ho,r⟩:=x; ⟨o,e it o n ho,r⟩
theorem SO.ext{b:Bool}{h h':Heap}{l c:Addr}{xs:Array Value}(x:SO b h l xs)(e:Heap.ExtBut c h h')(n:l≠c): SO b h' l xs:=let⟨o,ho,r⟩:=x; ⟨o,e l o n ho,r⟩
theorem SI.keep{b:Bool}{h h':Heap}{it l:Addr}{k:Nat}(x:SI b h it l k)(e:∀o,h.get? it=some o->h'.get? it=some o): SI b h' it l k:=let⟨o,ho,r⟩:=x; ⟨o,e o ho,r⟩
section
variable{prog:Program}{w:World}{A:Around}{E:Value->Shared->Prop}{s:Shared}
theorem q8t{b:Bool}{it l:Addr}{k:Nat}{xs:Array Value}{x:Value}{Q:Value->Shared->Prop}(hi:SI b s.heap it l k)(ho:SO b s.heap l xs)(hx:xs[k]? = some x)
  (h:∀h',SI b h' it l (k+1)->Heap.SameBut it s.heap h'->Q x {s with heap:=h'}):wpAny (model prog w) A (Builtin.SmallTypes.nextOf (.ref it)) Q E s:=by
 cases b with
 | true=>exact wpAny_nextOf_list_item hi ho hx h
 | false=>
  obtain⟨o,e1,e2,e3⟩:=id hi;obtain⟨o2,f1,f2,n,f3⟩:=id ho;have ty:s.TypeIs (.ref it) "tuple_iterator" :=⟨o,e1,e2⟩
  unfold Builtin.SmallTypes.nextOf;refine g0 (ug (name:=Str.ofString "__next__") ty g1r (p7 g1r ty g55 ?_ (g4w _)));show wpAny _ _ (field (.ref it) 0 >>= _) _ _ s;refine g0 (uy e1 e3 (x:=.ref l) rfl ?_);show wpAny _ _ (if(Value.ref l==Value.none)=true then _ else _) _ _ s;rw [mi (fun z:(Value.ref l==Value.none)=true=>mh z)];show wpAny _ _ (field (.ref it) 1 >>= _) _ _ s;refine g0 (uy e1 e3 (x:=.int k 0) rfl ?_);show wpAny _ _ (seqItems? (.ref l) >>= _) _ _ s;refine g0 (g0l f1 f3 ?_);simp only [g0i,hx];refine g0 (g3i e1 e3 (by simp) (g9 ⟨x,rfl,g9 (h _ ⟨_,g11 _ e1 (Obj.isFreed_of_fields (g37 e3 _)),(Obj.cls_mapFields ..).trans e2,?_⟩ (g07 ..))⟩));rw [g37 e3];simp [rawInt]
theorem qex{b:Bool}{it l:Addr}{k:Nat}{xs:Array Value}{Q:Value->Shared->Prop}(hh:A.handled=none)(hi:SI b s.heap it l k)(ho:SO b s.heap l xs)(hx:xs[k]? = none)
  (h:∀h' e,Heap.ExtBut it s.heap h'->(∃o,h'.get? e=some o/\o.cls=.type "StopIteration")->E (.ref e) {s with heap:=h'}):wpAny (model prog w) A (Builtin.SmallTypes.nextOf (.ref it)) Q E s:=by
 cases b with
 | true=>exact wpAny_nextOf_list_end hh hi ho hx h
 | false=>
  obtain⟨o,e1,e2,e3⟩:=id hi;obtain⟨o2,f1,f2,n,f3⟩:=id ho;have ty:s.TypeIs (.ref it) "tuple_iterator" :=⟨o,e1,e2⟩
  unfold Builtin.SmallTypes.nextOf;refine g0 (ug (name:=Str.ofString "__next__") ty g1r (p7 g1r ty g55 ?_ (g4w _)));show wpAny _ _ (field (.ref it) 0 >>= _) _ _ s;refine g0 (uy e1 e3 (x:=.ref l) rfl ?_);show wpAny _ _ (if(Value.ref l==Value.none)=true then _ else _) _ _ s;rw [mi (fun z:(Value.ref l==Value.none)=true=>mh z)];show wpAny _ _ (field (.ref it) 1 >>= _) _ _ s;refine g0 (uy e1 e3 (x:=.int k 0) rfl ?_);show wpAny _ _ (seqItems? (.ref l) >>= _) _ _ s;refine g0 (g0l f1 f3 ?_);simp only [g0i,hx];refine g0 (g06 (g0 (g3i e1 e3 (by simp) ?_)));show wpAny _ _ (newExc (.type "StopIteration") [] >>= _) _ _ _;refine g0 ?_;simp only [newExc,newTuple];refine g0 (pk (g0 (m:=firstArgMember _ _) (g44 (a:=Value.none) (by first|rfl|(simp only [firstArgMember];rfl)) (pk ?_ (by size_fits)))) (by size_fits));simp only [raiseNew];refine g0 (g5b ?_)
  first|rw [show A.in1.handled=none from hh]|rw [hh]
  exact g0 (g9 (wpAny_throw (h _ _ (((g07 ..).extBut.push _).push _) ⟨_,gf _ rfl,rfl⟩)))
structure Z5(z ti to i1 i2:Addr): Prop where
 a1:ti≠z
 a2:to≠z
 a3:i1≠z
 a4:i2≠z
 a5:ti≠to
 a6:ti≠i1
 a7:ti≠i2
 a8:to≠i1
 a9:to≠i2
 a10:i1≠i2
structure Off(l z to i1 i2:Addr): Prop where
 z:l≠z
 o:l≠to
 i:l≠i1
 j:l≠i2
theorem qib{b1 b2:Bool}{z ti to i1 i2 l1 l2:Addr}{k1 k2:Nat}{xs ys:Array Value}{x y p q:Value}{Q:Value->Shared->Prop}(D:Z5 z ti to i1 i2)(m1:Off l1 z to i1 i2)(m2:Off l2 z to i1 i2)
  (hz:IsZip s.heap z ti to .none) (ht:IsPair s.heap ti (.ref i1) (.ref i2)) (hp:IsPair s.heap to p q)
  (h1:SI b1 s.heap i1 l1 k1) (h2:SI b2 s.heap i2 l2 k2) (o1:SO b1 s.heap l1 xs) (o2:SO b2 s.heap l2 ys) (hx:xs[k1]? = some x) (hy:ys[k2]? = some y)
  (hQ:∀h',IsZip h' z ti to (rawInt s.heap.objs.size)->IsPair h' to x y->SI b1 h' i1 l1 (k1+1)->SI b2 h' i2 l2 (k2+1)->IsPair h' s.heap.objs.size x y->h'.objs.size=s.heap.objs.size+1 ->
   (∀c o,c≠z->c≠to->c≠i1->c≠i2->s.heap.get? c=some o->h'.get? c=some o)->Q (.ref s.heap.objs.size) {s with heap:=h'}) :
  wpAny (model prog w) A (Builtin.«zip.__next__» ⟨[.ref z],[]⟩) (fun fin s'=>∃v,fin=.done (.ret v)/\Q v s') E s:=by
 show wpAny _ _ (field (.ref z) 2 >>= _) _ _ _;refine g0 (uy hz rfl (x:=.bool false) rfl ?_);show wpAny _ _ (field (.ref z) 3 >>= _) _ _ _;refine g0 (uy hz rfl (x:=.ref ti) rfl (g0 (g0l ht rfl ?_)));show wpAny _ _ (Builtin.SmallTypes.ownedTupleIsFree (.ref z) >>= _) _ _ _;refine g0 ?_;unfold Builtin.SmallTypes.ownedTupleIsFree;refine g0 (uy hz rfl (x:=.none) rfl (g9 ?_));simp only [p0];refine g0 (g06 (g0 (uy hz rfl (x:=.ref to) rfl (g0 (uq hz (by simp) fun g1 hz1 u1=>?_)))));have hz1':IsZip g1 z ti to .ellipsis:=hz1;refine g0 ?_;simp only [g5y,List.zipIdx_nil,g28,g3g];refine g0 (g0 (g5c ?_));show wpAny _ _ (Builtin.SmallTypes.nextOf (.ref i1) >>= _) _ _ _;refine g0 (q8t (h1.ext u1.extBut D.a3) (o1.ext u1.extBut m1.z) hx fun g2 n1 u2=>g9 ?_);have hp2:IsPair g2 to p q:=u2.extBut _ _ D.a8 (u1.extBut _ _ D.a2 hp);refine g0 (g0l hp2 rfl (g0 (g4m hp2 fun g3 hp3 u3=>?_)));have hp3':IsPair g3 to x q:=hp3;refine g0 (g1y (g9 (g0 (g0 (g5c ?_)))));show wpAny _ _ (Builtin.SmallTypes.nextOf (.ref i2) >>= _) _ _ _;refine g0 (q8t (((h2.ext u1.extBut D.a4).ext u2.extBut D.a10.symm).ext u3.extBut D.a9.symm) (((o2.ext u1.extBut m2.z).ext u2.extBut m2.i).ext u3.extBut m2.o) hy fun g4 n2 u4=>g9 ?_);have hp4:IsPair g4 to x q:=u4.extBut _ _ D.a9 hp3';refine g0 (g0l hp4 rfl (g0 (g4m hp4 fun g5 hp5 u5=>?_)));have hp5':IsPair g5 to x y:=hp5;refine g0 (g1y (g9 (g9 (g0 (g0l hp5' rfl (g0 (g4x ?_)))))));have hsz:g5.objs.size=s.heap.objs.size:=by rw [u5.1,u4.1,u3.1,u2.1,u1.1]
 have hz5:IsZip g5 z ti to .ellipsis:=u5.extBut _ _ D.a2.symm (u4.extBut _ _ D.a4.symm (u3.extBut _ _ D.a2.symm (u2.extBut _ _ D.a3.symm hz1')));have kp:∀c o,c≠z->c≠to->c≠i1->c≠i2->s.heap.get? c=some o->g5.get? c=some o:=fun c o c1 c2 c3 c4 e=>u5.extBut _ _ c2 (u4.extBut _ _ c4 (u3.extBut _ _ c2 (u2.extBut _ _ c3 (u1.extBut _ _ c1 e))));have j1:SI b1 g5 i1 l1 (k1+1):=((n1.ext u3.extBut D.a8.symm).ext u4.extBut D.a10).ext u5.extBut D.a8.symm;have j2:SI b2 g5 i2 l2 (k2+1):=n2.ext u5.extBut D.a9.symm;have hzl:z<g5.objs.size:=gz hz5;show wpAny _ _ (Builtin.SmallTypes.ownedTupleHandOut (.ref z) (.ref g5.objs.size) >>= _) _ _ _;refine g0 ?_;unfold Builtin.SmallTypes.ownedTupleHandOut;have hz6:IsZip (g5.push {cls:=.type "tuple",data:=.seq #[x,y]}) z ti to .ellipsis:=gd _ hz5;refine g0 (uq hz6 (by simp) fun g7 hz7 u7=>?_);have hz7':IsZip g7 z ti to (rawInt g5.objs.size):=hz7;refine uq hz7' (by simp) fun g8 hz8 u8=>?_;have hz8':IsZip g8 z ti to (rawInt g5.objs.size):=hz8;have up:∀c o,c≠z->g5.get? c=some o->g8.get? c=some o:=fun c o c1 e=>u8.extBut _ _ c1 (u7.extBut _ _ c1 (gd _ e));have hT:IsPair g8 g5.objs.size x y:=u8.extBut _ _ (tu hzl) (u7.extBut _ _ (tu hzl) (gf _ rfl));have hl8:g8.objs.size=g5.objs.size+1:=by rw [u8.1,u7.1,t6]
 rw [hsz] at hz8' hT hl8;refine g9 ⟨_,rfl,?_⟩;show Q (.ref g5.objs.size) _;rw [hsz];exact hQ g8 hz8' (up _ _ D.a2 hp5') (j1.keep fun o e=>up _ o D.a3 e) (j2.keep fun o e=>up _ o D.a4 e) hT hl8 fun c o c1 c2 c3 c4 e=>up c o c1 (kp c o c1 c2 c3 c4 e)
theorem qkw{b1 b2:Bool}{z ti to i1 i2 l1 l2:Addr}{k1 k2:Nat}{xs ys:Array Value}{p q:Value}{Q:Fin->Shared->Prop}(hh:A.handled=none)(D:Z5 z ti to i1 i2)(m1:Off l1 z to i1 i2)(m2:Off l2 z to i1 i2)
  (hz:IsZip s.heap z ti to .none) (ht:IsPair s.heap ti (.ref i1) (.ref i2)) (hp:IsPair s.heap to p q)
  (h1:SI b1 s.heap i1 l1 k1) (h2:SI b2 s.heap i2 l2 k2) (o1:SO b1 s.heap l1 xs) (o2:SO b2 s.heap l2 ys) (hend:xs[k1]? = none\/ys[k2]? = none)
  (hE:∀h' e,(∀c o,c≠z->c≠to->c≠i1->c≠i2->s.heap.get? c=some o->h'.get? c=some o)->(∃o,h'.get? e=some o/\o.cls=.type "StopIteration")->E (.ref e) {s with heap:=h'}) :
  wpAny (model prog w) A (Builtin.«zip.__next__» ⟨[.ref z],[]⟩) Q E s:=by
 show wpAny _ _ (field (.ref z) 2 >>= _) _ _ _;refine g0 (uy hz rfl (x:=.bool false) rfl ?_);show wpAny _ _ (field (.ref z) 3 >>= _) _ _ _;refine g0 (uy hz rfl (x:=.ref ti) rfl (g0 (g0l ht rfl ?_)));show wpAny _ _ (Builtin.SmallTypes.ownedTupleIsFree (.ref z) >>= _) _ _ _;refine g0 ?_;unfold Builtin.SmallTypes.ownedTupleIsFree;refine g0 (uy hz rfl (x:=.none) rfl (g9 ?_));simp only [p0];refine g0 (g06 (g0 (uy hz rfl (x:=.ref to) rfl (g0 (uq hz (by simp) fun g1 hz1 u1=>?_)))));have hz1':IsZip g1 z ti to .ellipsis:=hz1;refine g0 ?_;simp only [g5y,List.zipIdx_nil,g28,g3g];refine g0 (g0 (g5c ?_));show wpAny _ _ (Builtin.SmallTypes.nextOf (.ref i1) >>= _) _ _ _;cases hx:xs[k1]? with
 | none=>
  refine g0 (qex hh (h1.ext u1.extBut D.a3) (o1.ext u1.extBut m1.z) hx fun g2 e u2 he=>?_);obtain⟨oe,y1,y2⟩:=he;have hz2:IsZip g2 z ti to .ellipsis:=u2 _ _ D.a3.symm hz1';have ne:e≠z:=fun x=>by subst x;rw [hz2] at y1;cases y1;simp at y2
  exact uq hz2 (by simp) fun g3 _ u3=>hE g3 e (fun c o c1 _ c3 _ x=>u3.extBut _ _ c1 (u2 _ _ c3 (u1.extBut _ _ c1 x))) ⟨oe,u3.extBut _ _ ne y1,y2⟩
 | some x=>
  have hy:ys[k2]? = none:=by rcases hend with h|h;rw [hx] at h;cases h;exact h
  refine g0 (q8t (h1.ext u1.extBut D.a3) (o1.ext u1.extBut m1.z) hx fun g2 n1 u2=>g9 ?_);have hp2:IsPair g2 to p q:=u2.extBut _ _ D.a8 (u1.extBut _ _ D.a2 hp);refine g0 (g0l hp2 rfl (g0 (g4m hp2 fun g3 hp3 u3=>?_)));refine g0 (g1y (g9 (g0 (g0 (g5c ?_)))));show wpAny _ _ (Builtin.SmallTypes.nextOf (.ref i2) >>= _) _ _ _;refine g0 (qex hh (((h2.ext u1.extBut D.a4).ext u2.extBut D.a10.symm).ext u3.extBut D.a9.symm) (((o2.ext u1.extBut m2.z).ext u2.extBut m2.i).ext u3.extBut m2.o) hy fun g4 e u4 he=>?_);obtain⟨oe,y1,y2⟩:=he;have hz4:IsZip g4 z ti to .ellipsis:=u4 _ _ D.a4.symm (u3.extBut _ _ D.a2.symm (u2.extBut _ _ D.a3.symm hz1'));have ne:e≠z:=fun x=>by subst x;rw [hz4] at y1;cases y1;simp at y2
  exact uq hz4 (by simp) fun g5 _ u5=>hE g5 e (fun c o c1 c2 c3 c4 x=>u5.extBut _ _ c1 (u4 _ _ c4 (u3.extBut _ _ c2 (u2.extBut _ _ c3 (u1.extBut _ _ c1 x))))) ⟨oe,u5.extBut _ _ ne y1,y2⟩
theorem qfx{b1 b2:Bool}{z ti to i1 i2 l1 l2:Addr}{k1 k2:Nat}{xs ys:Array Value}{x y p q:Value}{Q:Option Value->Shared->Prop}(D:Z5 z ti to i1 i2)(m1:Off l1 z to i1 i2)(m2:Off l2 z to i1 i2)
  (hz:IsZip s.heap z ti to .none) (ht:IsPair s.heap ti (.ref i1) (.ref i2)) (hp:IsPair s.heap to p q)
  (h1:SI b1 s.heap i1 l1 k1) (h2:SI b2 s.heap i2 l2 k2) (o1:SO b1 s.heap l1 xs) (o2:SO b2 s.heap l2 ys) (hx:xs[k1]? = some x) (hy:ys[k2]? = some y)
  (hQ:∀h',IsZip h' z ti to (rawInt s.heap.objs.size)->IsPair h' to x y->SI b1 h' i1 l1 (k1+1)->SI b2 h' i2 l2 (k2+1)->IsPair h' s.heap.objs.size x y->h'.objs.size=s.heap.objs.size+1 ->
   (∀c o,c≠z->c≠to->c≠i1->c≠i2->s.heap.get? c=some o->h'.get? c=some o)->Q (some (.ref s.heap.objs.size)) {s with heap:=h'}) :
  wpAny (model prog w) A (pyNext (.ref z)) Q E s:=by
 have ty:s.TypeIs (.ref z) "zip" :=⟨_,hz,rfl⟩
 unfold pyNext;exact g0 (g0y (ug (name:=Str.ofString "__next__") ty g4n (p7 g4n ty F.entry_zip_next
  (qib D m1 m2 hz ht hp h1 h2 o1 o2 hx hy fun h' c1 c2 c3 c4 c5 c6 c7=>g9 (hQ h' c1 c2 c3 c4 c5 c6 c7)) (F.args_zip_next_1 _))))
theorem qaj{b1 b2:Bool}{z ti to i1 i2 l1 l2:Addr}{k1 k2:Nat}{xs ys:Array Value}{p q:Value}{Q:Option Value->Shared->Prop}(hh:A.handled=none)(D:Z5 z ti to i1 i2)(m1:Off l1 z to i1 i2)(m2:Off l2 z to i1 i2)
  (hz:IsZip s.heap z ti to .none) (ht:IsPair s.heap ti (.ref i1) (.ref i2)) (hp:IsPair s.heap to p q)
  (h1:SI b1 s.heap i1 l1 k1) (h2:SI b2 s.heap i2 l2 k2) (o1:SO b1 s.heap l1 xs) (o2:SO b2 s.heap l2 ys) (hend:xs[k1]? = none\/ys[k2]? = none)
  (hQ:∀h',(∀c o,c≠z->c≠to->c≠i1->c≠i2->s.heap.get? c=some o->h'.get? c=some o)->Q none {s with heap:=h'}):wpAny (model prog w) A (pyNext (.ref z)) Q E s:=by
 have ty:s.TypeIs (.ref z) "zip" :=⟨_,hz,rfl⟩
 unfold pyNext;refine g0 (g0y (ug (name:=Str.ofString "__next__") ty g4n (p7 g4n ty F.entry_zip_next
  (qkw hh D m1 m2 hz ht hp h1 h2 o1 o2 hend fun h' e hk he=>?_) (F.args_zip_next_1 _))))
 obtain⟨o,y1,y2⟩:=he;exact g0 (g2m (T:="StopIteration") (b:=true) ⟨o,y1,y2⟩ isSubtype_stop (g9 (hQ _ hk)))
theorem q9o{b:Bool}{l:Addr}{xs:Array Value}{Q:Value->Shared->Prop}(h:SO b s.heap l xs)(q:Q (.ref s.heap.objs.size) {s with heap:=s.heap.push {cls:=.type (itN b),data:=.fields #[.ref l,.int 0 0]} }):
  wpAny (model prog w) A (pyIter (.ref l)) Q E s:=by
 cases b with
 | true=>exact g1v h q
 | false=>exact g36 h q
end
def zh1(b1:Bool)(h:Heap)(l1:Addr): Heap:=h.push {cls:=.type (itN b1),data:=.fields #[.ref l1,.int 0 0]}
def zh2(b1 b2:Bool)(h:Heap)(l1 l2:Addr): Heap:=(zh1 b1 h l1).push {cls:=.type (itN b2),data:=.fields #[.ref l2,.int 0 0]}
def zh3(b1 b2:Bool)(h:Heap)(l1 l2:Addr): Heap:=(zh2 b1 b2 h l1 l2).push {cls:=.type "tuple",data:=.seq #[.ref h.objs.size,.ref (zh1 b1 h l1).objs.size]}
def zh4(b1 b2:Bool)(h:Heap)(l1 l2:Addr): Heap:=(zh3 b1 b2 h l1 l2).push {cls:=.type "tuple",data:=.seq #[.none,.none]}
def zh5(b1 b2:Bool)(h:Heap)(l1 l2:Addr): Heap:=(zh4 b1 b2 h l1 l2).push {cls:=.type "zip",data:=.fields #[.none,.bool false,.bool false,.ref (zh2 b1 b2 h l1 l2).objs.size,.ref (zh3 b1 b2 h l1 l2).objs.size]}
theorem SO.push{b:Bool}{h:Heap}{l:Addr}{xs:Array Value}(x:SO b h l xs)(o:Obj): SO b (h.push o) l xs:=let⟨u,e,r⟩:=x; ⟨u,gd _ e,r⟩
theorem qfy(b1 b2:Bool)(l1 l2:Addr)(xs ys:Array Value):
  Meets (Builtin.«zip.__new__» ⟨[.type "zip",.ref l1,.ref l2],[]⟩) (fun _ R s=>SO b1 s.heap l1 xs/\SO b2 s.heap l2 ys/\R (.ok (.ret (.ref (zh4 b1 b2 s.heap l1 l2).objs.size))) {s with heap:=zh5 b1 b2 s.heap l1 l2}):=
 .of_wp fun prog w A R s h=>by
  obtain⟨hp,gg,dd,tk,os⟩:=s;obtain⟨ha,hb,h⟩:=h;have hsub:=sub_zip;have f1:SO b1 (Shared.heap ⟨hp,gg,dd,tk,os⟩) l1 xs:=ha;have f2:SO b2 (Shared.heap ⟨hp.push {cls:=.type (itN b1),data:=.fields #[.ref l1,.int 0 0]},gg,dd,tk,os⟩) l2 ys:=SO.push hb _
  wp_walk using q9o f1,q9o f2
  exact⟨_,rfl,h⟩
section
variable{X:Cx}{pins:List (Addr×Obj)}{σ : St}{H:Hp}{s:Shared}{h':Heap}
theorem q5w{fp:List Addr}{t':Nat}(I:Inv X pins σ H s)(hf:∀b∈fp,wm X pins H b)(k:∀b o,b∉fp->s.heap.get? b=some o->h'.get? b=some o): Inv X pins σ H {s with heap:=h',toks:=t'}:=by
 have nin:∀b u,H b=some u->b∉fp:=fun b u e hb=>by rw [(hf b hb).1] at e;cases e
 refine I.step (g':=s.gens) (d':=s.drawn) (ch:=fp) (fun b hb=>?_) (fun b o _ _ hc e _=>k b o hc e) (fun b o _ _ hc e _=>⟨o.slots,k b o hc e⟩) (fun _ _ _ _ n=>n)
  (fun b o hc e=>⟨o,k b o hc e⟩) (fun _ _ e=>e) (fun _ _ _ e=>e) (fun b ps e=>⟨#[],by rw [e];simp⟩) (fun m hm=>?_) (fun b u e=>?_) I.bare
 ·obtain⟨_,f1,_,f3,f4,f5⟩:=hf b hb
  exact⟨f3,f1,f4,f5⟩
 ·obtain⟨o,es,ep,ho,r⟩:=hm
  exact⟨o,es,ep,k _ o (fun z=>(hf _ z).2.1 rfl) ho,r⟩
 ·refine(I.hok b u e).stay (fun c v hc q=>k c v ?_ q) (fun _ q=>q) fun _ _ q=>q
  rcases hc with z|z
  ·rw [z];exact nin b u e
  ·exact nin c _ z
theorem adopt{p:Addr}{o:HO}(I:Inv X pins σ H s)(f:wm X pins H p)(new:ObjOk X.prog X.w (upd H p o) s.heap p o): Inv X pins σ (upd H p o) s:=by
 have hp:=f.1;obtain⟨_,f1,_,f3,f4,f5⟩:=f;have ne:∀ {b:Addr} {u:HO},H b=some u->upd H p o b=some u:=fun {b u} e=>by rw [ql (jg e hp)];exact e
 refine I.step (h':=s.heap) (g':=s.gens) (t':=s.toks) (d':=s.drawn) (ch:=[p]) (fun b hb=>?_) (fun b o _ _ hc e _=>e) (fun b o _ _ hc e _=>⟨o.slots,e⟩) (fun b o hc e n=>?_)
  (fun b o hc e=>⟨o,e⟩) (fun _ _ e=>ne e) (fun _ _ _ e=>ne e) (fun b ps e=>⟨#[],by rw [ne e];simp⟩) (fun m hm=>hm) (fun b u e=>?_) I.bare
 ·obtain rfl:b=p:=by simpa using hb
  exact⟨f3,f1,f4,f5⟩
 ·rw [ql (fun z=>hc (by simp [z]))];exact n
 ·by_cases hb:b=p
  ·subst hb;rw [qr] at e;cases e;exact new
  ·rw [ql hb] at e
   exact(I.hok b u e).stay (fun c v _ q=>q) (fun c q=>ne q) fun c xs q=>ne q
def Sq:Bool->Frag->Hp->Addr->List V->Prop
 | true=>SqL
 | false=>SqT
theorem q5x{b:Bool}{a:Addr}{xs:List V}(I:Inv X pins σ H s)(h:Sq b X.K H a xs): ∃its:List Value,Vals xs its/\SO b s.heap a its.toArray:=by
 cases b with
 | true=>obtain⟨its,r,⟨o,n,e,c,_,d⟩,_⟩:=I.list h;exact⟨its,r,o,e,c,n,d⟩
 | false=>obtain⟨its,r,⟨o,e,c,n,d⟩,_⟩:=I.tuple h;exact⟨its,r,o,e,c,n,d⟩
theorem qic{b:Bool}{a:Addr}{xs ys:List V}(I:Inv X pins σ H s)(h:Sq b X.K H a xs)(h':Sq b X.K H a ys): xs=ys:=by
 cases b with
 | true=>exact I.list_inj h h'
 | false=>exact I.tuple_inj h h'
theorem q09{b:Bool}{K:Frag}{F H:Hp}{a:Addr}{xs:List V}(e:Same F H)(h:Sq b K F a xs): Sq b K H a xs:=by
 cases b with
 | true=>exact e.seq h
 | false=>exact qk e h
theorem q19{b:Bool}{a c:Addr}{xs:List V}(I:Inv X pins σ H s)(h:Sq b X.K H a xs)(f:wm X pins H c): a≠c:=by
 obtain⟨f0,f1,f2,f3,_⟩:=f;have inK:∀ {o:Obj},X.K.lookup a=some o->a≠c:=fun {o} hk z=>by
  subst z;have hb:X.base.get? a=some o:=I.mod.kin a o hk;rcases f3 with q|q
  ·exact I.ok.noex a o hb q
  ·exact absurd (gu (gz hb) (my I.ok.bsz q)) (g0q _)
 have trk:∀ {u:HO},H a=some u->a≠c:=fun {u} e z=>by subst z;rw [f0] at e;cases e
 cases b with
 | true=>
  rcases h with(h|⟨o,h⟩)|⟨o,its,n,hk,_⟩
  ·exact trk h
  ·exact trk h
  ·exact inK hk
 | false=>
  rcases h with(h|⟨o,h⟩)|⟨o,its,n,hk,_⟩
  ·exact trk h
  ·exact trk h
  ·exact inK hk
end
def Itz(K:Frag)(b1:Bool)(a1:Addr)(b2:Bool)(a2:Addr): It:=
 ⟨fun i H=>∃xs ys x y,Sq b1 K H a1 xs/\Sq b2 K H a2 ys/\xs[i]? = some x/\ys[i]? = some y,
  fun i H v H'=>∃p x y,H p=none/\(∀xs,Sq b1 K H a1 xs->xs[i]? = some x)/\(∀ys,Sq b2 K H a2 ys->ys[i]? = some y)/\v=.ref p/\H'=upd H p (.tup [x,y]),
  fun i H=>∃xs ys,Sq b1 K H a1 xs/\Sq b2 K H a2 ys/\(xs.length<=i\/ys.length<=i)⟩
theorem qkx{P:Program}{w:World}{K:Frag}{elts:List Expr}{x1}{tp:Pos}{b1 b2:Bool}{a1 a2 z ti to i1 i2:Addr}(D:Z5 z ti to i1 i2):
  Turn P w K (.Tuple elts x1 tp) (Itz K b1 a1 b2 a2) [z,ti,to,i1,i2] z
   (fun i h=>IsZip h z ti to .none/\IsPair h ti (.ref i1) (.ref i2)/\(∃p q,IsPair h to p q)/\SI b1 h i1 a1 i/\SI b2 h i2 a2 i) where
 mem:=by simp
 obj:=fun i h ⟨c1,c2,⟨p,q,c3⟩,⟨o4,c4,_,d4⟩,⟨o5,c5,_,d5⟩⟩ b hb=>by
  simp only [mm,g0h,g2d] at hb;rcases hb with rfl|rfl|rfl|rfl|rfl
  ·exact⟨_,c1,fun v z=>by cases z⟩
  ·exact⟨_,c2,fun v z=>by cases z⟩
  ·exact⟨_,c3,fun v z=>by cases z⟩
  ·exact⟨_,c4,fun v z=>by rw [d4] at z;cases z⟩
  ·exact⟨_,c5,fun v z=>by rw [d5] at z;cases z⟩
 keep:=fun i h h' ⟨c1,c2,⟨p,q,c3⟩,c4,c5⟩ k=>⟨k _ (by simp) _ c1,k _ (by simp) _ c2,⟨p,q,k _ (by simp) _ c3⟩,c4.keep fun o e=>k _ (by simp) o e,c5.keep fun o e=>k _ (by simp) o e⟩
 item:=by
  intro X hP hw hK hc i pins s σ H E I hf st hg;subst hP hw hK;obtain⟨xs,ys,x,y,q1,q2,hx,hy⟩:=hg;obtain⟨its1,v1,o1⟩:=q5x I q1;obtain⟨its2,v2,o2⟩:=q5x I q2;obtain⟨u1,hu1,ru1⟩:=v1.get hx;obtain⟨u2,hu2,ru2⟩:=v2.get hy;obtain⟨c1,c2,⟨p,q,c3⟩,c4,c5⟩:=st;have off:∀ {b:Bool} {a:Addr} {ws:List V},Sq b X.K H a ws->Off a z to i1 i2:=fun h=>⟨q19 I h (hf _ (by simp)),q19 I h (hf _ (by simp)),q19 I h (hf _ (by simp)),q19 I h (hf _ (by simp))⟩
  refine qfx D (off q1) (off q2) c1 c2 c3 c4 c5 o1 o2 (x:=u1) (y:=u2) (by simpa using hu1) (by simpa using hu2) fun g n1 n2 n3 n4 n5 n6 n7=>?_;refine⟨_,rfl,wpAny_letOwnedTupleGo_zip n1 fun g2 m1 sb=>?_⟩;have hsz:z<s.heap.objs.size:=gz c1;have kp:∀c o,c∉[z,ti,to,i1,i2]->s.heap.get? c=some o->g2.get? c=some o:=fun c o hc e=>by
   simp only [mm,g0h,g2d,g6j] at hc;exact sb.extBut _ _ hc.1 (n7 c o hc.1 hc.2.2.1 hc.2.2.2.1 hc.2.2.2.2 e)
  have I1:Inv X pins σ H {s with heap:=g2}:=q5w (t':=s.toks) I hf kp;have fp:wm X pins H s.heap.objs.size:=I.fpOk (gw _) I.fresh;have hT:IsPair g2 s.heap.objs.size u1 u2:=sb.extBut _ _ (tu hsz) n5;have I2:Inv X pins σ (upd H s.heap.objs.size (.tup [x,y])) {s with heap:=g2}:=
   adopt I1 fp ⟨by show 2<=sizeLine;decide,[u1,u2],.cons ru1 (.cons ru2 .nil),⟨_,hT,rfl,rfl,_,rfl⟩⟩
  refine⟨.ref s.heap.objs.size,_,I2,rfl,⟨_,x,y,I.fresh,fun ws h=>?_,fun ws h=>?_,rfl,rfl⟩,⟨m1,?_,⟨u1,u2,sb.extBut _ _ D.a2 n2⟩,n3.ext sb.extBut D.a3,n4.ext sb.extBut D.a4⟩,fun b hb=>?_⟩
  ·rw [qic I h q1];exact hx
  ·rw [qic I h q2];exact hy
  ·exact sb.extBut _ _ D.a1 (n7 _ _ D.a1 D.a5 D.a6 D.a7 c2)
  ·have hb0:=(hf b hb).1
   have:b≠s.heap.objs.size:=by
    simp only [mm,g0h,g2d] at hb;rcases hb with rfl|rfl|rfl|rfl|rfl
    ·exact m5 hsz
    ·exact m5 (gz c2)
    ·exact m5 (gz c3)
    ·obtain⟨_,e,_⟩:=c4;exact m5 (gz e)
    ·obtain⟨_,e,_⟩:=c5;exact m5 (gz e)
   rw [ql this];exact hb0
 done:=by
  intro X hP hw hK hc i pins s σ H E I hf st hg;subst hP hw hK;obtain⟨xs,ys,q1,q2,hend⟩:=hg;obtain⟨its1,v1,o1⟩:=q5x I q1;obtain⟨its2,v2,o2⟩:=q5x I q2;obtain⟨c1,c2,⟨p,q,c3⟩,c4,c5⟩:=st;have off:∀ {b:Bool} {a:Addr} {ws:List V},Sq b X.K H a ws->Off a z to i1 i2:=fun h=>⟨q19 I h (hf _ (by simp)),q19 I h (hf _ (by simp)),q19 I h (hf _ (by simp)),q19 I h (hf _ (by simp))⟩
  refine qaj (I.ok.hd hc) D (off q1) (off q2) c1 c2 c3 c4 c5 o1 o2 ?_ fun g n7=>⟨rfl,q5w (t':=s.toks) I hf fun c o hc e=>?_⟩
  ·have l1:=v1.length
   have l2:=v2.length;rcases hend with h|h
   ·exact .inl (by simp;lia)
   ·exact .inr (by simp;lia)
  ·simp only [mm,g0h,g2d,g6j] at hc
   exact n7 c o hc.1 hc.2.2.1 hc.2.2.2.1 hc.2.2.2.2 e
 self:=fun A i s Q E st h=>wpAny_pyIter_zip st.1 h
def q52(xs ys:List D): List D:=List.zipWith (fun a b=>.tup [a,b]) xs ys
theorem qnz{K:Frag}{F:Hp}{b1 b2:Bool}{a1 a2:Addr}{xs ys:List V}{ds es:List D}(h1:Sq b1 K F a1 xs)(h2:Sq b2 K F a2 ys)(r1:RepL K F ds xs)(r2:RepL K F es ys): ItD K F (q52 ds es) (Itz K b1 a1 b2 a2) where
 go:=fun i F' H s1 s2 hi=>by
  have hi':i<ds.length/\i<es.length:=by unfold q52 at hi;rw [g2s] at hi;lia
  exact⟨xs,ys,xs[i]'(by rw [<- r1.length];exact hi'.1),ys[i]'(by rw [<- r2.length];exact hi'.2),q09 (s1.trans s2) h1,q09 (s1.trans s2) h2,by simp,by simp⟩
 yld:=fun i d F' H x H' s1 s2 hi ⟨p,x1,y1,hp,q1,q2,e1,e2⟩=>by
  subst e1 e2;unfold q52 at hi;rw [g6k] at hi;cases z1:ds[i]? with
  | none=>rw [z1] at hi;cases hi
  | some d1=>
   cases z2:es[i]? with
   | none=>rw [z1,z2] at hi;cases hi
   | some d2=>
    rw [z1,z2] at hi;cases hi;obtain⟨v1,k1,k2⟩:=r1.get z1;obtain⟨v2,k3,k4⟩:=r2.get z2;have w1:=q1 xs (q09 (s1.trans s2) h1);have w2:=q2 ys (q09 (s1.trans s2) h2);rw [k1] at w1;cases w1;rw [k3] at w2;cases w2;have gn:Grow F' H (upd F' p (.tup [x1,y1])) (upd H p (.tup [x1,y1])):=Grow.new s2 hp;exact⟨_,gn,rep_tup.mpr ⟨p,_,rfl,SqT.of qr,.cons ((k2.mono s1).mono gn.ff) (.cons ((k4.mono s1).mono gn.ff) .nil)⟩⟩
 stop:=fun i F' H s1 s2 hi=>by
  unfold q52 at hi;rw [g2s] at hi;refine⟨xs,ys,q09 (s1.trans s2) h1,q09 (s1.trans s2) h2,?_⟩;rw [<- r1.length, <- r2.length];lia
section
variable{X:Cx}{pos:Pos}{elts:List Expr}{x1:Nat}{tp:Pos}
def qu1(K:Frag)(ta:TA): TI:=fun σ H R=>ta σ H fun vs H1=>∃b1 a1 xs b2 a2 ys,vs=[.ref a1,.ref a2]/\Sq b1 K H1 a1 xs/\Sq b2 K H1 a2 ys/\R (Itz K b1 a1 b2 a2) H1
theorem qid:bootBuiltins "zip" = some (.type "zip"):=by decide +kernel
theorem qr3{a b:Expr}{ta:TA}{p:Pos}(hg:Gl X "zip")(hm:X.mg "zip" = none)(ha:PA X [a,b] ta)(hs:starEach [a,b] X.env=[(false,eval a X.env),(false,eval b X.env)]:=by rfl)(hs2:starEach [b] X.env=[(false,eval b X.env)]:=by rfl):
  PI X (.Tuple elts x1 tp) (.Call (.Name "zip" p) [a,b] [] pos) (qu1 X.K ta):=by
 intro pins s σ H R I h;refine Call_ (q16 I hg hm qid (g1k (thn (ha pos pins s σ H _ I h) fun us s1 ⟨vs,H1,I1,r1,q1⟩=>?_) (by rw [hs,hs2]) (by rw [hs2];rfl)));obtain⟨b1,a1,xs,b2,a2,ys,rfl,k1,k2,q⟩:=q1;obtain⟨u1,u2,rfl,e1,e2⟩:=r1.two;cases e1;cases e2;obtain⟨its1,v1,o1⟩:=q5x I1 k1;obtain⟨its2,v2,o2⟩:=q5x I1 k2;refine callType_new F.called_zip (by decide) (F.typeCall_zip_2 _ _) (F.newCall_zip_2 _ _) (fun obj=>F.args_object_init_3 obj _ _) F.entry_zip_new (qfy b1 b2 a1 a2 its1.toArray its2.toArray) ⟨o1,o2,?_⟩;have z1:(zh1 b1 s1.heap a1).objs.size=s1.heap.objs.size+1:=t6 ..;have z2:(zh2 b1 b2 s1.heap a1 a2).objs.size=s1.heap.objs.size+2:=by unfold zh2;rw [t6,z1]
 have z3:(zh3 b1 b2 s1.heap a1 a2).objs.size=s1.heap.objs.size+3:=by unfold zh3;rw [t6,z2]
 have z4:(zh4 b1 b2 s1.heap a1 a2).objs.size=s1.heap.objs.size+4:=by unfold zh4;rw [t6,z3]
 have g5:(zh5 b1 b2 s1.heap a1 a2).get? (zh4 b1 b2 s1.heap a1 a2).objs.size=some {cls:=.type "zip",data:=.fields #[.none,.bool false,.bool false,.ref (zh2 b1 b2 s1.heap a1 a2).objs.size,.ref (zh3 b1 b2 s1.heap a1 a2).objs.size]}:=gf _ rfl;have g4:(zh5 b1 b2 s1.heap a1 a2).get? (zh3 b1 b2 s1.heap a1 a2).objs.size=some {cls:=.type "tuple",data:=.seq #[.none,.none]}:=gd _ (gf _ rfl);have g3:(zh5 b1 b2 s1.heap a1 a2).get? (zh2 b1 b2 s1.heap a1 a2).objs.size=some {cls:=.type "tuple",data:=.seq #[.ref s1.heap.objs.size,.ref (zh1 b1 s1.heap a1).objs.size]}:=gd _ (gd _ (gf _ rfl));have g2:(zh5 b1 b2 s1.heap a1 a2).get? (zh1 b1 s1.heap a1).objs.size=some {cls:=.type (itN b2),data:=.fields #[.ref a2,.int 0 0]}:=gd _ (gd _ (gd _ (gf _ rfl)));have g1:(zh5 b1 b2 s1.heap a1 a2).get? s1.heap.objs.size=some {cls:=.type (itN b1),data:=.fields #[.ref a1,.int 0 0]}:=gd _ (gd _ (gd _ (gd _ (gf _ rfl))));have kp:∀c o,s1.heap.get? c=some o->(zh5 b1 b2 s1.heap a1 a2).get? c=some o:=fun c o e=>gd _ (gd _ (gd _ (gd _ (gd _ e))));have I2:Inv X pins σ H1 {s1 with heap:=zh5 b1 b2 s1.heap a1 a2}:=I1.kept (t':=s1.toks) kp;refine⟨⟨_,g5,rfl⟩,wpAny_pyIter_zip g5 ?_⟩;refine⟨_,_,_,_,H1,rfl,I2,qkx (b1:=b1) (b2:=b2) (a1:=a1) (a2:=a2) (i1:=s1.heap.objs.size) (i2:=(zh1 b1 s1.heap a1).objs.size) ?_,⟨g5,g3,⟨_,_,g4⟩,⟨_,g1,rfl,rfl⟩,⟨_,g2,rfl,rfl⟩⟩,fun c hc=>?_,q⟩
 ·constructor <;> (first|exact m5 (by lia)|exact tu (by lia))
 ·have hge:s1.heap.objs.size<=c:=by
   simp only [mm,g0h,g2d] at hc;rcases hc with rfl|rfl|rfl|rfl|rfl <;> lia
  exact I1.fpOk hge (I1.hok.fresh hge)
def qky(fa:FA): FA:=fun ρ =>(fa ρ).bind fun ds=>match ds with
 | [x,y]=>(q6u x).bind fun xs=>(q6u y).map fun ys=>q52 xs ys
 | _=>none
theorem qey{K:Frag}{F:Hp}{d:D}{ds:List D}{v:V}(h:q6u d=some ds)(r:Rep K F d v): ∃b a xs,v=.ref a/\Sq b K F a xs/\RepL K F ds xs:=by
 cases d <;> simp only [q6u] at h <;> first|(cases h;done)|skip
 ·cases h
  obtain⟨a,xs,rfl,h3,h4⟩:=rep_tup.mp r;exact⟨false,a,xs,rfl,h3,h4⟩
 ·cases h
  obtain⟨a,xs,rfl,h3,h4⟩:=rep_lst.mp r;exact⟨true,a,xs,rfl,h3,h4⟩
theorem qr4{a b:Expr}{fa:FA}{p:Pos}(hg:Gl X "zip")(hm:X.mg "zip" = none)(ha:PA X [a,b] (tDA X.K fa))(hs:starEach [a,b] X.env=[(false,eval a X.env),(false,eval b X.env)]:=by rfl)(hs2:starEach [b] X.env=[(false,eval b X.env)]:=by rfl):
  PI X (.Tuple elts x1 tp) (.Call (.Name "zip" p) [a,b] [] pos) (tDI X.K (qky fa)):=q4y (qr3 hg hm ha hs hs2) fun σ H R ⟨F0,H0,F, ρ,ds,r,hf,q⟩=>by
 obtain⟨es,h1,h2⟩:=gc.mp hf;refine⟨F0,H0,F, ρ,es,r,h1,fun vs F' H' g' r'=>?_⟩
 split at h2
 ·rename_i x y
  obtain⟨xs,k1,h2⟩:=gc.mp h2;obtain⟨ys,k2,h2⟩:=m8.mp h2;subst h2;obtain⟨v1,t,rfl,e1,e2⟩:=r'.cons_inv;obtain⟨v2,t2,rfl,e3,e4⟩:=e2.cons_inv;cases e4.nil_inv;obtain⟨b1,a1,us,rfl,s1,l1⟩:=qey k1 e1;obtain⟨b2,a2,ws,rfl,s2,l2⟩:=qey k2 e3;exact⟨b1,a1,us,b2,a2,ws,rfl,q09 g'.fh s1,q09 g'.fh s2,q _ F' H' g' (qnz s1 s2 l1 l2)⟩
 ·cases h2
end
section
variable{X:Cx}{e:Expr}{es:List Expr}{kws:List Keyword}{pos:Pos}{f g:FE}{fa fk:FA}
def qu2(n m:Nat)(fa fk:FA): FA:=fun ρ =>(fa ρ).bind fun ds=>(fk ρ).bind fun es=>if ds.length=n/\es.length=m then some (ds++es) else none
def qt3(ar:Nat)(op:List D->Option D): List D->Option D:=fun ds=>if ds.length=ar then op ds else none
end
structure Cal(P:Program)(w:World)(K:Frag)(mg:Str->Option Value)(base:Heap)(x:Str)(k:Nat)(ps:List Str)(ar:Nat)(op:List D->Option D)(fn:Addr)(fd:FuncData): Prop where
 ok:FnOk P w K mg base CX0 k fn fd ps (spD K ar op)
 mg:mg x=some (.ref fn)
 kp:PySem.W.keepIn K (.ref fn)=true
section
variable{X:Cx}{e:Expr}{es:List Expr}{kws:List Keyword}{pos p:Pos}{fa fk:FA}{k ar k':Nat}{fn:Addr}{fd:FuncData}{ps ks:List Str}{op:List D->Option D}{x:Str}
theorem z0(C:Cal X.prog X.w X.K X.mg X.base x k ps ar op fn fd)(b:Binds X.K fd ps [])(hr:Room k' X.A)(hk:k<=k')(hg:Gl X x)(ha:PA X (e :: es) (tDA X.K fa))(hdb:(x==("__debug__" : Str))=false:=by decide)
  (he:starEach (e :: es) X.env=(false,eval e X.env) :: starEach es X.env:=by rfl) (hpl:(backTo pos (starEach es X.env)).any (·.1)=false:=by rfl):PE X (.Call (.Name x p) (e :: es) [] pos) (tD X.K (qj (qq ar [] op) fa)):=
 qnv C.ok (hr.mono hk) hg C.mg C.kp b .nil (fun H=>.nil) ha hdb he hpl
def q8u:D->Option D
 | .int i=>some (.int (-i))
 | _=>none
theorem qr5{f:FE}(ha:PE X e (tD X.K f)): PE X (.UnaryOp .USub e pos) (tD X.K (eUn q8u f)):=by
 intro pins s σ H Q I h;obtain⟨F0,H0,F, ρ,d,r,hf,q⟩:=h;obtain⟨d',h1,h2⟩:=gc.mp hf;cases d' <;> simp only [q8u] at h2 <;> first|(cases h2;done)|skip
 cases h2;refine UnaryOp_ (thn (ha pins s σ H (fun v H'=>∃F',Grow F H F' H'/\Rep X.K F' (.int _) v) I ⟨F0,H0,F, ρ,_,r,h1,fun v F' H' g' r'=>⟨F',g',r'⟩⟩) fun v s1 ⟨x,H1,I1,r1,F',g',r'⟩=>?_);cases rep_int.mp r';obtain⟨t,rfl⟩:=r1;exact neg_int ⟨.int _,H1,I1.tok _,⟨_,rfl⟩,q _ F' H1 g' (rep_int.mpr rfl)⟩
end
structure Fun2(K:Frag)(x qual:Str)(st:Stmt)(dV:Value)(f:Addr)(fd:FuncData): Prop where
 ex:∃(oc:Value) (od:Option Addr) (kV doc pm:Value) (an:Option Addr) (cdv ct:Value) (osl:Array (Option Value)),
  fd=PySem.W.fnOf x qual (vf st) (qt st) (qd st) dV kV doc pm an cdv ct/\K.lookup f=some ⟨oc,od,.func fd,osl⟩/\PySem.W.codeIn K cdv qual=true
 kp:PySem.W.keepIn K (.ref f)=true
section
variable{P:Program}{w:World}{K:Frag}{mg:Str->Option Value}{base:Heap}{x qual:Str}{st:Stmt}{dV:Value}{f:Addr}{fd:FuncData}{N ps:List Str}
theorem Fun2.ok{k:Nat}{u:FS}(F:Fun2 K x qual st dV f fd)(S:FnScope N ps (qd st))
  (hb:∀(cdv:Value) (A:Around) (outer:List Env) (s:Shared) (H:Hp) (E:XK),Room k (A.deeper (envOfC qual (qd st) s.heap.objs.size f cdv))->PSs (zr CX0 P w K mg base N qual (qd st) f cdv A outer s H E).nox (qt st) (tDS K u)) :
  FnOk P w K mg base CX0 (k+1) f fd ps (spD K ps.length (za N.length u)):=by
 obtain⟨oc,od,kV,doc,pm,an,cdv,ct,osl,rfl,lk,hcd⟩:=F.ex;exact qmy lk hcd S fun A outer s H E hr=>hb cdv A outer s H E hr
theorem Fun2.okn{k n ar k1:Nat}{u:FS}(F:Fun2 K x qual st dV f fd)(S:FnScope N ps (qd st))(hn:N.length=n)(ha:ps.length=ar)(hk:k+1=k1)
  (hb:∀(cdv:Value) (A:Around) (outer:List Env) (s:Shared) (H:Hp) (E:XK),Room k (A.deeper (envOfC qual (qd st) s.heap.objs.size f cdv))->PSs (zr CX0 P w K mg base N qual (qd st) f cdv A outer s H E).nox (qt st) (tDS K u)) :
  FnOk P w K mg base CX0 k1 f fd ps (spD K ar (za n u)):=by
 subst hn ha hk;exact F.ok S hb
theorem q8v{oc:Value}{od an:Option Addr}{osl:Array (Option Value)}{kV doc pm cdv ct:Value}(l:K.lookup f=some ⟨oc,od,.func (PySem.W.fnOf x qual (vf st) (qt st) (qd st) dV kV doc pm an cdv ct),osl⟩)
  (c:PySem.W.codeIn K cdv qual=true) (k:PySem.W.keepIn K (.ref f)=true):Fun2 K x qual st dV f (PySem.W.fnOf x qual (vf st) (qt st) (qd st) dV kV doc pm an cdv ct):=⟨⟨oc,od,kV,doc,pm,an,cdv,ct,osl,rfl,l,c⟩,k⟩
theorem Fun2.bindsTo(F:Fun2 K x qual st dV f fd){P:FuncData->Prop}(h:∀(kV doc pm:Value) (an:Option Addr) (cdv ct:Value),P (PySem.W.fnOf x qual (vf st) (qt st) (qd st) dV kV doc pm an cdv ct)): P fd:=by
 obtain⟨oc,od,kV,doc,pm,an,cdv,ct,osl,rfl,lk,hcd⟩:=F.ex;exact h kV doc pm an cdv ct
end
def qau(K:Frag): Sp:=fun vs H Q _=>∃(a:Addr) (ns:List Int) (F:Hp),vs=[.ref a]/\SameT F H/\SqL K F a (ns.map V.int)/\ns.length<=63/\∀H',Q (.bl true) H'
theorem qr6{P:Program}{w:World}{K:Frag}{mg:Str->Option Value}{base:Heap}{k:Nat}{f:Addr}{fd:FuncData}{x:Str}{op:List D->Option D}(F:FnOk P w K mg base CX0 k f fd [x] (spD K 1 op))(h:∀ns:List Int,ns.length<=63->op [.lst (ns.map .int)]=some (.bl true)):
  FnOk P w K mg base CX0 k f fd [x] (qau K):=F.imp fun vs H Q E ⟨a,ns,Fz,e,fz,hS,hl,q⟩=>by
 subst e;exact⟨Fz,[.lst (ns.map .int)],.bl true,fz,.cons (rep_lst.mpr ⟨a,_,rfl,hS,RepL.ints.mpr rfl⟩) .nil,rfl,h ns hl,fun v F' H' g' r'=>by rw [rep_bl.mp r'];exact q H'⟩
section
variable{X:Cx}{pos:Pos}{f g:FE}{a b:Expr}
abbrev oLt':=oLt
theorem qr7:OpR X (compareOp .Lt) (rD X.K oLt'):=qsv
end
section
variable{X:Cx}{pos:Pos}{f g k:FE}{a b c:Expr}
theorem q8w{pins:List (Addr×Obj)}{σ : St}{H:Hp}{s:Shared}(I:Inv X pins σ H s): sysModules<s.heap.objs.size:=
 Nat.lt_trans (by decide) (I.mod.glob.keeps I.bk).lt
def q5y:D->D->Bool
 | .non,.non=>true
 | .bl a,.bl b=>a==b
 | _,_=>false
def oIs(neg:Bool): D->D->Option D
 | x,.non=>some (.bl (if neg then !q5y x .non else q5y x .non))
 | x,.bl b=>some (.bl (if neg then !q5y x (.bl b) else q5y x (.bl b)))
 | _,_=>none
theorem qkz{M:Model}{A:Around}{E:Value->Shared->Prop}{s:Shared}{Q:Value->Shared->Prop}{v:Value}{c:Bool}(hv:∀id,v ≠ .builtin id)(h:Q (.bool (!(v == .bool c))) s): wpAny M A (compareOp .IsNot v (.bool c)) Q E s:=by
 cases v <;> first|exact g9 h|exact absurd rfl (hv _)
theorem qr8{K:Frag}{F:Hp}{d:D}{x:V}{v:Value}(r:Rep K F d x)(rv:RelV x v): ∀id,v ≠ .builtin id:=by
 intro id;cases d with
 | non=>cases rep_non.mp r;cases rv;intro z;cases z
 | bl b=>cases rep_bl.mp r;cases rv;intro z;cases z
 | int i=>cases rep_int.mp r;obtain⟨t,rfl⟩:=rv;intro z;cases z
 | str i=>cases rep_str.mp r;obtain⟨t,rfl⟩:=rv;intro z;cases z
 | tup ds=>obtain⟨p,xs,rfl,_⟩:=rep_tup.mp r;cases rv;intro z;cases z
 | lst ds=>obtain⟨p,xs,rfl,_⟩:=rep_lst.mp r;cases rv;intro z;cases z
 | dct ks vs=>obtain⟨p,xs,rfl,_⟩:=rep_dct.mp r;cases rv;intro z;cases z
 | dtt ks vs=>obtain⟨p,xs,ys,ep,rfl,_⟩:=rep_dtt.mp r;cases rv;intro z;cases z
 | obj C=>obtain⟨p,dx,_,rfl,_⟩:=rep_obj.mp r;cases rv;intro z;cases z
 | exc C=>obtain⟨p,_,rfl,_⟩:=rep_exc.mp r;cases rv;intro z;cases z
theorem ql0{K:Frag}{F:Hp}{d:D}{x:V}{v:Value}(r:Rep K F d x)(rv:RelV x v): (v==Value.none)=q5y d .non:=by
 cases d with
 | non=>cases rep_non.mp r;cases rv;rfl
 | bl b=>cases rep_bl.mp r;cases rv;rfl
 | int i=>cases rep_int.mp r;obtain⟨t,rfl⟩:=rv;rfl
 | str i=>cases rep_str.mp r;obtain⟨t,rfl⟩:=rv;rfl
 | tup ds=>obtain⟨p,xs,rfl,_⟩:=rep_tup.mp r;cases rv;rfl
 | lst ds=>obtain⟨p,xs,rfl,_⟩:=rep_lst.mp r;cases rv;rfl
 | dct ks vs=>obtain⟨p,xs,rfl,_⟩:=rep_dct.mp r;cases rv;rfl
 | dtt ks vs=>obtain⟨p,xs,ys,ep,rfl,_⟩:=rep_dtt.mp r;cases rv;rfl
 | obj C=>obtain⟨p,dx,_,rfl,_⟩:=rep_obj.mp r;cases rv;rfl
 | exc C=>obtain⟨p,_,rfl,_⟩:=rep_exc.mp r;cases rv;rfl
theorem qo0{K:Frag}{F:Hp}{d:D}{x:V}{v:Value}{c:Bool}(r:Rep K F d x)(rv:RelV x v): (v==Value.bool c)=q5y d (.bl c):=by
 cases d with
 | non=>cases rep_non.mp r;cases rv;rfl
 | bl b=>cases rep_bl.mp r;cases rv;cases b <;> cases c <;> rfl
 | int i=>cases rep_int.mp r;obtain⟨t,rfl⟩:=rv;rfl
 | str i=>cases rep_str.mp r;obtain⟨t,rfl⟩:=rv;rfl
 | tup ds=>obtain⟨p,xs,rfl,_⟩:=rep_tup.mp r;cases rv;rfl
 | lst ds=>obtain⟨p,xs,rfl,_⟩:=rep_lst.mp r;cases rv;rfl
 | dct ks vs=>obtain⟨p,xs,rfl,_⟩:=rep_dct.mp r;cases rv;rfl
 | dtt ks vs=>obtain⟨p,xs,ys,ep,rfl,_⟩:=rep_dtt.mp r;cases rv;rfl
 | obj C=>obtain⟨p,dx,_,rfl,_⟩:=rep_obj.mp r;cases rv;rfl
 | exc C=>obtain⟨p,_,rfl,_⟩:=rep_exc.mp r;cases rv;rfl
theorem ql1(_hc:X.calm=true): OpR X (compareOp .IsNot) (rD X.K (oIs true)):=fun pins s σ H x y v u Q I rx ry ⟨F,d1,d2,d,q1,q2,q3,q4,q5⟩=>by
 cases d2 <;> simp only [oIs] at q4 <;> first|(cases q4;done)|skip
 ·cases rep_non.mp q3
  cases ry;refine isnot_none_gen ⟨.bl _,H,I,rfl,?_⟩;rw [ql0 q2 rx];cases q4;exact q5 _ F H (.refl q1) (rep_bl.mpr rfl)
 ·cases rep_bl.mp q3
  cases ry;refine qkz (qr8 q2 rx) ⟨.bl _,H,I,rfl,?_⟩;rw [qo0 q2 rx];cases q4;exact q5 _ F H (.refl q1) (rep_bl.mpr rfl)
end
theorem q8x:fillsNumberSlot (.type "tuple") "mul" = pure false:=
 PySem.fillsNumberSlot_seq (id:="tuple.__mul__") (r:=some (.builtin "tuple.__rmul__")) g2n.lookup (by decide +kernel) F.slot_tuple_rmul.lookup (by decide +kernel)
theorem qfz:seqRepeat? (.type "tuple")=pure (some (.builtin "tuple.__mul__")):=by
 unfold seqRepeat?;rw [PySem.seqSlot_of (T:="tuple") (name:="__mul__") g2n.lookup (by decide +kernel),PySem.seqSlot_of (T:="tuple") (name:="__rmul__") F.slot_tuple_rmul.lookup (by decide +kernel)]
 rfl
theorem ql2(i:Int)(t:Tok)(l:Addr)(xs:Array Value)(n:Nat)(dd:Option Addr)(sl:Array (Option Value)):
  Meets (Builtin.«int.__rmul__» ⟨[.int i t,.ref l],[]⟩) (fun _ R s=>s.heap.get? l=some {cls:=.type "tuple",dict:=dd,data:=.seq xs n,slots:=sl}/\R (.ok (.ret Value.notImplemented)) s):=
 .of_wp fun prog w A R s h=>by
  obtain⟨hp,g,d,tk,os⟩:=s;obtain⟨hl,h⟩:=h
  wp_walk
  exact⟨_,rfl,h⟩
theorem qbp(i:Int)(t:Tok)(l:Addr)(xs:Array Value)(n:Nat)(dd:Option Addr)(sl:Array (Option Value))(h0:¬(decide (i < -(2 ^ 63)) || decide (i>=2 ^ 63))=true)(h1:(xs.isEmpty || i==1)=true):
  Meets (Builtin.«tuple.__mul__» ⟨[.ref l,.int i t],[]⟩) (fun _ R s=>s.heap.get? l=some {cls:=.type "tuple",dict:=dd,data:=.seq xs n,slots:=sl}/\R (.ok (.ret (.ref l))) s):=
 .of_wp fun prog w A R s h=>by
  obtain⟨hp,g,d,tk,os⟩:=s;obtain⟨hl,h⟩:=h;have f1:=g5z;have f2:=g20
  wp_walk using g0m hl
  refine g4o (p9 h0) ?_
  wp_walk using g0m hl
  exact⟨_,rfl,h⟩
theorem qbq(i:Int)(t:Tok)(l:Addr)(xs:Array Value)(n:Nat)(dd:Option Addr)(sl:Array (Option Value))(h0:¬(decide (i < -(2 ^ 63)) || decide (i>=2 ^ 63))=true)(h1:¬(xs.isEmpty || i==1)=true)(h2:(decide (i<=0) || xs.isEmpty)=true):
  Meets (Builtin.«tuple.__mul__» ⟨[.ref l,.int i t],[]⟩) (fun _ R s=>s.heap.get? l=some {cls:=.type "tuple",dict:=dd,data:=.seq xs n,slots:=sl}/\R (.ok (.ret (.ref s.heap.objs.size))) {s with heap:=s.heap.push {cls:=.type "tuple",data:=.seq #[]} }):=
 .of_wp fun prog w A R s h=>by
  obtain⟨hp,g,d,tk,os⟩:=s;obtain⟨hl,h⟩:=h;have f1:=g5z;have f2:=g20
  wp_walk using g0m hl
  refine g4o (p9 h0) ?_
  wp_walk using g0m hl
  exact⟨_,rfl,h⟩
theorem qbr(i:Int)(t:Tok)(l:Addr)(xs:Array Value)(n:Nat)(dd:Option Addr)(sl:Array (Option Value))(h0:¬(decide (i < -(2 ^ 63)) || decide (i>=2 ^ 63))=true)(h1:¬(xs.isEmpty || i==1)=true)(h2:¬(decide (i<=0) || xs.isEmpty)=true)
  (h3:¬((xs.size:Int)*i>(2 ^ 63-1) / 8)) (h4:¬Builtin.Tuple.tupleTooMany ((xs.size:Int)*i)=true) (h5:((List.replicate i.toNat xs).foldl (· ++ ·) #[]).size<=sizeLine) :
  Meets (Builtin.«tuple.__mul__» ⟨[.ref l,.int i t],[]⟩) (fun _ R s=>s.heap.get? l=some {cls:=.type "tuple",dict:=dd,data:=.seq xs n,slots:=sl}/\R (.ok (.ret (.ref s.heap.objs.size))) {s with heap:=s.heap.push {cls:=.type "tuple",data:=.seq ((List.replicate i.toNat xs).foldl (· ++ ·) #[])} }):=
 .of_wp fun prog w A R s h=>by
  obtain⟨hp,g,d,tk,os⟩:=s;obtain⟨hl,h⟩:=h;have f1:=g5z;have f2:=g20
  wp_walk using g0m hl
  refine g4o (p9 h0) ?_
  wp_walk using g0m hl
  refine g4o (p9 h3) ?_
  wp_walk using g0m hl
  exact⟨_,rfl,h⟩
theorem qbs(xs:Array Value): ∀(n:Nat) (acc:Array Value),((List.replicate n xs).foldl (· ++ ·) acc).toList=acc.toList++(List.replicate n xs.toList).flatten
 | 0,acc=>by simp
 | n+1,acc=>by
  rw [g1f,g69,qbs xs n (acc++xs),g1f,g2g,t7,n8]
theorem q9p(xs:List Value)(n:Nat): (List.replicate n xs.toArray).foldl (· ++ ·) #[]=(List.replicate n xs).flatten.toArray:=by
 apply Array.toList_inj.mp;rw [qbs];simp
section
variable{prog:Program}{w:World}{A:Around}{E:Value->Shared->Prop}{s:Shared}
theorem qo1{t:Addr}{vs:List Value}{i:Int}{u:Tok}{Q:Value->Shared->Prop}(ht:IsTup s.heap t vs.toArray)(h0 : -(2 ^ 62)<i)(h1:i<2 ^ 62)(hz:vs.length*i.toNat<=1000000)
  (q1:(vs=[]\/i=1)->Q (.ref t) s) (q2:¬(vs=[]\/i=1)->Q (.ref s.heap.objs.size) {s with heap:=s.heap.push {cls:=.type "tuple",data:=.seq (List.replicate i.toNat vs).flatten.toArray} }) :
  wpAny (model prog w) A (binaryOp .Mult (.ref t) (.int i u)) Q E s:=by
 obtain⟨⟨cls,dd,data,sl⟩,ho,hc,n,hd⟩:=id ht;simp only at hc hd;subst hc hd;have ty:s.TypeIs (.ref t) "tuple" :=⟨_,ho,rfl⟩
 have b0:¬(decide (i < -(2 ^ 63)) || decide (i>=2 ^ 63))=true:=by
  simp only [g17,ud,g6j]
  constructor <;> lia
 refine wpAny_binaryOp_repeat_ref (T:="tuple") (U:="int") (by decide) ty (fun s'=>typeIs_int s' i u) q8x F.fills_int_mul F.slot_int_rmul qfz F.slot_int_index.lookup
  (g4l F.slot_int_rmul (typeIs_int s i u) F.entry_int_rmul (F.args_int_rmul_2 _ _) (ql2 i u t vs.toArray n dd sl) ⟨ho,rfl,ty,?_⟩)
 have em:vs.toArray.isEmpty=true↔vs=[]:=by simp
 by_cases c1:(vs.toArray.isEmpty || i==1)=true
 ·have c1':vs=[]\/i=1:=by simpa using c1
  exact g4l g2n ty g5i (g56 _ _) (qbp i u t vs.toArray n dd sl b0 c1) ⟨ho,q1 c1'⟩
 ·have c1':¬(vs=[]\/i=1):=by simpa using c1
  have q:=q2 c1'
  by_cases c2:(decide (i<=0) || vs.toArray.isEmpty)=true
  ·have i0:i<=0:=by
    rcases g17 _ _ ▸ c2 with z|z
    ·exact g0j z
    ·exact absurd (.inl (em.mp z)) c1'
   have e:(List.replicate i.toNat vs).flatten.toArray = #[]:=by
    rw [show i.toNat=0 by lia];rfl
   rw [e] at q;exact g4l g2n ty g5i (g56 _ _) (qbq i u t vs.toArray n dd sl b0 c1 c2) ⟨ho,q⟩
  ·have c2':0<i:=by
    have:¬i<=0:=fun z=>c2 (by rw [nk z];rfl);lia
   have ei:(vs.toArray.size:Int)*i=((vs.length*i.toNat:Nat):Int):=by
    rw [Int.natCast_mul,g2t (by lia),gv]
   have el:(List.replicate i.toNat vs).flatten.length=vs.length*i.toNat:=by
    rw [List.length_flatten,List.map_replicate,g6c,Nat.mul_comm]
   rw [<- q9p] at q;refine g4l g2n ty g5i (g56 _ _) (qbr i u t vs.toArray n dd sl b0 c1 c2 ?_ ?_ ?_) ⟨ho,q⟩
   ·rw [ei];lia
   ·rw [ei]
    unfold Builtin.Tuple.tupleTooMany;have:sizeLine=16777216:=g2b;rw [this,ud];lia
   ·rw [q9p,gv,el]
    exact ja hz
end
section
variable{X:Cx}
def ql3:D->D->Option D
 | .tup xs,.int n=>if decide (-(2 ^ 62)<n)&&decide (n<2 ^ 62)&&decide (xs.length*n.toNat<=lim) then some (.tup (List.replicate n.toNat xs).flatten) else none
 | _,_=>none
theorem qbt{xs:List V}{us:List Value}(r:Vals xs us): ∀n:Nat,Vals (List.replicate n xs).flatten (List.replicate n us).flatten
 | 0=>.nil
 | n+1=>by rw [g1f,g1f,g2g,g2g];exact r.append (qbt r n)
theorem qbu{K:Frag}{H:Hp}{ds:List D}{xs:List V}(r:RepL K H ds xs): ∀n:Nat,RepL K H (List.replicate n ds).flatten (List.replicate n xs).flatten
 | 0=>.nil
 | n+1=>by rw [g1f,g1f,g2g,g2g];exact r.append (qbu r n)
theorem qr9:OpR X (binaryOp .Mult) (rD X.K ql3):=fun pins s σ H x y v u Q I rx ry ⟨F,d1,d2,d,q1,q2,q3,q4,q5⟩=>by
 unfold ql3 at q4
 split at q4
 ·rename_i ds n
  split at q4
  ·rename_i hc
   cases q4;simp only [m9,ud] at hc;obtain⟨⟨c1,c2⟩,c3⟩:=hc;obtain⟨p,xs,rfl,z1,z2⟩:=rep_tup.mp q2;cases rep_int.mp q3;cases rx;obtain⟨t,rfl⟩:=ry;obtain⟨its,r1,p1,hz⟩:=I.tuple (qk q1 z1);have lx:=r1.length;have ld:=z2.length;refine qo1 p1 c1 c2 (by rw [<- lx, <- ld];exact c3) (fun hq=>?_) fun hq=>?_
   ·have e:(List.replicate n.toNat ds).flatten=ds:=by
     rcases hq with z|z
     ·have:ds=[]:=g3o.mp (by rw [ld,lx,z];rfl)
      subst this;simp
     ·subst z;simp [List.replicate]
    rw [e] at q5;exact⟨.ref p,H,I,rfl,q5 _ F H (.refl q1) q2⟩
   ·have hn:H s.heap.objs.size=none:=I.hok.fresh (gw _)
    have rr:=qbt r1 n.toNat;have el:(List.replicate n.toNat xs).flatten.length=ds.length*n.toNat:=by
     rw [List.length_flatten,List.map_replicate,g6c,Nat.mul_comm,ld]
    refine⟨.ref s.heap.objs.size,_,I.laid (t':=s.toks) (o:=.tup (List.replicate n.toNat xs).flatten) (fun b ob q=>gd _ q) (gw _) ⟨by rw [el];exact ja c3,_,rr,TupX.new _ _⟩,rfl,?_⟩;have gn:=Grow.new (o:=.tup (List.replicate n.toNat xs).flatten) q1 hn;exact q5 _ _ _ gn (rep_tup.mpr ⟨_,_,rfl,SqT.of qr,(qbu z2 n.toNat).mono gn.ff⟩)
  ·cases q4
 ·cases q4
def ji:D->D->Option D:=fun x y=>(oMul x y).or (ql3 x y)
theorem vc:OpR X (binaryOp .Mult) (rD X.K ji):=qb8 qqq qr9
end
section
variable{prog:Program}{w:World}{A:Around}{E:Value->Shared->Prop}{s:Shared}
end
section
variable{X:Cx}{pos:Pos}{elts:List Expr}{x1:Nat}{tp:Pos}
end
section
variable{X:Cx}{st:Stmt}
abbrev oBand:=oI (fun _ _=>true) fun i j=>Builtin.bitAnd i j
theorem qo2:OpR X (binaryOp .BitAnd) (rD X.K oBand):=qb9 qqb
theorem q53:∀ {l m:List Int},l.Perm m->l.Pairwise (· <= ·)->m.Pairwise (· <= ·)->l=m
 | [],m,p,_,_=>(p.nil_eq).symm ▸ rfl
 | x :: l,[],p,_,_=>by cases p.length_eq
 | x :: l,y :: m,p,.cons h1 h2,.cons k1 k2=>by
  have e:x=y:=by
   have hx:x∈y :: m:=p.mem_iff.mp gq;have hy:y∈x :: l:=p.mem_iff.mpr gq;rcases mm.mp hx with e|hx
   ·exact e
   ·rcases mm.mp hy with e|hy
    ·exact e.symm
    ·exact Int.le_antisymm (h1 y hy) (k1 x hx)
  subst e;rw [q53 (List.perm_cons _ |>.mp p) h2 k2]
theorem q17:∀ {us:List Value} {ns:List Int},IntsAre us ns->Vals (ns.map V.int) us
 | _,_,.nil=>.nil
 | _,_,.cons n t h=>.cons ⟨t,rfl⟩ (q17 h)
theorem boot_sorted:bootBuiltins "sorted" = some (.builtin "sorted"):=by decide +kernel
end
section
variable{X:Cx}{pins:List (Addr×Obj)}{σ : St}{F H:Hp}{s:Shared}
end
end DL
namespace DL
open PySem PyProof.Rows L2
def rkD:D->Nat
 | .int _=>0
 | .tup _=>1
 | _=>2
mutual
def q01:D->D->Ordering
 | .int i,.int j=>if i<j then .lt else if j<i then .gt else .eq
 | .tup ds,.tup es=>q0i ds es
 | d,e=>if rkD d<rkD e then .lt else if rkD e<rkD d then .gt else .eq
def q0i:List D->List D->Ordering
 | [],[]=>.eq
 | [],_ :: _=>.lt
 | _ :: _,[]=>.gt
 | d :: ds,e :: es=>match q01 d e with
  | .eq=>q0i ds es
  | o=>o
end
def ltT(d e:D): Bool:=(q01 d e).isLT
def wq(ds es:List D): Bool:=(q0i ds es).isLT
mutual
/-- ints, and tuples of such -/
def kD:D->Bool
 | .int _=>true
 | .tup ds=>kDL ds
 | _=>false
def kDL:List D->Bool
 | []=>true
 | d :: ds=>kD d&&kDL ds
end
mutual
/-- where Python compares these two, it meets only ints with ints, tuples with tuples -/
def shD:D->D->Bool
 | .int _,.int _=>true
 | .tup ds,.tup es=>shL ds es
 | _,_=>false
def shL:List D->List D->Bool
 | d :: ds,e :: es=>shD d e&&shL ds es
 | _,_=>true
end
def q54(k:D×D): List (D×D)->List (D×D)
 | []=>[k]
 | y :: r=>if ltT y.1 k.1=true then y :: q54 k r else k :: y :: r
def w8:List (D×D)->List (D×D)
 | []=>[]
 | x :: r=>q54 x (w8 r)
theorem swap3{a b:Nat}: (if a<b then Ordering.lt else if b<a then .gt else .eq).swap=if b<a then .lt else if a<b then .gt else .eq:=by
 by_cases h:a<b
 ·rw [md h,mi (by omega),md h];rfl
 ·by_cases k:b<a
  ·rw [mi h,md k,md k];rfl
  ·rw [mi h,mi k,mi k,mi h];rfl
theorem swap4{a b:Int}: (if a<b then Ordering.lt else if b<a then .gt else .eq).swap=if b<a then .lt else if a<b then .gt else .eq:=by
 by_cases h:a<b
 ·rw [md h,mi (by omega),md h];rfl
 ·by_cases k:b<a
  ·rw [mi h,md k,md k];rfl
  ·rw [mi h,mi k,mi k,mi h];rfl
theorem qbv:∀n,(∀d e:D,sizeOf d<n->q01 e d=(q01 d e).swap)/\(∀ds es:List D,sizeOf ds<n->q0i es ds=(q0i ds es).swap):=by
 intro n
 induction n with
 | zero=>exact⟨fun d e h=>absurd h (u6 _),fun d e h=>absurd h (u6 _)⟩
 | succ n ih=>
  refine⟨fun d e hn=>?_,fun ds es hn=>?_⟩
  ·cases d <;> cases e <;> simp only [q01] <;> first
    | exact swap3.symm
    | exact swap4.symm
    | exact ih.2 _ _ (by simp at hn;omega)
  ·cases ds with
   | nil=>cases es <;> simp only [q0i] <;> rfl
   | cons d ds=>
    cases es with
    | nil=>simp only [q0i];rfl
    | cons e es=>
     simp only [q0i];rw [ih.1 d e (by simp at hn;omega),ih.2 ds es (by simp at hn;omega)];cases q01 d e <;> rfl
theorem cmp_swap(d e:D): q01 e d=(q01 d e).swap:=(qbv (sizeOf d+1)).1 d e (uk _)
theorem q0a(d e:D)(ds es:List D): wq (d :: ds) (e :: es)=(ltT d e || (!ltT e d&&wq ds es)):=by
 unfold wq ltT;rw [cmp_swap d e,q0i];cases q01 d e <;> rfl
theorem q29(ds:List D): wq ds []=false:=by cases ds <;> simp only [wq,q0i] <;> rfl
theorem kg(e:D)(es:List D): wq [] (e :: es)=true:=by simp only [wq,q0i];rfl
theorem lt3{a b:Nat}: (if a<b then Ordering.lt else if b<a then .gt else .eq).isLT=decide (a<b):=by
 by_cases h:a<b
 ·simp [h]
 ·by_cases k:b<a <;> simp [h,k]
theorem lt4{a b:Int}: (if a<b then Ordering.lt else if b<a then .gt else .eq).isLT=decide (a<b):=by
 by_cases h:a<b
 ·simp [h]
 ·by_cases k:b<a <;> simp [h,k]
theorem w9(ds es:List D): ltT (.tup ds) (.tup es)=wq ds es:=by unfold ltT;simp only [q01];rfl
theorem xj(i j:Int): ltT (.int i) (.int j)=decide (i<j):=by unfold ltT;simp only [q01];exact lt4
theorem qbw{d e:D}(h:ltT d e=true): ltT e d=false:=by
 unfold ltT at h ⊢;rw [cmp_swap d e];cases q:q01 d e <;> rw [q] at h <;> first|rfl|(cases h;done)
theorem q0j(d e:D): (∃i j,d=.int i/\e=.int j)\/(∃ds es,d=.tup ds/\e=.tup es)\/ltT d e=decide (rkD d<rkD e):=by
 cases d <;> cases e <;> first
  | (left;exact⟨_,_,rfl,rfl⟩)
  | (right;left;exact⟨_,_,rfl,rfl⟩)
  | (right;right;simp only [ltT,q01];exact lt3)
theorem qg0:∀n,(∀d e f:D,sizeOf d+sizeOf e+sizeOf f<n->ltT e d=false->ltT f e=false->ltT f d=false)/\(∀ds es fs:List D,sizeOf ds+sizeOf es+sizeOf fs<n->wq es ds=false->wq fs es=false->wq fs ds=false):=by
 intro n
 induction n with
 | zero=>exact⟨fun d e f h=>absurd h (u6 _),fun d e f h=>absurd h (u6 _)⟩
 | succ n ih=>
  refine⟨fun d e f hn h k=>?_,fun ds es fs hn h k=>?_⟩
  ·rcases q0j e d with⟨i,j,rfl,rfl⟩|⟨es,ds,rfl,rfl⟩|g1
   ·rcases q0j f (.int i) with⟨i',j',rfl,z⟩|⟨es,ds,rfl,z⟩|g2
    ·cases z
     simp only [xj,g0e] at h k ⊢;omega
    ·cases z
    ·rcases q0j f (.int j) with⟨i',j',rfl,z⟩|⟨es,ds,rfl,z⟩|g3
     ·rw [xj,g0e] at k
      simp only [xj,g0e] at h ⊢;omega
     ·cases z
     ·rw [g3];simp [rkD]
   ·rcases q0j f (.tup es) with⟨i',j',rfl,z⟩|⟨fs,es',rfl,z⟩|g2
    ·cases z
    ·cases z
     simp only [w9] at h k ⊢;exact ih.2 _ _ _ (by simp at hn;omega) h k
    ·rcases q0j f (.tup ds) with⟨i',j',rfl,z⟩|⟨fs,es',rfl,z⟩|g3
     ·cases z
     ·cases z
      simp only [w9] at h k ⊢;exact ih.2 _ _ _ (by simp at hn;omega) h k
     ·rw [g2] at k;rw [g3];exact k
   ·rcases q0j f e with⟨i,j,rfl,rfl⟩|⟨es,ds,rfl,rfl⟩|g2
    ·rcases q0j (.int i) d with⟨i',j',z,rfl⟩|⟨fs,es',z,rfl⟩|g3
     ·cases z
      rw [xj,g0e] at h;simp only [xj,g0e] at k ⊢;omega
     ·cases z
     ·rw [g1] at h;rw [g3];exact h
    ·rcases q0j (.tup es) d with⟨i',j',z,rfl⟩|⟨fs,es',z,rfl⟩|g3
     ·cases z
     ·cases z
      simp only [w9] at h k ⊢;exact ih.2 _ _ _ (by simp at hn;omega) h k
     ·rw [g1] at h;rw [g3];exact h
    ·rcases q0j f d with⟨i,j,rfl,rfl⟩|⟨es,ds,rfl,rfl⟩|g3
     ·rw [g1] at h;rw [g2] at k
      cases e <;> simp [rkD] at h k
      rename_i m;have h':ltT (.int m) (.int j)=false:=by rw [g1];simp [rkD]
      have k':ltT (.int i) (.int m)=false:=by rw [g2];simp [rkD]
      simp only [xj,g0e] at h' k' ⊢;omega
     ·rw [g1] at h;rw [g2] at k
      cases e <;> simp [rkD] at h k
      rename_i ms;have h':ltT (.tup ms) (.tup ds)=false:=by rw [g1];simp [rkD]
      have k':ltT (.tup es) (.tup ms)=false:=by rw [g2];simp [rkD]
      simp only [w9] at h' k' ⊢;exact ih.2 _ _ _ (by simp at hn;omega) h' k'
     ·rw [g1] at h;rw [g2] at k;rw [g3]
      simp only [g0e] at h k ⊢;omega
  ·cases fs with
   | nil=>
    cases es with
    | nil=>exact h
    | cons e es=>rw [kg] at k;cases k
   | cons f fs=>
    cases ds with
    | nil=>rw [q29]
    | cons d ds=>
     cases es with
     | nil=>rw [kg] at h;cases h
     | cons e es=>
      rw [q0a] at h k ⊢;have z1:sizeOf d+sizeOf e+sizeOf f<n:=by simp at hn;omega
      have z2:sizeOf ds+sizeOf es+sizeOf fs<n:=by simp at hn;omega
      have z3:sizeOf e+sizeOf f+sizeOf d<n:=by simp at hn;omega
      have z4:sizeOf f+sizeOf d+sizeOf e<n:=by simp at hn;omega
      simp only [Bool.or_eq_false_iff,g6l,g38] at h k ⊢;obtain⟨h1,h2⟩:=h;obtain⟨k1,k2⟩:=k;refine⟨ih.1 d e f z1 h1 k1,?_⟩;rcases h2 with h2|h2
      ·left
       cases q:ltT d f
       ·-- f <= d and e <= f give e <= d
        have:=ih.1 e f d z3 k1 q;rw [this] at h2;cases h2
       ·rfl
      ·rcases k2 with k2|k2
       ·left
        cases q:ltT d f
        ·have:=ih.1 f d e z4 q h1
         rw [this] at k2;cases k2
        ·rfl
       ·right
        exact ih.2 ds es fs z2 h2 k2
theorem qbx{d e f:D}(h:ltT e d=false)(k:ltT f e=false): ltT f d=false:=(qg0 (sizeOf d+sizeOf e+sizeOf f+1)).1 d e f (uk _) h k
theorem qie:∀n,(∀d e:D,sizeOf d<n->kD d=true->kD e=true->ltT d e=false->ltT e d=false->d=e)/\(∀ds es:List D,sizeOf ds<n->kDL ds=true->kDL es=true->wq ds es=false->wq es ds=false->ds=es):=by
 intro n
 induction n with
 | zero=>exact⟨fun d e h=>absurd h (u6 _),fun d e h=>absurd h (u6 _)⟩
 | succ n ih=>
  refine⟨fun d e hn kd ke h k=>?_,fun ds es hn kd ke h k=>?_⟩
  ·cases d <;> simp only [kD] at kd <;> first|(cases kd;done)|skip
   all_goals (cases e <;> simp only [kD] at ke <;> first|(cases ke;done)|skip)
   ·simp only [xj,g0e] at h k
    congr 1;omega
   ·simp [ltT,q01,rkD] at h
   ·simp [ltT,q01,rkD] at k
   ·simp only [w9] at h k
    rw [ih.2 _ _ (by simp at hn;omega) kd ke h k]
  ·cases ds with
   | nil=>
    cases es with
    | nil=>rfl
    | cons e es=>rw [kg] at h;cases h
   | cons d ds=>
    cases es with
    | nil=>rw [kg] at k;cases k
    | cons e es=>
     rw [q0a] at h k;simp only [kDL,m9] at kd ke;simp only [Bool.or_eq_false_iff,g6l,g38] at h k;have hd:sizeOf d<n:=by simp at hn;omega
     have hds:sizeOf ds<n:=by simp at hn;omega
     have e1:=ih.1 d e hd kd.1 ke.1 h.1 k.1;have e2:=ih.2 ds es hds kd.2 ke.2 (h.2.resolve_left (by rw [k.1];simp)) (k.2.resolve_left (by rw [h.1];simp));rw [e1,e2]
theorem lt_eq{d e:D}(kd:kD d=true)(ke:kD e=true)(h:ltT d e=false)(k:ltT e d=false): d=e:=(qie (sizeOf d+1)).1 d e (uk _) kd ke h k
theorem q55(x:D×D): ∀l,(q54 x l).Perm (x :: l)
 | []=>.refl _
 | y :: r=>by
  unfold q54
  split
  ·exact((q55 x r).cons y).trans (.swap x y r)
  ·exact .refl _
theorem q7z:∀l,(w8 l).Perm l
 | []=>.refl _
 | x :: r=>(q55 x _).trans ((q7z r).cons x)
def leT(x y:D×D): Prop:=ltT y.1 x.1=false
theorem q9q(x:D×D): ∀ {l:List (D×D)},l.Pairwise leT->(q54 x l).Pairwise leT
 | [],_=>.cons (fun _ h=>by cases h) .nil
 | y :: r,.cons h1 h2=>by
  unfold q54
  split
  ·rename_i hxy
   refine .cons (fun z hz=>?_) (q9q x h2);rcases mm.mp ((q55 x r).mem_iff.mp hz) with rfl|hz
   ·exact qbw hxy
   ·exact h1 z hz
  ·rename_i hxy
   have hxy':ltT y.1 x.1=false:=by simpa using hxy
   refine .cons (fun z hz=>?_) (.cons h1 h2);rcases mm.mp hz with rfl|hz
   ·exact hxy'
   ·exact qbx hxy' (h1 z hz)
theorem q80:∀l,(w8 l).Pairwise leT
 | []=>.nil
 | x :: r=>q9q x (q80 r)
theorem qby:∀ {l m:List (D×D)},l.Perm m->l.Pairwise leT->m.Pairwise leT->(∀x∈l,∀y∈l,ltT x.1 y.1=false->ltT y.1 x.1=false->x=y)->l=m
 | [],m,p,_,_,_=>(p.nil_eq).symm ▸ rfl
 | x :: l,[],p,_,_,_=>by cases p.length_eq
 | x :: l,y :: m,p,.cons h1 h2,.cons k1 k2,hu=>by
  have e:x=y:=by
   have hx:x∈y :: m:=p.mem_iff.mp gq;have hy:y∈x :: l:=p.mem_iff.mpr gq;rcases mm.mp hx with e|hx
   ·exact e
   ·rcases mm.mp hy with e|hy'
    ·exact e.symm
    ·exact hu x gq y hy (k1 x hx) (h1 y hy')
  subst e;rw [qby (List.perm_cons _ |>.mp p) h2 k2 (fun a ha b hb=>hu a (gr _ ha) b (gr _ hb))]
theorem q6v{l m:List (D×D)}(p:m.Perm l)(h:m.Pairwise leT)(hu:∀x∈l,∀y∈l,ltT x.1 y.1=false->ltT y.1 x.1=false->x=y): m=w8 l:=
 qby (p.trans (q7z l).symm) h (q80 l) (fun x hx y hy=>hu x (p.mem_iff.mp hx) y (p.mem_iff.mp hy))
end DL
namespace Srt
open PySem PyProof.Rows
structure Cmp(prog:Program)(w:World)(A:Around)(s:Shared)(κ : SortKind)(G:Value->Prop)(lt:Value->Value->Bool): Prop where
 ask:∀x y,G x->G y->∀Q:Bool->Shared->Prop,Q (lt x y) s->wpAny (model prog w) A (keyLt' κ x y) Q (fun _ _=>False) s
 asy:∀x y,lt x y=true->lt y x=false
 tra:∀x y z,lt y x=false->lt z y=false->lt z x=false
abbrev q1j:Bool->Keyed->Array Keyed->Nat->Nat->Nat->StateT SortSt Sem (Option Nat):=sortPriv% PySem.Builtin.gallop
noncomputable def qra(far:Nat->StateT SortSt Sem (Option Bool))(n l0 r0:Nat): StateT SortSt Sem (Option Nat):=do
 let mut l:=l0
 let mut r:=r0
 for _ in [0:n] do
  if l>=r then break
  let c:=l+(r-l) / 2
  let some go <- far c|return none
  if go then l:=c+1 else r:=c
 return some r
noncomputable def ql4(far:Nat->StateT SortSt Sem (Option Bool))(n hi0:Nat): StateT SortSt Sem (Option Nat):=do
 let mut u:=0
 let mut v:=1
 let mut l:=0
 let mut r:=0
 let some rg <- far hi0|return none
 if rg then
  let mo:=n-hi0
  for _ in [0:n] do
   if v>=mo then break
   let some go <- far (hi0+v)|return none
   if !go then break
   u:=v
   v:=2*v+1
  l:=hi0+u+1
  r:=hi0+min v mo
 else
  let mo:=hi0+1
  for _ in [0:n] do
   if v>=mo then break
   let some go <- far (hi0-v)|return none
   if go then break
   u:=v
   v:=2*v+1
  l:=hi0+1-min v mo
  r:=hi0-u
 for _ in [0:n] do
  if l>=r then break
  let c:=l+(r-l) / 2
  let some go <- far c|return none
  if go then l:=c+1 else r:=c
 return some r
noncomputable def qrb(lf:Bool)(ke:Keyed)(xs:Array Keyed)(ba i:Nat): StateT SortSt Sem (Option Bool):=do
 let x <- elem' xs (ba+i)
 if lf then lt' x ke else return (<- lt' ke x).map (!·)
theorem qo3(lf:Bool)(ke:Keyed)(xs:Array Keyed)(ba n hi0:Nat): q1j lf ke xs ba n hi0=ql4 (qrb lf ke xs ba) n hi0:=rfl
section
variable{prog:Program}{w:World}{A:Around}{E:Value->Shared->Prop}{s:Shared}{κ : SortKind}{G:Value->Prop}{lt:Value->Value->Bool}
def kz(p:Option Keyed): Value:=match p with|some p=>p.1|none=>.none
theorem q3j{C:Cmp prog w A s κ G lt}{st:SortSt}{x y:Keyed}{Q:Option Bool->SortSt->Prop}(hk:kindOf st = κ)(gx:G x.1)(gy:G y.1)(h:Q (some (lt x.1 y.1)) st):
  wpS (model prog w) A E s (lt' x y) Q st:=by
 rw [lt'_eq];refine m4 (g3j ?_);rw [hk];exact m4 (wpS_lift (g0y (tq (C.ask _ _ gx gy (fun b s'=>s'=s/\b=lt x.1 y.1) ⟨rfl,rfl⟩) (fun b s' h'=>by
  obtain⟨rfl,rfl⟩:=h';exact⟨rfl,mq h⟩) fun _ _ e=>e.elim)))
theorem zi{st:SortSt}{xs:Array Keyed}{i:Nat}{Q:Keyed->SortSt->Prop}(hi:i<xs.size)(h:Q xs[i] st): wpS (model prog w) A E s (elem' xs i) Q st:=by
 rw [elem'_eq,g21 xs i hi];exact mq h
def far1(lt:Value->Value->Bool)(lf:Bool)(ke x:Keyed): Bool:=if lf then lt x.1 ke.1 else !lt ke.1 x.1
theorem ql5{st:SortSt}{far:Nat->StateT SortSt Sem (Option Bool)}{n hi0:Nat}{Q:Option Nat->SortSt->Prop}(f:Nat->Bool)(hh:hi0<n)
  (hfar:∀i,i<n->∀R:Option Bool->SortSt->Prop,R (some (f i)) st->wpS (model prog w) A E s (far i) R st)
  (mono':∀i j,i<=j->j<n->f j=true->f i=true)
  (h':∀k,k<=n->(∀i,i<k->f i=true)->(∀i,k<=i->i<n->f i=false)->Q (some k) st) :
  wpS (model prog w) A E s (ql4 far n hi0) Q st:=by
 unfold ql4;have bin:∀l r,l<=r->r<=n->(∀i,i<l->f i=true)->(∀i,r<=i->i<n->f i=false)->wpS (model prog w) A E s (qra far n l r) Q st:=by
  intro l r hlr hrn ha hb;unfold qra;refine m4 (ur (g05 (I:=fun x c st'=>st'=st/\∃l r,c=(none,l,r)/\l<=r/\r<=n/\r-l<=n-x/\(∀i,i<l->f i=true)/\(∀i,r<=i->i<n->f i=false))
   (Q:=fun c st'=>st'=st/\∃r,c=(none,r,r)/\r<=n/\(∀i,i<r->f i=true)/\(∀i,r<=i->i<n->f i=false)) ?_ ?_ ?_) ?_)
  ·rintro x c st' _ hx ⟨rfl,l,r,rfl,h1,h2,h3,h4,h5⟩
   dsimp only
   by_cases hge:l>=r
   ·rw [md hge]
    have:l=r:=by omega
    subst this;exact mq ⟨rfl,l,rfl,h2,h4,h5⟩
   ·rw [mi hge]
    refine m4 (hfar _ (by omega) _ ?_);cases e:f (l+(r-l) / 2)
    ·simp only [gh,ny]
     refine mq ⟨rfl,_,_,rfl,by omega,by omega,by omega,h4,fun i i1 i2=>?_⟩;cases e':f i
     ·rfl
     ·rw [mono' _ _ i1 i2 e'] at e;cases e
    ·simp only [p0]
     exact mq ⟨rfl,_,_,rfl,by omega,by omega,by omega,fun i i1=>mono' _ _ (by omega) (by omega) e,h5⟩
  ·rintro c st' ⟨rfl,l,r,rfl,h1,h2,h3,h4,h5⟩
   have:l=r:=by omega
   subst this;exact⟨rfl,l,rfl,h2,h4,h5⟩
  ·exact⟨rfl,l,r,rfl,hlr,hrn,by omega,ha,hb⟩
  ·rintro c st' ⟨rfl,r,rfl,h2,h4,h5⟩
   exact mq (h' r h2 h4 h5)
 refine m4 (hfar hi0 hh _ ?_);dsimp only;cases e0:f hi0
 ·simp only [gh,ny]
  refine m4 (ur (g05 (I:=fun x c st'=>st'=st/\∃u v,c=(none,u,v)/\u<v/\x+1<=v/\u<=hi0/\f (hi0-u)=false)
   (Q:=fun c st'=>st'=st/\∃u v,c=(none,u,v)/\u<v/\u<=hi0/\f (hi0-u)=false/\(v>=hi0+1\/f (hi0-v)=true)) ?_ ?_ ?_) ?_)
  ·rintro x c st' _ hx ⟨rfl,u,v,rfl,h1,h2,h3,h4⟩
   dsimp only
   by_cases hge:v>=hi0+1
   ·rw [md hge]
    exact mq ⟨rfl,u,v,rfl,h1,h3,h4,.inl hge⟩
   ·rw [mi hge]
    refine m4 (hfar _ (by omega) _ ?_);cases e:f (hi0-v)
    ·simp only [gh,ny]
     exact mq ⟨rfl,v,2*v+1,rfl,by omega,by omega,by omega,e⟩
    ·simp only [p0]
     exact mq ⟨rfl,u,v,rfl,h1,h3,h4,.inr e⟩
  ·rintro c st' ⟨rfl,u,v,rfl,h1,h2,h3,h4⟩
   exact⟨rfl,u,v,rfl,h1,h3,h4,.inl (by omega)⟩
  ·exact⟨rfl,0,1,rfl,by omega,by omega,by omega,e0⟩
  ·rintro c st' ⟨rfl,u,v,rfl,h1,h3,h4,h5⟩
   dsimp only;refine bin (hi0+1-min v (hi0+1)) (hi0-u) (by omega) (by omega) (fun i hi=>?_) (fun i i1 i2=>?_)
   ·rcases h5 with h5|h5
    ·omega
    ·exact mono' _ _ (by omega) (by omega) h5
   ·cases e':f i
    ·rfl
    ·rw [mono' _ _ i1 i2 e'] at h4;cases h4
 ·simp only [p0]
  refine m4 (ur (g05 (I:=fun x c st'=>st'=st/\∃u v,c=(none,u,v)/\u<v/\x+1<=v/\hi0+u<n/\f (hi0+u)=true)
   (Q:=fun c st'=>st'=st/\∃u v,c=(none,u,v)/\u<v/\hi0+u<n/\f (hi0+u)=true/\(v>=n-hi0\/f (hi0+v)=false)) ?_ ?_ ?_) ?_)
  ·rintro x c st' _ hx ⟨rfl,u,v,rfl,h1,h2,h3,h4⟩
   dsimp only
   by_cases hge:v>=n-hi0
   ·rw [md hge]
    exact mq ⟨rfl,u,v,rfl,h1,h3,h4,.inl hge⟩
   ·rw [mi hge]
    refine m4 (hfar _ (by omega) _ ?_);cases e:f (hi0+v)
    ·simp only [g2j,p0]
     exact mq ⟨rfl,u,v,rfl,h1,h3,h4,.inr e⟩
    ·simp only [g0z,gh,ny]
     exact mq ⟨rfl,v,2*v+1,rfl,by omega,by omega,by omega,e⟩
  ·rintro c st' ⟨rfl,u,v,rfl,h1,h2,h3,h4⟩
   exact⟨rfl,u,v,rfl,h1,h3,h4,.inl (by omega)⟩
  ·exact⟨rfl,0,1,rfl,by omega,by omega,by omega,e0⟩
  ·rintro c st' ⟨rfl,u,v,rfl,h1,h3,h4,h5⟩
   dsimp only;refine bin (hi0+u+1) (hi0+min v (n-hi0)) (by omega) (by omega) (fun i hi=>mono' _ (hi0+u) (by omega) (by omega) h4) (fun i i1 i2=>?_);rcases h5 with h5|h5
   ·omega
   ·cases e':f i
    ·rfl
    ·by_cases hv:v<=n-hi0
     ·rw [mono' _ _ (show hi0+v<=i by omega) i2 e'] at h5;cases h5
     ·omega
theorem q1v(C:Cmp prog w A s κ G lt){st:SortSt}{lf:Bool}{ke:Keyed}{xs:Array Keyed}{ba n hi0:Nat}{Q:Option Nat->SortSt->Prop}(hk:kindOf st = κ)
  (gk:G ke.1) (gx:∀p∈xs.toList,G p.1) (hh:hi0<n) (hn:ba+n<=xs.size)
  (mono:∀i j,(hij:i<=j)->(hj:j<n)->far1 lt lf ke (xs[ba+j]'(by omega))=true->far1 lt lf ke (xs[ba+i]'(by omega))=true)
  (h:∀k,k<=n->(∀i,(hi:i<k)->(hi':i<n)->far1 lt lf ke (xs[ba+i]'(by omega))=true)->(∀i,k<=i->(hi:i<n)->far1 lt lf ke (xs[ba+i]'(by omega))=false)->Q (some k) st) :
  wpS (model prog w) A E s (q1j lf ke xs ba n hi0) Q st:=by
 rw [qo3];obtain⟨f,hf⟩:∃f:Nat->Bool,∀i,(hi:i<n)->f i=far1 lt lf ke (xs[ba+i]'(by omega)):=⟨fun i=>if hi:i<n then far1 lt lf ke (xs[ba+i]'(by omega)) else false,fun i hi=>by simp [hi]⟩
 refine ql5 f hh (fun i hi R hR=>?_) (fun i j hij hj e=>?_) (fun k hk1 a b=>?_)
 ·unfold qrb
  refine m4 (zi (by omega) ?_);have gi:G (xs[ba+i]'(by omega)).1:=gx _ (by simp);rw [hf i hi] at hR;unfold far1 at hR;cases lf
  ·simp only [gh,ny] at hR ⊢
   exact m4 (q3j (C:=C) hk gk gi (mq hR))
  ·simp only [p0] at hR ⊢
   exact q3j (C:=C) hk gi gk hR
 ·rw [hf i (by omega)];rw [hf j hj] at e
  exact mono i j hij hj e
 ·exact h k hk1 (fun i hi hi'=>by rw [<- hf i hi'];exact a i hi) (fun i hi hi'=>by rw [<- hf i hi'];exact b i hi hi')
end
def le(lt:Value->Value->Bool)(p q:Keyed): Prop:=lt q.1 p.1=false
structure MI(lt:Value->Value->Bool)(la lb o:List Keyed)(ia ib:Nat): Prop where
 perm:o.Perm (la.take ia++lb.take ib)
 ord:o.Pairwise (le lt)
 ua:∀p∈o,∀q∈la.drop ia,le lt p q
 ub:∀p∈o,∀q∈lb.drop ib,le lt p q
section
variable{lt:Value->Value->Bool}{la lb o:List Keyed}{ia ib:Nat}
theorem MI.swap(h:MI lt la lb o ia ib): MI lt lb la o ib ia:=⟨h.perm.trans uw,h.ord,h.ub,h.ua⟩
theorem q8y(sa:la.Pairwise (le lt))(h:ia<la.length): ∀q∈la.drop (ia+1),le lt la[ia] q:=by
 have e:=pj h;have s2:=g39 (i:=ia) sa;rw [e] at s2;exact(g1m.mp s2).1
theorem MI.step(m:MI lt la lb o ia ib)(sa:la.Pairwise (le lt))(h:ia<la.length)(hq:∀q∈lb.drop ib,le lt la[ia] q): MI lt la lb (o++[la[ia]]) (ia+1) ib:=by
 have e:=pj h;refine⟨?_,?_,?_,?_⟩
 ·rw [td h]
  refine(m.perm.append_right _).trans ?_;rw [n8,n8];exact g09 _ uw
 ·refine pd.mpr ⟨m.ord,g27 _ _,fun p hp q hq=>?_⟩
  rw [n9.mp hq];exact m.ua p hp _ (by rw [e];exact gq)
 ·intro p hp q hq'
  rcases nz.mp hp with hp|hp
  ·exact m.ua p hp q (by rw [e];exact gr _ hq')
  ·rw [n9.mp hp]
   exact q8y sa h q hq'
 ·intro p hp q hq'
  rcases nz.mp hp with hp|hp
  ·exact m.ub p hp q hq'
  ·rw [n9.mp hp]
   exact hq q hq'
theorem MI.steps(m:MI lt la lb o ia ib)(sa:la.Pairwise (le lt)): ∀(k:Nat),ia+k<=la.length->(∀i,(hi:i<k)->(hl:ia+i<la.length)->∀q∈lb.drop ib,le lt la[ia+i] q) ->
  MI lt la lb (o++(la.drop ia).take k) (ia+k) ib
 | 0,_,_=>by simpa using m
 | k+1,hk,hq=>by
  have m':=MI.steps m sa k (by omega) (fun i hi hl=>hq i (by omega) hl);have m2:=m'.step sa (by omega) (hq k (by omega) (by omega));have e:(la.drop ia).take (k+1)=(la.drop ia).take k++[la[ia+k]]:=by
   rw [td (by simp;omega)];simp
  rw [e, <- n8];exact m2
theorem MI.fin(m:MI lt la lb o ia ib)(sa:la.Pairwise (le lt))(hb:lb.length<=ib): (o++la.drop ia).Perm (la++lb)/\(o++la.drop ia).Pairwise (le lt):=by
 refine⟨?_,pd.mpr ⟨m.ord,g39 sa,m.ua⟩⟩;have:=m.perm;rw [tm hb] at this;refine(this.append_right _).trans ?_;rw [n8];refine(g09 _ uw).trans ?_;rw [<- n8,pf]
theorem MI.last(m:MI lt la lb o ia ib)(sa:la.Pairwise (le lt))(sb:lb.Pairwise (le lt))(hl:∀q∈lb.drop ib,∀p∈la.drop ia,le lt q p):
  (o++lb.drop ib++la.drop ia).Perm (la++lb)/\(o++lb.drop ib++la.drop ia).Pairwise (le lt):=by
 refine⟨?_,pd.mpr ⟨pd.mpr ⟨m.ord,g39 sb,m.ub⟩,g39 sa,fun p hp q hq=>?_⟩⟩
 ·have:=m.perm
  refine((this.append_right _).append_right _).trans ?_;have e1:(la.take ia++lb.take ib++lb.drop ib++la.drop ia)=la.take ia++(lb++la.drop ia):=by
   rw [n8 (la.take ia),pf,n8]
  rw [e1];refine(g09 _ uw).trans ?_;rw [<- n8,pf]
 ·rcases nz.mp hp with hp|hp
  ·exact m.ua p hp q hq
  ·exact hl p hp q hq
end
abbrev qg1:Array Keyed->Array Keyed->StateT SortSt Sem (Array Keyed):=sortPriv% PySem.Builtin.mergeLo
abbrev q1n(g:Nat): StateT SortSt Sem Unit:=modify fun z=>SortSt.mk' (kindOf z) (arrOf z) (pendingOf z) g (failedOf z)
theorem bc{α β : Type}{m:StateT SortSt Sem α}{f g : α -> StateT SortSt Sem β}(h:∀x,f x=g x): m >>= f=m >>= g:=by rw [funext h]
theorem bc2{α β : Type}{m n:StateT SortSt Sem α}{f g : α -> StateT SortSt Sem β}(hm:m=n)(h:∀x,f x=g x): m >>= f=n >>= g:=by rw [hm,funext h]
theorem fc{β : Type}{r:Std.Legacy.Range}{b : β}{f g:Nat -> β -> StateT SortSt Sem (ForInStep β)}(h:∀x u,f x u=g x u): forIn r b f=forIn r b g:=by
 rw [show f=g from funext fun x=>funext fun u=>h x u]
abbrev TI:=Option (Array Keyed)×Array Keyed×Nat×Nat×Nat×Nat
abbrev TG:=Option (Array Keyed)×Array Keyed×Nat×Nat×Nat×Nat×Nat
abbrev TO:=Option (Array Keyed)×Array Keyed×Nat×Nat×Nat
section
variable(a b:Array Keyed)
def fiL(o:Array Keyed)(i j:Nat): Array Keyed:=o++a.extract i a.size++b.extract j b.size
def laL(o:Array Keyed)(i j:Nat): Array Keyed:=o++b.extract j b.size++a.extract i a.size
noncomputable def loI(g:Nat)(t:TI): StateT SortSt Sem (ForInStep TI):=do
 match <- lt' (<- elem' b t.2.2.2.1) (<- elem' a t.2.2.1) with
 | some wi=>
  if wi=true then
   let x <- elem' b t.2.2.2.1
   if(t.2.2.2.1+1==b.size)=true then pure (.done (some (fiL a b (t.2.1.push x) t.2.2.1 (t.2.2.2.1+1)),t.2.1.push x,t.2.2.1,t.2.2.2.1+1,0,t.2.2.2.2.2+1))
   else if t.2.2.2.2.2+1>=g then pure (.done (none,t.2.1.push x,t.2.2.1,t.2.2.2.1+1,0,t.2.2.2.2.2+1))
   else pure (.yield (none,t.2.1.push x,t.2.2.1,t.2.2.2.1+1,0,t.2.2.2.2.2+1))
  else
   let x <- elem' a t.2.2.1
   if(t.2.2.1+1+1==a.size)=true then pure (.done (some (laL a b (t.2.1.push x) (t.2.2.1+1) t.2.2.2.1),t.2.1.push x,t.2.2.1+1,t.2.2.2.1,t.2.2.2.2.1+1,0))
   else if t.2.2.2.2.1+1>=g then pure (.done (none,t.2.1.push x,t.2.2.1+1,t.2.2.2.1,t.2.2.2.2.1+1,0))
   else pure (.yield (none,t.2.1.push x,t.2.2.1+1,t.2.2.2.1,t.2.2.2.2.1+1,0))
 | _=>pure (.done (some (fiL a b t.2.1 t.2.2.1 t.2.2.2.1),t.2.1,t.2.2.1,t.2.2.2.1,t.2.2.2.2.1,t.2.2.2.2.2))
noncomputable def loD(o:Array Keyed)(i j g c d:Nat): StateT SortSt Sem (ForInStep TG):=do
 let x <- elem' a i
 if(i+1+1==a.size)=true then pure (.done (some (laL a b (o.push x) (i+1) j),o.push x,i+1,j,g,c,d))
 else if(decide (c<7)&&decide (d<7))=true then pure (.done (none,o.push x,i+1,j,g,c,d))
 else pure (.yield (none,o.push x,i+1,j,g,c,d))
noncomputable def loC(o:Array Keyed)(i j g c d:Nat): StateT SortSt Sem (ForInStep TG):=do
 let x <- elem' b j
 if(j+1==b.size)=true then pure (.done (some (fiL a b (o.push x) i (j+1)),o.push x,i,j+1,g,c,d))
 else do
  match <- q1j true (<- elem' a i) b (j+1) (b.size-(j+1)) 0 with
  | some k=>
   if k>0 then
    if(j+1+k==b.size)=true then pure (.done (some (fiL a b (o.push x++b.extract (j+1) (j+1+k)) i (j+1+k)),o.push x++b.extract (j+1) (j+1+k),i,j+1+k,g,c,k))
    else loD a b (o.push x++b.extract (j+1) (j+1+k)) i (j+1+k) g c k
   else loD a b (o.push x) i (j+1) g c k
  | _=>pure (.done (some (fiL a b (o.push x) i (j+1)),o.push x,i,j+1,g,c,d))
noncomputable def loB(o:Array Keyed)(i j g c d:Nat): StateT SortSt Sem (ForInStep TG):=do
 q1n g
 match <- q1j false (<- elem' b j) a i (a.size-i) 0 with
 | some k=>
  if k>0 then
   if(i+k+1==a.size)=true then pure (.done (some (laL a b (o++a.extract i (i+k)) (i+k) j),o++a.extract i (i+k),i+k,j,g,k,d))
   else if(i+k==a.size)=true then pure (.done (some (fiL a b (o++a.extract i (i+k)) (i+k) j),o++a.extract i (i+k),i+k,j,g,k,d))
   else loC a b (o++a.extract i (i+k)) (i+k) j g k d
  else loC a b o i j g k d
 | _=>pure (.done (some (fiL a b o i j),o,i,j,g,c,d))
noncomputable def loG(t:TG): StateT SortSt Sem (ForInStep TG):=
 if t.2.2.2.2.1>1 then loB a b t.2.1 t.2.2.1 t.2.2.2.1 (t.2.2.2.2.1-1) t.2.2.2.2.2.1 t.2.2.2.2.2.2 else loB a b t.2.1 t.2.2.1 t.2.2.2.1 t.2.2.2.2.1 t.2.2.2.2.2.1 t.2.2.2.2.2.2
noncomputable def loO(t:TO): StateT SortSt Sem (ForInStep TO):=do
 let u <- forIn [0:a.size+b.size] ((none,t.2.1,t.2.2.1,t.2.2.2.1,0,0):TI) fun _=>loI a b t.2.2.2.2
 match u.1 with
 | some r=>pure (.done (some r,u.2.1,u.2.2.1,u.2.2.2.1,t.2.2.2.2))
 | none=>do
  rule "list.sort.gallop"
  let v <- forIn [0:a.size+b.size] ((none,u.2.1,u.2.2.1,u.2.2.2.1,t.2.2.2.2+1,u.2.2.2.2.1,u.2.2.2.2.2):TG) fun _=>loG a b
  match v.1 with
  | some r=>pure (.done (some r,v.2.1,v.2.2.1,v.2.2.2.1,v.2.2.2.2.1))
  | none=>do
   q1n (v.2.2.2.2.1+1)
   pure (.yield (none,v.2.1,v.2.2.1,v.2.2.2.1,v.2.2.2.2.1+1))
end
theorem ql6(a b:Array Keyed): qg1 a b=(do
 rule "list.sort.merge-lo"
 let all:=a.size+b.size
 let fi (o:Array Keyed) (i j:Nat):=o++a.extract i a.size++b.extract j b.size
 let la (o:Array Keyed) (i j:Nat):=o++b.extract j b.size++a.extract i a.size
 let mut o:Array Keyed:= #[<- elem' b 0]
 let mut i:=0
 let mut j:=1
 if j==b.size then return fi o i j
 if i+1==a.size then return la o i j
 let mut g:=gallopOf (<- get)
 for _ in [0:all] do
  let mut c:=0
  let mut d:=0
  for _ in [0:all] do
   let some wi <- lt' (<- elem' b j) (<- elem' a i)|return fi o i j
   if wi then
    o:=o.push (<- elem' b j);j:=j+1;d:=d+1;c:=0
    if j==b.size then return fi o i j
    if d>=g then break
   else
    o:=o.push (<- elem' a i);i:=i+1;c:=c+1;d:=0
    if i+1==a.size then return la o i j
    if c>=g then break
  rule "list.sort.gallop"
  g:=g+1
  for _ in [0:all] do
   if g>1 then g:=g-1
   q1n g
   let some k <- q1j false (<- elem' b j) a i (a.size-i) 0|return fi o i j
   c:=k
   if k>0 then
    o:=o++a.extract i (i+k);i:=i+k
    if i+1==a.size then return la o i j
    if i==a.size then return fi o i j
   o:=o.push (<- elem' b j);j:=j+1
   if j==b.size then return fi o i j
   let some k <- q1j true (<- elem' a i) b j (b.size-j) 0|return fi o i j
   d:=k
   if k>0 then
    o:=o++b.extract j (j+k);j:=j+k
    if j==b.size then return fi o i j
   o:=o.push (<- elem' a i);i:=i+1
   if i+1==a.size then return la o i j
   if c<7&&d<7 then break
  g:=g+1
  q1n g
 unsupported "internal:list.sort.merge-bound"):=rfl
theorem qo4 (a b:Array Keyed):qg1 a b=(do
 rule "list.sort.merge-lo"
 let x <- elem' b 0
 if(1==b.size)=true then return fiL a b #[x] 0 1
 if(0+1==a.size)=true then return laL a b #[x] 0 1
 let z <- get
 let t <- forIn [0:a.size+b.size] ((none, #[x],0,1,gallopOf z):TO) fun _=>loO a b
 match t.1 with
 | some r=>pure r
 | none=>unsupported "internal:list.sort.merge-bound"):=by
 rw [ql6];dsimp only;refine bc fun _=>bc fun x=>g0a rfl (fun _=>rfl) fun _=>g0a rfl (fun _=>rfl) fun _=>bc fun z=>bc2 (fc fun _ t=>?_) fun t=>?_
 ·unfold loO
  refine bc2 (fc fun _ u=>?_) fun u=>?_
  ·rfl
  ·cases e:u.1 with
   | some r=>rfl
   | none=>
    refine bc fun _=>bc2 (fc fun _ v=>?_) fun v=>?_
    ·unfold loG
     refine g0a rfl (fun _=>?_) (fun _=>?_)
     all_goals
      unfold loB;refine bc fun _=>bc fun y=>bc fun k=>?_;cases k with
      | none=>rfl
      | some k=>
       dsimp only;refine g0a rfl (fun _=>g0a rfl (fun _=>rfl) fun _=>g0a rfl (fun _=>rfl) fun _=>?_) (fun _=>?_)
       all_goals
        unfold loC;refine bc fun y=>g0a rfl (fun _=>rfl) fun _=>bc fun y=>bc fun k=>?_;cases k with
        | none=>rfl
        | some k=>rfl
    ·cases e:v.1 <;> rfl
 ·cases e:t.1 <;> rfl
def Eg(st st':SortSt): Prop:=kindOf st'=kindOf st/\arrOf st'=arrOf st/\pendingOf st'=pendingOf st/\failedOf st'=failedOf st
theorem Eg.rfl'(st:SortSt): Eg st st:=⟨rfl,rfl,rfl,rfl⟩
theorem Eg.trans{a b c:SortSt}(h:Eg a b)(k:Eg b c): Eg a c:=⟨k.1.trans h.1,k.2.1.trans h.2.1,k.2.2.1.trans h.2.2.1,k.2.2.2.trans h.2.2.2⟩
section
variable{prog:Program}{w:World}{A:Around}{E:Value->Shared->Prop}{s:Shared}{κ : SortKind}{G:Value->Prop}{lt:Value->Value->Bool}
theorem q3u{st:SortSt}{g:Nat}{Q:Unit->SortSt->Prop}(h:∀st',Eg st st'->Q () st'): wpS (model prog w) A E s (q1n g) Q st:=g4p (h _ ⟨rfl,rfl,rfl,rfl⟩)
variable{a b:Array Keyed}
def Rm(lt:Value->Value->Bool)(a b r:Array Keyed): Prop:=r.toList.Perm (a.toList++b.toList)/\r.toList.Pairwise (le lt)
structure Mh(G:Value->Prop)(lt:Value->Value->Bool)(a b:Array Keyed): Prop where
 ga:∀p∈a.toList,G p.1
 gb:∀p∈b.toList,G p.1
 sa:a.toList.Pairwise (le lt)
 sb:b.toList.Pairwise (le lt)
 ha:1<=a.size
 hb:1<=b.size
 first:∀q∈a.toList,lt (b[0]'hb).1 q.1=true
 last:∀q∈b.toList,lt q.1 (a[a.size-1]'(by lia)).1=true
def OkM(lt:Value->Value->Bool)(a b:Array Keyed)(n:Nat)(x:Option (Array Keyed))(o:Array Keyed)(i j:Nat): Prop:=match x with
 | some r=>Rm lt a b r
 | none=>MI lt a.toList b.toList o.toList i j/\i+1<a.size/\j<b.size/\n<=i+j
theorem q3v(x:Array Keyed)(i:Nat): (x.extract i x.size).toList=x.toList.drop i:=by
 rw [g0r];show(x.toList.drop i).take (x.size-i)=_;exact tm (by simp)
theorem fiR{o:Array Keyed}{i j:Nat}(m:MI lt a.toList b.toList o.toList i j)(sa:a.toList.Pairwise (le lt))(hj:j=b.size): Rm lt a b (fiL a b o i j):=by
 have:=m.fin sa (by simp;lia);unfold Rm fiL;subst hj;have e:(o++a.extract i a.size++b.extract b.size b.size).toList=o.toList++a.toList.drop i:=by
  rw [t7,t7,q3v,q3v];simp
 rw [e];exact this
theorem laR{o:Array Keyed}{i j:Nat}(H:Mh G lt a b)(C:Cmp prog w A s κ G lt)(m:MI lt a.toList b.toList o.toList i j)(hi:i+1=a.size): Rm lt a b (laL a b o i j):=by
 have e1:a.toList.drop i=[a[i]'(by lia)]:=by
  rw [pj (by simp;lia)];simp;lia
 have:=m.last H.sa H.sb (fun q hq p hp=>by
  rw [e1] at hp;rw [n9.mp hp];have h1:=H.last q (g2o hq);have e2:a[a.size-1]'(by have:=H.ha;lia)=a[i]'(by lia):=by congr 1;lia
  rw [e2] at h1;exact C.asy _ _ h1)
 unfold Rm laL;have e:(o++b.extract j b.size++a.extract i a.size).toList=o.toList++b.toList.drop j++a.toList.drop i:=by
  rw [t7,t7,q3v,q3v]
 rw [e];exact this
theorem qif(C:Cmp prog w A s κ G lt){x y z:Keyed}(h:le lt x y)(k:le lt y z): le lt x z:=C.tra _ _ _ h k
theorem q5z(C:Cmp prog w A s κ G lt){l:List Keyed}(sl:l.Pairwise (le lt)){i:Nat}(hi:i<l.length){x:Keyed}(h:le lt x l[i]): ∀q∈l.drop i,le lt x q:=by
 intro q hq;rw [pj hi] at hq;rcases mm.mp hq with rfl|hq
 ·exact h
 ·exact qif C h (q8y sl hi q hq)
theorem q81{l:List Keyed}(C:Cmp prog w A s κ G lt)(hr:∀x:Keyed,lt x.1 x.1=false)(sl:l.Pairwise (le lt)){i j:Nat}(hij:i<=j)(hj:j<l.length): le lt (l[i]'(by lia)) l[j]:=by
 rcases g6x i j with h|h
 ·exact g2y.mp sl i j (by lia) hj h
 ·have:i=j:=by lia
  subst this;exact hr _
theorem Cmp.irr(C:Cmp prog w A s κ G lt)(x:Value): lt x x=false:=by
 cases e:lt x x
 ·rfl
 ·have:=C.asy _ _ e;rw [e] at this;cases this
theorem qo5(C:Cmp prog w A s κ G lt)(H:Mh G lt a b){st:SortSt}{g n c d:Nat}{o:Array Keyed}{i j:Nat}(hk:kindOf st = κ)(h:OkM lt a b n none o i j):
  wpS (model prog w) A E s (loI a b g (none,o,i,j,c,d)) (fun r st'=>st'=st/\match r with
   | .done u=>OkM lt a b (n+1) u.1 u.2.1 u.2.2.1 u.2.2.2.1
   | .yield u=>u.1=none/\OkM lt a b (n+1) none u.2.1 u.2.2.1 u.2.2.2.1) st:=by
 obtain⟨m,hi,hj,hn⟩:=h;unfold loI;dsimp only;refine m4 (zi hj (m4 (zi (by lia) (m4 (q3j (C:=C) hk (H.gb _ (by simp)) (H.ga _ (by simp)) ?_)))));dsimp only;cases e:lt (b[j]).1 (a[i]).1
 ·simp only [gh,ny]
  refine m4 (zi (by lia) ?_);have m2:MI lt a.toList b.toList (o.push a[i]).toList (i+1) j:=by
   have:=m.step H.sa (by simp;lia) (q5z C H.sb (by simp;lia) (i:=j) (x:=a.toList[i]'(by simp;lia)) (by simpa [le] using e))
   simpa using this
  split
  ·rename_i e2
   exact mq ⟨rfl,laR H C m2 (by simpa using e2)⟩
  ·rename_i e2
   have e2':i+1+1≠a.size:=by simpa using e2
   split
   ·exact mq ⟨rfl,m2,by first|lia|(dsimp only;lia),hj,by first|lia|(dsimp only;lia)⟩
   ·exact mq ⟨rfl,rfl,m2,by first|lia|(dsimp only;lia),hj,by first|lia|(dsimp only;lia)⟩
 ·simp only [p0]
  refine m4 (zi hj ?_);have m2:MI lt a.toList b.toList (o.push b[j]).toList i (j+1):=by
   have:=m.swap.step H.sb (by simp;lia) (q5z C H.sa (by simp;lia) (i:=i) (x:=b.toList[j]'(by simp;lia)) (by have:=C.asy _ _ e;simpa [le] using this))
   simpa using this.swap
  split
  ·rename_i e2
   exact mq ⟨rfl,fiR m2 H.sa (by simpa using e2)⟩
  ·rename_i e2
   have e2':j+1≠b.size:=by simpa using e2
   split
   ·exact mq ⟨rfl,m2,by first|lia|(dsimp only;lia),by first|lia|(dsimp only;lia),by first|lia|(dsimp only;lia)⟩
   ·exact mq ⟨rfl,rfl,m2,by first|lia|(dsimp only;lia),by first|lia|(dsimp only;lia),by first|lia|(dsimp only;lia)⟩
abbrev QG(lt:Value->Value->Bool)(a b:Array Keyed)(n:Nat)(st:SortSt): ForInStep TG->SortSt->Prop:=fun r st'=>Eg st st'/\match r with
   | .done u=>OkM lt a b n u.1 u.2.1 u.2.2.1 u.2.2.2.1
   | .yield u=>u.1=none/\OkM lt a b n none u.2.1 u.2.2.1 u.2.2.2.1
theorem qez(C:Cmp prog w A s κ G lt)(H:Mh G lt a b){st:SortSt}{n g c d:Nat}{o:Array Keyed}{i j:Nat}(m:MI lt a.toList b.toList o.toList i j)(hi:i+1<a.size)(hj:j<b.size)(hn:n<=i+j)
  (hq:∀q∈b.toList.drop j,le lt a[i] q):wpS (model prog w) A E s (loD a b o i j g c d) (QG lt a b n st) st:=by
 unfold loD;refine m4 (zi (by lia) ?_);have m2:MI lt a.toList b.toList (o.push a[i]).toList (i+1) j:=by
  have:=m.step H.sa (by simp;lia) (by simpa using hq)
  simpa using this
 split
 ·rename_i e2
  exact mq ⟨Eg.rfl' _,laR H C m2 (by simpa using e2)⟩
 ·rename_i e2
  have e2':i+1+1≠a.size:=by simpa using e2
  split
  ·exact mq ⟨Eg.rfl' _,m2,by first|lia|(dsimp only;lia),hj,by first|lia|(dsimp only;lia)⟩
  ·exact mq ⟨Eg.rfl' _,rfl,m2,by first|lia|(dsimp only;lia),hj,by first|lia|(dsimp only;lia)⟩
theorem qf0(C:Cmp prog w A s κ G lt)(H:Mh G lt a b){st:SortSt}{n g c d:Nat}{o:Array Keyed}{i j:Nat}(hk:kindOf st = κ)(m:MI lt a.toList b.toList o.toList i j)(hi:i+1<a.size)(hj:j<b.size)(hn:n<=i+j)
  (hq:∀q∈a.toList.drop i,le lt b[j] q):wpS (model prog w) A E s (loC a b o i j g c d) (QG lt a b n st) st:=by
 unfold loC;refine m4 (zi hj ?_);have m2:MI lt a.toList b.toList (o.push b[j]).toList i (j+1):=by
  have:=m.swap.step H.sb (by simp;lia) (by simpa using hq)
  simpa using this.swap
 split
 ·rename_i e2
  exact mq ⟨Eg.rfl' _,fiR m2 H.sa (by simpa using e2)⟩
 ·rename_i e2
  have e2':j+1≠b.size:=by simpa using e2
  refine m4 (zi (by lia) (m4 (q1v C hk (H.ga _ (by simp)) H.gb (by lia) (by lia) (fun x y hxy hy h1=>?_) fun k hk1 k1 k2=>?_)))
  ·simp only [far1,p0] at h1 ⊢
   have hle:=q81 C (fun x=>C.irr _) H.sb (i:=j+1+x) (j:=j+1+y) (by lia) (by simp;lia);cases e3:lt (b[j+1+x]'(by lia)).1 (a[i]).1
   ·have:=C.tra _ _ _ e3 (by simpa [le] using hle)
    rw [this] at h1;cases h1
   ·rfl
  ·dsimp only
   have k1':∀x,(hx:x<k)->(hb:j+1+x<b.size)->lt (b[j+1+x]).1 (a[i]).1=true:=fun x hx hb=>by
    have:=k1 x hx (by lia);simpa [far1] using this
   have k2':∀q∈b.toList.drop (j+1+k),le lt a[i] q:=by
    intro q hq';obtain⟨y,hy,rfl⟩:=uo.mp hq';simp only [g00,nu] at hy;have:=k2 (k+y) (by lia) (by lia);simp only [far1,p0] at this;simp only [List.getElem_drop,g4q,le];rw [<- this]
    congr 3;lia
   split
   ·have m3:MI lt a.toList b.toList (o.push b[j]++b.extract (j+1) (j+1+k)).toList i (j+1+k):=by
     have:=m2.swap.steps H.sb k (by simp;lia) (fun x hx hl=>q5z C H.sa (i:=i) (by simp;lia) (by
      have:=C.asy _ _ (k1' x hx (by simpa using hl))
      simpa [le] using this))
     have e4:(o.push b[j]++b.extract (j+1) (j+1+k)).toList=(o.push b[j]).toList++(b.toList.drop (j+1)).take k:=by
      rw [t7,g0r];simp [List.extract]
     rw [e4];exact this.swap
    split
    ·rename_i e5
     exact mq ⟨Eg.rfl' _,fiR m3 H.sa (by simpa using e5)⟩
    ·rename_i e5
     have e5':j+1+k≠b.size:=by simpa using e5
     exact qez C H m3 hi (by lia) (by lia) k2'
   ·rename_i e5
    have:k=0:=by lia
    subst this;exact qez C H m2 hi (by lia) (by lia) k2'
theorem qo6(C:Cmp prog w A s κ G lt)(H:Mh G lt a b){st:SortSt}{n g c d:Nat}{o:Array Keyed}{i j:Nat}(hk:kindOf st = κ)(h:OkM lt a b n none o i j):
  wpS (model prog w) A E s (loB a b o i j g c d) (QG lt a b n st) st:=by
 obtain⟨m,hi,hj,hn⟩:=h;unfold loB;refine m4 (q3u fun st' eg=>?_);have hk':kindOf st' = κ :=eg.1.trans hk;have up:∀r st'',QG lt a b n st' r st''->QG lt a b n st r st'':=fun r st'' q=>⟨eg.trans q.1,q.2⟩
 refine m4 (zi hj (m4 (q1v C hk' (H.gb _ (by simp)) H.ga (by lia) (by lia) (fun x y hxy hy h1=>?_) fun k hk1 k1 k2=>?_)))
 ·simp only [far1,gh,ny,g3t] at h1 ⊢
  have hle:=q81 C (fun x=>C.irr _) H.sa (i:=i+x) (j:=i+y) (by lia) (by simp;lia);exact C.tra _ _ _ (by simpa [le] using hle) h1
 ·dsimp only
  have k1':∀x,(hx:x<k)->(hb:i+x<a.size)->lt (b[j]).1 (a[i+x]).1=false:=fun x hx hb=>by
   have:=k1 x hx (by lia);simpa [far1] using this
  have hlt:i+k<a.size:=by
   rcases g6x (i+k) a.size with h1|h1
   ·exact h1
   ·have h2:=k1' (a.size-1-i) (by lia) (by lia)
    have h3:=H.last b[j] (by simp);have e2:a[i+(a.size-1-i)]'(by lia)=a[a.size-1]'(by lia):=by congr 1;lia
    rw [e2,h3] at h2;cases h2
  have k2':∀q∈a.toList.drop (i+k),le lt b[j] q:=by
   intro q hq';obtain⟨y,hy,rfl⟩:=uo.mp hq';simp only [g00,nu] at hy;have:=k2 (k+y) (by lia) (by lia);simp only [far1,gh,ny,g38] at this;have:=C.asy _ _ this;simp only [List.getElem_drop,g4q,le];rw [<- this]
   congr 3;lia
  split
  ·have m3:MI lt a.toList b.toList (o++a.extract i (i+k)).toList (i+k) j:=by
    have:=m.steps H.sa k (by simp;lia) (fun x hx hl=>q5z C H.sb (i:=j) (by simp;lia) (by
     have:=k1' x hx (by simpa using hl)
     simpa [le] using this))
    have e4:(o++a.extract i (i+k)).toList=o.toList++(a.toList.drop i).take k:=by
     rw [t7,g0r];simp [List.extract]
    rw [e4];exact this
   split
   ·rename_i e5
    exact mq (up _ _ ⟨Eg.rfl' _,laR H C m3 (by simpa using e5)⟩)
   ·rename_i e5
    have e5':i+k+1≠a.size:=by simpa using e5
    split
    ·rename_i e6
     have e6':i+k=a.size:=by simpa using e6
     lia
    ·exact ur (qf0 C H hk' m3 (by lia) hj (by lia) k2') up
  ·rename_i e5
   have:k=0:=by lia
   subst this;exact ur (qf0 C H hk' m hi hj (by lia) k2') up
theorem qo7(C:Cmp prog w A s κ G lt)(H:Mh G lt a b){st:SortSt}{n:Nat}{t:TO}(ht:t.1=none)(hk:kindOf st = κ)(h:OkM lt a b n none t.2.1 t.2.2.1 t.2.2.2.1):
  wpS (model prog w) A E s (loO a b t) (fun r st'=>Eg st st'/\match r with
   | .done u=>(∃x,u.1=some x)/\OkM lt a b (n+1) u.1 u.2.1 u.2.2.1 u.2.2.2.1
   | .yield u=>u.1=none/\OkM lt a b (n+1) none u.2.1 u.2.2.1 u.2.2.2.1) st:=by
 unfold loO;refine m4 (ur (g05 (I:=fun x u st'=>st'=st/\u.1=none/\OkM lt a b (n+x) none u.2.1 u.2.2.1 u.2.2.2.1)
  (Q:=fun u st'=>st'=st/\OkM lt a b (n+1) u.1 u.2.1 u.2.2.1 u.2.2.2.1) ?_ ?_ ⟨rfl,rfl,h⟩) ?_)
 ·rintro x ⟨u1,o,i,j,c,d⟩ st' _ hx ⟨rfl,rfl,h'⟩
  refine ur (qo5 C H hk h') ?_
  rintro r st'' ⟨rfl,hr⟩
  cases r with
  | done u=>
   refine⟨rfl,?_⟩;dsimp only at hr ⊢;unfold OkM at hr ⊢
   split at hr
   ·exact hr
   ·exact⟨hr.1,hr.2.1,hr.2.2.1,by lia⟩
  | yield u=>exact⟨rfl,hr.1,hr.2.1,hr.2.2.1,hr.2.2.2.1,by have:=hr.2.2.2.2;lia⟩
 ·rintro u st' ⟨rfl,hu,m,h1,h2,h3⟩
  rw [hu];exact⟨rfl,m,h1,h2,by lia⟩
 ·rintro⟨u1,o,i,j,c,d⟩ st' ⟨rfl,hu⟩
  cases u1 with
  | some r=>exact mq ⟨Eg.rfl' _,⟨r,rfl⟩,hu⟩
  | none=>
   dsimp only at hu ⊢;refine m4 (wpS_lift (g06 ⟨rfl,?_⟩));refine m4 (ur (g05 (I:=fun x v st''=>Eg st' st''/\v.1=none/\OkM lt a b (n+1) none v.2.1 v.2.2.1 v.2.2.2.1)
    (Q:=fun v st''=>Eg st' st''/\OkM lt a b (n+1) v.1 v.2.1 v.2.2.1 v.2.2.2.1) ?_ ?_ ⟨Eg.rfl' _,rfl,hu⟩) ?_)
   ·rintro x ⟨v1,o,i,j,g,c,d⟩ st'' _ hx ⟨eg,rfl,h'⟩
    unfold loG;dsimp only at h' ⊢;have key:∀g',wpS (model prog w) A E s (loB a b o i j g' c d) (fun r st3=>match r with
      | .done v=>Eg st' st3/\OkM lt a b (n+1) v.1 v.2.1 v.2.2.1 v.2.2.2.1
      | .yield v=>Eg st' st3/\v.1=none/\OkM lt a b (n+1) none v.2.1 v.2.2.1 v.2.2.2.1) st'':=by
     intro g';refine ur (qo6 C H (eg.1.trans hk) h') ?_
     rintro r st3 ⟨eg3,hr⟩
     cases r with
     | done v=>exact⟨eg.trans eg3,hr⟩
     | yield v=>exact⟨eg.trans eg3,hr⟩
    split
    ·exact ur (key _) fun r st3 hr=>by cases r <;> exact hr
    ·exact ur (key _) fun r st3 hr=>by cases r <;> exact hr
   ·rintro v st'' ⟨eg,hv,h'⟩
    rw [hv];exact⟨eg,h'⟩
   ·rintro⟨v1,o,i,j,g,c,d⟩ st'' ⟨eg,hv⟩
    cases v1 with
    | some r=>exact mq ⟨eg,⟨r,rfl⟩,hv⟩
    | none=>
     dsimp only at hv ⊢;exact m4 (q3u fun st3 eg3=>mq ⟨eg.trans eg3,rfl,hv⟩)
theorem qo8(C:Cmp prog w A s κ G lt)(H:Mh G lt a b){st:SortSt}{Q:Array Keyed->SortSt->Prop}(hk:kindOf st = κ)(h:∀r st',Eg st st'->Rm lt a b r->Q r st'):
  wpS (model prog w) A E s (qg1 a b) Q st:=by
 rw [qo4];refine m4 (wpS_lift (g06 ⟨rfl,?_⟩));have hb:=H.hb;have ha:=H.ha;refine m4 (zi (by lia) ?_);have m:MI lt a.toList b.toList (#[b[0]]:Array Keyed).toList 0 1:=by
  refine⟨?_,?_,?_,?_⟩
  ·have e:b.toList.take 1=[b[0]]:=by
    rw [show(1:Nat)=0+1 from rfl,td (by simp;lia)];simp
   rw [e];simp
  ·simp
  ·intro p hp q hq
   have:p=b[0]:=by simpa using hp
   subst this;exact C.asy _ _ (H.first q (by simpa using hq))
  ·intro p hp q hq
   have:p=b[0]:=by simpa using hp
   subst this;have:=q8y H.sb (ia:=0) (by simp;lia) q hq
   simpa using this
 split
 ·rename_i e
  exact mq (h _ _ (Eg.rfl' _) (fiR m H.sa (by simpa using e)))
 ·rename_i e
  have e':1≠b.size:=by simpa using e
  split
  ·rename_i e2
   exact mq (h _ _ (Eg.rfl' _) (laR H C m (by simpa using e2)))
  ·rename_i e2
   have e2':1≠a.size:=by simpa using e2
   refine m4 (g3j ?_);refine m4 (ur (g05 (I:=fun x u st'=>Eg st st'/\u.1=none/\OkM lt a b x none u.2.1 u.2.2.1 u.2.2.2.1)
    (Q:=fun u st'=>Eg st st'/\∃r,u.1=some r/\Rm lt a b r) ?_ ?_ ⟨Eg.rfl' _,rfl,m,by first|lia|(dsimp only;lia),by first|lia|(dsimp only;lia),by first|lia|(dsimp only;lia)⟩) ?_)
   ·rintro x t st' _ hx ⟨eg,ht,h'⟩
    refine ur (qo7 C H ht (eg.1.trans hk) h') ?_
    rintro r st'' ⟨eg2,hr⟩
    cases r with
    | done u=>
     obtain⟨⟨r,hr1⟩,hr2⟩:=hr;rw [hr1] at hr2;exact⟨eg.trans eg2,r,hr1,hr2⟩
    | yield u=>exact⟨eg.trans eg2,hr.1,hr.2⟩
   ·rintro u st' ⟨eg,hu,_,h1,h2,h3⟩
    lia
   ·rintro⟨u1,u2⟩ st' ⟨eg,r,hr,hR⟩
    cases hr;exact mq (h _ _ eg hR)
end
structure MJ(lt:Value->Value->Bool)(la lb o:List Keyed)(ia ib:Nat): Prop where
 perm:o.Perm (la.drop ia++lb.drop ib)
 ord:o.Pairwise (fun p q=>le lt q p)
 ua:∀p∈o,∀q∈la.take ia,le lt q p
 ub:∀p∈o,∀q∈lb.take ib,le lt q p
section
variable{lt:Value->Value->Bool}{la lb o:List Keyed}{ia ib:Nat}
theorem MJ.swap(h:MJ lt la lb o ia ib): MJ lt lb la o ib ia:=⟨h.perm.trans uw,h.ord,h.ub,h.ua⟩
theorem q8z(sa:la.Pairwise (le lt))(h:ia<la.length): ∀q∈la.take ia,le lt q la[ia]:=by
 have s2:=g3a (i:=ia+1) sa;rw [td h] at s2;intro q hq;exact(pd.mp s2).2.2 q hq _ (n9.mpr rfl)
theorem MJ.step(m:MJ lt la lb o (ia+1) ib)(sa:la.Pairwise (le lt))(h:ia<la.length)(hq:∀q∈lb.take ib,le lt q la[ia]): MJ lt la lb (o++[la[ia]]) ia ib:=by
 have e:=pj h;have e2:=td h;refine⟨?_,?_,?_,?_⟩
 ·rw [e]
  refine(m.perm.append_right _).trans ?_;refine uw.trans ?_;exact g4y _
 ·refine pd.mpr ⟨m.ord,g27 _ _,fun p hp q hq=>?_⟩
  rw [n9.mp hq];exact m.ua p hp _ (by rw [e2];exact nt _ (n9.mpr rfl))
 ·intro p hp q hq'
  rcases nz.mp hp with hp|hp
  ·exact m.ua p hp q (by rw [e2];exact g2l _ hq')
  ·rw [n9.mp hp]
   exact q8z sa h q hq'
 ·intro p hp q hq'
  rcases nz.mp hp with hp|hp
  ·exact m.ub p hp q hq'
  ·rw [n9.mp hp]
   exact hq q hq'
theorem MJ.steps(m:MJ lt la lb o ia ib)(sa:la.Pairwise (le lt))(hia:ia<=la.length): ∀(k:Nat),k<=ia->(∀i,(h1:ia-k<=i)->(h2:i<ia)->∀q∈lb.take ib,le lt q (la[i]'(by lia))) ->
  MJ lt la lb (o++((la.drop (ia-k)).take k).reverse) (ia-k) ib
 | 0,_,_=>by simpa using m
 | k+1,hk,hq=>by
  have m':=MJ.steps m sa hia k (by lia) (fun i h1 h2=>hq i (by lia) h2);have e0:ia-k=ia-(k+1)+1:=by lia
  rw [e0] at m';have m2:=m'.step sa (by lia) (hq (ia-(k+1)) (by lia) (by lia));have e:((la.drop (ia-(k+1))).take (k+1)).reverse=((la.drop (ia-(k+1)+1)).take k).reverse++[la[ia-(k+1)]]:=by
   rw [pj (by lia),List.take_succ_cons,List.reverse_cons]
  rw [e, <- n8];exact m2
theorem qf1{o:List Keyed}(h:o.Pairwise (fun p q=>le lt q p)): o.reverse.Pairwise (le lt):=List.pairwise_reverse.mpr h
theorem MJ.fin(m:MJ lt la lb o ia ib)(sb:lb.Pairwise (le lt))(ha:ia=0): (lb.take ib++o.reverse).Perm (la++lb)/\(lb.take ib++o.reverse).Pairwise (le lt):=by
 subst ha;refine⟨?_,pd.mpr ⟨g3a sb,qf1 m.ord,fun q hq p hp=>m.ub p (List.mem_reverse.mp hp) q hq⟩⟩;have:=m.perm;rw [g3h] at this;refine(g09 _ ((List.reverse_perm _).trans this)).trans ?_;refine uw.trans ?_;rw [n8];refine g09 _ ?_;exact uw.trans (by rw [pf])
theorem MJ.last(m:MJ lt la lb o ia ib)(sa:la.Pairwise (le lt))(sb:lb.Pairwise (le lt))(hl:∀q∈lb.take ib,∀p∈la.take ia,le lt q p):
  (lb.take ib++la.take ia++o.reverse).Perm (la++lb)/\(lb.take ib++la.take ia++o.reverse).Pairwise (le lt):=by
 refine⟨?_,pd.mpr ⟨pd.mpr ⟨g3a sb,g3a sa,hl⟩,qf1 m.ord,fun q hq p hp=>?_⟩⟩
 ·refine(g09 _ ((List.reverse_perm _).trans m.perm)).trans ?_
  rw [n8, <- n8 (la.take ia),pf];refine(g09 _ uw).trans ?_;rw [<- n8,pf];exact uw
 ·have hp':=List.mem_reverse.mp hp
  rcases nz.mp hq with hq|hq
  ·exact m.ub p hp' q hq
  ·exact m.ua p hp' q hq
end
abbrev qg2:Array Keyed->Array Keyed->StateT SortSt Sem (Array Keyed):=sortPriv% PySem.Builtin.mergeHi
abbrev TJI:=Option (Array Keyed)×Nat×Nat×Array Keyed×Nat×Nat
abbrev TJG:=Option (Array Keyed)×Nat×Nat×Array Keyed×Nat×Nat×Nat
abbrev TJO:=Option (Array Keyed)×Nat×Nat×Array Keyed×Nat
section
variable(a b:Array Keyed)
def fiH(o:Array Keyed)(i j:Nat): Array Keyed:=a.extract 0 i++b.extract 0 j++o.reverse
def laH(o:Array Keyed)(i j:Nat): Array Keyed:=b.extract 0 j++a.extract 0 i++o.reverse
noncomputable def hiI(g:Nat)(t:TJI): StateT SortSt Sem (ForInStep TJI):=do
 match <- lt' (<- elem' b (t.2.2.1-1)) (<- elem' a (t.2.1-1)) with
 | some wi=>
  if wi=true then
   let x <- elem' a (t.2.1-1)
   if(t.2.1-1==0)=true then pure (.done (some (fiH a b (t.2.2.2.1.push x) (t.2.1-1) t.2.2.1),t.2.1-1,t.2.2.1,t.2.2.2.1.push x,t.2.2.2.2.1+1,0))
   else if t.2.2.2.2.1+1>=g then pure (.done (none,t.2.1-1,t.2.2.1,t.2.2.2.1.push x,t.2.2.2.2.1+1,0))
   else pure (.yield (none,t.2.1-1,t.2.2.1,t.2.2.2.1.push x,t.2.2.2.2.1+1,0))
  else
   let x <- elem' b (t.2.2.1-1)
   if(t.2.2.1-1==1)=true then pure (.done (some (laH a b (t.2.2.2.1.push x) t.2.1 (t.2.2.1-1)),t.2.1,t.2.2.1-1,t.2.2.2.1.push x,0,t.2.2.2.2.2+1))
   else if t.2.2.2.2.2+1>=g then pure (.done (none,t.2.1,t.2.2.1-1,t.2.2.2.1.push x,0,t.2.2.2.2.2+1))
   else pure (.yield (none,t.2.1,t.2.2.1-1,t.2.2.2.1.push x,0,t.2.2.2.2.2+1))
 | _=>pure (.done (some (fiH a b t.2.2.2.1 t.2.1 t.2.2.1),t.2.1,t.2.2.1,t.2.2.2.1,t.2.2.2.2.1,t.2.2.2.2.2))
noncomputable def hiD(i j:Nat)(o:Array Keyed)(g c d:Nat): StateT SortSt Sem (ForInStep TJG):=do
 let x <- elem' a (i-1)
 if(i-1==0)=true then pure (.done (some (fiH a b (o.push x) (i-1) j),i-1,j,o.push x,g,c,d))
 else if(decide (c<7)&&decide (d<7))=true then pure (.done (none,i-1,j,o.push x,g,c,d))
 else pure (.yield (none,i-1,j,o.push x,g,c,d))
noncomputable def hiC(i j:Nat)(o:Array Keyed)(g c d:Nat): StateT SortSt Sem (ForInStep TJG):=do
 let x <- elem' b (j-1)
 if(j-1==1)=true then pure (.done (some (laH a b (o.push x) i (j-1)),i,j-1,o.push x,g,c,d))
 else do
  match <- q1j true (<- elem' a (i-1)) b 0 (j-1) (j-1-1) with
  | some z=>
   if j-1-z>0 then
    if(z==1)=true then pure (.done (some (laH a b (o.push x++(b.extract z (j-1)).reverse) i z),i,z,o.push x++(b.extract z (j-1)).reverse,g,c,j-1-z))
    else if(z==0)=true then pure (.done (some (fiH a b (o.push x++(b.extract z (j-1)).reverse) i z),i,z,o.push x++(b.extract z (j-1)).reverse,g,c,j-1-z))
    else hiD a b i z (o.push x++(b.extract z (j-1)).reverse) g c (j-1-z)
   else hiD a b i (j-1) (o.push x) g c (j-1-z)
  | _=>pure (.done (some (fiH a b (o.push x) i (j-1)),i,j-1,o.push x,g,c,d))
noncomputable def hiB(i j:Nat)(o:Array Keyed)(g c d:Nat): StateT SortSt Sem (ForInStep TJG):=do
 q1n g
 match <- q1j false (<- elem' b (j-1)) a 0 i (i-1) with
 | some z=>
  if i-z>0 then
   if(z==0)=true then pure (.done (some (fiH a b (o++(a.extract z i).reverse) z j),z,j,o++(a.extract z i).reverse,g,i-z,d))
   else hiC a b z j (o++(a.extract z i).reverse) g (i-z) d
  else hiC a b i j o g (i-z) d
 | _=>pure (.done (some (fiH a b o i j),i,j,o,g,c,d))
noncomputable def hiG(t:TJG): StateT SortSt Sem (ForInStep TJG):=
 if t.2.2.2.2.1>1 then hiB a b t.2.1 t.2.2.1 t.2.2.2.1 (t.2.2.2.2.1-1) t.2.2.2.2.2.1 t.2.2.2.2.2.2 else hiB a b t.2.1 t.2.2.1 t.2.2.2.1 t.2.2.2.2.1 t.2.2.2.2.2.1 t.2.2.2.2.2.2
noncomputable def hiO(t:TJO): StateT SortSt Sem (ForInStep TJO):=do
 let u <- forIn [0:a.size+b.size] ((none,t.2.1,t.2.2.1,t.2.2.2.1,0,0):TJI) fun _=>hiI a b t.2.2.2.2
 match u.1 with
 | some r=>pure (.done (some r,u.2.1,u.2.2.1,u.2.2.2.1,t.2.2.2.2))
 | none=>do
  rule "list.sort.gallop"
  let v <- forIn [0:a.size+b.size] ((none,u.2.1,u.2.2.1,u.2.2.2.1,t.2.2.2.2+1,u.2.2.2.2.1,u.2.2.2.2.2):TJG) fun _=>hiG a b
  match v.1 with
  | some r=>pure (.done (some r,v.2.1,v.2.2.1,v.2.2.2.1,v.2.2.2.2.1))
  | none=>do
   q1n (v.2.2.2.2.1+1)
   pure (.yield (none,v.2.1,v.2.2.1,v.2.2.2.1,v.2.2.2.2.1+1))
end
theorem ql7(a b:Array Keyed): qg2 a b=(do
 rule "list.sort.merge-hi"
 let all:=a.size+b.size
 let fi (o:Array Keyed) (i j:Nat):=a.extract 0 i++b.extract 0 j++o.reverse
 let la (o:Array Keyed) (i j:Nat):=b.extract 0 j++a.extract 0 i++o.reverse
 let mut i:=a.size-1
 let mut j:=b.size
 let mut o:Array Keyed:= #[<- elem' a i]
 if i==0 then return fi o i j
 if j==1 then return la o i j
 let mut g:=gallopOf (<- get)
 for _ in [0:all] do
  let mut c:=0
  let mut d:=0
  for _ in [0:all] do
   let some wi <- lt' (<- elem' b (j-1)) (<- elem' a (i-1))|return fi o i j
   if wi then
    i:=i-1;o:=o.push (<- elem' a i);c:=c+1;d:=0
    if i==0 then return fi o i j
    if c>=g then break
   else
    j:=j-1;o:=o.push (<- elem' b j);d:=d+1;c:=0
    if j==1 then return la o i j
    if d>=g then break
  rule "list.sort.gallop"
  g:=g+1
  for _ in [0:all] do
   if g>1 then g:=g-1
   q1n g
   let some z <- q1j false (<- elem' b (j-1)) a 0 i (i-1)|return fi o i j
   let k:=i-z
   c:=k
   if k>0 then
    o:=o++(a.extract z i).reverse;i:=z
    if i==0 then return fi o i j
   j:=j-1;o:=o.push (<- elem' b j)
   if j==1 then return la o i j
   let some z <- q1j true (<- elem' a (i-1)) b 0 j (j-1)|return fi o i j
   let k:=j-z
   d:=k
   if k>0 then
    o:=o++(b.extract z j).reverse;j:=z
    if j==1 then return la o i j
    if j==0 then return fi o i j
   i:=i-1;o:=o.push (<- elem' a i)
   if i==0 then return fi o i j
   if c<7&&d<7 then break
  g:=g+1
  q1n g
 unsupported "internal:list.sort.merge-bound"):=rfl
theorem qo9 (a b:Array Keyed):qg2 a b=(do
 rule "list.sort.merge-hi"
 let x <- elem' a (a.size-1)
 if(a.size-1==0)=true then return fiH a b #[x] (a.size-1) b.size
 if(b.size==1)=true then return laH a b #[x] (a.size-1) b.size
 let z <- get
 let t <- forIn [0:a.size+b.size] ((none,a.size-1,b.size, #[x],gallopOf z):TJO) fun _=>hiO a b
 match t.1 with
 | some r=>pure r
 | none=>unsupported "internal:list.sort.merge-bound"):=by
 rw [ql7];dsimp only;refine bc fun _=>bc fun x=>g0a rfl (fun _=>rfl) fun _=>g0a rfl (fun _=>rfl) fun _=>bc fun z=>bc2 (fc fun _ t=>?_) fun t=>?_
 ·unfold hiO
  refine bc2 (fc fun _ u=>?_) fun u=>?_
  ·rfl
  ·cases e:u.1 with
   | some r=>rfl
   | none=>
    refine bc fun _=>bc2 (fc fun _ v=>?_) fun v=>?_
    ·unfold hiG
     refine g0a rfl (fun _=>?_) (fun _=>?_)
     all_goals
      unfold hiB;refine bc fun _=>bc fun y=>bc fun k=>?_;cases k with
      | none=>rfl
      | some k=>
       dsimp only;refine g0a rfl (fun _=>g0a rfl (fun _=>rfl) fun _=>?_) (fun _=>?_)
       all_goals
        unfold hiC;refine bc fun y=>g0a rfl (fun _=>rfl) fun _=>bc fun y=>bc fun k=>?_;cases k with
        | none=>rfl
        | some k=>rfl
    ·cases e:v.1 <;> rfl
 ·cases e:t.1 <;> rfl
section
variable{prog:Program}{w:World}{A:Around}{E:Value->Shared->Prop}{s:Shared}{κ : SortKind}{G:Value->Prop}{lt:Value->Value->Bool}{a b:Array Keyed}
def OkH(lt:Value->Value->Bool)(a b:Array Keyed)(n:Nat)(x:Option (Array Keyed))(i j:Nat)(o:Array Keyed): Prop:=match x with
 | some r=>Rm lt a b r
 | none=>MJ lt a.toList b.toList o.toList i j/\1<=i/\2<=j/\i<=a.size/\j<=b.size/\i+j+n<=a.size+b.size
theorem q3w(x:Array Keyed)(i:Nat): (x.extract 0 i).toList=x.toList.take i:=by
 rw [g0r];show(x.toList.drop 0).take (i-0)=_;simp
theorem qf2(x:Array Keyed)(i j:Nat): ((x.extract i j).reverse).toList=((x.toList.drop i).take (j-i)).reverse:=by
 rw [g4r,g0r]
theorem fhR{o:Array Keyed}{i j:Nat}(m:MJ lt a.toList b.toList o.toList i j)(sb:b.toList.Pairwise (le lt))(hi:i=0): Rm lt a b (fiH a b o i j):=by
 have:=m.fin sb hi;subst hi;unfold Rm fiH;have e:(a.extract 0 0++b.extract 0 j++o.reverse).toList=b.toList.take j++o.toList.reverse:=by
  rw [t7,t7,q3w,q3w,g4r]
  rfl
 rw [e];exact this
theorem lhR{o:Array Keyed}{i j:Nat}(H:Mh G lt a b)(C:Cmp prog w A s κ G lt)(m:MJ lt a.toList b.toList o.toList i j)(hj:j=1): Rm lt a b (laH a b o i j):=by
 have hb:=H.hb;have e1:b.toList.take 1=[b[0]]:=by
  rw [show(1:Nat)=0+1 from rfl,td (by simp;lia)];simp
 subst hj;have:=m.last H.sa H.sb (fun q hq p hp=>by
  rw [e1] at hq;rw [n9.mp hq];exact C.asy _ _ (H.first p (g18 hp)))
 unfold Rm laH;have e:(b.extract 0 1++a.extract 0 i++o.reverse).toList=b.toList.take 1++a.toList.take i++o.toList.reverse:=by
  rw [t7,t7,q3w,q3w,g4r]
 rw [e];exact this
theorem qoa(C:Cmp prog w A s κ G lt){l:List Keyed}(sl:l.Pairwise (le lt)){i:Nat}(hi:i<l.length){x:Keyed}(h:le lt l[i] x): ∀q∈l.take (i+1),le lt q x:=by
 intro q hq;rw [td hi] at hq;rcases nz.mp hq with hq|hq
 ·exact qif C (q8z sl hi q hq) h
 ·rw [n9.mp hq];exact h
theorem MJ.stepA(H:Mh G lt a b){o:Array Keyed}{i j:Nat}(m:MJ lt a.toList b.toList o.toList i j)(h1:1<=i)(h2:i<=a.size)(hq:∀q∈b.toList.take j,le lt q (a[i-1]'(by lia))):
  MJ lt a.toList b.toList (o.push (a[i-1]'(by lia))).toList (i-1) j:=by
 obtain⟨i,rfl⟩:∃i',i=i'+1:=⟨i-1,by lia⟩
 have:=m.step H.sa (by simp;lia) (by simpa using hq)
 simpa using this
theorem MJ.stepB(H:Mh G lt a b){o:Array Keyed}{i j:Nat}(m:MJ lt a.toList b.toList o.toList i j)(h1:1<=j)(h2:j<=b.size)(hq:∀q∈a.toList.take i,le lt q (b[j-1]'(by lia))):
  MJ lt a.toList b.toList (o.push (b[j-1]'(by lia))).toList i (j-1):=by
 obtain⟨j,rfl⟩:∃j',j=j'+1:=⟨j-1,by lia⟩
 have:=m.swap.step H.sb (by simp;lia) (by simpa using hq)
 simpa using this.swap
theorem q82(C:Cmp prog w A s κ G lt){l:Array Keyed}(sl:l.toList.Pairwise (le lt)){i:Nat}(h1:1<=i)(hi:i<=l.size){x:Keyed}(h:le lt (l[i-1]'(by lia)) x): ∀q∈l.toList.take i,le lt q x:=by
 obtain⟨i,rfl⟩:∃i',i=i'+1:=⟨i-1,by lia⟩
 exact qoa C sl (by simp;lia) (by simpa using h)
theorem qob(C:Cmp prog w A s κ G lt)(H:Mh G lt a b){st:SortSt}{g n c d:Nat}{o:Array Keyed}{i j:Nat}(hk:kindOf st = κ)(h:OkH lt a b n none i j o):
  wpS (model prog w) A E s (hiI a b g (none,i,j,o,c,d)) (fun r st'=>st'=st/\match r with
   | .done u=>OkH lt a b (n+1) u.1 u.2.1 u.2.2.1 u.2.2.2.1
   | .yield u=>u.1=none/\OkH lt a b (n+1) none u.2.1 u.2.2.1 u.2.2.2.1) st:=by
 obtain⟨m,h1,h2,h3,h4,h5⟩:=h;unfold hiI;dsimp only;refine m4 (zi (by lia) (m4 (zi (by lia) (m4 (q3j (C:=C) hk (H.gb _ (by simp)) (H.ga _ (by simp)) ?_)))));dsimp only;cases e:lt (b[j-1]).1 (a[i-1]).1
 ·simp only [gh,ny]
  refine m4 (zi (by lia) ?_);have m2:=m.stepB H (by lia) h4 (q82 C H.sa h1 h3 e)
  split
  ·rename_i e2
   exact mq ⟨rfl,lhR H C m2 (by simpa using e2)⟩
  ·rename_i e2
   have e2':j-1≠1:=by simpa using e2
   split
   ·exact mq ⟨rfl,m2,h1,by first|lia|(dsimp only;lia),h3,by first|lia|(dsimp only;lia),by first|lia|(dsimp only;lia)⟩
   ·exact mq ⟨rfl,rfl,m2,h1,by first|lia|(dsimp only;lia),h3,by first|lia|(dsimp only;lia),by first|lia|(dsimp only;lia)⟩
 ·simp only [p0]
  refine m4 (zi (by lia) ?_);have m2:=m.stepA H h1 h3 (q82 C H.sb (by lia) h4 (C.asy _ _ e))
  split
  ·rename_i e2
   exact mq ⟨rfl,fhR m2 H.sb (by simpa using e2)⟩
  ·rename_i e2
   have e2':i-1≠0:=by simpa using e2
   split
   ·exact mq ⟨rfl,m2,by first|lia|(dsimp only;lia),h2,by first|lia|(dsimp only;lia),h4,by first|lia|(dsimp only;lia)⟩
   ·exact mq ⟨rfl,rfl,m2,by first|lia|(dsimp only;lia),h2,by first|lia|(dsimp only;lia),h4,by first|lia|(dsimp only;lia)⟩
abbrev QH(lt:Value->Value->Bool)(a b:Array Keyed)(n:Nat)(st:SortSt): ForInStep TJG->SortSt->Prop:=fun r st'=>Eg st st'/\match r with
   | .done u=>OkH lt a b n u.1 u.2.1 u.2.2.1 u.2.2.2.1
   | .yield u=>u.1=none/\OkH lt a b n none u.2.1 u.2.2.1 u.2.2.2.1
theorem qf3(C:Cmp prog w A s κ G lt)(H:Mh G lt a b){st:SortSt}{n g c d:Nat}{o:Array Keyed}{i j:Nat}(m:MJ lt a.toList b.toList o.toList i j)(h1:1<=i)(h2:2<=j)(h3:i<=a.size)(h4:j<=b.size)(h5:i+j+n<=a.size+b.size)
  (hq:∀q∈b.toList.take j,le lt q (a[i-1]'(by lia))):wpS (model prog w) A E s (hiD a b i j o g c d) (QH lt a b n st) st:=by
 unfold hiD;refine m4 (zi (by lia) ?_);have m2:=m.stepA H h1 h3 hq
 split
 ·rename_i e2
  exact mq ⟨Eg.rfl' _,fhR m2 H.sb (by simpa using e2)⟩
 ·rename_i e2
  have e2':i-1≠0:=by simpa using e2
  split
  ·exact mq ⟨Eg.rfl' _,m2,by first|lia|(dsimp only;lia),h2,by first|lia|(dsimp only;lia),h4,by first|lia|(dsimp only;lia)⟩
  ·exact mq ⟨Eg.rfl' _,rfl,m2,by first|lia|(dsimp only;lia),h2,by first|lia|(dsimp only;lia),h4,by first|lia|(dsimp only;lia)⟩
theorem MJ.stepsA(H:Mh G lt a b){o:Array Keyed}{i j z:Nat}(m:MJ lt a.toList b.toList o.toList i j)(hz:z<=i)(h3:i<=a.size)(hq:∀x,(h1:z<=x)->(h2:x<i)->∀q∈b.toList.take j,le lt q (a[x]'(by lia))):
  MJ lt a.toList b.toList (o++(a.extract z i).reverse).toList z j:=by
 have:=m.steps H.sa (by simpa using h3) (i-z) (by lia) (fun x x1 x2=>by simpa using hq x (by lia) x2);rw [show i-(i-z)=z by lia] at this;rw [t7,qf2];exact this
theorem MJ.stepsB(H:Mh G lt a b){o:Array Keyed}{i j z:Nat}(m:MJ lt a.toList b.toList o.toList i j)(hz:z<=j)(h3:j<=b.size)(hq:∀x,(h1:z<=x)->(h2:x<j)->∀q∈a.toList.take i,le lt q (b[x]'(by lia))):
  MJ lt a.toList b.toList (o++(b.extract z j).reverse).toList i z:=by
 have:=m.swap.steps H.sb (by simpa using h3) (j-z) (by lia) (fun x x1 x2=>by simpa using hq x (by lia) x2);rw [show j-(j-z)=z by lia] at this;rw [t7,qf2];exact this.swap
theorem qf4(C:Cmp prog w A s κ G lt)(H:Mh G lt a b){st:SortSt}{n g c d:Nat}{o:Array Keyed}{i j:Nat}(hk:kindOf st = κ)(m:MJ lt a.toList b.toList o.toList i j)(h1:1<=i)(h2:2<=j)(h3:i<=a.size)(h4:j<=b.size)(h5:i+j+n<=a.size+b.size)
  (hq:∀q∈a.toList.take i,le lt q (b[j-1]'(by lia))):wpS (model prog w) A E s (hiC a b i j o g c d) (QH lt a b n st) st:=by
 unfold hiC;refine m4 (zi (by lia) ?_);have m2:=m.stepB H (by lia) h4 hq
 split
 ·rename_i e2
  exact mq ⟨Eg.rfl' _,lhR H C m2 (by simpa using e2)⟩
 ·rename_i e2
  have e2':j-1≠1:=by simpa using e2
  refine m4 (zi (by lia) (m4 (q1v C hk (H.ga _ (by simp)) H.gb (by lia) (by lia) (fun x y hxy hy k1=>?_) fun z hz k1 k2=>?_)))
  ·simp only [far1,p0] at k1 ⊢
   have hle:le lt (b[0+x]'(by lia)) (b[0+y]'(by lia)):=q81 C (fun x=>C.irr _) H.sb (i:=0+x) (j:=0+y) (by lia) (by simp;lia);cases e3:lt (b[0+x]'(by lia)).1 (a[i-1]).1
   ·have:=C.tra _ _ _ e3 hle
    rw [this] at k1;cases k1
   ·rfl
  ·dsimp only
   have k1':∀x,(hx:x<z)->lt (b[x]'(by lia)).1 (a[i-1]).1=true:=fun x hx=>by
    have:=k1 x hx (by lia);simpa [far1] using this
   have k2':∀x,(hx:z<=x)->(hx2:x<j-1)->lt (b[x]'(by lia)).1 (a[i-1]).1=false:=fun x hx hx2=>by
    have:=k2 x hx hx2;simpa [far1] using this
   have hz0:1<=z:=by
    rcases g6x 0 z with h|h
    ·exact h
    ·have:=k2' 0 (by lia) (by lia)
     rw [H.first _ (by simp)] at this;cases this
   have k3:∀q∈b.toList.take z,le lt q (a[i-1]):=by
    intro q hq';obtain⟨y,hy,rfl⟩:=uo.mp hq';simp only [p6,nu] at hy;have:=C.asy _ _ (k1' y (by lia))
    simpa [le] using this
   split
   ·have m3:=m2.stepsB H (z:=z) (by lia) (by lia) (fun x x1 x2=>q82 C H.sa h1 h3 (k2' x x1 x2))
    split
    ·rename_i e5
     exact mq ⟨Eg.rfl' _,lhR H C m3 (by simpa using e5)⟩
    ·rename_i e5
     have e5':z≠1:=by simpa using e5
     split
     ·rename_i e6
      have e6':z=0:=by simpa using e6
      lia
     ·exact qf3 C H m3 h1 (by lia) h3 (by lia) (by lia) k3
   ·have:z=j-1:=by lia
    subst this;exact qf3 C H m2 h1 (by lia) h3 (by lia) (by lia) k3
theorem qoc(C:Cmp prog w A s κ G lt)(H:Mh G lt a b){st:SortSt}{n g c d:Nat}{o:Array Keyed}{i j:Nat}(hk:kindOf st = κ)(h:OkH lt a b n none i j o):
  wpS (model prog w) A E s (hiB a b i j o g c d) (QH lt a b n st) st:=by
 obtain⟨m,h1,h2,h3,h4,h5⟩:=h;unfold hiB;refine m4 (q3u fun st' eg=>?_);have hk':kindOf st' = κ :=eg.1.trans hk;have up:∀r st'',QH lt a b n st' r st''->QH lt a b n st r st'':=fun r st'' q=>⟨eg.trans q.1,q.2⟩
 refine m4 (zi (by lia) (m4 (q1v C hk' (H.gb _ (by simp)) H.ga (by lia) (by lia) (fun x y hxy hy k1=>?_) fun z hz k1 k2=>?_)))
 ·simp only [far1,gh,ny,g3t] at k1 ⊢
  have hle:=q81 C (fun x=>C.irr _) H.sa (i:=0+x) (j:=0+y) (by lia) (by simp;lia);exact C.tra _ _ _ (by simpa [le] using hle) k1
 ·dsimp only
  have k1':∀x,(hx:x<z)->lt (b[j-1]).1 (a[x]'(by lia)).1=false:=fun x hx=>by
   have:=k1 x hx (by lia);simpa [far1] using this
  have k2':∀x,(hx:z<=x)->(hx2:x<i)->lt (b[j-1]).1 (a[x]'(by lia)).1=true:=fun x hx hx2=>by
   have:=k2 x hx hx2;simpa [far1] using this
  have k3:∀q∈a.toList.take z,le lt q (b[j-1]):=by
   intro q hq';obtain⟨y,hy,rfl⟩:=uo.mp hq';simp only [p6,nu] at hy;have:=k1' y (by lia)
   simpa [le] using this
  split
  ·have m3:=m.stepsA H (z:=z) (by lia) h3 (fun x x1 x2=>q82 C H.sb (by lia) h4 (C.asy _ _ (k2' x x1 x2)))
   split
   ·rename_i e5
    exact mq (up _ _ ⟨Eg.rfl' _,fhR m3 H.sb (by simpa using e5)⟩)
   ·rename_i e5
    have e5':z≠0:=by simpa using e5
    exact ur (qf4 C H hk' m3 (by lia) h2 (by lia) h4 (by lia) k3) up
  ·have:z=i:=by lia
   subst this;exact ur (qf4 C H hk' m h1 h2 h3 h4 h5 k3) up
theorem qod(C:Cmp prog w A s κ G lt)(H:Mh G lt a b){st:SortSt}{n:Nat}{t:TJO}(ht:t.1=none)(hk:kindOf st = κ)(h:OkH lt a b n none t.2.1 t.2.2.1 t.2.2.2.1):
  wpS (model prog w) A E s (hiO a b t) (fun r st'=>Eg st st'/\match r with
   | .done u=>(∃x,u.1=some x)/\OkH lt a b (n+1) u.1 u.2.1 u.2.2.1 u.2.2.2.1
   | .yield u=>u.1=none/\OkH lt a b (n+1) none u.2.1 u.2.2.1 u.2.2.2.1) st:=by
 unfold hiO;refine m4 (ur (g05 (I:=fun x u st'=>st'=st/\u.1=none/\OkH lt a b (n+x) none u.2.1 u.2.2.1 u.2.2.2.1)
  (Q:=fun u st'=>st'=st/\OkH lt a b (n+1) u.1 u.2.1 u.2.2.1 u.2.2.2.1) ?_ ?_ ⟨rfl,rfl,h⟩) ?_)
 ·rintro x ⟨u1,i,j,o,c,d⟩ st' _ hx ⟨rfl,rfl,h'⟩
  refine ur (qob C H hk h') ?_
  rintro r st'' ⟨rfl,hr⟩
  cases r with
  | done u=>
   refine⟨rfl,?_⟩;dsimp only at hr ⊢;unfold OkH at hr ⊢
   split at hr
   ·exact hr
   ·exact⟨hr.1,hr.2.1,hr.2.2.1,hr.2.2.2.1,hr.2.2.2.2.1,by lia⟩
  | yield u=>exact⟨rfl,hr.1,hr.2.1,hr.2.2.1,hr.2.2.2.1,hr.2.2.2.2.1,hr.2.2.2.2.2.1,by have:=hr.2.2.2.2.2.2;lia⟩
 ·rintro u st' ⟨rfl,hu,m,h1,h2,h3,h4,h5⟩
  rw [hu];exact⟨rfl,m,h1,h2,h3,h4,by lia⟩
 ·rintro⟨u1,i,j,o,c,d⟩ st' ⟨rfl,hu⟩
  cases u1 with
  | some r=>exact mq ⟨Eg.rfl' _,⟨r,rfl⟩,hu⟩
  | none=>
   dsimp only at hu ⊢;refine m4 (wpS_lift (g06 ⟨rfl,?_⟩));refine m4 (ur (g05 (I:=fun x v st''=>Eg st' st''/\v.1=none/\OkH lt a b (n+1) none v.2.1 v.2.2.1 v.2.2.2.1)
    (Q:=fun v st''=>Eg st' st''/\OkH lt a b (n+1) v.1 v.2.1 v.2.2.1 v.2.2.2.1) ?_ ?_ ⟨Eg.rfl' _,rfl,hu⟩) ?_)
   ·rintro x ⟨v1,i,j,o,g,c,d⟩ st'' _ hx ⟨eg,rfl,h'⟩
    unfold hiG;dsimp only at h' ⊢;have key:∀g',wpS (model prog w) A E s (hiB a b i j o g' c d) (fun r st3=>match r with
      | .done v=>Eg st' st3/\OkH lt a b (n+1) v.1 v.2.1 v.2.2.1 v.2.2.2.1
      | .yield v=>Eg st' st3/\v.1=none/\OkH lt a b (n+1) none v.2.1 v.2.2.1 v.2.2.2.1) st'':=by
     intro g';refine ur (qoc C H (eg.1.trans hk) h') ?_
     rintro r st3 ⟨eg3,hr⟩
     cases r with
     | done v=>exact⟨eg.trans eg3,hr⟩
     | yield v=>exact⟨eg.trans eg3,hr⟩
    split
    ·exact ur (key _) fun r st3 hr=>by cases r <;> exact hr
    ·exact ur (key _) fun r st3 hr=>by cases r <;> exact hr
   ·rintro v st'' ⟨eg,hv,h'⟩
    rw [hv];exact⟨eg,h'⟩
   ·rintro⟨v1,i,j,o,g,c,d⟩ st'' ⟨eg,hv⟩
    cases v1 with
    | some r=>exact mq ⟨eg,⟨r,rfl⟩,hv⟩
    | none=>
     dsimp only at hv ⊢;exact m4 (q3u fun st3 eg3=>mq ⟨eg.trans eg3,rfl,hv⟩)
theorem qoe(C:Cmp prog w A s κ G lt)(H:Mh G lt a b){st:SortSt}{Q:Array Keyed->SortSt->Prop}(hk:kindOf st = κ)(h:∀r st',Eg st st'->Rm lt a b r->Q r st'):
  wpS (model prog w) A E s (qg2 a b) Q st:=by
 rw [qo9];refine m4 (wpS_lift (g06 ⟨rfl,?_⟩));have hb:=H.hb;have ha:=H.ha;refine m4 (zi (by lia) ?_);have m:MJ lt a.toList b.toList (#[a[a.size-1]]:Array Keyed).toList (a.size-1) b.size:=by
  refine⟨?_,?_,?_,?_⟩
  ·rw [pj (by simp;lia),g6d (by simp;lia),g6d (by simp)]
   simp
  ·simp
  ·intro p hp q hq
   have:p=a[a.size-1]:=by simpa using hp
   subst this;have:=q8z H.sa (ia:=a.size-1) (by simp;lia) q hq
   simpa using this
  ·intro p hp q hq
   have:p=a[a.size-1]:=by simpa using hp
   subst this;exact C.asy _ _ (H.last q (g18 hq))
 split
 ·rename_i e
  exact mq (h _ _ (Eg.rfl' _) (fhR m H.sb (by simpa using e)))
 ·rename_i e
  have e':a.size-1≠0:=by simpa using e
  split
  ·rename_i e2
   exact mq (h _ _ (Eg.rfl' _) (lhR H C m (by simpa using e2)))
  ·rename_i e2
   have e2':b.size≠1:=by simpa using e2
   refine m4 (g3j ?_);refine m4 (ur (g05 (I:=fun x u st'=>Eg st st'/\u.1=none/\OkH lt a b x none u.2.1 u.2.2.1 u.2.2.2.1)
    (Q:=fun u st'=>Eg st st'/\∃r,u.1=some r/\Rm lt a b r) ?_ ?_ ⟨Eg.rfl' _,rfl,m,by first|lia|(dsimp only;lia),by first|lia|(dsimp only;lia),by first|lia|(dsimp only;lia),by first|lia|(dsimp only;lia),by first|lia|(dsimp only;lia)⟩) ?_)
   ·rintro x t st' _ hx ⟨eg,ht,h'⟩
    refine ur (qod C H ht (eg.1.trans hk) h') ?_
    rintro r st'' ⟨eg2,hr⟩
    cases r with
    | done u=>
     obtain⟨⟨r,hr1⟩,hr2⟩:=hr;rw [hr1] at hr2;exact⟨eg.trans eg2,r,hr1,hr2⟩
    | yield u=>exact⟨eg.trans eg2,hr.1,hr.2⟩
   ·rintro u st' ⟨eg,hu,_,h1,h2,h3,h4,h5⟩
    lia
   ·rintro⟨u1,u2⟩ st' ⟨eg,r,hr,hR⟩
    cases hr;exact mq (h _ _ eg hR)
end
def Kz(xs:Array Keyed)(i:Nat): Value:=kz xs[i]?
theorem q02{xs ys:Array Keyed}{i j:Nat}(h:xs[i]? = ys[j]?): Kz xs i=Kz ys j:=by unfold Kz;rw [h]
theorem jk{xs:Array Keyed}{i:Nat}(h:i<xs.size): Kz xs i=xs[i].1:=by unfold Kz;rw [g21 xs i h];rfl
def Asc(lt:Value->Value->Bool)(xs:Array Keyed)(lo hi:Nat): Prop:=∀i j,lo<=i->i<=j->j<hi->lt (Kz xs j) (Kz xs i)=false
def Des(lt:Value->Value->Bool)(xs:Array Keyed)(lo hi:Nat): Prop:=∀i j,lo<=i->i<=j->j<hi->lt (Kz xs i) (Kz xs j)=false
def Eqv(lt:Value->Value->Bool)(x y:Value): Prop:=lt x y=false/\lt y x=false
structure Tr(lo hi:Nat)(st st':SortSt): Prop where
 kind:kindOf st'=kindOf st
 pend:pendingOf st'=pendingOf st
 fail:failedOf st'=failedOf st
 perm:(arrOf st').Perm (arrOf st)
 out:∀k,(k<lo\/hi<=k)->(arrOf st')[k]? = (arrOf st)[k]?
theorem Tr.rfl'(lo hi:Nat)(st:SortSt): Tr lo hi st st:=⟨rfl,rfl,rfl,.refl _,fun _ _=>rfl⟩
theorem Tr.trans{lo hi:Nat}{a b c:SortSt}(h:Tr lo hi a b)(k:Tr lo hi b c): Tr lo hi a c:=⟨k.kind.trans h.kind,k.pend.trans h.pend,k.fail.trans h.fail,k.perm.trans h.perm,fun i hi=>(k.out i hi).trans (h.out i hi)⟩
theorem Tr.size{lo hi:Nat}{a b:SortSt}(h:Tr lo hi a b): (arrOf b).size=(arrOf a).size:=h.perm.size_eq
def Gs(G:Value->Prop)(st:SortSt): Prop:=∀p∈(arrOf st).toList,G p.1
theorem Tr.gs{G:Value->Prop}{lo hi:Nat}{a b:SortSt}(h:Tr lo hi a b)(g:Gs G a): Gs G b:=fun p hp=>g p ((g10.mp h.perm).mem_iff.mp hp)
theorem Tr.mir{lo hi i j:Nat}{st:SortSt}(h1:lo<=i)(h2:j<=hi)(h3:j<=(arrOf st).size): Tr lo hi st (setArr st (mirror (arrOf st) i j ((j-i) / 2))):=
 ⟨rfl,rfl,rfl,mirror_perm _ _ _ _,fun k hk=>by show(mirror (arrOf st) i j ((j-i) / 2))[k]? = _;rw [getElem?_mirror_all h3,mi (by lia)]⟩
theorem qbz{xs:Array Keyed}{i j:Nat}(hj:j<=xs.size)(k:Nat): Kz (mirror xs i j ((j-i) / 2)) k=if i<=k/\k<j then Kz xs (i+j-1-k) else Kz xs k:=by
 have e:=getElem?_mirror_all (i:=i) hj k
 split
 ·rename_i h;rw [md h] at e;exact q02 e
 ·rename_i h;rw [mi h] at e;exact q02 e
abbrev ASt:=Option (Option Nat)×Nat
abbrev DSt:=Option (Option Nat)×Nat×Nat
noncomputable def asL(lo b nr:Nat): StateT SortSt Sem ASt:=
 forIn [b:nr] ((none,b):ASt) fun _ t=>do
  match <- ltAt' (lo+t.2) (lo+t.2-1) with
  | some sm=>if sm=true then pure (.done (none,t.2)) else pure (.yield (none,t.2+1))
  | _=>pure (.done (some none,t.2))
noncomputable def ta3(lo n nr:Nat): StateT SortSt Sem (Option Nat):=do
 reverseSlice' lo (lo+n)
 let t <- asL lo n nr
 match t.1 with
 | some r=>pure r
 | none=>pure (some t.2)
noncomputable def deL(lo n nr:Nat): StateT SortSt Sem DSt:=
 forIn [n:nr] ((none,n,0):DSt) fun _ t=>do
  match <- ltAt' (lo+t.2.1) (lo+t.2.1-1) with
  | some sm=>
   if sm=true then
    if t.2.2>0 then do
     reverseSlice' (lo+t.2.1-(t.2.2+1)) (lo+t.2.1)
     pure (.yield (none,t.2.1+1,0))
    else pure (.yield (none,t.2.1+1,0))
   else do
    match <- ltAt' (lo+t.2.1-1) (lo+t.2.1) with
    | some la=>if la=true then pure (.done (none,t.2.1,t.2.2)) else pure (.yield (none,t.2.1+1,t.2.2+1))
    | _=>pure (.done (some none,t.2.1,t.2.2))
  | _=>pure (.done (some none,t.2.1,t.2.2))
noncomputable def deP(lo n nr:Nat): StateT SortSt Sem (Option Nat):=do
 rule "list.sort.descending-run"
 let t <- deL lo (n+1) nr
 match t.1 with
 | some r=>pure r
 | none=>
  if t.2.2>0 then do
   reverseSlice' (lo+t.2.1-(t.2.2+1)) (lo+t.2.1)
   ta3 lo t.2.1 nr
  else ta3 lo t.2.1 nr
theorem qrc(lo nr:Nat): countRun' lo nr=(do
  let t <- asL lo 1 nr
  match t.1 with
  | some r=>pure r
  | none=>
   if(t.2==nr)=true then pure (some t.2)
   else if t.2>1 then do
    match <- ltAt' lo (lo+t.2-1) with
    | some ro=>if ro=true then pure (some t.2) else do
      reverseSlice' lo (lo+t.2)
      deP lo t.2 nr
    | _=>pure none
   else deP lo t.2 nr):=by
 rw [countRun'_eq];dsimp only;refine bc2 rfl fun t=>?_;obtain⟨r,n⟩:=t;cases r with
 | some r=>rfl
 | none=>
  dsimp only;refine g0a rfl (fun _=>rfl) fun _=>g0a rfl (fun _=>bc fun x=>?_) fun _=>?_
  ·cases x with
   | none=>rfl
   | some ro=>
    dsimp only;refine g0a rfl (fun _=>rfl) fun _=>bc fun _=>?_;unfold deP;refine bc fun _=>bc2 rfl fun t=>?_;obtain⟨r2,n2,q2⟩:=t;cases r2 with
    | some r2=>rfl
    | none=>
     dsimp only;refine g0a rfl (fun _=>bc fun _=>?_) fun _=>?_
     ·unfold ta3
      refine bc fun _=>bc2 rfl fun t=>?_;obtain⟨r3,n3⟩:=t;cases r3 <;> rfl
     ·unfold ta3
      refine bc fun _=>bc2 rfl fun t=>?_;obtain⟨r3,n3⟩:=t;cases r3 <;> rfl
  ·unfold deP
   refine bc fun _=>bc2 rfl fun t=>?_;obtain⟨r2,n2,q2⟩:=t;cases r2 with
   | some r2=>rfl
   | none=>
    dsimp only;refine g0a rfl (fun _=>bc fun _=>?_) fun _=>?_
    ·unfold ta3
     refine bc fun _=>bc2 rfl fun t=>?_;obtain⟨r3,n3⟩:=t;cases r3 <;> rfl
    ·unfold ta3
     refine bc fun _=>bc2 rfl fun t=>?_;obtain⟨r3,n3⟩:=t;cases r3 <;> rfl
section
variable{prog:Program}{w:World}{A:Around}{E:Value->Shared->Prop}{s:Shared}{κ : SortKind}{G:Value->Prop}{lt:Value->Value->Bool}
theorem Eqv.symm{x y:Value}(h:Eqv lt x y): Eqv lt y x:=⟨h.2,h.1⟩
theorem Eqv.trans(C:Cmp prog w A s κ G lt){x y z:Value}(h:Eqv lt x y)(k:Eqv lt y z): Eqv lt x z:=⟨C.tra z y x k.1 h.1,C.tra x y z h.2 k.2⟩
theorem qc0(C:Cmp prog w A s κ G lt){x x' y y':Value}(hx:Eqv lt x x')(hy:Eqv lt y y')(h:lt y' x'=false): lt y x=false:=
 C.tra x x' y hx.2 (C.tra x' y' y h hy.1)
theorem wpS_ltK{st:SortSt}(C:Cmp prog w A s κ G lt){i j:Nat}{Q:Option Bool->SortSt->Prop}(hk:kindOf st = κ)(g:Gs G st)(hi:i<(arrOf st).size)(hj:j<(arrOf st).size)
  (h:Q (some (lt (Kz (arrOf st) i) (Kz (arrOf st) j))) st):wpS (model prog w) A E s (ltAt' i j) Q st:=by
 rw [ltAt'_eq];refine m4 (g3j ?_);show wpS _ _ _ _ (do let x <- elem' (arrOf st) i;let y <- elem' (arrOf st) j;lt' x y) Q st;rw [jk hi,jk hj] at h;exact m4 (zi hi (m4 (zi hj (q3j (C:=C) hk (g _ (by simp)) (g _ (by simp)) h))))
theorem q60{st:SortSt}{i j:Nat}{Q:Unit->SortSt->Prop}(h:Q () (setArr st (mirror (arrOf st) i j ((j-i) / 2)))): wpS (model prog w) A E s (reverseSlice' i j) Q st:=by
 rw [reverseSlice'_eq];exact g4p h
theorem ql8(C:Cmp prog w A s κ G lt){xs:Array Keyed}{lo x:Nat}(h:Asc lt xs lo (lo+x))(h1:1<=x)(hl:lt (Kz xs (lo+x)) (Kz xs (lo+x-1))=false): Asc lt xs lo (lo+(x+1)):=by
 intro i j h2 h3 h4
 by_cases hj:j<lo+x
 ·exact h i j h2 h3 hj
 ·have:j=lo+x:=by lia
  subst this
  by_cases hi:i=lo+x
  ·subst hi;exact C.irr _
  ·exact C.tra _ _ _ (h i (lo+x-1) h2 (by lia) (by lia)) hl
theorem q3x(C:Cmp prog w A s κ G lt){xs:Array Keyed}{lo x:Nat}(h:Des lt xs lo (lo+x))(h1:1<=x)(hl:lt (Kz xs (lo+x-1)) (Kz xs (lo+x))=false): Des lt xs lo (lo+(x+1)):=by
 intro i j h2 h3 h4
 by_cases hj:j<lo+x
 ·exact h i j h2 h3 hj
 ·have:j=lo+x:=by lia
  subst this
  by_cases hi:i=lo+x
  ·subst hi;exact C.irr _
  ·exact C.tra _ _ _ hl (h i (lo+x-1) h2 (by lia) (by lia))
theorem qf5(C:Cmp prog w A s κ G lt){st:SortSt}{lo b nr:Nat}{Q:ASt->SortSt->Prop}(hk:kindOf st = κ)(g:Gs G st)(hz:lo+nr<=(arrOf st).size)(h1:1<=b)(h2:b<=nr)(hs:Asc lt (arrOf st) lo (lo+b))
  (h:∀n,b<=n->n<=nr->Asc lt (arrOf st) lo (lo+n)->(n=nr\/lt (Kz (arrOf st) (lo+n)) (Kz (arrOf st) (lo+n-1))=true)->Q (none,n) st):wpS (model prog w) A E s (asL lo b nr) Q st:=by
 unfold asL;refine g05 (I:=fun x c st'=>st'=st/\c=(none,x)/\Asc lt (arrOf st) lo (lo+x)) ?_ ?_ ⟨rfl,rfl,hs⟩
 ·rintro x c st' hx1 hx2 ⟨rfl,rfl,hs'⟩
  dsimp only;refine m4 (wpS_ltK C hk g (by lia) (by lia) ?_);dsimp only;cases e:lt (Kz (arrOf st') (lo+x)) (Kz (arrOf st') (lo+x-1))
  ·simp only [gh,ny]
   exact mq ⟨rfl,rfl,ql8 C hs' (by lia) e⟩
  ·simp only [p0]
   exact mq (h x hx1 (by lia) hs' (.inr e))
 ·rintro c st' ⟨rfl,rfl,hs'⟩
  rw [show max b nr=nr by lia] at hs' ⊢;exact h nr h2 (gw _) hs' (.inl rfl)
theorem qf6(C:Cmp prog w A s κ G lt){st:SortSt}{lo n nr:Nat}{Q:Option Nat->SortSt->Prop}(hk:kindOf st = κ)(g:Gs G st)(hz:lo+nr<=(arrOf st).size)(h1:1<=n)(h2:n<=nr)(hs:Des lt (arrOf st) lo (lo+n))
  (h:∀m st',Tr lo (lo+nr) st st'->1<=m->m<=nr->Asc lt (arrOf st') lo (lo+m)->Q (some m) st'):wpS (model prog w) A E s (ta3 lo n nr) Q st:=by
 unfold ta3;have hz':lo+n<=(arrOf st).size:=by lia
 refine m4 (q60 ?_);have tr:Tr lo (lo+nr) st (setArr st (mirror (arrOf st) lo (lo+n) ((lo+n-lo) / 2))):=Tr.mir (gw _) (by lia) hz';refine m4 (qf5 C (tr.kind.trans hk) (tr.gs g) (by rw [tr.size];exact hz) h1 h2 ?_ fun m m1 m2 m3 _=>mq (h m _ tr (by lia) m2 m3));intro i j i1 i2 i3;show lt (Kz (mirror (arrOf st) lo (lo+n) ((lo+n-lo) / 2)) j) (Kz (mirror (arrOf st) lo (lo+n) ((lo+n-lo) / 2)) i)=false;rw [qbz hz',qbz hz',md (by lia),md (by lia)];exact hs _ _ (by lia) (by lia) (by lia)
theorem q90(C:Cmp prog w A s κ G lt){xs:Array Keyed}{i j:Nat}(hj:j<=xs.size)(he:∀k,i<=k->k<j->Eqv lt (Kz xs k) (Kz xs (j-1)))(k:Nat): Eqv lt (Kz (mirror xs i j ((j-i) / 2)) k) (Kz xs k):=by
 rw [qbz hj]
 split
 ·exact Eqv.trans C (he _ (by lia) (by lia)) (he k (by lia) (by lia)).symm
 ·exact⟨C.irr _,C.irr _⟩
theorem qof(C:Cmp prog w A s κ G lt){st:SortSt}{lo n nr:Nat}{Q:DSt->SortSt->Prop}(hk:kindOf st = κ)(g:Gs G st)(hz:lo+nr<=(arrOf st).size)(h1:1<=n)(h2:n<=nr)(hs:Des lt (arrOf st) lo (lo+n))
  (h:∀m q st',Tr lo (lo+nr) st st'->n<=m->m<=nr->Des lt (arrOf st') lo (lo+m)->q+1<=m->(∀i,lo+m-(q+1)<=i->i<lo+m->Eqv lt (Kz (arrOf st') i) (Kz (arrOf st') (lo+m-1)))->Q (none,m,q) st') :
  wpS (model prog w) A E s (deL lo n nr) Q st:=by
 unfold deL;refine g05 (I:=fun x c st'=>∃q,c=(none,x,q)/\Tr lo (lo+nr) st st'/\Des lt (arrOf st') lo (lo+x)/\q+1<=x /\
   (∀i,lo+x-(q+1)<=i->i<lo+x->Eqv lt (Kz (arrOf st') i) (Kz (arrOf st') (lo+x-1)))) ?_ ?_
  ⟨0,rfl,Tr.rfl' _ _ _,hs,by lia,fun i i1 i2=>by rw [show i=lo+n-1 by lia];exact⟨C.irr _,C.irr _⟩⟩
 ·rintro x c st' hx1 hx2 ⟨q,rfl,tr,ds,hq,he⟩
  dsimp only;have hz':lo+x<=(arrOf st').size:=by rw [tr.size];lia
  have hk':=tr.kind.trans hk;have g':=tr.gs g;refine m4 (wpS_ltK C hk' g' (by rw [tr.size];lia) (by rw [tr.size];lia) ?_);dsimp only;cases e:lt (Kz (arrOf st') (lo+x)) (Kz (arrOf st') (lo+x-1))
  ·simp only [gh,ny]
   refine m4 (wpS_ltK C hk' g' (by rw [tr.size];lia) (by rw [tr.size];lia) ?_);dsimp only;cases e2:lt (Kz (arrOf st') (lo+x-1)) (Kz (arrOf st') (lo+x))
   ·simp only [gh,ny]
    refine mq ⟨q+1,rfl,tr,q3x C ds (by lia) e2,by lia,fun i i1 i2=>?_⟩;rw [show lo+(x+1)-1=lo+x by lia]
    by_cases hi:i=lo+x
    ·subst hi;exact⟨C.irr _,C.irr _⟩
    ·exact Eqv.trans C (he i (by lia) (by lia)) ⟨e2,e⟩
   ·simp only [p0]
    exact mq (h x q st' tr hx1 (by lia) ds hq he)
  ·simp only [p0]
   have step:∀st'',Tr lo (lo+nr) st st''->(∀k,Eqv lt (Kz (arrOf st'') k) (Kz (arrOf st') k))->∃q',((none,x+1,0):DSt)=(none,x+1,q')/\Tr lo (lo+nr) st st''/\Des lt (arrOf st'') lo (lo+(x+1))/\q'+1<=x+1 /\
     (∀i,lo+(x+1)-(q'+1)<=i->i<lo+(x+1)->Eqv lt (Kz (arrOf st'') i) (Kz (arrOf st'') (lo+(x+1)-1))):=by
    intro st'' tr2 hev;refine⟨0,rfl,tr2,?_,by lia,fun i i1 i2=>by rw [show i=lo+(x+1)-1 by lia];exact⟨C.irr _,C.irr _⟩⟩;have dm:=q3x C ds (by lia) (C.asy _ _ e);intro i j i1 i2 i3;exact qc0 C (hev j) (hev i) (dm i j i1 i2 i3)
   split
   ·refine m4 (q60 (mq (step _ (tr.trans (Tr.mir (by lia) (by lia) hz')) (q90 C hz' ?_))))
    exact he
   ·exact mq (step _ tr fun k=>⟨C.irr _,C.irr _⟩)
 ·rintro c st' ⟨q,rfl,tr,ds,hq,he⟩
  rw [show max n nr=nr by lia] at ds hq he ⊢;exact h nr q st' tr h2 (gw _) ds hq he
theorem qf7(C:Cmp prog w A s κ G lt){st:SortSt}{lo n nr:Nat}{Q:Option Nat->SortSt->Prop}(hk:kindOf st = κ)(g:Gs G st)(hz:lo+nr<=(arrOf st).size)(h2:n+1<=nr)(hs:Des lt (arrOf st) lo (lo+(n+1)))
  (h:∀m st',Tr lo (lo+nr) st st'->1<=m->m<=nr->Asc lt (arrOf st') lo (lo+m)->Q (some m) st'):wpS (model prog w) A E s (deP lo n nr) Q st:=by
 unfold deP;refine m4 (wpS_lift (g06 ⟨rfl,?_⟩));refine m4 (qof C hk g hz (by lia) h2 hs fun m q st' tr m1 m2 ds hq he=>?_);dsimp only;have hz':lo+m<=(arrOf st').size:=by rw [tr.size];lia
 split
 ·have tr2:Tr lo (lo+nr) st' (setArr st' (mirror (arrOf st') (lo+m-(q+1)) (lo+m) ((lo+m-(lo+m-(q+1))) / 2))):=Tr.mir (by lia) (by lia) hz'
  refine m4 (q60 (qf6 C (tr2.kind.trans (tr.kind.trans hk)) (tr2.gs (tr.gs g)) (by rw [tr2.size,tr.size];exact hz) (by lia) m2 ?_ fun k st'' tr3=>h k st'' (tr.trans (tr2.trans tr3))));intro i j i1 i2 i3;have ev:=q90 C hz' he;exact qc0 C (ev j) (ev i) (ds i j i1 i2 i3)
 ·exact qf6 C (tr.kind.trans hk) (tr.gs g) (by rw [tr.size];exact hz) (by lia) m2 ds fun k st'' tr3=>h k st'' (tr.trans tr3)
theorem qog(C:Cmp prog w A s κ G lt){st:SortSt}{lo nr:Nat}{Q:Option Nat->SortSt->Prop}(hk:kindOf st = κ)(g:Gs G st)(hz:lo+nr<=(arrOf st).size)(h1:1<=nr)
  (h:∀m st',Tr lo (lo+nr) st st'->1<=m->m<=nr->Asc lt (arrOf st') lo (lo+m)->Q (some m) st'):wpS (model prog w) A E s (countRun' lo nr) Q st:=by
 rw [qrc];refine m4 (qf5 C hk g hz (gw _) h1 (fun i j i1 i2 i3=>by rw [show i=j by lia];exact C.irr _) fun n n1 n2 as hor=>?_);dsimp only
 split
 ·exact mq (h n st (Tr.rfl' _ _ _) n1 n2 as)
 ·rename_i hne
  have hne':n≠nr:=by simpa using hne
  have hl:=hor.resolve_left hne'
  split
  ·refine m4 (wpS_ltK C hk g (by lia) (by lia) ?_)
   dsimp only;cases e:lt (Kz (arrOf st) lo) (Kz (arrOf st) (lo+n-1))
   ·simp only [gh,ny]
    have hz':lo+n<=(arrOf st).size:=by lia
    have tr:Tr lo (lo+nr) st (setArr st (mirror (arrOf st) lo (lo+n) ((lo+n-lo) / 2))):=Tr.mir (gw _) (by lia) hz';have all:∀k,lo<=k->k<lo+n->Eqv lt (Kz (arrOf st) k) (Kz (arrOf st) (lo+n-1)):=fun k k1 k2=>
     ⟨C.tra _ _ _ (as k (lo+n-1) k1 (by lia) (by lia) |> fun z=>by exact C.tra _ _ _ e (as lo k (gw _) k1 k2)) (C.irr _),as k (lo+n-1) k1 (by lia) (by lia)⟩
    refine m4 (q60 (qf7 C (tr.kind.trans hk) (tr.gs g) (by rw [tr.size];exact hz) (by lia) ?_ fun m st' tr2=>h m st' (tr.trans tr2)));have ev:=q90 C hz' all;have ds:Des lt (arrOf st) lo (lo+(n+1)):=by
     refine q3x C (fun i j i1 i2 i3=>?_) (by lia) (C.asy _ _ hl);exact(Eqv.trans C (all i i1 (by lia)) (all j (by lia) i3).symm).1
    intro i j i1 i2 i3;exact qc0 C (ev j) (ev i) (ds i j i1 i2 i3)
   ·simp only [p0]
    exact mq (h n st (Tr.rfl' _ _ _) n1 n2 as)
  ·have:n=1:=by lia
   subst this;refine qf7 C hk g hz (by lia) ?_ h;exact q3x C (fun i j i1 i2 i3=>by rw [show i=j by lia];exact C.irr _) (gw _) (C.asy _ _ hl)
end
theorem qig{xs:Array Keyed}{src d:Nat}(hs:src<xs.size)(hd:d<=src)(k:Nat): Kz (bubble xs src d) k=if k=src-d then Kz xs src else if src-d<k/\k<=src then Kz xs (k-1) else Kz xs k:=by
 have e:=getElem?_bubble hs d hd k
 split
 ·rename_i h;rw [md h] at e;exact q02 e
 ·rename_i h;rw [mi h] at e
  split
  ·rename_i h2;rw [md h2] at e;exact q02 e
  ·rename_i h2;rw [mi h2] at e;exact q02 e
theorem Tr.bub{lo hi src d:Nat}{st:SortSt}(h1:lo<=src-d)(h2:src<hi)(h3:src<(arrOf st).size)(hd:d<=src): Tr lo hi st (setArr st (bubble (arrOf st) src d)):=
 ⟨rfl,rfl,rfl,bubble_perm _ _ _,fun k hk=>by show(bubble (arrOf st) src d)[k]? = _;rw [getElem?_bubble h3 d hd,mi (by lia),mi (by lia)]⟩
section
variable{prog:Program}{w:World}{A:Around}{E:Value->Shared->Prop}{s:Shared}{κ : SortKind}{G:Value->Prop}{lt:Value->Value->Bool}
theorem qoh(C:Cmp prog w A s κ G lt){st:SortSt}{lo n ok:Nat}{Q:Bool->SortSt->Prop}(hk:kindOf st = κ)(g:Gs G st)(hz:lo+n<=(arrOf st).size)(hok:ok<=n)(hs:Asc lt (arrOf st) lo (lo+ok))
  (h:∀st',Tr lo (lo+n) st st'->Asc lt (arrOf st') lo (lo+n)->Q true st'):wpS (model prog w) A E s (binarySort' lo n ok) Q st:=by
 rw [binarySort'_eq];refine m4 (ur (g05 (I:=fun k c st'=>c=(none,())/\Tr lo (lo+n) st st'/\Asc lt (arrOf st') lo (lo+min k n))
  (Q:=fun c st'=>c=(none,())/\Tr lo (lo+n) st st'/\Asc lt (arrOf st') lo (lo+n)) ?_ ?_ ?_) ?_)
 ·rintro k c st' hk1 hk2 ⟨rfl,tr,as⟩
  rw [show min k n=k by lia] at as;have hk':=tr.kind.trans hk;have g':=tr.gs g;have hz':lo+n<=(arrOf st').size:=by rw [tr.size];exact hz
  refine m4 (ur (g05 (I:=fun x c st''=>st''=st'/\∃l r,c=(none,l,r)/\l<=r/\r<=k/\r-l<=k-x /\
    (∀i,i<l->lt (Kz (arrOf st') (lo+k)) (Kz (arrOf st') (lo+i))=false)/\(∀i,r<=i->i<k->lt (Kz (arrOf st') (lo+k)) (Kz (arrOf st') (lo+i))=true))
   (Q:=fun c st''=>st''=st'/\∃l r,c=(none,l,r)/\l<=k /\
    (∀i,i<l->lt (Kz (arrOf st') (lo+k)) (Kz (arrOf st') (lo+i))=false)/\(∀i,l<=i->i<k->lt (Kz (arrOf st') (lo+k)) (Kz (arrOf st') (lo+i))=true)) ?_ ?_ ?_) ?_)
  ·rintro x c st'' _ hx ⟨rfl,l,r,rfl,h1,h2,h3,h4,h5⟩
   dsimp only
   by_cases hge:l>=r
   ·rw [md hge]
    have:l=r:=by lia
    subst this;exact mq ⟨rfl,l,l,rfl,h2,h4,h5⟩
   ·rw [mi hge]
    refine m4 (wpS_ltK C hk' g' (by lia) (by lia) ?_);dsimp only;cases e:lt (Kz (arrOf st'') (lo+k)) (Kz (arrOf st'') (lo+(l+r) / 2))
    ·simp only [gh,ny]
     refine mq ⟨rfl,(l+r) / 2+1,r,rfl,by lia,by lia,by lia,fun i i1=>?_,h5⟩;exact C.tra _ _ _ (as (lo+i) (lo+(l+r) / 2) (by lia) (by lia) (by lia)) e
    ·simp only [p0]
     refine mq ⟨rfl,l,(l+r) / 2,rfl,by lia,by lia,by lia,h4,fun i i1 i2=>?_⟩;cases e2:lt (Kz (arrOf st'') (lo+k)) (Kz (arrOf st'') (lo+i))
     ·have:=C.tra _ _ _ (as (lo+(l+r) / 2) (lo+i) (by lia) (by lia) (by lia)) e2
      rw [this] at e;cases e
     ·rfl
  ·rintro c st'' ⟨rfl,l,r,rfl,h1,h2,h3,h4,h5⟩
   have:l=r:=by lia
   subst this;exact⟨rfl,l,l,rfl,h2,h4,h5⟩
  ·exact⟨rfl,0,k,rfl,by lia,by lia,by lia,fun i hi=>by lia,fun i i1 i2=>by lia⟩
  ·rintro c st'' ⟨rfl,l,r,rfl,h2,h4,h5⟩
   show wpS _ _ _ _ (do moveDown' (lo+k) (lo+l);pure (ForInStep.yield (none,()))) _ _;rw [moveDown'_eq];have hks:lo+k<(arrOf st'').size:=by lia
   refine m4 (g4p (mq ⟨rfl,tr.trans (Tr.bub (by lia) (by lia) hks (by lia)),?_⟩));rw [show min (k+1) n=k+1 by lia];intro i j i1 i2 i3;show lt (Kz (bubble (arrOf st'') (lo+k) (lo+k-(lo+l))) j) (Kz (bubble (arrOf st'') (lo+k) (lo+k-(lo+l))) i)=false;rw [qig hks (by lia),qig hks (by lia),show lo+k-(lo+k-(lo+l))=lo+l by lia];have q4:∀i,lo<=i->i<lo+l->lt (Kz (arrOf st'') (lo+k)) (Kz (arrOf st'') i)=false:=fun i a b=>by
    have:=h4 (i-lo) (by lia);rwa [show lo+(i-lo)=i by lia] at this
   have q5:∀i,lo+l<=i->i<lo+k->lt (Kz (arrOf st'') i) (Kz (arrOf st'') (lo+k))=false:=fun i a b=>by
    have:=C.asy _ _ (h5 (i-lo) (by lia) (by lia));rwa [show lo+(i-lo)=i by lia] at this
   repeat' split
   all_goals first
    | (exfalso;lia)
    | exact C.irr _
    | exact q4 _ (by lia) (by lia)
    | exact q5 _ (by lia) (by lia)
    | exact as _ _ (by lia) (by lia) (by lia)
 ·rintro c st' ⟨hc,tr,as⟩
  rw [show min (max (max ok 1) n) n=n by lia] at as;exact⟨hc,tr,as⟩
 ·refine⟨rfl,Tr.rfl' _ _ _,fun i j i1 i2 i3=>?_⟩
  by_cases h1:ok=0
  ·rw [show i=j by lia];exact C.irr _
  ·exact hs i j i1 i2 (by lia)
 ·rintro c st' ⟨rfl,tr,as⟩
  exact mq (h st' tr as)
end
theorem qoi(i:Nat): mergeAt' i=(do
 let s <- get
 let(some (l,n,p),some (r,m,_)):=((pendingOf s)[i]?,(pendingOf s)[i+1]?)|unsupported "internal:list.sort.pending"
 set (setPending s (((pendingOf s).setIfInBounds i (l,n+m,p)).eraseIdxIfInBounds (i+1)))
 let some k <- q1j false (<- elem' (arrOf s) r) (arrOf s) l n 0|return false
 let(l,n):=(l+k,n-k)
 if n==0 then return true
 let some m <- q1j true (<- elem' (arrOf s) (l+n-1)) (arrOf s) r m (m-1)|return false
 if m==0 then return true
 let x:=(arrOf s).extract l r
 let y:=(arrOf s).extract r (r+m)
 let z <- if n<=m then qg1 x y else qg2 x y
 modify fun s=>setArr s (z.toList.zipIdx.foldl (fun a (p,j)=>a.setIfInBounds (l+j) p) (arrOf s))
 return (failedOf (<- get)).isNone):=rfl
theorem qc1{o:Nat}: ∀(l:List Keyed) (j:Nat) (xs:Array Keyed) (T Y R:List Keyed),xs.toList=T++Y++R->T.length=o+j->Y.length=l.length ->
  ((l.zipIdx j).foldl (fun a (p,j)=>a.setIfInBounds (o+j) p) xs).toList=T++l++R
 | [],j,xs,T,Y,R,h,h1,h2=>by
  have:Y=[]:=g3o.mp h2;subst this;exact h
 | p :: l,j,xs,T,y :: Y,R,h,h1,h2=>by
  rw [g5y,g69];have e:(xs.setIfInBounds (o+j) p).toList=(T++[p])++Y++R:=by
   rw [g5d,h, <- h1];simp
  rw [qc1 l (j+1) _ (T++[p]) Y R e (by simp;lia) (by simpa using h2)];simp
section
variable{prog:Program}{w:World}{A:Around}{E:Value->Shared->Prop}{s:Shared}{κ : SortKind}{G:Value->Prop}{lt:Value->Value->Bool}
theorem q1w(C:Cmp prog w A s κ G lt){xs:Array Keyed}{T X R:List Keyed}{lo hi:Nat}(h:xs.toList=T++X++R)(h1:lo=T.length)(h2:hi=lo+X.length): Asc lt xs lo hi↔X.Pairwise (le lt):=by
 have hz:xs.size=T.length+X.length+R.length:=by rw [<- nu,h];simp;lia
 have at_:∀i,(hi:i<X.length)->Kz xs (lo+i)=(X[i]).1:=by
  intro i hi;have hl:lo+i<xs.size:=by lia
  rw [jk hl, <- g4q]
  congr 1
  simp only [h];rw [g60 (by simp;lia),g5m (by lia)]
  congr 1;lia
 constructor
 ·intro as
  rw [g2y];intro i j hi hj hij;have:=as (lo+i) (lo+j) (by lia) (by lia) (by lia);rw [at_ i hi,at_ j hj] at this;exact this
 ·intro pw i j i1 i2 i3
  have e1:=at_ (i-lo) (by lia);have e2:=at_ (j-lo) (by lia);rw [show lo+(i-lo)=i by lia] at e1;rw [show lo+(j-lo)=j by lia] at e2;rw [e1,e2];exact q81 C (fun x=>C.irr _) pw (by lia) (by lia)
theorem cut(l:List Keyed)(a b:Nat)(h1:a<=b)(h2:b<=l.length): l=l.take a++(l.drop a).take (b-a)++l.drop b:=by
 rw [n8];have e:(l.drop a).take (b-a)++l.drop b=l.drop a:=by
  have:=pf (b-a) (l.drop a);rw [g4z,show a+(b-a)=b by lia] at this;exact this
 rw [e,pf]
structure Aft(i l n m p:Nat)(st st':SortSt)(lt:Value->Value->Bool): Prop where
 kind:kindOf st'=kindOf st
 fail:failedOf st'=failedOf st
 pend:pendingOf st'=((pendingOf st).setIfInBounds i (l,n+m,p)).eraseIdxIfInBounds (i+1)
 perm:(arrOf st').Perm (arrOf st)
 out:∀k,(k<l\/l+n+m<=k)->Kz (arrOf st') k=Kz (arrOf st) k
 asc:Asc lt (arrOf st') l (l+n+m)
theorem qoj(C:Cmp prog w A s κ G lt){st:SortSt}{i l n m p p':Nat}{Q:Bool->SortSt->Prop}(hk:kindOf st = κ)(hf:failedOf st=none)(g:Gs G st)
  (e1:(pendingOf st)[i]? = some (l,n,p)) (e2:(pendingOf st)[i+1]? = some (l+n,m,p')) (h1:1<=n) (h2:1<=m) (hz:l+n+m<=(arrOf st).size)
  (a1:Asc lt (arrOf st) l (l+n)) (a2:Asc lt (arrOf st) (l+n) (l+n+m)) (h:∀st',Aft i l n m p st st' lt->Q true st'):wpS (model prog w) A E s (mergeAt' i) Q st:=by
 rw [qoi];refine m4 (g3j ?_);rw [e1,e2];dsimp only;obtain⟨st1,hst1⟩:∃st1,st1=setPending st (((pendingOf st).setIfInBounds i (l,n+m,p)).eraseIdxIfInBounds (i+1)):=⟨_,rfl⟩
 rw [<- hst1];have hset:∀ {R:PUnit->SortSt->Prop},R ⟨⟩ st1->wpS (model prog w) A E s (set st1:StateT SortSt Sem PUnit) R st:=by
  intro R hR;unfold wpS;rw [StateT.run_set];exact g9 ⟨rfl,hR⟩
 refine m4 (hset ?_);have k1:kindOf st1 = κ :=by rw [hst1];exact hk
 have f1:failedOf st1=none:=by rw [hst1];exact hf
 have r1:arrOf st1=arrOf st:=by rw [hst1]
 have p1:pendingOf st1=((pendingOf st).setIfInBounds i (l,n+m,p)).eraseIdxIfInBounds (i+1):=by rw [hst1]
 have ge:∀j,(hj:j<(arrOf st).size)->G ((arrOf st)[j]).1:=fun j hj=>g _ (by simp);have kle:∀i j,(hi:i<(arrOf st).size)->(hj:j<(arrOf st).size)->Kz (arrOf st) i=((arrOf st)[i]).1/\Kz (arrOf st) j=((arrOf st)[j]).1:=fun i j hi hj=>⟨jk hi,jk hj⟩
 refine m4 (zi (by lia) (m4 (q1v C k1 (ge _ (by lia)) g (by lia) (by lia) (fun x y hxy hy q1=>?_) fun k hk1 g1 g2=>?_)))
 ·simp only [far1,gh,ny,g3t] at q1 ⊢
  have:=a1 (l+x) (l+y) (by lia) (by lia) (by lia);rw [jk (by lia),jk (by lia)] at this;exact C.tra _ _ _ this q1
 dsimp only;have g1':∀x,l<=x->x<l+k->lt (Kz (arrOf st) (l+n)) (Kz (arrOf st) x)=false:=by
  intro x x1 x2;have:=g1 (x-l) (by lia) (by lia);simp only [far1,gh,ny,g3t] at this;rw [jk (by lia),jk (by lia)];rw [<- this];congr 3;lia
 have g2':∀x,l+k<=x->x<l+n->lt (Kz (arrOf st) (l+n)) (Kz (arrOf st) x)=true:=by
  intro x x1 x2;have:=g2 (x-l) (by lia) (by lia);simp only [far1,gh,ny,g38] at this;rw [jk (by lia),jk (by lia)];rw [<- this];congr 3;lia
 by_cases hkn:k=n
 ·rw [md (by first|(simp;done)|(simp;lia))]
  refine mq (h st1 ⟨k1.trans hk.symm,f1.trans hf.symm,p1,by rw [r1],fun _ _=>by rw [r1],?_⟩);rw [r1];intro x y x1 x2 x3
  by_cases hy:y<l+n
  ·exact a1 x y x1 x2 hy
  ·by_cases hx:x<l+n
   ·exact C.tra _ _ _ (g1' x x1 (by lia)) (a2 (l+n) y (by lia) (by lia) (by lia))
   ·exact a2 x y (by lia) x2 x3
 rw [mi (by simp;lia)];have hlast:l+k+(n-k)-1=l+n-1:=by lia
 refine m4 (zi (by lia) (m4 (q1v C k1 (ge _ (by lia)) g (by lia) (by lia) (fun x y hxy hy q1=>?_) fun j hj1 j1 j2=>?_)))
 ·simp only [far1,p0] at q1 ⊢
  have:=a2 (l+n+x) (l+n+y) (by lia) (by lia) (by lia);rw [jk (by lia),jk (by lia)] at this;cases e3:lt ((arrOf st)[l+n+x]'(by lia)).1 ((arrOf st)[l+k+(n-k)-1]'(by lia)).1
  ·rw [C.tra _ _ _ e3 this] at q1;cases q1
  ·rfl
 dsimp only;have j1':∀x,l+n<=x->x<l+n+j->lt (Kz (arrOf st) x) (Kz (arrOf st) (l+n-1))=true:=by
  intro x x1 x2;have:=j1 (x-(l+n)) (by lia) (by lia);simp only [far1,p0] at this;rw [jk (by lia),jk (by lia)];rw [<- this];congr 3 <;> lia
 have j2':∀x,l+n+j<=x->x<l+n+m->lt (Kz (arrOf st) x) (Kz (arrOf st) (l+n-1))=false:=by
  intro x x1 x2;have:=j2 (x-(l+n)) (by lia) (by lia);simp only [far1,p0] at this;rw [jk (by lia),jk (by lia)];rw [<- this];congr 3 <;> lia
 by_cases hj0:j=0
 ·rw [md (by first|(simp;done)|(simp;lia))]
  refine mq (h st1 ⟨k1.trans hk.symm,f1.trans hf.symm,p1,by rw [r1],fun _ _=>by rw [r1],?_⟩);rw [r1];intro x y x1 x2 x3
  by_cases hy:y<l+n
  ·exact a1 x y x1 x2 hy
  ·by_cases hx:x<l+n
   ·exact C.tra _ _ _ (a1 x (l+n-1) x1 (by lia) (by lia)) (j2' y (by lia) (by lia))
   ·exact a2 x y (by lia) x2 x3
 rw [mi (by simp;lia)];obtain⟨a,ha⟩:∃a,a=(arrOf st).extract (l+k) (l+n):=⟨_,rfl⟩
 obtain⟨b,hb⟩:∃b,b=(arrOf st).extract (l+n) (l+n+j):=⟨_,rfl⟩
 rw [<- ha, <- hb];obtain⟨L,hL⟩:∃L,L=(arrOf st).toList:=⟨_,rfl⟩
 have hLz:L.length=(arrOf st).size:=by rw [hL];simp
 have la:a.toList=(L.drop (l+k)).take (l+n-(l+k)):=by rw [ha,hL,g0r]
 have lb:b.toList=(L.drop (l+n)).take (l+n+j-(l+n)):=by rw [hb,hL,g0r]
 have sza:a.size=n-k:=by rw [<- nu,la];simp;lia
 have szb:b.size=j:=by rw [<- nu,lb];simp;lia
 have ga:∀q∈a.toList,G q.1:=fun q hq=>g q (by rw [la] at hq;rw [<- hL];exact g2o (g18 hq));have gb:∀q∈b.toList,G q.1:=fun q hq=>g q (by rw [lb] at hq;rw [<- hL];exact g2o (g18 hq));have memA:∀q∈a.toList,∃x,l+k<=x/\x<l+n/\q.1=Kz (arrOf st) x:=by
  intro q hq;rw [la] at hq;obtain⟨y,hy,rfl⟩:=uo.mp hq;simp only [p6,g00] at hy;refine⟨l+k+y,by lia,by lia,?_⟩;rw [jk (by lia)];simp [hL]
 have memB:∀q∈b.toList,∃x,l+n<=x/\x<l+n+j/\q.1=Kz (arrOf st) x:=by
  intro q hq;rw [lb] at hq;obtain⟨y,hy,rfl⟩:=uo.mp hq;simp only [p6,g00] at hy;refine⟨l+n+y,by lia,by lia,?_⟩;rw [jk (by lia)];simp [hL]
 have sA:a.toList.Pairwise (le lt):=by
  rw [la];refine(q1w C (xs:=arrOf st) (lo:=l+k) (hi:=l+n) (T:=L.take (l+k)) (R:=L.drop (l+n)) (by rw [<- hL];exact cut L (l+k) (l+n) (by lia) (by lia)) (by simp;lia) (by simp;lia)).mp ?_;exact fun x y x1 x2 x3=>a1 x y (by lia) x2 x3
 have sB:b.toList.Pairwise (le lt):=by
  rw [lb];refine(q1w C (xs:=arrOf st) (lo:=l+n) (hi:=l+n+j) (T:=L.take (l+n)) (R:=L.drop (l+n+j)) (by rw [<- hL];exact cut L (l+n) (l+n+j) (by lia) (by lia)) (by simp;lia) (by simp;lia)).mp ?_;exact fun x y x1 x2 x3=>a2 x y (by lia) x2 (by lia)
 have H:Mh G lt a b:=by
  refine⟨ga,gb,sA,sB,by lia,by lia,fun q hq=>?_,fun q hq=>?_⟩
  ·obtain⟨x,x1,x2,e⟩:=memA q hq
   have e0:(b[0]'(by lia)).1=Kz (arrOf st) (l+n):=by
    rw [jk (by lia)];simp [hb]
   rw [e,e0];exact g2' x x1 x2
  ·obtain⟨x,x1,x2,e⟩:=memB q hq
   have e0:(a[a.size-1]'(by lia)).1=Kz (arrOf st) (l+n-1):=by
    rw [jk (by lia)];simp only [ha,Array.getElem_extract]
    congr 2
    simp;lia
   rw [e,e0];exact j1' x x1 x2
 have fin:∀z st2,Eg st1 st2->Rm lt a b z->wpS (model prog w) A E s (do
   modify fun s=>setArr s (z.toList.zipIdx.foldl (fun a (p,j)=>a.setIfInBounds (l+k+j) p) (arrOf s))
   return (failedOf (<- get)).isNone) Q st2:=by
  intro z st2 eg rm;refine m4 (g4p (m4 (g3j ?_)));obtain⟨Z,hZ⟩:∃Z,Z=z.toList.zipIdx.foldl (fun a (p,j)=>a.setIfInBounds (l+k+j) p) (arrOf st2):=⟨_,rfl⟩
  rw [<- hZ];show wpS (model prog w) A E s (pure (failedOf st2).isNone) Q (setArr st2 Z);rw [show(failedOf st2).isNone=true by rw [eg.2.2.2,f1];rfl];have r2:arrOf st2=arrOf st:=eg.2.1.trans r1;have zlen:z.toList.length=n-k+j:=by rw [rm.1.length_eq,t5,nu,nu,sza,szb]
  have zsz:z.size=n-k+j:=by rw [<- nu];exact zlen
  obtain⟨T,hT⟩:∃T,T=L.take l:=⟨_,rfl⟩
  obtain⟨P,hP⟩:∃P,P=(L.drop l).take k:=⟨_,rfl⟩
  obtain⟨S,hS⟩:∃S,S=(L.drop (l+n+j)).take (m-j):=⟨_,rfl⟩
  obtain⟨R,hR⟩:∃R,R=L.drop (l+n+m):=⟨_,rfl⟩
  have lenT:T.length=l:=by rw [hT];simp;lia
  have lenP:P.length=k:=by rw [hP];simp;lia
  have lenS:S.length=m-j:=by rw [hS];simp;lia
  have c1:L=T++P++a.toList++b.toList++S++R:=by
   have d1:=cut L l (l+k) (by lia) (by lia);have d2:L.drop (l+k)=a.toList++L.drop (l+n):=by
    have:=pf (l+n-(l+k)) (L.drop (l+k));rw [g4z,show l+k+(l+n-(l+k))=l+n by lia, <- la] at this;exact this.symm
   have d3:L.drop (l+n)=b.toList++L.drop (l+n+j):=by
    have:=pf (l+n+j-(l+n)) (L.drop (l+n));rw [g4z,show l+n+(l+n+j-(l+n))=l+n+j by lia, <- lb] at this;exact this.symm
   have d4:L.drop (l+n+j)=S++R:=by
    have:=pf (m-j) (L.drop (l+n+j));rw [g4z,show l+n+j+(m-j)=l+n+m by lia, <- hS, <- hR] at this;exact this.symm
   rw [d2,d3,d4,show l+k-l=k by lia, <- hT, <- hP] at d1;rw [d1];simp only [n8]
  have c2:Z.toList=T++P++z.toList++S++R:=by
   have:=qc1 (o:=l+k) z.toList 0 (arrOf st2) (T++P) (a.toList++b.toList) (S++R) (by rw [r2, <- hL,c1];simp only [n8]) (by simp;lia) (by simp;lia);rw [<- hZ] at this;rw [this];simp only [n8]
  have perm:Z.Perm (arrOf st):=by
   refine g10.mpr ?_;rw [c2, <- hL,c1];have:=rm.1;have q1:(T++P++z.toList++S++R).Perm (T++P++(a.toList++b.toList)++S++R):=((g09 _ this).append_right _).append_right _;rw [<- n8 (T++P)] at q1;exact q1
  have zs:Z.size=(arrOf st).size:=perm.size_eq;have kout:∀x,(x<l\/l+n+m<=x)->Kz Z x=Kz (arrOf st) x:=by
   intro x hx;refine q02 ?_;rw [<- g0n, <- g0n,c2, <- hL,c1];rcases hx with hx|hx
   ·simp only [n8]
    rw [uh (by lia),uh (by lia)]
   ·rw [uz (by simp;lia),uz (by simp;lia)]
    congr 1
    simp;lia
  have sP:∀q∈P,∃x,l<=x/\x<l+k/\q.1=Kz (arrOf st) x:=by
   intro q hq;rw [hP] at hq;obtain⟨y,hy,rfl⟩:=uo.mp hq;simp only [p6,g00] at hy;refine⟨l+y,by lia,by lia,?_⟩;rw [jk (by lia)];simp [hL]
  have sS:∀q∈S,∃x,l+n+j<=x/\x<l+n+m/\q.1=Kz (arrOf st) x:=by
   intro q hq;rw [hS] at hq;obtain⟨y,hy,rfl⟩:=uo.mp hq;simp only [p6,g00] at hy;refine⟨l+n+j+y,by lia,by lia,?_⟩;rw [jk (by lia)];simp [hL]
  have asc:Asc lt Z l (l+n+m):=by
   refine(q1w C (T:=T) (X:=P++z.toList++S) (R:=R) (by rw [c2];simp only [n8]) lenT.symm (by simp;lia)).mpr ?_;have pP:P.Pairwise (le lt):=by
    refine(q1w C (xs:=arrOf st) (lo:=l) (hi:=l+k) (T:=T) (R:=a.toList++b.toList++S++R) (by rw [<- hL,c1];simp only [n8]) lenT.symm (by lia)).mp ?_;exact fun x y x1 x2 x3=>a1 x y x1 x2 (by lia)
   have pS:S.Pairwise (le lt):=by
    refine(q1w C (xs:=arrOf st) (lo:=l+n+j) (hi:=l+n+m) (T:=T++P++a.toList++b.toList) (R:=R) (by rw [<- hL,c1]) (by simp;lia) (by lia)).mp ?_;exact fun x y x1 x2 x3=>a2 x y (by lia) x2 x3
   refine pd.mpr ⟨pd.mpr ⟨pP,rm.2,fun q hq r hr=>?_⟩,pS,fun q hq r hr=>?_⟩
   ·obtain⟨x,x1,x2,ex⟩:=sP q hq
    unfold le;rcases nz.mp (rm.1.mem_iff.mp hr) with hr|hr
    ·obtain⟨y,y1,y2,ey⟩:=memA r hr
     rw [ex,ey];exact a1 x y x1 (by lia) y2
    ·obtain⟨y,y1,y2,ey⟩:=memB r hr
     rw [ex,ey];exact C.tra _ _ _ (g1' x x1 x2) (a2 (l+n) y (by lia) y1 (by lia))
   ·obtain⟨y,y1,y2,ey⟩:=sS r hr
    unfold le;have fromA:∀x,l<=x->x<l+n->lt (Kz (arrOf st) y) (Kz (arrOf st) x)=false:=fun x x1 x2=>C.tra _ _ _ (a1 x (l+n-1) x1 (by lia) (by lia)) (j2' y y1 y2);rcases nz.mp hq with hq|hq
    ·obtain⟨x,x1,x2,ex⟩:=sP q hq
     rw [ex,ey];exact fromA x x1 (by lia)
    ·rcases nz.mp (rm.1.mem_iff.mp hq) with hq|hq
     ·obtain⟨x,x1,x2,ex⟩:=memA q hq
      rw [ex,ey];exact fromA x (by lia) x2
     ·obtain⟨x,x1,x2,ex⟩:=memB q hq
      rw [ex,ey];exact a2 x y x1 (by lia) y2
  exact mq (h _ ⟨(eg.1.trans k1).trans hk.symm,(eg.2.2.2.trans f1).trans hf.symm,eg.2.2.1.trans p1,perm,kout,asc⟩)
 by_cases hc:n-k<=j
 ·rw [md hc]
  exact m4 (qo8 C H k1 fun z st2 eg rm=>fin z st2 eg rm)
 ·rw [mi hc]
  exact m4 (qoe C H k1 fun z st2 eg rm=>fin z st2 eg rm)
end
abbrev Pd:=Nat×Nat×Nat
def Rn(lt:Value->Value->Bool)(xs:Array Keyed): Nat->List Pd->Nat->Prop
 | b,[],e=>b=e
 | b,q :: r,e=>q.1=b/\1<=q.2.1/\Asc lt xs b (b+q.2.1)/\Rn lt xs (b+q.2.1) r e
section
variable{lt:Value->Value->Bool}
theorem Rn.len{xs:Array Keyed}: ∀ {l:List Pd} {b e:Nat},Rn lt xs b l e->b+l.length<=e
 | [],b,e,h=>by have:b=e:=h;simp;lia
 | q :: r,b,e,h=>by have:=Rn.len h.2.2.2;have:=h.2.1;simp;lia
theorem Asc.same{xs ys:Array Keyed}{lo hi:Nat}(h:Asc lt xs lo hi)(hs:∀k,lo<=k->k<hi->Kz ys k=Kz xs k): Asc lt ys lo hi:=by
 intro i j i1 i2 i3;rw [hs i i1 (by lia),hs j (by lia) i3];exact h i j i1 i2 i3
theorem Rn.same{xs ys:Array Keyed}: ∀ {l:List Pd} {b e:Nat},Rn lt xs b l e->(∀k,b<=k->k<e->Kz ys k=Kz xs k)->Rn lt ys b l e
 | [],b,e,h,_=>h
 | q :: r,b,e,h,hs=>by
  have:=h.2.2.2.len;exact⟨h.1,h.2.1,h.2.2.1.same fun k k1 k2=>hs k k1 (by lia),h.2.2.2.same fun k k1 k2=>hs k (by lia) k2⟩
theorem Rn.push{xs:Array Keyed}: ∀ {l:List Pd} {b e n p:Nat},Rn lt xs b l e->1<=n->Asc lt xs e (e+n)->Rn lt xs b (l++[(e,n,p)]) (e+n)
 | [],b,e,n,p,h,hn,as=>by have:b=e:=h;subst this;exact⟨rfl,hn,as,rfl⟩
 | q :: r,b,e,n,p,h,hn,as=>⟨h.1,h.2.1,h.2.2.1,h.2.2.2.push hn as⟩
theorem Rn.modif{xs:Array Keyed}(f:Pd->Pd)(hf:∀q,(f q).1=q.1/\(f q).2.1=q.2.1): ∀ {l:List Pd} {i b e:Nat},Rn lt xs b l e->Rn lt xs b (l.modify i f) e
 | [],i,b,e,h=>by simpa using h
 | q :: r,0,b,e,h=>by
  rw [List.modify_zero_cons];unfold Rn at h ⊢;rw [(hf q).1,(hf q).2];exact h
 | q :: r,i+1,b,e,h=>by
  rw [List.modify_succ_cons];exact⟨h.1,h.2.1,h.2.2.1,h.2.2.2.modif f hf⟩
theorem Rn.two{xs:Array Keyed}: ∀ {l:List Pd} {i b e:Nat} {l0 n p r m p':Nat},Rn lt xs b l e->l[i]? = some (l0,n,p)->l[i+1]? = some (r,m,p') ->
  r=l0+n/\1<=n/\1<=m/\b<=l0/\l0+n+m<=e/\Asc lt xs l0 (l0+n)/\Asc lt xs (l0+n) (l0+n+m) /\
  ∀ys:Array Keyed,(∀k,(k<l0\/l0+n+m<=k)->Kz ys k=Kz xs k)->Asc lt ys l0 (l0+n+m)->Rn lt ys b ((l.set i (l0,n+m,p)).eraseIdx (i+1)) e
 | [],i,b,e,l0,n,p,r,m,p',h,e1,e2=>by simp at e1
 | [q],0,b,e,l0,n,p,r,m,p',h,e1,e2=>by simp at e2
 | q :: q2 :: r',0,b,e,l0,n,p,r,m,p',h,e1,e2=>by
  simp at e1 e2;subst e1;subst e2;obtain⟨h1,h2,h3,h4,h5,h6,h7⟩:=h;dsimp only at h1 h2 h3 h4 h5 h6 h7;subst h1;have hl:=h7.len;refine⟨h4,h2,h5,gw _,by lia,h3,h6,fun ys hs as=>?_⟩;rw [List.set_cons_zero,g3p,List.eraseIdx_cons_zero];refine⟨rfl,by show 1<=n+m;lia,by show Asc lt ys l0 (l0+(n+m));rw [<- Nat.add_assoc];exact as,?_⟩;show Rn lt ys (l0+(n+m)) r' e;rw [<- Nat.add_assoc];exact h7.same fun k k1 k2=>hs k (.inr k1)
 | q :: l,i+1,b,e,l0,n,p,r,m,p',h,e1,e2=>by
  rw [g3q] at e1 e2;obtain⟨h1,h2,h3,h4⟩:=h;obtain⟨a1,a2,a3,a4,a5,a6,a7,a8⟩:=Rn.two h4 e1 e2;refine⟨a1,a2,a3,by lia,a5,a6,a7,fun ys hs as=>?_⟩;rw [List.set_cons_succ,g3p];exact⟨h1,h2,h3.same fun k k1 k2=>hs k (.inl (by lia)),a8 ys hs as⟩
end
abbrev OU:=Option Unit×Unit
abbrev ON:=Option Unit×Nat
noncomputable def srM(sz pw:Nat): StateT SortSt Sem OU:=
 forIn [0:sz] ((none,()):OU) fun _ _=>do
  let z <- get
  match if(pendingOf z).size>1 then(pendingOf z)[(pendingOf z).size-2]? else none with
  | some (_,_,ol)=>
   if ol<=pw then pure (.done (none,())) else do
    let y <- mergeAt' ((pendingOf z).size-2)
    if(!y)=true then pure (.done (some (),())) else pure (.yield (none,()))
  | _=>pure (.done (none,()))
noncomputable def srP(lo n:Nat): StateT SortSt Sem (ForInStep ON):=do
 modify fun z=>setPending z ((pendingOf z).push (lo,n,0))
 pure (.yield (none,lo+n))
noncomputable def srK(sz lo n:Nat): StateT SortSt Sem (ForInStep ON):=do
 let z <- get
 match(pendingOf z).back? with
 | some (s1,n1,_)=>do
  let t <- srM sz (power' sz (2*s1+n1) (2*s1+n1+n1+n) sz)
  match t.1 with
  | some r=>pure (.done (some r,lo))
  | none=>do
   modify fun z=>setPending z ((pendingOf z).modify ((pendingOf z).size-1) fun x=>(x.1,x.2.1,power' sz (2*s1+n1) (2*s1+n1+n1+n) sz))
   srP lo n
 | _=>srP lo n
noncomputable def srL(sz:Nat)(t:ON): StateT SortSt Sem (ForInStep ON):=
 if t.2>=sz then pure (.done (none,t.2))
 else do
  match <- countRun' t.2 (sz-t.2) with
  | some fo=>
   if fo<minRun' sz sz 0 then do
    rule "list.sort.binary-insertion"
    let y <- binarySort' t.2 (min (sz-t.2) (minRun' sz sz 0)) fo
    if(!y)=true then pure (.done (some (),t.2)) else srK sz t.2 (min (sz-t.2) (minRun' sz sz 0))
   else srK sz t.2 fo
  | _=>pure (.done (some (),t.2))
def srI(z:SortSt): Nat:=if Option.any (fun x=>decide (x<(pendingOf z)[(pendingOf z).size-2+1]?.elim 0 fun x=>x.2.1)) (if(pendingOf z).size-2>0 then Option.map (fun x=>x.2.1) (pendingOf z)[(pendingOf z).size-2-1]? else none)=true then(pendingOf z).size-2-1 else(pendingOf z).size-2
noncomputable def srE(sz:Nat): StateT SortSt Sem OU:=
 forIn [0:sz] ((none,()):OU) fun _ _=>do
  let z <- get
  if(pendingOf z).size<=1 then pure (.done (none,())) else do
   let y <- mergeAt' (srI z)
   if(!y)=true then pure (.done (some (),())) else pure (.yield (none,()))
theorem qok:sortRuns'=(do
  let z <- get
  let t <- forIn [0:(arrOf z).size] ((none,0):ON) fun _=>srL (arrOf z).size
  match t.1 with
  | some r=>pure r
  | none=>do
   let u <- srE (arrOf z).size
   match u.1 with
   | some r=>pure r
   | none=>pure ()):=by
 rw [sortRuns'_eq];dsimp only;refine bc fun z=>bc2 (fc fun _ t=>?_) fun t=>?_
 ·unfold srL
  refine g0a rfl (fun _=>rfl) fun _=>bc fun x=>?_;have kk:∀n (m:StateT SortSt Sem (ForInStep ON)),m=srK (arrOf z).size t.2 n->m=srK (arrOf z).size t.2 n:=fun _ _ h=>h;cases x with
  | none=>rfl
  | some fo=>
   dsimp only;refine g0a rfl (fun _=>bc fun _=>bc fun y=>g0a rfl (fun _=>rfl) fun _=>?_) fun _=>?_
   all_goals
    unfold srK;refine bc fun z2=>?_;cases(pendingOf z2).back? with
    | none=>rfl
    | some q=>
     obtain⟨s1,n1,p1⟩:=q;dsimp only;refine bc2 rfl fun t2=>?_;obtain⟨r2,u2⟩:=t2;cases r2 <;> rfl
 ·obtain⟨r,n⟩:=t
  cases r with
  | some r=>rfl
  | none=>
   dsimp only;refine bc2 rfl fun u=>?_;obtain⟨r2,u2⟩:=u;cases r2 <;> rfl
section
variable{prog:Program}{w:World}{A:Around}{E:Value->Shared->Prop}{s:Shared}{κ : SortKind}{G:Value->Prop}{lt:Value->Value->Bool}{a₀:Array Keyed}
structure SI(κ : SortKind)(lt:Value->Value->Bool)(a₀:Array Keyed)(lo:Nat)(st:SortSt): Prop where
 kind:kindOf st = κ
 fail:failedOf st=none
 perm:(arrOf st).Perm a₀
 runs:Rn lt (arrOf st) 0 (pendingOf st).toList lo
theorem SI.gs{lo:Nat}{st:SortSt}(h:SI κ lt a₀ lo st)(g:∀p∈a₀.toList,G p.1): Gs G st:=fun p hp=>g p ((g10.mp h.perm).mem_iff.mp hp)
theorem SI.size{lo:Nat}{st:SortSt}(h:SI κ lt a₀ lo st): (arrOf st).size=a₀.size:=h.perm.size_eq
theorem SI.merge(C:Cmp prog w A s κ G lt)(g:∀p∈a₀.toList,G p.1){lo i:Nat}{st:SortSt}{Q:Bool->SortSt->Prop}(h:SI κ lt a₀ lo st)(hlo:lo<=a₀.size)(hi:i+1<(pendingOf st).size)
  (hq:∀st',SI κ lt a₀ lo st'->(pendingOf st').size+1=(pendingOf st).size->(∀k,lo<=k->Kz (arrOf st') k=Kz (arrOf st) k)->Q true st'):wpS (model prog w) A E s (mergeAt' i) Q st:=by
 obtain⟨l,n,p,e1⟩:∃l n p,(pendingOf st)[i]=(l,n,p):=⟨_,_,_,rfl⟩
 obtain⟨r,m,p',e2⟩:∃r m p',(pendingOf st)[i+1]=(r,m,p'):=⟨_,_,_,rfl⟩
 have f1:(pendingOf st)[i]? = some (l,n,p):=by rw [g21 _ i (by lia),e1]
 have f2:(pendingOf st)[i+1]? = some (r,m,p'):=by rw [g21 _ (i+1) hi,e2]
 obtain⟨a1,a2,a3,a4,a5,a6,a7,a8⟩:=Rn.two h.runs (by rw [g0n];exact f1) (by rw [g0n];exact f2);subst a1;have hz:=h.size;refine qoj C h.kind h.fail (h.gs g) f1 f2 a2 a3 (by lia) a6 a7 fun st' af=>?_;have ep:(pendingOf st').toList=((pendingOf st).toList.set i (l,n+m,p)).eraseIdx (i+1):=by
  rw [af.pend,Array.toList_eraseIdxIfInBounds,g5d]
 refine hq st' ⟨af.kind.trans h.kind,af.fail.trans h.fail,af.perm.trans h.perm,?_⟩ ?_ (fun k hk=>af.out k (.inr (by lia)))
 ·rw [ep]
  exact a8 _ af.out af.asc
 ·rw [<- nu,ep,List.length_eraseIdx,md (by simpa using hi),g03,nu]
  lia
theorem qol(C:Cmp prog w A s κ G lt)(g:∀p∈a₀.toList,G p.1){lo sz pw:Nat}{st:SortSt}{Q:OU->SortSt->Prop}(h:SI κ lt a₀ lo st)(hlo:lo<=a₀.size)
  (hq:∀st',SI κ lt a₀ lo st'->(∀k,lo<=k->Kz (arrOf st') k=Kz (arrOf st) k)->Q (none,()) st'):wpS (model prog w) A E s (srM sz pw) Q st:=by
 unfold srM;refine g05 (I:=fun _ c st'=>c=(none,())/\SI κ lt a₀ lo st'/\∀k,lo<=k->Kz (arrOf st') k=Kz (arrOf st) k) ?_ ?_ ⟨rfl,h,fun _ _=>rfl⟩
 ·rintro x c st' _ _ ⟨rfl,hs,hf⟩
  refine m4 (g3j ?_)
  split
  ·rename_i q1 q2 ol eq
   by_cases hsz:(pendingOf st').size>1
   ·split
    ·exact mq (hq st' hs hf)
    ·refine m4 (hs.merge C g hlo (by lia) fun st2 hs2 _ hf2=>?_)
     simp only [g0z,gh,ny];exact mq ⟨rfl,hs2,fun k hk=>(hf2 k hk).trans (hf k hk)⟩
   ·rw [mi hsz] at eq;cases eq
  ·exact mq (hq st' hs hf)
 ·rintro c st' ⟨rfl,hs,hf⟩
  exact hq st' hs hf
theorem qf8{lo n:Nat}{st:SortSt}{Q:ForInStep ON->SortSt->Prop}(h:SI κ lt a₀ lo st)(hn:1<=n)(as:Asc lt (arrOf st) lo (lo+n))
  (hq:∀st',SI κ lt a₀ (lo+n) st'->Q (.yield (none,lo+n)) st'):wpS (model prog w) A E s (srP lo n) Q st:=by
 unfold srP;refine m4 (g4p (mq (hq _ ⟨h.kind,h.fail,h.perm,?_⟩)));show Rn lt (arrOf st) 0 ((pendingOf st).push (lo,n,0)).toList (lo+n);rw [Array.toList_push];exact h.runs.push hn as
theorem qf9(C:Cmp prog w A s κ G lt)(g:∀p∈a₀.toList,G p.1){lo n sz:Nat}{st:SortSt}{Q:ForInStep ON->SortSt->Prop}(h:SI κ lt a₀ lo st)(hlo:lo+n<=a₀.size)(hn:1<=n)(as:Asc lt (arrOf st) lo (lo+n))
  (hq:∀st',SI κ lt a₀ (lo+n) st'->Q (.yield (none,lo+n)) st'):wpS (model prog w) A E s (srK sz lo n) Q st:=by
 unfold srK;refine m4 (g3j ?_)
 split
 ·refine m4 (qol C g h (by lia) fun st' hs hf=>?_)
  dsimp only;refine m4 (g4p ?_);refine qf8 (a₀:=a₀) (κ := κ) ⟨hs.kind,hs.fail,hs.perm,?_⟩ hn (as.same fun k k1 k2=>hf k k1) hq;show Rn lt (arrOf st') 0 ((pendingOf st').modify ((pendingOf st').size-1) _).toList lo;rw [Array.toList_modify];refine Rn.modif _ ?_ hs.runs;exact fun q=>⟨rfl,rfl⟩
 ·exact qf8 h hn as hq
theorem SI.tr{lo hi:Nat}{st st':SortSt}(h:SI κ lt a₀ lo st)(t:Tr lo hi st st'): SI κ lt a₀ lo st':=
 ⟨t.kind.trans h.kind,t.fail.trans h.fail,t.perm.trans h.perm,by rw [t.pend];exact h.runs.same fun k k1 k2=>q02 (t.out k (.inl k2))⟩
theorem qc2(C:Cmp prog w A s κ G lt)(g:∀p∈a₀.toList,G p.1){st:SortSt}{Q:Unit->SortSt->Prop}(hk:kindOf st = κ)(hf:failedOf st=none)(ha:arrOf st=a₀)(hp:pendingOf st = #[])
  (hq:∀st',failedOf st'=none->(arrOf st').Perm a₀->(arrOf st').toList.Pairwise (le lt)->Q () st'):wpS (model prog w) A E s sortRuns' Q st:=by
 have h0:SI κ lt a₀ 0 st:=⟨hk,hf,by rw [ha],by rw [hp];rfl⟩
 rw [qok];refine m4 (g3j ?_);rw [ha];refine m4 (ur (g05 (I:=fun x c st'=>∃lo,c=(none,lo)/\min x a₀.size<=lo/\lo<=a₀.size/\SI κ lt a₀ lo st')
  (Q:=fun c st'=>∃lo,c=(none,lo)/\lo=a₀.size/\SI κ lt a₀ lo st') ?_ ?_ ⟨0,rfl,by lia,by lia,h0⟩) ?_)
 ·rintro x c st' _ hx ⟨lo,rfl,h1,h2,hs⟩
  unfold srL;dsimp only
  split
  ·exact mq ⟨lo,rfl,by lia,hs⟩
  ·have hz:=hs.size
   refine m4 (qog C hs.kind (hs.gs g) (by lia) (by lia) fun m st2 tr m1 m2 as=>?_);have hs2:=hs.tr tr;have hz2:=hs2.size;dsimp only
   split
   ·refine m4 (wpS_lift (g06 ⟨rfl,?_⟩))
    refine m4 (qoh C hs2.kind (hs2.gs g) (by lia) (by lia) as fun st3 tr3 as3=>?_);simp only [g0z,gh,ny];exact qf9 C g (hs2.tr tr3) (by lia) (by lia) as3 fun st4 hs4=>⟨_,rfl,by lia,by lia,hs4⟩
   ·exact qf9 C g hs2 (by lia) m1 as fun st4 hs4=>⟨_,rfl,by lia,by lia,hs4⟩
 ·rintro c st' ⟨lo,rfl,h1,h2,hs⟩
  exact⟨lo,rfl,by lia,hs⟩
 ·rintro c st' ⟨lo,rfl,rfl,hs⟩
  dsimp only;have fin:∀st2,SI κ lt a₀ a₀.size st2->(pendingOf st2).size<=1->Q () st2:=by
   intro st2 hs2 hp2;refine hq st2 hs2.fail hs2.perm ?_;have r:=hs2.runs;have hz:=hs2.size;have as:Asc lt (arrOf st2) 0 a₀.size:=by
    match e:(pendingOf st2).toList,r with
    | [],r=>
     have:0=a₀.size:=r;intro i j i1 i2 i3;lia
    | [q],r=>
     obtain⟨r1,r2,r3,r4⟩:=r;have:0+q.2.1=a₀.size:=r4;rw [<- this];exact r3
    | q :: q2 :: l,r=>
     have:=g0d List.length e;simp at this;lia
   exact(q1w C (T:=[]) (X:=(arrOf st2).toList) (R:=[]) (by simp) rfl (by simp;lia)).mp as
  unfold srE;refine m4 (ur (g05 (I:=fun x c st2=>c=(none,())/\SI κ lt a₀ a₀.size st2/\((pendingOf st2).size<=1\/(pendingOf st2).size+x<=a₀.size))
   (Q:=fun c st2=>c=(none,())/\SI κ lt a₀ a₀.size st2/\(pendingOf st2).size<=1) ?_ ?_ ⟨rfl,hs,.inr (by have:=hs.runs.len;simp at this;lia)⟩) ?_)
  ·rintro x c st2 _ hx ⟨rfl,hs2,hp2⟩
   refine m4 (g3j ?_)
   split
   ·rename_i h1
    exact mq ⟨rfl,hs2,h1⟩
   ·rename_i h1
    have hI:srI st2+1<(pendingOf st2).size:=by
     unfold srI;generalize (if(pendingOf st2).size-2>0 then Option.map (fun x:Pd=>x.2.1) (pendingOf st2)[(pendingOf st2).size-2-1]? else none)=zz
     split <;> lia
    refine m4 (hs2.merge C g (gw _) hI fun st3 hs3 hp3 _=>?_);simp only [g0z,gh,ny];exact mq ⟨rfl,hs3,.inr (by lia)⟩
  ·rintro c st2 ⟨rfl,hs2,hp2⟩
   exact⟨rfl,hs2,by lia⟩
  ·rintro c st2 ⟨rfl,hs2,hp2⟩
   exact mq (fin st2 hs2 hp2)
end
end Srt
namespace Srt
open PySem PySem.SeqAt PySem.AutoSeq1 PySem.MeetsSeq PySem.MeetsSeq2 PySem.MeetsSeq3 PySem.SeqRoads2
def LtAt(A:Around)(s:Shared)(y x:Value)(b:Bool): Prop:=∀(prog:Program) (w:World) (E:Value->Shared->Prop) (Q:Value->Shared->Prop),Q (.bool b) s->wpAny (model prog w) A (richCompare .Lt y x) Q E s
inductive LexAt(A:Around)(s:Shared)(f:Bool): List (Value×Value)->Bool->Prop
 | nil:LexAt A s f [] f
 | eq {x y r b}:EqAt A s x y true->LexAt A s f r b->LexAt A s f ((x,y) :: r) b
 | ne {x y r b}:EqAt A s x y false->LtAt A s x y b->LexAt A s f ((x,y) :: r) b
theorem qrd(l b:Addr)(is js:Array Value)(n n2:Nat)(dd dd2:Option Addr)(sl sl2:Array (Option Value)):
  Meets (Builtin.«tuple.__lt__» ⟨[.ref l,.ref b],[]⟩)
   (fun A R s=>s.heap.get? l=some {cls:=.type "tuple",dict:=dd,data:=.seq is n,slots:=sl}/\s.heap.get? b=some {cls:=.type "tuple",dict:=dd2,data:=.seq js n2,slots:=sl2} /\
    ∃c,LexAt A.in1 s (decide (is.size<js.size)) (is.toList.zip js.toList) c/\R (.ok (.ret (.bool c))) s):=
 .of_wp fun prog w A R s h=>by
  obtain⟨hp,g,d,tk,os⟩:=s;obtain⟨hl,hb,c,hc,h⟩:=h;have f2:=g20
  wp_walk using g2x hl,g2x hb,wpAny_forIn_list _ (fun rest b s'=>b.1=none/\s'=⟨hp,g,d,tk,os⟩/\LexAt A.in1 ⟨hp,g,d,tk,os⟩ (decide (is.size<js.size)) rest c) _
  case turn=>
   rintro⟨y,x⟩ rest b s' ⟨hb',rfl,hx⟩
   cases hx with
   | eq e r=>
    refine g0 (e prog w _ _ ?_)
    wp_walk
    exact⟨rfl,rfl,r⟩
   | ne e k=>
    refine g0 (e prog w _ _ ?_);have k':∀ {E:Value->Shared->Prop} {Q:Value->Shared->Prop},Q (.bool c) ⟨hp,g,d,tk,os⟩->wpAny (model prog w) A.in1 (richCompare .Lt y x) Q E ⟨hp,g,d,tk,os⟩:=fun h=>k prog w _ _ h
    wp_walk using k'
    exact⟨_,rfl,h⟩
  case fin=>
   rintro⟨b1,b2⟩ s' ⟨hb',rfl,hx⟩
   simp only at hb';subst hb';cases hx
   wp_walk
   exact⟨_,rfl,by simpa [Builtin.Tuple.tupleCompareSizes] using h⟩
  case h=>
   exact⟨rfl,rfl,hc⟩
theorem LtAt.tuples{A:Around}{s:Shared}{l b:Addr}{is js:Array Value}{c:Bool}(hl:s.heap.IsTuple l is)(hb:s.heap.IsTuple b js)(hu:A.units<cLine)
  (he:LexAt A.in1 s (decide (is.size<js.size)) (is.toList.zip js.toList) c):LtAt A s (.ref l) (.ref b) c:=fun prog w E Q h=>by
 obtain⟨⟨cls,dd,data,sl⟩,ho,hc,n,hd⟩:=id hl;obtain⟨⟨cls2,dd2,data2,sl2⟩,ho2,hc2,n2,hd2⟩:=id hb;simp only at hc hd hc2 hd2;subst hc hd hc2 hd2;exact richCompare_meets_room (op:=.Lt) ⟨_,ho,rfl⟩ ⟨_,ho2,rfl⟩ F.slot_tuple_lt F.entry_tuple_lt (F.args_tuple_lt_2 _ _) (qrd l b is js n n2 dd dd2 sl sl2)
  ⟨ho,ho2,c,he,show Value.bool c≠Value.notImplemented/\Q (.bool c) s from⟨(fun x=>nomatch x),h⟩⟩ hu
end Srt
namespace Srt
open PySem PyProof.Rows
def jt(h:Heap)(a:Addr)(vs:List Value): Heap:=((h.update a (Obj.mapSeq fun _=> #[])).push (seqObj "tuple" vs.toArray 0)).push (seqObj "list" #[] 0)
section
variable{prog:Program}{w:World}{A:Around}{E:Value->Shared->Prop}{s:Shared}{κ : SortKind}{G:Value->Prop}{lt:Value->Value->Bool}
theorem qih{a:Addr}{vs:List Value}{n:Nat}{P:PySem.Fin->Shared->Prop}(ho:s.heap.get? a=some (seqObj "list" vs.toArray n))(hz:vs.length<=sizeLine)
  (hkind:2<=vs.length->∀Q:SortKind->Shared->Prop,Q κ {s with heap:=jt s.heap a vs}->wpAny (model prog w) A (keyKind' vs.toArray) Q E {s with heap:=jt s.heap a vs})
  (C:2<=vs.length->Cmp prog w A {s with heap:=jt s.heap a vs} κ G lt) (g:∀v∈vs,G v)
  (h:∀out:List Value,out.Perm vs->out.Pairwise (fun x y=>lt y x=false)->P (.done (.ret .none)) {s with heap:=sortedHeap s.heap a vs out.toArray}) :
  wpAny (model prog w) A (Builtin.«list.sort» ⟨[.ref a],[]⟩) P E s:=by
 rw [list_sort_plain];have ha:a<s.heap.objs.size:=gz ho;refine g0 (g4s ho rfl ?_);refine g0 (g1s ho rfl ?_ (by simpa using hz) (by simp));obtain⟨e1,ho1⟩:∃e1,(s.heap.update a (Obj.mapSeq fun _=> #[])).get? a=some (seqObj "list" #[] e1):=⟨_,g19 ho (fun _=> #[])⟩
 refine g0 (g51 ho1 rfl ?_);refine g0 (g4x ?_);refine g0 (g47 ?_);refine ni ?_;have ho6:(jt s.heap a vs).get? a=some (seqObj "list" #[] e1):=by
  unfold jt;rw [ue _ _ _ (by rw [g0f,tf];exact m5 (g0u ha)),ue _ _ _ (by rw [tf];exact m5 ha)];exact ho1
 show wpAny (model prog w) A _ P E {s with heap:=jt s.heap a vs};dsimp only;have hsz:vs.toArray.size=vs.length:=by simp
 by_cases h2:vs.toArray.size<2
 ·rw [md h2,md h2]
  refine g0 (g9 ?_);rw [StateT.run_pure];refine g0 (g9 ?_);dsimp only;refine g0 (g51 ho6 rfl ?_);have ez:(Array.map (fun x:Keyed=>x.2) (vs.toArray.zip vs.toArray))=vs.toArray:=by
   apply g6p;simp [g61]
  refine g0 (g1s ho6 rfl ?_ (by simp) (by show(Array.map (fun x:Keyed=>x.2) (vs.toArray.zip vs.toArray)).size<=_;rw [ez,hsz];lia));simp only [g3u,gh,ny];refine g9 ?_;show P _ {s with heap:=sortedHeap s.heap a vs (Array.map (fun x:Keyed=>x.2) (vs.toArray.zip vs.toArray))};rw [ez];refine h vs (.refl _) ?_
  match vs,hsz,h2 with
  | [],_,_=>exact .nil
  | [_],_,_=>exact g27 _ _
  | _ :: _ :: _,_,h2=>simp at h2;lia
 ·rw [mi h2,mi h2]
  have h2':2<=vs.length:=by lia
  refine g0 (hkind h2' _ ?_);have gp:∀p∈(vs.toArray.zip vs.toArray).toList,G p.1:=fun p hp=>by
   have:p∈vs.zip vs:=by simpa using hp
   exact g _ (mem_zip_self this).2
  refine g0 (tq (qc2 (a₀:=vs.toArray.zip vs.toArray) (st:=SortSt.mk' κ (vs.toArray.zip vs.toArray) #[] 7 none)
   (Q:=fun _ st'=>failedOf st'=none/\(arrOf st').Perm (vs.toArray.zip vs.toArray)/\(arrOf st').toList.Pairwise (le lt)) (C h2') gp rfl rfl rfl rfl fun st' a1 a2 a3=>⟨a1,a2,a3⟩) ?_ fun _ _ e=>e)
  rintro⟨⟨⟩,st'⟩ s' ⟨rfl,hf,hp,hs⟩
  dsimp only;have hl:(arrOf st').toList.Perm (vs.zip vs):=by
   have:=g10.mp hp
   simpa using this
  have e2:(arrOf st').map (·.2)=((arrOf st').toList.map (·.1)).toArray:=by
   apply g6p;rw [Array.toList_map];exact g2u fun p hp'=>((mem_zip_self (hl.mem_iff.mp hp')).1).symm
  have hp2:((arrOf st').toList.map (·.1)).Perm vs:=by
   have:=hl.map (·.1);rwa [List.map_fst_zip (gw _)] at this
  refine g0 (g51 ho6 rfl ?_);refine g0 (g1s ho6 rfl ?_ (by simp) (by show(Array.map (fun x:Keyed=>x.2) (arrOf st')).size<=_;rw [e2,gv,hp2.length_eq];lia));rw [hf];simp only [g3u,gh,ny];refine g9 ?_;show P _ {s with heap:=sortedHeap s.heap a vs ((arrOf st').map (·.2))};rw [e2];exact h _ hp2 (g0b.mpr hs)
def srtH(h:Heap)(vs:List Value): Heap:=((h.push (seqObj "list" #[] 0)).update h.objs.size (Obj.mapSeq (· ++ vs.toArray))).push (seqObj "list" vs.toArray 0)
end
section
variable{prog:Program}{w:World}{A:Around}{E:Value->Shared->Prop}{s:Shared}
theorem qc3{kS:Addr}{f:Value}{vs:List Value}{J:List Value->Shared->Prop}{body:Value->PUnit->Sem (ForInStep PUnit)}(hz:vs.length<=sizeLine)
  (hb:∀x ks (s:Shared) (C:Value->Shared->Prop),ks.length<vs.length->wpAny (model prog w) A (call f [x]) (fun k s'=>(∃e,s'.heap.get? kS=some (seqObj "list" (List.toArray ks) e))/\C k {s' with heap:=s'.heap.update kS (Obj.mapSeq (·.push k))}) (fun _ _=>False) s ->
   wpAny (model prog w) A (body x ⟨⟩) (fun r s'=>r=.yield ⟨⟩/\∃k,C k s') E s)
  (hstep:∀l v r,vs=l++v :: r->∀ks s',ks.length=l.length->J ks s'->wpAny (model prog w) A (call f [v]) (fun k s''=>(∃e,s''.heap.get? kS=some (seqObj "list" (List.toArray ks) e))/\J (ks++[k]) {s'' with heap:=s''.heap.update kS (Obj.mapSeq (·.push k))}) (fun _ _=>False) s') :
  ∀(r l ks:List Value) (s:Shared),vs=l++r->ks.length=l.length->J ks s->wpAny (model prog w) A (forIn r PUnit.unit body) (fun _ s'=>∃ks,ks.length=vs.length/\J ks s') E s
 | [],l,ks,s,h1,h2,h3=>by
  rw [g3g];exact g9 ⟨ks,by rw [h2,h1];simp,h3⟩
 | x :: r,l,ks,s,h1,h2,h3=>by
  rw [g28];refine g0 (tq (hb x ks s (fun k s'=>J (ks++[k]) s') (by rw [h1,h2];simp) (hstep l x r h1 ks s h2 h3)) (fun q s' hq=>?_) fun _ _ x=>x);obtain⟨rfl,k,hk⟩:=hq;show wpAny (model prog w) A (forIn r PUnit.unit body) _ E s';exact qc3 hz hb hstep r (l++[x]) (ks++[k]) s' (by rw [h1];simp) (by simp [h2]) hk
theorem ql9{a:Addr}{f:Value}{vs:List Value}{n:Nat}{P:PySem.Fin->Shared->Prop}(ho:s.heap.get? a=some (seqObj "list" vs.toArray n))(hz:vs.length<=sizeLine)(J:List Value->Shared->Prop)
  (h0:J [] {s with heap:=jt s.heap a vs})
  (hstep:∀l v r,vs=l++v :: r->∀ks s',ks.length=l.length->J ks s'->wpAny (model prog w) A (call f [v]) (fun k s''=>(∃e,s''.heap.get? (s.heap.objs.size+1)=some (seqObj "list" (List.toArray ks) e))/\J (ks++[k]) {s'' with heap:=s''.heap.update (s.heap.objs.size+1) (Obj.mapSeq (·.push k))}) (fun _ _=>False) s')
  (hfin:∀ks s',ks.length=vs.length->J ks s'->(∃e,s'.heap.get? (s.heap.objs.size+1)=some (seqObj "list" (List.toArray ks) e))/\s'.heap.get? a=(jt s.heap a vs).get? a /\
   ∃ κ G lt,(2<=vs.length->∀(E:Value->Shared->Prop) (Q:SortKind->Shared->Prop),Q κ s'->wpAny (model prog w) A (keyKind' ks.toArray) Q E s')/\(2<=vs.length->Cmp prog w A s' κ G lt)/\(∀k∈ks,G k) /\
    ∀T:List (Value×Value),T.Perm (ks.zip vs)->T.Pairwise (le lt)->P (.done (.ret .none)) {s' with heap:=(s'.heap.update (s.heap.objs.size+1) (Obj.mapSeq fun _=> #[])).update a (Obj.mapSeq fun _=>(T.map (·.2)).toArray)}) :
  wpAny (model prog w) A (ksk_tree a f false) P E s:=by
 have ha:a<s.heap.objs.size:=gz ho;obtain⟨e1,ho1⟩:∃e1,(s.heap.update a (Obj.mapSeq fun _=>(#[]:Array Value))).get? a=some (seqObj "list" #[] e1):=⟨_,g19 ho fun _=> #[]⟩
 have hkS:((s.heap.update a (Obj.mapSeq fun _=>(#[]:Array Value))).push (seqObj "tuple" vs.toArray 0)).objs.size=s.heap.objs.size+1:=by rw [g0f,tf]
 have ho6:(jt s.heap a vs).get? a=some (seqObj "list" #[] e1):=by
  unfold jt;rw [ue _ _ _ (by rw [g0f,tf];exact m5 (g0u ha)),ue _ _ _ (by rw [tf];exact m5 ha)];exact ho1
 have hsz:vs.toArray.size=vs.length:=by simp
 unfold ksk_tree;refine g0 (g4s ho rfl ?_);refine g0 (g1s ho rfl ?_ (by simpa using hz) (um _));refine g0 (g51 ho1 rfl ?_);refine g0 (g4x ?_ (by simpa using hz));refine g0 (g47 ?_ (um _));refine ni ?_;rw [hkS];show wpAny (model prog w) A (ksk_rest a f false vs.toArray e1 (.ref (s.heap.objs.size+1))) P E {s with heap:=jt s.heap a vs};unfold ksk_rest;refine g0 (g06 ?_);rw [List.forIn_toArray];refine g0 (tq (qc3 (vs:=vs) (J:=J) hz (fun x ks s' C hl hx=>?_) hstep vs [] [] _ rfl rfl h0) (fun _ s' hd=>?_) fun _ _ x=>x)
 ·refine g0 (g0y (tq hx (fun k s'' hk=>?_) fun _ _ hF=>hF.elim))
  obtain⟨⟨e,he⟩,hc⟩:=hk;dsimp only;refine g0 (g1s he rfl ?_ (by rw [gv];lia) (my (g6w (Array.size_push ..)) (by rw [gv];lia)));exact g9 ⟨rfl,k,hc⟩
 ·obtain⟨ks,hl,hJ⟩:=hd
  obtain⟨⟨e,he⟩,hA, κ,G,lt,hkind,C,g,fin⟩:=hfin ks s' hl hJ;rw [ho6] at hA;refine g0 (g4s he rfl ?_);unfold ksk_end;dsimp only;rw [mi (by simp)];have hks:a≠s.heap.objs.size+1:=m5 (g0u ha);have tail:∀st':SortSt,failedOf st'=none->(arrOf st').toList.Perm (ks.zip vs)->(arrOf st').toList.Pairwise (le lt)->wpAny (model prog w) A (ksk_tail a false e1 (.ref (s.heap.objs.size+1)) st') P E s':=by
   intro st' hf hp hs;unfold ksk_tail;dsimp only;have eo:(arrOf st').map (·.2)=((arrOf st').toList.map (·.2)).toArray:=by
    apply g6p;rw [Array.toList_map]
   rw [eo];have hlen:((arrOf st').toList.map (·.2)).length=vs.length:=by rw [mn,hp.length_eq,g2z,hl,g5x]
   refine g0 (g1s he rfl ?_ (by rw [gv,hl];exact hz) (um _));refine g0 (g1y ?_);have hA2:(s'.heap.update (s.heap.objs.size+1) (Obj.mapSeq fun _=> #[])).get? a=some (seqObj "list" #[] e1):=by
    rw [g08 _ _ _ _ hks];exact hA
   refine g0 (g51 hA2 rfl ?_);refine g0 (g1s hA2 rfl ?_ (um _) (by simp only [gh,ny];rw [gv,hlen];lia));rw [hf];simp only [g3u,gh,ny];exact g9 (fin _ hp hs)
  have ez:(ks.toArray.zip vs.toArray).toList=ks.zip vs:=by simp
  by_cases h2:vs.toArray.size<2
  ·rw [md h2,md h2]
   refine g0 (g9 ?_);rw [StateT.run_pure];refine g0 (g9 ?_);dsimp only;refine tail _ rfl ?_ ?_
   ·show(ks.toArray.zip vs.toArray).toList.Perm _
    rw [ez]
   ·show(ks.toArray.zip vs.toArray).toList.Pairwise _
    rw [ez];have:(ks.zip vs).length<2:=by rw [g2z,hl,g5x];lia
    match ks.zip vs,this with
    | [],_=>exact .nil
    | [_],_=>exact g27 _ _
    | _ :: _ :: _,h=>simp at h;lia
  ·rw [mi h2,mi h2]
   have h2':2<=vs.length:=by lia
   refine g0 (hkind h2' _ _ ?_);have gp:∀p∈(ks.toArray.zip vs.toArray).toList,G p.1:=fun p hp=>by
    rw [ez] at hp;exact g _ (g2w hp).1
   refine g0 (tq (qc2 (a₀:=ks.toArray.zip vs.toArray) (st:=SortSt.mk' κ (ks.toArray.zip vs.toArray) #[] 7 none)
    (Q:=fun _ st'=>failedOf st'=none/\(arrOf st').Perm (ks.toArray.zip vs.toArray)/\(arrOf st').toList.Pairwise (le lt)) (C h2') gp rfl rfl rfl rfl fun st' a1 a2 a3=>⟨a1,a2,a3⟩) ?_ fun _ _ e=>e)
   rintro⟨⟨⟩,st'⟩ s'' ⟨rfl,hf,hp,hs⟩
   dsimp only;refine tail st' hf ?_ hs;rw [<- ez];exact g10.mp hp
theorem qdm{l fa:Addr}{vs:List Value}{Q:Value->Shared->Prop}(hl:s.heap.IsList l vs.toArray)(hz:vs.length<=sizeLine)(J:List Value->Shared->Prop)
  (h0:J [] {s with heap:=jt (srtH s.heap vs) (s.heap.objs.size+1) vs})
  (hstep:∀l v r,vs=l++v :: r->∀ks s',ks.length=l.length->J ks s'->wpAny (model prog w) A.in1.in1 (call (.ref fa) [v]) (fun k s''=>(∃e,s''.heap.get? (s.heap.objs.size+3)=some (seqObj "list" (List.toArray ks) e))/\J (ks++[k]) {s'' with heap:=s''.heap.update (s.heap.objs.size+3) (Obj.mapSeq (·.push k))}) (fun _ _=>False) s')
  (hfin:∀ks s',ks.length=vs.length->J ks s'->(∃e,s'.heap.get? (s.heap.objs.size+3)=some (seqObj "list" (List.toArray ks) e))/\s'.heap.get? (s.heap.objs.size+1)=(jt (srtH s.heap vs) (s.heap.objs.size+1) vs).get? (s.heap.objs.size+1) /\
   ∃ κ G lt,(2<=vs.length->∀(E:Value->Shared->Prop) (Q:SortKind->Shared->Prop),Q κ s'->wpAny (model prog w) A.in1.in1 (keyKind' ks.toArray) Q E s')/\(2<=vs.length->Cmp prog w A.in1.in1 s' κ G lt)/\(∀k∈ks,G k) /\
    ∀T:List (Value×Value),T.Perm (ks.zip vs)->T.Pairwise (le lt)->Q (.ref (s.heap.objs.size+1)) {s' with heap:=(s'.heap.update (s.heap.objs.size+3) (Obj.mapSeq fun _=> #[])).update (s.heap.objs.size+1) (Obj.mapSeq fun _=>(T.map (·.2)).toArray)}) :
  wpAny (model prog w) A (call (.builtin "sorted") [.ref l] [(Str.ofString "key",.ref fa)]) Q E s:=by
 refine call_function_entry_kw kind_sorted plain_sorted entry_sorted (ksk_s1 _ _) ?_;unfold Builtin.«sorted»;refine g0 (m:=checkCount "sorted" 1 1 _) (g9 ?_);refine g0 (collect_list hl ?_ hz);refine g0 (g47 ?_ (by simpa using hz));have hsz:((s.heap.push (seqObj "list" #[] 0)).update s.heap.objs.size (Obj.mapSeq (· ++ vs.toArray))).objs.size=s.heap.objs.size+1:=by
  rw [tf,g0f]
 have hsz2:(srtH s.heap vs).objs.size=s.heap.objs.size+2:=by unfold srtH;rw [g0f,hsz]
 have hoL:(srtH s.heap vs).get? (s.heap.objs.size+1)=some (seqObj "list" vs.toArray 0):=by
  unfold srtH;rw [<- hsz];exact gf _ rfl
 show wpAny _ _ _ _ _ {s with heap:=srtH s.heap vs};rw [hsz];refine g0 (ni (wpAny_call_entry_kw slot_list_sort ⟨_,hoL,rfl⟩ entry_list_sort ?_ (ksk_l1 _ _)));show wpAny (model prog w) A.in1.in1 (Builtin.«list.sort» ⟨[.ref (s.heap.objs.size+1)],[(Str.ofString "key",.ref fa)]⟩) _ _ _;rw [ksk_t1];refine ql9 (s:={s with heap:=srtH s.heap vs}) hoL hz J h0 ?_ ?_
 ·show ∀l v r,vs=l++v :: r->∀ks s',ks.length=l.length->J ks s'->wpAny (model prog w) A.in1.in1 (call (.ref fa) [v]) (fun k s''=>(∃e,s''.heap.get? ((srtH s.heap vs).objs.size+1)=some (seqObj "list" (List.toArray ks) e))/\J (ks++[k]) {s'' with heap:=s''.heap.update ((srtH s.heap vs).objs.size+1) (Obj.mapSeq (·.push k))}) (fun _ _=>False) s'
  rw [hsz2];exact hstep
 ·intro ks s' h1 h2
  show(∃e,s'.heap.get? ((srtH s.heap vs).objs.size+1)=some (seqObj "list" (List.toArray ks) e))/\s'.heap.get? (s.heap.objs.size+1)=(jt (srtH s.heap vs) (s.heap.objs.size+1) vs).get? (s.heap.objs.size+1)/\_;obtain⟨b1,b2, κ,G,lt,b3,b4,b5,b6⟩:=hfin ks s' h1 h2;rw [hsz2];exact⟨b1,b2, κ,G,lt,b3,b4,b5,fun T t1 t2=>⟨_,rfl,g9 ⟨_,rfl,b6 T t1 t2⟩⟩⟩
end
end Srt
namespace DL
open PySem PySem.Spec PyProof.Rows L2 Srt
variable[Lam]
theorem qii:∀n,(∀d e:D,sizeOf d<n->shD d e=true->okE d e=true/\eqD d e=(!ltT d e && !ltT e d))/\(∀ds es:List D,sizeOf ds<n->shL ds es=true->kb ds es=true/\eqL ds es=(!wq ds es && !wq es ds)):=by
 intro n
 induction n with
 | zero=>exact⟨fun d e h=>absurd h (u6 _),fun d e h=>absurd h (u6 _)⟩
 | succ n ih=>
  refine⟨fun d e hn h=>?_,fun ds es hn h=>?_⟩
  ·cases d <;> cases e <;> simp only [shD] at h <;> first|(cases h;done)|skip
   ·refine⟨by simp [okE,flat,flD],?_⟩
    rw [xj,xj];simp only [eqD,eqF];rename_i i j
    by_cases e1:i=j
    ·subst e1;simp
    ·have:(i==j)=false:=by simpa using e1
     rw [this]
     by_cases e2:i<j
     ·simp [e2]
     ·have e3:j<i:=by lia
      simp [e3]
   ·rw [w9,w9]
    simp only [okE,eqD];exact ih.2 _ _ (by simp at hn;lia) h
  ·cases ds with
   | nil=>cases es <;> simp [kb,eqL,q29,kg]
   | cons d ds=>
    cases es with
    | nil=>simp [kb,eqL,q29,kg]
    | cons e es=>
     simp only [shL,m9] at h;obtain⟨a1,a2⟩:=ih.1 d e (by simp at hn;lia) h.1;obtain⟨b1,b2⟩:=ih.2 ds es (by simp at hn;lia) h.2;refine⟨by simp only [kb,a1,b1,g48],?_⟩;rw [q0a,q0a];simp only [eqL,a2,b2];cases e1:ltT d e <;> cases e2:ltT e d <;> simp
theorem qt4{d e:D}(h:shD d e=true): okE d e=true:=((qii (sizeOf d+1)).1 d e (uk _) h).1
theorem qn2{d e:D}(h:shD d e=true): eqD d e=(!ltT d e && !ltT e d):=((qii (sizeOf d+1)).1 d e (uk _) h).2
section
variable{X:Cx}{pins:List (Addr×Obj)}{σ : St}{F H:Hp}{s:Shared}
theorem q91{A:Around}(I:Inv X pins σ H s)(fh:Same F H)(f:Bool): ∀ {ds es:List D} {xs ys:List V} {us vs:List Value},(∀d∈ds,∀e x y u v,shD d e=true->A.units+kc d<cLine->Rep X.K F d x->Rep X.K F e y->RelV x u->RelV y v->LtAt A s u v (ltT d e)) ->
  shL ds es=true->A.units+yl ds<cLine->RepL X.K F ds xs->RepL X.K F es ys->Vals xs us->Vals ys vs->f=decide (ds.length<es.length)->LexAt A s f (us.zip vs) (wq ds es)
 | [],es,xs,ys,us,vs,_,_,_,k1,k2,w1,w2,hf=>by
  cases k1.nil_inv;cases w1;cases es with
  | nil=>rw [q29];simp only [List.zip_nil_left];rw [show false=f by rw [hf];simp];exact .nil
  | cons e es=>rw [kg];simp only [List.zip_nil_left];rw [show true=f by rw [hf];simp];exact .nil
 | d :: ds,[],xs,ys,us,vs,_,_,_,k1,k2,w1,w2,hf=>by
  cases k2.nil_inv;cases w2;rw [q29];simp only [List.zip_nil_right];rw [show false=f by rw [hf];simp];exact .nil
 | d :: ds,e :: es,xs,ys,us,vs,ih,hs,hu,k1,k2,w1,w2,hf=>by
  obtain⟨x,r,rfl,a1,a2⟩:=k1.cons_inv;obtain⟨y,r',rfl,b1,b2⟩:=k2.cons_inv;cases w1 with
  | cons p1 p2=>
   cases w2 with
   | cons p3 p4=>
    simp only [shL,m9] at hs;simp only [yl] at hu;rw [List.zip_cons_cons];have he:=qbo I fh A (qt4 hs.1) (by lia) a1 b1 p1 p3;have hl:=ih d gq e x y _ _ hs.1 (by lia) a1 b1 p1 p3;rw [qn2 hs.1] at he;rw [q0a];cases e1:ltT d e
    ·cases e2:ltT e d
     ·rw [e1,e2] at he
      simp only [g6q,g2j,g5e];exact .eq he (q91 I fh f (fun d' hd'=>ih d' (gr _ hd')) hs.2 (by lia) a2 b2 p2 p4 (by rw [hf];simp))
     ·rw [e1,e2] at he
      rw [e1] at hl;exact .ne he hl
    ·rw [e1] at he hl
     exact .ne he hl
theorem qre(I:Inv X pins σ H s)(fh:Same F H): ∀ {d e:D} {x y:V} {u v:Value} (A:Around),shD d e=true->A.units+kc d<cLine->Rep X.K F d x->Rep X.K F e y->RelV x u->RelV y v->LtAt A s u v (ltT d e):=by
 suffices hh:∀n,(∀d e x y u v (A:Around),sizeOf d<n->shD d e=true->A.units+kc d<cLine->Rep X.K F d x->Rep X.K F e y->RelV x u->RelV y v->LtAt A s u v (ltT d e)) from
  fun {d e x y u v} A=>hh (sizeOf d+1) d e x y u v A (uk _)
 intro n
 induction n with
 | zero=>intro d e x y u v A h;exact absurd h (u6 _)
 | succ n ih=>
  intro d e x y u v A hn hs hu r1 r2 q1 q2;cases d <;> cases e <;> simp only [shD] at hs <;> first|(cases hs;done)|skip
  ·cases rep_int.mp r1
   cases rep_int.mp r2;obtain⟨t,rfl⟩:=q1;obtain⟨t',rfl⟩:=q2;rw [xj];intro prog w E Q h;exact lt_int h
  ·rename_i ds es
   obtain⟨a,xs,rfl,k1,k2⟩:=rep_tup.mp r1;obtain⟨b,ys,rfl,k3,k4⟩:=rep_tup.mp r2;cases q1;cases q2;obtain⟨i1,v1,t1,_⟩:=I.tuple (qk fh k1);obtain⟨i2,v2,t2,_⟩:=I.tuple (qk fh k3);simp only [kc] at hu;rw [w9];refine LtAt.tuples (show s.heap.IsTuple a i1.toArray from t1) (show s.heap.IsTuple b i2.toArray from t2) (by lia) ?_;refine q91 I fh _ (fun d hd e x y u v s1 s2 s3 s4 s5 s6=>ih d e x y u v A.in1 ?_ s1 s2 s3 s4 s5 s6) hs (by show A.units+1+yl ds<cLine;lia) k2 k4 v1 v2 ?_
   ·have:=List.sizeOf_lt_of_mem hd
    simp at hn;lia
   ·rw [gv,gv, <- v1.length, <- v2.length, <- k2.length, <- k4.length]
theorem qla(I:Inv X pins σ H s)(fh:Same F H): ∀ {d e:D} {x:V},kD d=true->kD e=true->Rep X.K F d x->Rep X.K F e x->d=e:=by
 suffices hh:∀n,(∀d e x,sizeOf d<n->kD d=true->kD e=true->Rep X.K F d x->Rep X.K F e x->d=e) from fun {d e x}=>hh (sizeOf d+1) d e x (uk _)
 intro n
 induction n with
 | zero=>intro d e x h;exact absurd h (u6 _)
 | succ n ih=>
  intro d e x hn kd ke r1 r2;cases d <;> simp only [kD] at kd <;> first|(cases kd;done)|skip
  all_goals (cases e <;> simp only [kD] at ke <;> first|(cases ke;done)|skip)
  ·cases rep_int.mp r1
   cases rep_int.mp r2
   rfl
  ·cases rep_int.mp r1
   obtain⟨_,_,z,_⟩:=rep_tup.mp r2;cases z
  ·obtain⟨_,_,z,_⟩:=rep_tup.mp r1
   cases rep_int.mp r2;cases z
  ·rename_i ds es
   obtain⟨a,xs,rfl,k1,k2⟩:=rep_tup.mp r1;obtain⟨b,ys,z,k3,k4⟩:=rep_tup.mp r2;cases z;cases I.tuple_inj (qk fh k1) (qk fh k3);have seq:∀(ds es:List D) (xs:List V),sizeOf ds<n->kDL ds=true->kDL es=true->RepL X.K F ds xs->RepL X.K F es xs->ds=es:=by
    intro ds
    induction ds with
    | nil=>
     intro es xs _ _ _ k1 k2;cases k1.nil_inv;cases es with
     | nil=>rfl
     | cons e es=>obtain⟨_,_,z,_⟩:=k2.cons_inv;cases z
    | cons d ds ihd=>
     intro es xs hs h1 h2 k1 k2;obtain⟨x,r,rfl,a1,a2⟩:=k1.cons_inv;cases es with
     | nil=>cases k2.nil_inv
     | cons e es=>
      obtain⟨x',r',z,b1,b2⟩:=k2.cons_inv;cases z;simp only [kDL,m9] at h1 h2;rw [ih d e x (by simp at hs;lia) h1.1 h2.1 a1 b1,ihd es r (by simp at hs;lia) h1.2 h2.2 a2 b2]
   rw [seq ds es xs (by simp at hn;lia) kd ke k2 k4]
theorem qij{d e:D}{x y:V}{u:Value}{K:Frag}(kd:kD d=true)(ke:kD e=true)(r1:Rep K F d x)(r2:Rep K F e y)(q1:RelV x u)(q2:RelV y u): x=y:=by
 cases d <;> simp only [kD] at kd <;> first|(cases kd;done)|skip
 all_goals (cases e <;> simp only [kD] at ke <;> first|(cases ke;done)|skip)
 ·cases rep_int.mp r1
  cases rep_int.mp r2;obtain⟨t,rfl⟩:=q1;obtain⟨t',z⟩:=q2;cases z
  rfl
 ·cases rep_int.mp r1
  obtain⟨_,_,rfl,_⟩:=rep_tup.mp r2;obtain⟨t,rfl⟩:=q1;cases q2
 ·obtain⟨_,_,rfl,_⟩:=rep_tup.mp r1
  cases rep_int.mp r2;cases q1;obtain⟨t',z⟩:=q2;cases z
 ·obtain⟨_,_,rfl,_⟩:=rep_tup.mp r1
  obtain⟨_,_,rfl,_⟩:=rep_tup.mp r2;cases q1;cases q2
  rfl
def q2a(K:Frag)(F:Hp)(d:D)(u:Value): Prop:=kD d=true/\∃x,Rep K F d x/\RelV x u
open Classical in
noncomputable def keyOf(K:Frag)(F:Hp)(u:Value): D:=if h:∃d,q2a K F d u then Classical.choose h else .non
theorem q3y(I:Inv X pins σ H s)(fh:Same F H){d:D}{u:Value}(h:q2a X.K F d u): keyOf X.K F u=d:=by
 unfold keyOf;rw [dif_pos ⟨d,h⟩];obtain⟨k1,x,a1,a2⟩:=Classical.choose_spec (⟨d,h⟩:∃d,q2a X.K F d u);obtain⟨k2,y,b1,b2⟩:=h;obtain rfl:=qij k1 k2 a1 b1 a2 b2;exact qla I fh k1 k2 a1 b1
theorem q9r{α β : Type}(f : α -> β){l:List β}{m:List β}(p:l.Perm m): ∀ {L:List α},m=L.map f->∃L':List α,L'.Perm L/\l=L'.map f:=by
 induction p with
 | nil=>intro L h;cases L with
  | nil=>exact⟨[],.refl _,rfl⟩
  | cons a L=>cases h
 | cons x p ih=>
  intro L h;cases L with
  | nil=>cases h
  | cons a L=>
   rw [gj] at h;injection h with h1 h2
   obtain⟨L',p',e⟩:=ih h2;exact⟨a :: L',p'.cons a,by rw [gj, <- e,h1]⟩
 | swap x y r=>
  intro L h
  match L,h with
  | [],h=>cases h
  | [a],h=>injection h with h1 h2;cases h2
  | a :: b :: L,h=>
   rw [gj,gj] at h;injection h with h1 h2
   injection h2 with h2 h3
   exact⟨b :: a :: L,.swap a b L,by rw [gj,gj, <- h1, <- h2, <- h3]⟩
 | trans p q ih1 ih2=>
  intro L h;obtain⟨L2,p2,e2⟩:=ih2 h;obtain⟨L1,p1,e1⟩:=ih1 e2;exact⟨L1,p1.trans p2,e1⟩
end
end DL
namespace DL
open PySem PySem.Spec PyProof.Rows L2 Srt PySem.W
variable[Lam]
def isI:D->Bool
 | .int _=>true
 | _=>false
def qn3:D->Bool
 | .tup (.int _ :: _)=>true
 | _=>false
def q11(ks:List D): Bool:=ks.all kD&&(ks.all fun d=>ks.all fun e=>shD d e)&&(ks.all isI || (ks.all qn3&&ks.all fun d=>decide (kc d<=50)))
section
variable{X:Cx}{pins:List (Addr×Obj)}{σ : St}{F H:Hp}{s:Shared}
theorem qik{prog:Program}{w:World}{A:Around}{f c:Bool}{Q:Bool->Shared->Prop}{l:List (Value×Value)}(h:LexAt A s f l c): ∀i,1<=i->Q c s->KatLex prog w A true f Q l i s:=by
 induction h with
 | nil=>intro i _ q;exact kat_nil q
 | eq e _ ih=>intro i hi q;exact kat_cons (e prog w _ _ (kat_yes (ih (i+1) (by lia) q)))
 | ne e k=>
  intro i hi q;refine kat_cons (e prog w _ _ (kat_no ?_));have:(true&&i==0)=false:=by simp;lia
  rw [this];exact kat_one _ _ (k prog w _ _ q)
theorem q83{h:Heap}: ∀ {vs:List Value},(∀v∈vs,∃a o xs n i t,v=.ref a/\h.get? a=some o/\o.cls=.type "tuple" /\ o.data=.seq xs n/\xs[0]? = some (Value.int i t)) ->
  ∃fs:List Value,KatTups h vs fs/\fs.length=vs.length/\∀v∈fs,∃i t,v=Value.int i t
 | [],_=>⟨[],.nil,rfl,fun v hv=>by cases hv⟩
 | v :: vs,hh=>by
  obtain⟨a,o,xs,n,i,t,rfl,h1,h2,h3,h4⟩:=hh v gq;obtain⟨fs,k1,k2,k3⟩:=q83 fun v hv=>hh v (gr _ hv);refine⟨.int i t :: fs,.cons h1 h2 h3 h4 k1,by simp [k2],fun v hv=>?_⟩;rcases mm.mp hv with rfl|hv
  ·exact⟨i,t,rfl⟩
  ·exact k3 v hv
theorem qn4(I:Inv X pins σ H s)(fh:Same F H)(A:Around)(hu:A.units+60<cLine){us:List Value}{ks:List D}(st:∀u∈us,∃d∈ks,q2a X.K F d u)(ok:q11 ks=true):
  ∃ κ,(2<=us.length->∀(E:Value->Shared->Prop) (Q:SortKind->Shared->Prop),Q κ s->wpAny (model X.prog X.w) A (keyKind' us.toArray) Q E s) /\
   Cmp X.prog X.w A s κ (fun u=>u∈us) (fun u v=>ltT (keyOf X.K F u) (keyOf X.K F v)):=by
 unfold q11 at ok;rw [m9,m9,g17,m9] at ok;obtain⟨⟨_,o2⟩,o3⟩:=ok;have sh:∀d∈ks,∀e∈ks,shD d e=true:=fun d hd e he=>mr.mp (mr.mp o2 d hd) e he;rcases o3 with o3|⟨o3,o4⟩
 ·have hin:∀u∈us,∃n t,u=Value.int n t/\keyOf X.K F u=.int n:=fun u hu=>by
   obtain⟨d,hd,hs⟩:=st u hu;have hk:=q3y I fh hs;have:=mr.mp o3 d hd;cases d <;> simp only [isI] at this <;> first|(cases this;done)|skip
   obtain⟨_,x,r,q⟩:=hs;cases rep_int.mp r;obtain⟨t,rfl⟩:=q;exact⟨_,t,rfl,hk⟩
  refine⟨oneType',fun h2 E Q q=>?_,⟨fun x y gx gy Q q=>?_,fun x y h=>qbw h,fun x y z h k=>qbx h k⟩⟩
  ·match us,h2,hin with
   | v₁ :: v₂ :: vs,_,hin=>
    rw [keyKind_ints (intsAre_map _ fun v hv=>let⟨n,t,e,_⟩:=hin v hv; ⟨n,t,e⟩)];exact g9 q
  ·obtain⟨n,t,rfl,e1⟩:=hin x gx
   obtain⟨m,t',rfl,e2⟩:=hin y gy;rw [e1,e2,xj] at q;exact kat_lt_int q
 ·have tups:∀u∈us,∃d∈ks,q2a X.K F d u/\keyOf X.K F u=d/\kc d<=50/\∃i ds,d=.tup (.int i :: ds):=fun u hu=>by
   obtain⟨d,hd,hs⟩:=st u hu;have hk:=q3y I fh hs;have:=mr.mp o3 d hd;have h4:=g0j (mr.mp o4 d hd);unfold qn3 at this
   split at this
   ·exact⟨_,hd,hs,hk,h4,_,_,rfl⟩
   ·cases this
  refine⟨tuples' true,fun h2 E Q q=>?_,⟨fun x y gx gy Q q=>?_,fun x y h=>qbw h,fun x y z h k=>qbx h k⟩⟩
  ·obtain⟨fs,k1,k2,k3⟩:=q83 (h:=s.heap) (vs:=us) fun v hv=>by
    obtain⟨d,_,⟨_,x,r,qx⟩,_,_,i,ds,rfl⟩:=tups v hv;obtain⟨a,xs,rfl,q1,q2⟩:=rep_tup.mp r;cases qx;obtain⟨x0,r0,rfl,z1,z2⟩:=q2.cons_inv;cases rep_int.mp z1;obtain⟨its,r1,⟨o,ho,hc,n,hd⟩,_⟩:=I.tuple (qk fh q1);cases r1 with
    | cons p1 p2=>
     obtain⟨t,rfl⟩:=p1;exact⟨a,o,_,n,i,t,rfl,ho,hc,hd,by simp⟩
   refine kat_kind (T:=.type "int") k1 (by lia) (fun v hv=>?_) (by rfl) q;obtain⟨i,t,rfl⟩:=k3 v hv;exact Looks.of_pure rfl
  ·obtain⟨d,hd,⟨_,x',r,qx⟩,e1,dp,i,ds,rfl⟩:=tups x gx
   obtain⟨e,he,⟨_,y',r',qy⟩,e2,dp',j,es,rfl⟩:=tups y gy;rw [e1,e2] at q;have hs:=sh _ hd _ he;obtain⟨a,xs,rfl,q1,q2⟩:=rep_tup.mp r;obtain⟨b,ys,rfl,q3,q4⟩:=rep_tup.mp r';cases qx;cases qy;obtain⟨x0,r0,rfl,z1,z2⟩:=q2.cons_inv;obtain⟨y0,w0,rfl,z3,z4⟩:=q4.cons_inv;have z1':=z1;have z3':=z3;cases rep_int.mp z1;cases rep_int.mp z3;obtain⟨its,r1,⟨o,ho,hc,n,hdt⟩,_⟩:=I.tuple (qk fh q1);obtain⟨its2,r2,⟨o2,ho2,hc2,n2,hdt2⟩,_⟩:=I.tuple (qk fh q3);have l1:=r1.length;have l2:=r2.length;have m1:=q2.length;have m2:=q4.length;cases r1 with
   | cons p1 p2=>
    cases r2 with
    | cons p3 p4=>
     have hp1:=p1;have hp3:=p3;obtain⟨t,rfl⟩:=p1;obtain⟨t',rfl⟩:=p3;simp only [shD,shL,m9] at hs;simp only [kc,yl] at dp;refine kat_lt ho hdt ho2 hdt2 ?_;rw [w9,q0a] at q;have hE:=qbo I fh A (d:=.int i) (e:=.int j) (by simp [okE,flat,flD]) (by simp only [kc];lia) z1' z3' hp1 hp3;rw [qn2 (by simp only [shD])] at hE;simp only [List.zip_cons_cons];have lex:=q91 I fh (A:=A) (decide (ds.length<es.length)) (fun d _ e x y u v s1 s2 s3 s4 s5 s6=>qre I fh A s1 s2 s3 s4 s5 s6) hs.2 (by lia) z2 z4 p2 p4 rfl;have ef:∀ {m1 m2:List Value},Paired RelV r0 m1->Paired RelV w0 m2->decide ((Value.int i t :: m1).toArray.size<(Value.int j t' :: m2).toArray.size)=decide (ds.length<es.length):=fun a3 a4=>by
      simp only [gv,p8];rw [<- g58 a3, <- g58 a4, <- z2.length, <- z4.length];simp
     rw [ef p2 p4];cases c1:ltT (.int i) (.int j)
     ·cases c2:ltT (.int j) (.int i)
      ·rw [c1,c2] at hE q
       simp only [g6q,g2j,g5e] at q;exact kat_cons (hE X.prog X.w _ _ (kat_yes (qik lex 1 (gw _) q)))
      ·rw [c1,c2] at hE q
       refine kat_cons (hE X.prog X.w _ _ (kat_no ?_));have c1':decide (i<j)=false:=by rw [<- xj];exact c1
       refine oneLt_int ?_;rw [c1'];exact q
     ·rw [c1] at hE q
      refine kat_cons (hE X.prog X.w _ _ (kat_no ?_));have c1':decide (i<j)=true:=by rw [<- xj];exact c1
      refine oneLt_int ?_;rw [c1'];exact q
theorem qlb{K:Frag}: ∀ {ds:List D} {ys:List V} {its:List Value},RepL K F ds ys->Vals ys its->∃T:List (V×Value×D),T.map (·.1)=ys/\T.map (·.2.1)=its/\T.map (·.2.2)=ds/\∀t∈T,Rep K F t.2.2 t.1/\RelV t.1 t.2.1
 | [],ys,its,k2,r1=>by
  cases k2.nil_inv;cases r1;exact⟨[],rfl,rfl,rfl,fun t ht=>by cases ht⟩
 | d :: ds,ys,its,k2,r1=>by
  obtain⟨x,r,rfl,a1,a2⟩:=k2.cons_inv;cases r1 with
  | cons b1 b2=>
   rename_i u' us';obtain⟨T,t1,t2,t3,t4⟩:=qlb a2 b2;refine⟨(x,u',d) :: T,by simp [t1],by simp [t2],by simp [t3],fun t ht=>?_⟩;rcases mm.mp ht with rfl|ht
   ·exact⟨a1,b1⟩
   ·exact t4 t ht
end
section
variable{X:Cx}{pins:List (Addr×Obj)}{σ : St}{F H:Hp}{s:Shared}
structure Late(X:Cx)(pins:List (Addr×Obj))(b:Addr): Prop where
 loc:b≠X.env.locals
 up:X.s₀.heap.objs.size<=b
 cel:∀x c,X.env.cells.lookup x=some c->c≠b
 pin:∀p∈X.pn++pins,p.1≠b
 frs:b∉frs X.stack
theorem qrf(I:Inv X pins σ H s){b:Addr}(hb:s.heap.objs.size<=b): Late X pins b where
 loc:=tu (gu I.lt hb)
 up:=my I.sz hb
 cel:=fun x c e z=>by
  subst z;obtain⟨v,o,ho,_⟩:=I.cell x c e;exact absurd (gz ho) (g5n.mpr hb)
 pin:=fun p hp z=>by
  subst z;exact absurd (gz (I.pin p hp).1) (g5n.mpr hb)
 frs:=fun z=>(mm.mp (I.stkSub b z)).elim (tu (gu I.lt hb)) (I.nofs hb)
theorem qc4(I:Inv X pins σ H s){b:Addr}(l:Late X pins b){h':Heap}(k:∀c o,c≠b->s.heap.get? c=some o->h'.get? c=some o)(hn:H b=none): Inv X pins σ H {s with heap:=h'}:=
 I.turned (t':=s.toks) k hn l.loc (.inr l.up) l.cel l.pin
theorem qil(I:Inv X pins σ H s){b:Addr}(l:Late X pins b){h':Heap}{o:HO}(k:∀c o,c≠b->s.heap.get? c=some o->h'.get? c=some o)(hn:H b=none)(new:ObjOk X.prog X.w (upd H b o) h' b o):
  Inv X pins σ (upd H b o) {s with heap:=h'}:=by
 have nb:∀c u,H c=some u->c≠b:=fun c u e z=>by rw [z,hn] at e;cases e
 refine I.step (t':=s.toks) (g':=s.gens) (d':=s.drawn) (ch:=[b]) (fun c hc=>?_) (fun c u _ _ hc e _=>k c u (fun z=>hc (by simp [z])) e) (fun c u _ _ hc e _=>⟨u.slots,k c u (fun z=>hc (by simp [z])) e⟩)
  (fun c u hc _ n=>by rw [ql (fun z=>hc (by simp [z]))];exact n) (fun c u hc e=>⟨u,k c u (fun z=>hc (by simp [z])) e⟩) (fun c xs e=>by rw [ql (nb c _ e)];exact e) (fun c _ _ e=>by rw [ql (nb c _ e)];exact e)
  (fun c ps e=>⟨#[],by rw [ql (nb c _ e),e];simp⟩) (fun m hm=>?_) (fun c u e=>?_) I.bare
 ·have e:c=b:=by simpa using hc
  subst e;exact⟨.inr l.up,l.loc,l.cel,l.pin⟩
 ·obtain⟨u,es,ep,ho,r⟩:=hm
  exact⟨u,es,ep,k _ u (nj l.loc) ho,r⟩
 ·by_cases hc:c=b
  ·subst hc;rw [qr] at e;cases e;exact new
  ·rw [ql hc] at e
   refine(I.hok c u e).stay (fun d v hd q=>k d v ?_ q) (fun d q=>by rw [ql (nb d _ q)];exact q) fun d xs q=>by rw [ql (nb d _ q)];exact q
   rcases hd with z|z
   ·rw [z];exact hc
   ·exact nb d _ z
def k5(op:List D->Option D): List D->Option (List D)
 | []=>some []
 | d :: ds=>(op [d]).bind fun k=>(k5 op ds).map fun ks=>k :: ks
def q56:List D->Bool
 | []=>true
 | k :: r=>(r.all fun e=>ltT k e || ltT e k)&&q56 r
def q2b(op:List D->Option D): D->Option (List D)
 | .lst ds=>(k5 op ds).bind fun ks=>if q11 ks&&q56 ks then some ((w8 (ks.zip ds)).map Prod.snd) else none
 | _=>none
theorem q84{op:List D->Option D}: ∀ {l:List D} {d k:D} {ks:List D},k5 op l=some ks->op [d]=some k->k5 op (l++[d])=some (ks++[k])
 | [],d,k,ks,h,e=>by
  cases h;simp [k5,e]
 | x :: l,d,k,ks,h,e=>by
  simp only [k5] at h;obtain⟨k1,h1,h2⟩:=gc.mp h;obtain⟨ks1,h3,h4⟩:=m8.mp h2;subst h4;simp only [g4a,k5,h1,ma,q84 h3 e,pb]
theorem q9s{op:List D->Option D}: ∀ {l ks:List D},k5 op l=some ks->ks.length=l.length
 | [],ks,h=>by cases h;rfl
 | x :: l,ks,h=>by
  simp only [k5] at h;obtain⟨k1,h1,h2⟩:=gc.mp h;obtain⟨ks1,h3,h4⟩:=m8.mp h2;subst h4;simp [q9s h3]
theorem q9t{op:List D->Option D}: ∀ {l ks:List D} {d:D},k5 op l=some ks->d∈l->∃k,op [d]=some k
 | x :: l,ks,d,h,hd=>by
  simp only [k5] at h;obtain⟨k1,h1,h2⟩:=gc.mp h;obtain⟨ks1,h3,h4⟩:=m8.mp h2;rcases mm.mp hd with rfl|hd
  ·exact⟨k1,h1⟩
  ·exact q9t h3 hd
theorem qfa:∀ {ks:List D},q56 ks=true->∀ {i j:Nat} (hi:i<ks.length) (hj:j<ks.length),ltT ks[i] ks[j]=false->ltT ks[j] ks[i]=false->i=j
 | k :: r,h,0,0,_,_,_,_=>rfl
 | k :: r,h,0,j+1,hi,hj,a,b=>by
  simp only [q56,m9] at h;have:=mr.mp h.1 (r[j]'(by simpa using hj)) (by simp);simp only [g6e,g2e] at a b;rw [a,b] at this;cases this
 | k :: r,h,i+1,0,hi,hj,a,b=>by
  simp only [q56,m9] at h;have:=mr.mp h.1 (r[i]'(by simpa using hi)) (by simp);simp only [g6e,g2e] at a b;rw [a,b] at this;cases this
 | k :: r,h,i+1,j+1,hi,hj,a,b=>by
  simp only [q56,m9] at h;simp only [g2e] at a b;rw [qfa h.2 (by simpa using hi) (by simpa using hj) a b]
theorem qc5{α β γ δ : Type}: ∀ {a:List α} {b:List β} {c:List γ} {d:List δ},a.length=b.length->b.length=c.length->c.length=d.length ->
  ∃T:List (α × β × γ × δ),T.map (·.1)=a/\T.map (·.2.1)=b/\T.map (·.2.2.1)=c/\T.map (·.2.2.2)=d
 | [],[],[],[],_,_,_=>⟨[],rfl,rfl,rfl,rfl⟩
 | x :: a,y :: b,z :: c,w :: d,h1,h2,h3=>by
  obtain⟨T,t1,t2,t3,t4⟩:=qc5 (a:=a) (b:=b) (c:=c) (d:=d) (by simpa using h1) (by simpa using h2) (by simpa using h3);exact⟨(x,y,z,w) :: T,by simp [t1],by simp [t2],by simp [t3],by simp [t4]⟩
theorem qc6{h:Heap}{a:Addr}{ks:List Value}{e:Nat}(ho:h.get? a=some (seqObj "list" ks.toArray e))(k:Value): ∃e',(h.update a (Obj.mapSeq (·.push k))).get? a=some (seqObj "list" (ks++[k]).toArray e'):=by
 have:=g19 ho (·.push k);have e2:(ks.toArray.push k)=(ks++[k]).toArray:=by simp
 rw [e2] at this;exact⟨_,this⟩
theorem qim{k k':Nat}{fn l:Addr}{fd:FuncData}{ps:List Str}{sp:Sp}{op:List D->Option D}{ds es:List D}{Q:VK}(Fk:FnOk X.prog X.w X.K X.mg X.base CX0 k fn fd ps sp)
  (hsp:∀(F' H':Hp) (dv kd:D) (x:V) (Q':VK),Grow F H F' H'->Rep X.K F' dv x->op [dv]=some kd->(∀v F'' H'',Grow F' H' F'' H''->Rep X.K F'' kd v->Q' v H'')->sp [x] H' Q' E0) (hb:Binds X.K fd ps []) (hr:Room k' X.A) (hk:k+2<=k')
  (I:Inv X pins σ H s) (fh:Same F H) (rl:Rep X.K F (.lst ds) (.ref l)) (ho:q2b op (.lst ds)=some es)
  (q:∀a ys F' H',Grow F H F' H'->F' a=none->H a=none->H' a=some (.lst ys)->RepL X.K F' es ys->Q (.ref a) H') :
  wpAny (model X.prog X.w) X.A (call (.builtin "sorted") [.ref l] [(Str.ofString "key",.ref fn)]) (EP X pins σ Q) X.xe s:=by
 unfold q2b at ho;dsimp only at ho;obtain⟨dks,hks,ho⟩:=gc.mp ho
 split at ho
 ·rename_i hok
  rw [m9] at hok;cases ho;obtain⟨a,ys,z,k1,k2⟩:=rep_lst.mp rl;cases z;obtain⟨its,r1,p1,hz⟩:=I.list (fh.seq k1);have hlen:its.length<=sizeLine:=by rw [<- r1.length];exact hz
  have hlds:ds.length=its.length:=by rw [k2.length,r1.length]
  have hlks:=q9s hks;have L1:Late X pins (s.heap.objs.size+1):=qrf I (g1i _);have L3:Late X pins (s.heap.objs.size+3):=qrf I (g22 _ _);have rm:Room k X.A.in1.in1:=((hr.mono hk).in1).in1;have hu:X.A.in1.in1.units+60<cLine:=by have:=rm.units;lia
  have z1:((s.heap.push (seqObj "list" #[] 0)).update s.heap.objs.size (Obj.mapSeq (· ++ its.toArray))).objs.size=s.heap.objs.size+1:=by rw [tf,g0f]
  have keep:∀b o,s.heap.get? b=some o->(jt (srtH s.heap its) (s.heap.objs.size+1) its).get? b=some o:=fun b o qb=>by
   have hlt:b<s.heap.objs.size:=gz qb;unfold jt srtH;have ne:∀k,b≠s.heap.objs.size+k:=fun k=>m5 (gu hlt (g22 _ _));rw [ue _ _ _ (by rw [g0f,tf,g0f,z1];exact ne 3),ue _ _ _ (by rw [tf,g0f,z1];exact ne 2),g08 _ _ _ _ (ne 1),
    ue _ _ _ (by rw [z1];exact ne 1),g08 _ _ _ _ (show b≠s.heap.objs.size from ne 0),ue _ _ _ (show b≠s.heap.objs.size from ne 0)]
   exact qb
  have I6:Inv X pins σ H {s with heap:=jt (srtH s.heap its) (s.heap.objs.size+1) its}:=I.kept (t':=s.toks) keep;have hoL:(srtH s.heap its).get? (s.heap.objs.size+1)=some (seqObj "list" its.toArray 0):=by
   unfold srtH;rw [<- z1];exact gf _ rfl
  have zs:(srtH s.heap its).objs.size=s.heap.objs.size+2:=by unfold srtH;rw [g0f,z1]
  obtain⟨e1,ho1⟩:∃e1,((srtH s.heap its).update (s.heap.objs.size+1) (Obj.mapSeq fun _=>(#[]:Array Value))).get? (s.heap.objs.size+1)=some (seqObj "list" #[] e1):=⟨_,g19 hoL fun _=> #[]⟩
  have hoA:(jt (srtH s.heap its) (s.heap.objs.size+1) its).get? (s.heap.objs.size+1)=some (seqObj "list" #[] e1):=by
   unfold jt;rw [ue _ _ _ (by rw [g0f,tf,zs];exact m5 (by lia)),ue _ _ _ (by rw [tf,zs];exact m5 (by lia))];exact ho1
  have hoK:(jt (srtH s.heap its) (s.heap.objs.size+1) its).get? (s.heap.objs.size+3)=some (seqObj "list" ([]:List Value).toArray 0):=by
   unfold jt;have:s.heap.objs.size+3=(((srtH s.heap its).update (s.heap.objs.size+1) (Obj.mapSeq fun _=>(#[]:Array Value))).push (seqObj "tuple" its.toArray 0)).objs.size:=by rw [g0f,tf,zs]
   rw [this];exact gf _ rfl
  have hn1:H (s.heap.objs.size+1)=none:=I.hok.fresh (g1i _);have hn3:H (s.heap.objs.size+3)=none:=I.hok.fresh (g22 _ _);refine qdm p1.isList hlen (fun ks s'=>∃F' H' xks kds e,Inv X pins σ H' s'/\Grow F H F' H'/\RepL X.K F' kds xks/\Vals xks ks/\k5 op (ds.take ks.length)=some kds /\
   s'.heap.get? (s.heap.objs.size+3)=some (seqObj "list" ks.toArray e)/\H' (s.heap.objs.size+3)=none/\s'.heap.get? (s.heap.objs.size+1)=some (seqObj "list" #[] e1)/\H' (s.heap.objs.size+1)=none)
   ⟨F,H,[],[],0,I6,.refl fh,.nil,.nil,rfl,hoK,hn3,hoA,hn1⟩ ?_ ?_
  ·rintro l0 v r0 hv ks s' hl ⟨F',H',xks,kds,e,I',g',rk,vk,hkd,hK,nK,hA,nA⟩
   -- the next item
   have hi:ks.length<ds.length:=by rw [hlds,hv,hl];simp
   have hvi:its[ks.length]? = some v:=by rw [hv,hl];simp
   obtain⟨dv,hdv⟩:∃dv,ds[ks.length]? = some dv:=⟨_,g21 ds _ hi⟩
   obtain⟨x,hx,rx⟩:=k2.get hdv;obtain⟨u,hu',ru⟩:=r1.get hx;rw [hvi] at hu';obtain rfl:v=u:=mf hu';obtain⟨kd,hkd'⟩:=q9t hks (tw hdv);have hbs:BindsTo s' fd ⟨[v],[]⟩ (ps.zip ([v]++[])):=hb s' [v] I'.kIn (by
    have:=Fk.len [x] H' (fun v H''=>∃F'',Grow F' H' F'' H''/\Rep X.K F'' kd v) E0 (hsp F' H' dv kd x _ g' (rx.mono g'.ff) hkd' fun v F'' H'' g'' r''=>⟨F'',g'',r''⟩)
    simpa using this)
   refine g3f (g33 (Fk.run X.A.in1.in1 X.stack s' H' ⟨[v],[]⟩ [v] [x] (fun v H''=>∃F'',Grow F' H' F'' H''/\Rep X.K F'' kd v) E0 rm ⟨I'.ok.frames,I'.ok.mod,I'.bs,my I'.ok.bsz I'.sz,I'.stack,I'.stkFree,I'.hok,I'.bare⟩ hbs (.cons ru .nil)
    (hsp F' H' dv kd x _ g' (rx.mono g'.ff) hkd' fun v F'' H'' g'' r''=>⟨F'',g'',r''⟩)) fun r s'' hq=>?_)
   cases r with
   | error er=>exact hq.elim
   | ok fl=>
    cases fl with
    | next=>exact False.elim hq
    | brk=>exact False.elim hq
    | cont=>exact False.elim hq
    | ret kv=>
     obtain⟨vv,H'',os,bare,un,hok',rv,F'',g'',rr⟩:=(show CE X.stack X.prog X.w H' s' _ kv s'' from hq)
     have hK2:=un.keep _ _ hK nK L3.frs (by simp);have hA2:=un.keep _ _ hA nA L1.frs (by simp);have nK2:=un.free _ _ hK nK (by simp);have nA2:=un.free _ _ hA nA (by simp);obtain⟨hh,gg,dd,tt,oo⟩:=s'';obtain rfl:oo=s'.os:=os;have I2:=I'.call (h':=hh) (g':=gg) (d':=dd) (t':=tt) (ch:=[]) un hok' bare (fun b z=>absurd z (by simp));obtain⟨e',hK3⟩:=qc6 hK2 kv;have I3:=qc4 I2 L3 (h':=hh.update (s.heap.objs.size+3) (Obj.mapSeq (·.push kv))) (fun c o hc e=>by rw [g08 _ _ _ _ hc];exact e) nK2;refine⟨⟨e,hK2⟩,F'',H'',xks++[vv],kds++[kd],e',I3,g'.trans g'',(rk.mono g''.ff).append (.cons rr .nil),vk.append (.cons rv .nil),?_,hK3,nK2,?_,nA2⟩
     ·rw [t5,g4e,td hi]
      refine q84 hkd ?_;have:ds[ks.length]=dv:=by rw [g21 ds _ hi] at hdv;exact mf hdv
      rw [this];exact hkd'
     ·show(hh.update _ _).get? _=_
      rw [g08 _ _ _ _ (m5 (by lia))];exact hA2
  ·rintro ks s' hl ⟨F',H',xks,kds,e,I',g',rk,vk,hkd,hK,nK,hA,nA⟩
   rw [hl, <- hlds,g5w,hks] at hkd;obtain rfl:dks=kds:=mf hkd;refine⟨⟨e,hK⟩,by rw [hA,hoA],?_⟩;have hkl:ks.length=dks.length:=by rw [<- vk.length,rk.length]
   obtain⟨T,t1,t2,t3,t4⟩:=qlb rk vk;have kdk:∀d∈dks,kD d=true:=by
    have:=hok.1;unfold q11 at this;rw [m9,m9] at this;exact mr.mp this.1.1
   have st:∀u∈ks,∃d∈dks,q2a X.K F' d u:=fun u hu=>by
    rw [<- t2] at hu;obtain⟨t,ht,rfl⟩:=ng.mp hu;have hm:t.2.2∈dks:=by rw [<- t3];exact g1g ht
    exact⟨t.2.2,hm,kdk _ hm,t.1,t4 t ht⟩
   obtain⟨κ,hkind,C⟩:=qn4 I' g'.fh X.A.in1.in1 hu st hok.1;refine⟨κ,_,_,fun h2=>hkind (by lia),fun _=>C,fun _ h=>h,fun Tz tp ts=>?_⟩
   -- all five rows together
   obtain⟨T,w1,w2,w3,w4⟩:=qc5 (a:=xks.zip ks) (b:=dks) (c:=its) (d:=ys.zip ds) (by rw [g2z,rk.length,vk.length];simp) (by rw [hlks,hlds]) (by rw [g2z,r1.length,hlds];simp);have uT:ks.zip its=T.map fun t=>(t.1.2,t.2.2.1):=by
    rw [<- w3, <- g61 (l₁:=xks) (l₂:=ks) (by rw [vk.length];exact gw _), <- w1];simp [g6r,nv,g5j]
   obtain⟨T',pT,eT⟩:=q9r (fun t:(V×Value)×D×Value×V×D=>(t.1.2,t.2.2.1)) tp uT;have rel:∀t∈T,Rep X.K F' t.2.1 t.1.1/\RelV t.1.1 t.1.2/\Rep X.K F' t.2.2.2.2 t.2.2.2.1/\RelV t.2.2.2.1 t.2.2.1/\t.2.1∈dks:=by
    intro t ht;obtain⟨i,hi,rfl⟩:=uo.mp ht;have e1':(xks.zip ks)[i]? = some T[i].1:=by rw [<- w1];simp [hi]
    have e2':dks[i]? = some T[i].2.1:=by rw [<- w2];simp [hi]
    have e3':its[i]? = some T[i].2.2.1:=by rw [<- w3];simp [hi]
    have e4':(ys.zip ds)[i]? = some T[i].2.2.2:=by rw [<- w4];simp [hi]
    rw [List.getElem?_zip_eq_some] at e1' e4';obtain⟨x,hx,rx⟩:=rk.get e2';rw [e1'.1] at hx;obtain rfl:=mf hx;obtain⟨u,hu2,ru⟩:=vk.get e1'.1;rw [e1'.2] at hu2;obtain rfl:=mf hu2;obtain⟨y,hy,ry⟩:=k2.get e4'.2;rw [e4'.1] at hy;obtain rfl:=mf hy;obtain⟨w,hw,rw'⟩:=r1.get e4'.1;rw [e3'] at hw;obtain rfl:=mf hw;exact⟨rx,ru,ry.mono g'.ff,rw',tw e2'⟩
   have rel':∀t∈T',_:=fun t ht=>rel t (pT.mem_iff.mp ht);have hkey:∀t∈T',keyOf X.K F' t.1.2=t.2.1:=fun t ht=>q3y I' g'.fh ⟨kdk _ (rel' t ht).2.2.2.2,_,(rel' t ht).1,(rel' t ht).2.1⟩;have eD:T'.map (fun t=>t.2.2.2.2)=(w8 (dks.zip ds)).map Prod.snd:=by
    have ez:dks.zip ds=T.map fun t=>(t.2.1,t.2.2.2.2):=by
     rw [<- w2, <- g61 (l₁:=ys) (l₂:=ds) (by rw [<- k2.length];exact gw _), <- w4];simp [g6r,nv,g5j]
    have e1:T'.map (fun t=>(t.2.1,t.2.2.2.2))=w8 (dks.zip ds):=by
     refine q6v ?_ ?_ ?_
     ·rw [ez];exact pT.map _
     ·rw [g0b]
      rw [eT,g0b] at ts;refine g23 (fun {x y} hx hy h=>?_) ts;have h':ltT (keyOf X.K F' y.1.2) (keyOf X.K F' x.1.2)=false:=h;rw [hkey x hx,hkey y hy] at h';exact h'
     ·intro x hx y hy h1 h2
      obtain⟨i,hi,rfl⟩:=uo.mp hx;obtain⟨j,hj,rfl⟩:=uo.mp hy;rw [g2z] at hi hj;simp only [List.getElem_zip] at h1 h2 ⊢;have:i=j:=qfa hok.2 (by lia) (by lia) h1 h2;subst this;rfl
    rw [<- e1,nv]
    rfl
   have hout:Tz.map (·.2)=T'.map fun t=>t.2.2.1:=by rw [eT,nv];rfl
   have vo:Vals (T'.map fun t=>t.2.2.2.1) (Tz.map (·.2)):=by
    rw [hout];clear eT eD pT hkey hout
    induction T' with
    | nil=>exact .nil
    | cons t T' ih=>exact .cons (rel' t gq).2.2.2.1 (ih fun t ht=>rel' t (gr _ ht))
   have ro:RepL X.K F' (T'.map fun t=>t.2.2.2.2) (T'.map fun t=>t.2.2.2.1):=by
    clear eT eD pT hkey hout vo
    induction T' with
    | nil=>exact .nil
    | cons t T' ih=>exact .cons (rel' t gq).2.2.1 (ih fun t ht=>rel' t (gr _ ht))
   have ll:(T'.map fun t=>t.2.2.2.1).length<=sizeLine:=by
    rw [mn,pT.length_eq];have:=g0d List.length w3;rw [mn] at this;rw [this];exact hlen
   have I8:=qc4 I' L3 (h':=s'.heap.update (s.heap.objs.size+3) (Obj.mapSeq fun _=> #[])) (fun c o hc e=>by rw [g08 _ _ _ _ hc];exact e) nK;have hA8:(s'.heap.update (s.heap.objs.size+3) (Obj.mapSeq fun _=> #[])).get? (s.heap.objs.size+1)=some (seqObj "list" #[] e1):=by
    rw [g08 _ _ _ _ (m5 (by lia))];exact hA
   obtain⟨e9,hA9⟩:∃e9,((s'.heap.update (s.heap.objs.size+3) (Obj.mapSeq fun _=> #[])).update (s.heap.objs.size+1) (Obj.mapSeq fun _=>(Tz.map (·.2)).toArray)).get? (s.heap.objs.size+1)=some (seqObj "list" (Tz.map (·.2)).toArray e9):=⟨_,g19 hA8 fun _=>(Tz.map (·.2)).toArray⟩
   have I9:=qil I8 L1 (o:=.lst (T'.map fun t=>t.2.2.2.1)) (h':=(s'.heap.update (s.heap.objs.size+3) (Obj.mapSeq fun _=> #[])).update (s.heap.objs.size+1) (Obj.mapSeq fun _=>(Tz.map (·.2)).toArray))
    (fun c o hc e=>by rw [g08 _ _ _ _ hc];exact e) nA ⟨ll,_,e9,vo,hA9⟩
   refine⟨.ref (s.heap.objs.size+1),_,I9,rfl,?_⟩;have gg:Grow F' H' F' (upd H' (s.heap.objs.size+1) (.lst (T'.map fun t=>t.2.2.2.1))):=Grow.own g'.fh nA;exact q _ _ F' _ (g'.trans gg) (g'.fh.free nA) hn1 qr (by rw [<- eD];exact ro)
 ·cases ho
def q61(op:List D->Option D): List D->Option (List D)
 | [d]=>q2b op d
 | _=>none
end
end DL
namespace Srt
end Srt
namespace DL
open PySem PySem.Spec PyProof.Rows L2 Srt PySem.W
variable[Lam]
structure ClsOk(K:Frag)(x:Str)(C:Addr): Prop where
 ns:PySem.W.nsIn K mainGlobals x=some (some (.ref C))
 makes:PySem.W.makesIn K C=true
 init:PySem.W.findIn K (.ref C) "__init__" = some (some (.builtin "object.__init__"))
 kp:PySem.W.keepIn K (.ref C)=true
 cls:Cls K C
 n:qkh K C
structure CalM(P:Program)(w:World)(K:Frag)(mg:Str->Option Value)(base:Heap)(x m:Str)(C:Addr)(k:Nat)(ps:List Str)(ar:Nat)(op:List D->Option D)(fn:Addr)(fd:FuncData): Prop where
 ok:FnOk P w K mg base CX0 k fn fd ps (spD K ar op)
 me:Meth K C m fn
theorem qin{K:Frag}{C:Addr}{T:String}(hm:PySem.W.kitMeta T=true)(h:PySem.W.subIn K (.ref C) (.type T)=some false): PySem.W.kitOne K (.ref C) (.type T)=some false:=by
 unfold PySem.W.kitOne PySem.W.kitCls;rw [mi (fun z=>by have:=eq_of_beq z;cases this)];dsimp only;rw [md hm];exact h
theorem qom{K:Frag}{C:Addr}(h1:PySem.W.subIn K (.ref C) (.type "int")=some false)(h2:PySem.W.subIn K (.ref C) (.type "bool")=some false)(h3:PySem.W.subIn K (.ref C) (.type "tuple")=some false)
  (h4:PySem.W.subIn K (.ref C) (.type "list")=some false) (h5:PySem.W.subIn K (.ref C) (.type "str")=some false) (h6:PySem.W.subIn K (.ref C) (.type "dict")=some false) :
  ∀T:String,T∈["int","bool","tuple","list","str","dict"]->PySem.W.kitOne K (.ref C) (.type T)=some false:=by
 intro T hT;simp only [mm,g0h,g2d] at hT;rcases hT with rfl|rfl|rfl|rfl|rfl|rfl <;> exact qin (by decide +kernel) (by assumption)
section
variable{X:Cx}{pins:List (Addr×Obj)}{σ : St}{F H:Hp}{s:Shared}
theorem qio{C:Addr}{Q:VK}(makes:PySem.W.makesIn X.K C=true)(init:PySem.W.findIn X.K (.ref C) "__init__" = some (some (.builtin "object.__init__")))(I:Inv X pins σ H s)
  (h:Q (.ref (s.heap.objs.size+1)) (upd (upd H s.heap.objs.size (.own (s.heap.objs.size+1))) (s.heap.objs.size+1) (.ins C s.heap.objs.size []))):wpAny (model X.prog X.w) X.A (call (.ref C) []) (EP X pins σ Q) X.xe s:=by
 have I2:=Inv.made (C:=C) I;have kin:=I.kIn;obtain⟨hh,g,d,t,os⟩:=s;have Y:=makes_of (M:=model X.prog X.w) kin makes;refine g3f (make_core Y (looks_findIn kin init) (fun self=>Looks.of_pure (oi_bind self)) (.inr ⟨rfl,rfl⟩) ?_);have hx:((hh.push emptyDict).push (instObj C hh.objs.size)).get? (hh.objs.size+1)=some (instObj C hh.objs.size):=by
  have:hh.objs.size+1=(hh.push emptyDict).objs.size:=(g0f _ _).symm;rw [this];exact gf _ rfl
 have t1:Looks (model X.prog X.w) ((hh.push emptyDict).push (instObj C hh.objs.size)) (typeOf (.ref (hh.objs.size+1))) (.ref C):=(Looks.ld hx).andThen .now;have t2:Looks (model X.prog X.w) ((hh.push emptyDict).push (instObj C hh.objs.size)) (isInstance (.ref (hh.objs.size+1)) (.type "object")) true:=t1.andThen (Y.top.keeps fun b o e=>gd _ (gd _ e));refine g1w oi_plain entry_oi (@check_slot (model X.prog X.w) _ _ _ "object.__init__" "object" "__init__" (.ref (hh.objs.size+1)) [] [] _ oi_kind oi_split t2 (oi_args (.ref (hh.objs.size+1))) ?_);rw [oi_run];exact g9 (And.intro rfl ⟨V.ref (hh.objs.size+1),_,I2,rfl,h⟩)
theorem qrg{x:Str}{C:Addr}{p pos:Pos}(O:ClsOk X.K x C)(hm:X.mg x=some (.ref C))(hg:Gl X x)(hdb:(x==("__debug__" : Str))=false:=by decide): PE X (.Call (.Name x p) [] [] pos) (tD X.K (eC (.obj x))):=by
 intro pins s σ H Q I h;obtain⟨F0,H0,F, ρ,d,r,hf,q⟩:=h;cases hf;refine g1l (qeg I hg hm ?_ hdb);refine PySem.W.callWith_K0 I.kIn O.kp (qio O.makes O.init I ?_);have n0:H s.heap.objs.size=none:=I.hok.fresh (gw _);have n1:H (s.heap.objs.size+1)=none:=I.hok.fresh (g1i _);have fh:=r.fh;have g1:Grow F H F (upd H s.heap.objs.size (.own (s.heap.objs.size+1))):=Grow.own fh n0;have n1':upd H s.heap.objs.size (.own (s.heap.objs.size+1)) (s.heap.objs.size+1)=none:=by rw [ql (tu (uk _))];exact n1
 have g2:=Grow.new (o:=.ins C s.heap.objs.size []) g1.fh n1';exact q _ _ _ (g1.trans g2) (rep_obj.mpr ⟨s.heap.objs.size+1,s.heap.objs.size,C,rfl,qr,O.ns,O.n⟩)
def isO(x:Str): D->Bool
 | .obj y=>x==y
 | _=>false
def qc7(x:Str)(ar:Nat)(op:List D->Option D)(g:FE)(fa:FA): FE:=fun ρ =>(g ρ).bind fun d=>(fa ρ).bind fun ds=>if isO x d then qq ar [] op (d :: ds) else none
theorem qip{x m:Str}{C:Addr}{o e:Expr}{es:List Expr}{apos pos:Pos}{k k' ar:Nat}{fn:Addr}{fd:FuncData}{ps:List Str}{op:List D->Option D}{g:FE}{fa:FA}{pl:Sem Bool}(O:ClsOk X.K x C)
  (M:CalM X.prog X.w X.K X.mg X.base x m C k ps ar op fn fd) (b:Binds X.K fd ps []) (hr:Room k' X.A) (hk:k<=k') (ho:PE X o (tD X.K g)) (ha:PA X (e :: es) (tDA X.K fa))
  (hst:starEach (e :: es) X.env=(false,eval e X.env) :: starEach es X.env:=by rfl) (hpl:(backTo pos (starEach es X.env)).any (·.1)=false:=by rfl)
  (ht:eval (.Call (.Attribute o m apos) (e :: es) [] pos) X.env=(do
   let ov <- eval o X.env
   standAt apos.atName
   let(f,first) <- holding [ov] (getMethod ov m pl)
   callWith pos f first (backTo pos (starEach (e :: es) X.env)) (backToKw pos (keywordEach [] X.env))):=by rfl) :
  PE X (.Call (.Attribute o m apos) (e :: es) [] pos) (tD X.K (qc7 x ar op g fa)):=
 j6 (qnm (pl:=pl) ho O.cls M.me M.ok (hr.mono hk) b .nil qmw ha hst hpl ht) fun σ H Q ⟨F0,H0,F, ρ,d,r,hf,q⟩=>by
  obtain⟨d1,h1,hf⟩:=gc.mp hf;obtain⟨ds,h2,hf⟩:=gc.mp hf
  split at hf
  ·rename_i hi
   obtain rfl:d1=.obj x:=by
    cases d1 <;> simp only [isO] at hi <;> first|(cases hi;done)|skip
    rw [(by simpa using hi:x=_)]
   refine⟨F0,H0,F, ρ,.obj x,r,h1,fun v F1 H1 g1 r1=>?_⟩;obtain⟨a,dx,C',rfl,e1,e2,e3⟩:=rep_obj.mp r1;have hC:C'=C:=by
    have:=e2.symm.trans O.ns;cases this;rfl
   subst hC;refine⟨a,dx,[],rfl,g1.fh _ _ e1,rfl,F0,H0,F1, ρ,ds,r.grow g1,h2,fun vs F2 H2 g2 r2=>?_⟩;unfold qq at hf
   split at hf
   ·rename_i hl
    refine⟨F2,(.obj x :: ds)++[],d,r.sameT (g1.trans g2),(RepL.cons (r1.mono g2.ff) r2).append .nil,hl,hf,fun v F3 H3 g3 r3=>q v F3 H3 (g1.trans (g2.trans g3)) r3⟩
   ·cases hf
  ·cases hf
end
end DL
namespace DL
open PySem PySem.Spec PyProof.Rows L2
variable[Lam]
theorem qiq{P:Program}{w:World}{K:Frag}{mg:Str->Option Value}{base:Heap}{k ar:Nat}{f:Addr}{fd:FuncData}{ps:List Str}: FnOk P w K mg base CX0 k f fd ps (spD K ar fun _=>none):=
 FnOk.mk (fun vs H Q E z=>by
   obtain⟨F,ds,d,_,_,_,h,_⟩:=z;cases h)
  (fun A outer s H args us vs Q E _ _ _ _ z=>by
   obtain⟨F,ds,d,_,_,_,h,_⟩:=z;cases h)
end DL
namespace DL
open PySem PySem.Spec PyProof.Rows L2 Srt PySem.W
variable[Lam]
def q1o(mg:Str->Option Value)(base:Heap): Prop:=∃bm ob,mg "__builtins__" = some (.ref bm)/\bm≠builtinsNs/\base.get? bm=some ob/\ob.cls=.type "module" /\ ob.dict=some builtinsNs/\ob.data=.plain
def tabOf(o:Obj): Option Addr:=match o.data with
 | .fields vs=>(match(vs[11]? : Option Value) with
  | some (.ref P)=>some P
  | _=>none)
 | _=>none
omit [Lam] in
theorem qlc{K:Frag}{x:Str}{f c P:Addr}{oc:Value}{od:Option Addr}{fd:FuncData}{sl:Array (Option Value)}{o:Obj}(h1:nsIn K mainGlobals x=some (some (.ref f)))(h2:K.lookup f=some ⟨oc,od,.func fd,sl⟩)(h3:fd.code=.ref c)(h4:K.lookup c=some o)(h5:tabOf o=some P): tabIn K x=some (c,P):=by
 unfold tabIn;rw [h1];dsimp only;rw [h2];dsimp only;rw [h3];dsimp only;rw [h4];obtain⟨a,b,d,e⟩:=o;unfold tabOf at h5;dsimp only at h5;cases d <;> simp only at h5 ⊢ <;> first|(cases h5;done)|skip
 split at h5
 ·rename_i hv
  rw [hv];cases h5
  rfl
 ·cases h5
omit [Lam] in
theorem qdn{K:Frag}{c P:Addr}{o:Obj}(h1:K.lookup c=some o)(h2:codeHdIn [(c,o)] c P=true): codeHdIn K c P=true:=by
 have e:List.lookup c [(c,o)]=some o:=by simp [List.lookup]
 unfold codeHdIn at h2 ⊢;rw [h1];rw [e] at h2;exact h2
def qt5(K:Frag)(ar:Nat)(op:List D->Option D)(f c:Addr)(φ ψ : Heap->Prop): Sp:=fun vs H Q E=>H f=some (.ext φ)/\H c=some (.ext ψ)/\spD K ar op vs H Q E
theorem qrh{P:Program}{w:World}{K:Frag}{mg:Str->Option Value}{base:Heap}{k:Nat}{f c:Addr}{qual:Str}{params:Arguments}{body:Expr}{scope:Scope}{pm ct:Value}{N ps:List Str}{u:FE}{φ ψ : Heap->Prop}
  (hφ : ∀h, φ h->h.get? f=some (kla_obj "<lambda>" qual params body scope [] pm c ct)) (hψ : ∀h, ψ h->h.CodeRec (.ref c) qual) (S:FnScope N ps scope)
  (hb:∀(A:Around) (outer:List Env) (s:Shared) (H:Hp) (E:XK),Room k (A.deeper (envOfC qual scope s.heap.objs.size f (.ref c)))->PE (zr CX0 P w K mg base N qual scope f (.ref c) A outer s H E).nox body (tD K u)) :
  FnOk P w K mg base CX0 (k+1) f (kla_fn "<lambda>" qual params body scope [] pm (.ref c) ct) ps (qt5 K ps.length (za N.length (zk u)) f c φ ψ):=by
 have hpl:ps.length<=N.length:=by have:=g0d List.length S.pre;rw [p6] at this;omega
 refine⟨fun vs H Q E h=>?_,fun A outer s H args us vs Q E hr e0 hbd r ⟨h1,h2,hsp⟩=>?_⟩
 ·obtain⟨_,_,F,ds,d,_,rl,el,_⟩:=h
  rw [<- rl.length];exact el
 have hl:vs.length=ps.length:=by
  obtain⟨F,ds,d,_,rl,el,_⟩:=id hsp;rw [<- rl.length];exact el
 have lim:s.heap.NoLimit:=e0.mod.nolimit.keeps fun b o e=>(e0.bs b o e).1;have hkind:∀y∈ps.zip us,scope.names.lookup y.1=some .local\/(scope.names.lookup y.1=some .cell/\((cellsFrom (s.heap.objs.size+1) scope.names []).lookup y.1).isSome=true):=fun⟨n,v⟩ hy=>by
  rcases S.par n (g2w hy).1 with q|q
  ·exact .inl q
  ·exact .inr ⟨q,g41 _ _ _ (.inl q)⟩
 have ho:=hφ _ (e0.hok f _ h1).1;have hcd:=hψ _ (e0.hok c _ h2).1;refine kla_callFunE hr.depth ho rfl S.co S.gen rfl hcd (hbd _ _ _ _ ?_);refine wpAny_newFunctionEnv_cells S.kind hkind fun env he s1 x=>?_;subst he;refine⟨lim.keeps x.toInCall.keep,kla_codeExpr ?_⟩;have I:Inv (zr CX0 P w K mg base N qual scope f (.ref c) A outer s H E) [] (start N vs) H s1:=q9j S hr.hd e0 hl r x;have hD:tD K u (start N vs) H Q:=by
  obtain⟨F0,H0,F, ρ,fl, ρ',r',hf,q⟩:=qi5 (P:=P) (w:=w) hpl hsp;obtain⟨d,h3,h4⟩:=m8.mp hf;cases h4;exact⟨F0,H0,F, ρ,d,r',h3,fun v F' H' g' r''=>q v F' H' (r'.g.trans g') r''⟩
 refine tq ((hb A outer s H E (hr.deeper _)).nox [] s1 (start N vs) H Q I hD) (fun v s' hs=>?_) fun e s' hs=>hs;obtain⟨v',H',J,rv,q⟩:=hs;exact⟨v',H',J.os,J.bare,J.base,J.hok,rv,q⟩
theorem qg3{pos pos':Pos}{c cv:Value}: ∀(l:List Value),TriplesOk l->codeAmong pos' (l++[rawInt pos.line,rawInt pos.col,c])=some cv->codeAmong pos' l=some cv\/cv=c:=fun l h e=>by
 fun_induction TriplesOk l with
 | case1=>
  simp only [g0v,codeAmong,rawInt] at e
  split at e
  ·exact .inr (mf e).symm
  ·cases e
 | case2 a t b u x rest ih=>
  simp only [g4a,codeAmong] at e ⊢
  split at e
  ·rename_i hc;rw [md hc];exact .inl e
  ·rename_i hc;rw [mi hc];exact ih h e
 | case3 l h1 h2=>exact h.elim
section
variable{X:Cx}{pins:List (Addr×Obj)}{σ : St}{F H:Hp}{s:Shared}
theorem qld{c P:Addr}{q:Str}{params:Arguments}{body:Expr}{scope:Scope}{pos:Pos}{Q:Value->Shared->Prop}(hcode:X.env.code=.ref c)(hd:codeHdIn X.K c P=true)(hP:(P,q)∈Lam.tab)(hU:∀p∈Lam.tab,p.1=P->p.2=q)
  (hq:X.env.qual++"<lambda>" = q) (B:q1o X.mg X.base) (hdef:defaultsOf params X.env=([],[])) (hcl:closureFor scope X.env=pure []) (I:Inv X pins σ H s) (st:SameT F H)
  (h:∀f c' φ ψ ct pm s' H',Inv X pins σ H' s'->Grow F H F H'->H' f=some (.ext φ)->H' c'=some (.ext ψ)->(∀h, φ h->h.get? f=some (kla_obj "<lambda>" q params body scope [] pm c' ct))->(∀h, ψ h->h.CodeRec (.ref c') q)->Q (.ref f) s') :
  wpAny (model X.prog X.w) X.A (eval (.Lambda params body scope pos) X.env) Q X.xe s:=by
 refine kla_eval hdef ?_;rw [hq];obtain⟨ps,e,ht,k⟩:=st.t _ hP;have hPg:s.heap.get? P=some (tabObj ps):=I.hok P _ e;have C:CodeHd s.heap c P:=codeHd_of_K I.kIn hd;have hg:s.heap.Ns mainGlobals X.mg:=I.mod.glob.keeps I.bk;obtain⟨bm,ob,B1,B2,B3,B4,B5,B6⟩:=B;have hbo:=I.bk _ _ B3;have hbP:bm≠P:=fun z=>by
  have e1:=hbo;rw [z,hPg] at e1;have e2:=B4;rw [<- mf e1] at e2;cases e2
 have hgP:mainGlobals≠P:=fun z=>by
  obtain⟨o,es,ep,e1,e2,_⟩:=hg;rw [z,hPg] at e1;rw [<- mf e1] at e2;cases e2
 have hb:s.heap.BuiltinsAt X.mg P:=⟨bm,ob,B1,B2,fun z=>(by
  obtain⟨o,es,ep,e1,e2,_⟩:=hg;rw [<- z,hbo] at e1;rw [<- mf e1,B6] at e2;cases e2),hbP,hbo,B4,B5,B6⟩
 cases hf:codeAmong pos ps.toList with
 | some cv=>
  obtain⟨c', ψ,rfl,e2,e3⟩:=k pos cv hf;refine kla_makeFunctionHit hcl I.ok.glob hg hcode C hPg ht hf hb fun ctv h' tk hk hsz=>?_;have I1:Inv X pins σ H {s with heap:=h',toks:=tk}:=I.kept (t':=tk) hk;have hn:H h'.objs.size=none:=I1.hok.fresh (gw _);have I2:=I1.laid (t':=tk) (a:=h'.objs.size) (o:=.ext fun g=>g.get? h'.objs.size=some (kla_obj "<lambda>" q params body scope [] ((X.mg "__name__").getD .none) c' ctv)) (h':=h'.push (kla_obj "<lambda>" q params body scope [] ((X.mg "__name__").getD .none) c' ctv))
   (fun b u z=>gd _ z) (gw _) ⟨gf _ rfl,⟨_,gf _ rfl⟩,fun h1 h2 z1 z2=>z2 _ z1⟩
  exact h _ c' _ ψ ctv _ _ _ I2 (Grow.own st.s hn) qr ((Kept.new hn).ext _ _ e2) (fun g z=>z) e3
 | none=>
  refine kla_makeFunction hcl I.ok.glob hg hcode C hPg ht hf hgP hb fun c' ctv h' tk hx hge hlt hrec htb=>?_;have hnc:H c'=none:=I.hok.fresh hge;have hcP:c'≠P:=fun z=>by rw [z,e] at hnc;cases hnc
  have nP:∀b o,H b=some o->(∀ps,o ≠ .tbl ps)->b≠P:=fun b o z n y=>by rw [y,e] at z;exact n _ (mf z).symm
  have nP':∀b,H b=none->b≠P:=fun b z y=>by rw [y,e] at z;cases z
  have nc:∀b o,H b=some o->b≠c':=fun b o z y=>by rw [y,hnc] at z;cases z
  have ncs:∀b o,s.heap.get? b=some o->b≠c':=fun b o z y=>absurd (gz z) (by rw [y];exact g5n.mpr hge)
  let H1:Hp:=upd (upd H P (.tbl (ps ++ #[rawInt pos.line,rawInt pos.col,.ref c']))) c' (.ext fun g=>g.CodeRec (.ref c') q)
  have a1:∀b,b≠P->b≠c'->H1 b=H b:=fun b z1 z2=>by show upd (upd H P _) c' _ b=_;rw [ql z2,ql z1]
  have a2:H1 P=some (.tbl (ps ++ #[rawInt pos.line,rawInt pos.col,.ref c'])):=by show upd (upd H P _) c' _ P=_;rw [ql (nj hcP),qr]
  have a3:H1 c'=some (.ext fun g=>g.CodeRec (.ref c') q):=qr;have un:Un X.fs [] H H1 s.heap h':=⟨fun b o z n _ _=>hx b o (nP' b n) z,fun b o z n _ _=>⟨o.slots,hx b o (nP' b n) z⟩,fun b o z n _=>by rw [a1 b (nP' b n) (ncs b o z)];exact n,
   fun b o z _=>by
    by_cases y:b=P
    ·exact⟨_,by rw [y];exact htb⟩
    ·exact⟨o,hx b o y z⟩,fun b xs z=>by rw [a1 b (nP b _ z nofun) (nc b _ z)];exact z,fun b o' u z=>by rw [a1 b (nP b _ z nofun) (nc b _ z)];exact z,
   fun b ps' z=>by
    by_cases y:b=P
    ·subst y
     rw [e] at z;cases z;exact⟨_,a2⟩
    ·exact⟨#[],by rw [a1 b y (nc b _ z),z];simp⟩⟩
  have hok:HOk X.prog X.w H1 h':=fun b o z=>by
   by_cases y:b=P
   ·subst y
    rw [a2] at z;cases z;exact htb
   by_cases y2:b=c'
   ·subst y2
    rw [a3] at z;cases z;obtain⟨c2,oc,vs,t,e2,hoc,r⟩:=hrec;cases e2;exact⟨⟨_,oc,vs,t,rfl,hoc,r⟩,⟨_,hoc⟩,fun h1 h2 ⟨c3,o3,v3,t3,e3,h3,r3⟩ z2=>by cases e3;exact⟨_,o3,v3,t3,rfl,z2 _ h3,r3⟩⟩
   rw [a1 b y y2] at z;refine(I.hok b o z).stay (fun b' u hb' z'=>hx b' u ?_ z') (fun b' z'=>by rw [a1 b' (nP b' _ z' nofun) (nc b' _ z')];exact z') fun b' xs z'=>by rw [a1 b' (nP b' _ z' nofun) (nc b' _ z')];exact z'
   rcases hb' with z1|z1
   ·rw [z1];exact y
   ·exact nP b' _ z1 nofun
  have I1:Inv X pins σ H1 {s with heap:=h',toks:=tk}:=I.un (t':=tk) un hok;have hn:H1 h'.objs.size=none:=I1.hok.fresh (gw _);have I2:=I1.laid (t':=tk) (a:=h'.objs.size) (o:=.ext fun g=>g.get? h'.objs.size=some (kla_obj "<lambda>" q params body scope [] ((X.mg "__name__").getD .none) c' ctv)) (h':=h'.push (kla_obj "<lambda>" q params body scope [] ((X.mg "__name__").getD .none) c' ctv))
   (fun b u z=>gd _ z) (gw _) ⟨gf _ rfl,⟨_,gf _ rfl⟩,fun h1 h2 z1 z2=>z2 _ z1⟩
  have hfP:h'.objs.size≠P:=fun z=>by rw [z,a2] at hn;cases hn
  have kp:Kept H H1:=⟨fun b xs z=>by rw [a1 b (nP b _ z nofun) (nc b _ z)];exact z,fun b φ z=>by rw [a1 b (nP b _ z nofun) (nc b _ z)];exact z,fun {b} z=>by
    by_cases y:b=P
    ·subst y;rw [a2] at z;cases z
    by_cases y2:b=c'
    ·rw [y2];exact hnc
    rw [a1 b y y2] at z;exact z,fun t p hp=>by
    obtain⟨ps1,e1,t1,k1⟩:=t p hp
    by_cases y:p.1=P
    ·have e2:=hU p hp y
     rw [y,e] at e1;cases e1;rw [y];refine⟨_,a2,by simpa using TriplesOk_snoc pos.line pos.col (.ref c') ps.toList ht,fun pos' cv z=>?_⟩;rw [t7] at z;rcases qg3 ps.toList ht (by simpa using z) with z|z
     ·obtain⟨c2, φ,z1,z2,z3⟩:=k1 pos' cv z
      exact⟨c2, φ,z1,by rw [a1 c2 (nP _ _ z2 nofun) (nc _ _ z2)];exact z2,z3⟩
     ·exact⟨c',_,z,a3,fun g z=>by rw [e2];exact z⟩
    ·refine⟨ps1,by rw [a1 _ y (nc _ _ e1)];exact e1,t1,fun pos' cv z=>?_⟩
     obtain⟨c2, φ,z1,z2,z3⟩:=k1 pos' cv z;exact⟨c2, φ,z1,by rw [a1 c2 (nP _ _ z2 nofun) (nc _ _ z2)];exact z2,z3⟩,fun b φ z=>by rw [a1 b (nP b _ z nofun) (nc b _ z)];exact z⟩
  have g1:Grow F H F H1:=⟨.refl _,kp,fun b o z=>by
    have y:b≠P:=fun y=>by have:=st.f _ hP;rw [show b=P from y] at z;rw [z] at this;cases this
    rw [a1 b y (nc b _ (st.s b o z))];exact st.s b o z,fun _ z=>.inl z⟩
  exact h _ c' _ _ ctv _ _ _ I2 (g1.trans (Grow.own g1.fh hn)) qr ((Kept.new hn).ext _ _ a3) (fun g z=>z) fun g z=>z
end
section
variable{X:Cx}{pins:List (Addr×Obj)}{σ : St}{F H:Hp}{s:Shared}
theorem qle{e:Expr}{p kp pos lpos:Pos}{params:Arguments}{body:Expr}{scope:Scope}{k k':Nat}{c P:Addr}{q:Str}{N ps:List Str}{u:FE}{fa:FA}(hcode:X.env.code=.ref c)(hd:codeHdIn X.K c P=true)(hP:(P,q)∈Lam.tab)
  (hU:∀p∈Lam.tab,p.1=P->p.2=q) (B:q1o X.mg X.base) (hr:Room k' X.A) (hgs:Gl X "sorted") (hms:X.mg "sorted" = none) (ha:PA X [e] (tDA X.K fa)) (S:FnScope N ps scope)
  (hb:∀(f c':Addr) (A:Around) (outer:List Env) (s:Shared) (H:Hp) (E:XK),Room k (A.deeper (envOfC q scope s.heap.objs.size f (.ref c')))->PE (zr CX0 X.prog X.w X.K X.mg X.base N q scope f (.ref c') A outer s H E).nox body (tD X.K u))
  (hbd:∀(pm cdv ct:Value) (us:List Value),us.length=ps.length->bindArgs (kla_fn "<lambda>" q params body scope [] pm cdv ct) ⟨us,[]⟩=pure (ps.zip us)) (hk:k+3<=k') (h1:ps.length=1)
  (hq:X.env.qual++"<lambda>" = q:=by rfl) (hdef:defaultsOf params X.env=([],[]):=by rfl) (hcl:closureFor scope X.env=pure []:=by rfl) (he:backTo pos (starEach [e] X.env)=(false,eval e X.env) :: backTo pos (starEach [] X.env):=by rfl)
  (hpl:(backTo pos (starEach [e] X.env)).any (·.1)=false:=by rfl):PE X (.Call (.Name "sorted" p) [e] [⟨some "key",.Lambda params body scope lpos,kp⟩] pos) (tL X.K (q5v (q61 (za N.length (zk u))) fa)):=by
 intro pins s σ H Q I h;obtain⟨F0,H0,F, ρ,ds,r,hf,q'⟩:=h;obtain⟨es,h3,h2⟩:=gc.mp hf;unfold q61 at h2
 split at h2
 ·rename_i d
  refine g1l (q16 I hgs hms boot_sorted ?_ (by decide) (by decide));refine callWith_kw (thn (ha pos pins s σ H (fun vs H1=>∃F1,Grow F H F1 H1/\RepL X.K F1 [d] vs) I ⟨F0,H0,F, ρ,[d],r,h3,fun vs F1 H1 g1 r1=>⟨F1,g1,r1⟩⟩) fun us s1 ⟨vs,H1,I1,rv,F1,g1,r1⟩=>?_) he hpl rfl rfl;refine kws_cons (qld hcode hd hP hU hq B hdef hcl I1 (r.sameT g1) fun f c' φ ψ ct pm s2 H2 I2 g2 hf' hc' hφ hψ =>kws_nil ?_);obtain⟨x,rfl,rx⟩:=rep1 r1;obtain⟨v,rfl,ru⟩:=vals1 rv;cases d <;> simp only [q2b] at h2 <;> first|(cases h2;done)|skip
  rename_i ds';obtain⟨a,ys,rfl,_⟩:=rep_lst.mp rx;cases ru;exact qim (qrh hφ hψ S (hb f c')) (fun F' H' dv kd x Q' g' rx' hk' q''=>⟨g'.hh.ext _ _ hf',g'.hh.ext _ _ hc',F',[dv],kd,((r.sameT g1).grow g2).grow g',.cons rx' .nil,h1.symm,hk',q''⟩) (.all (hbd pm _ ct)) hr (by omega) I2 g2.fh (rx.mono g2.ff) (by simp only [q2b];exact h2)
   fun a ys F3 H3 g3 k1 k2 k3 k4=>q' a ys F3 H3 (g1.trans (g2.trans g3)) k1 (g1.hh.free (g2.hh.free k2)) k3 k4
 ·cases h2
end
structure Fun3(K:Frag)(x qual:Str)(st:Stmt)(dV:Value)(f:Addr)(fd:FuncData)(c P:Addr): Prop where
 ex:∃(oc:Value) (od:Option Addr) (kV doc pm:Value) (an:Option Addr) (ct:Value) (osl:Array (Option Value)),
  fd=PySem.W.fnOf x qual (vf st) (qt st) (qd st) dV kV doc pm an (.ref c) ct/\K.lookup f=some ⟨oc,od,.func fd,osl⟩/\PySem.W.codeIn K (.ref c) qual=true
 hd:codeHdIn K c P=true
 kp:PySem.W.keepIn K (.ref f)=true
section
variable{P:Program}{w:World}{K:Frag}{mg:Str->Option Value}{base:Heap}{x qual:Str}{st:Stmt}{dV:Value}{f c T:Addr}{fd:FuncData}{N ps:List Str}
theorem Fun3.okn{k n ar k1:Nat}{u:FS}(F:Fun3 K x qual st dV f fd c T)(S:FnScope N ps (qd st))(hn:N.length=n)(ha:ps.length=ar)(hk:k+1=k1)
  (hb:∀(A:Around) (outer:List Env) (s:Shared) (H:Hp) (E:XK),Room k (A.deeper (envOfC qual (qd st) s.heap.objs.size f (.ref c)))->PSs (zr CX0 P w K mg base N qual (qd st) f (.ref c) A outer s H E).nox (qt st) (tDS K u)) :
  FnOk P w K mg base CX0 k1 f fd ps (spD K ar (za n u)):=by
 subst hn ha hk;obtain⟨oc,od,kV,doc,pm,an,ct,osl,rfl,lk,hcd⟩:=F.ex;exact qmy lk hcd S fun A outer s H E hr=>hb A outer s H E hr
theorem qon{oc:Value}{od an:Option Addr}{osl:Array (Option Value)}{kV doc pm ct:Value}(l:K.lookup f=some ⟨oc,od,.func (PySem.W.fnOf x qual (vf st) (qt st) (qd st) dV kV doc pm an (.ref c) ct),osl⟩)
  (cd:PySem.W.codeIn K (.ref c) qual=true) (hd:codeHdIn K c T=true) (k:PySem.W.keepIn K (.ref f)=true):Fun3 K x qual st dV f (PySem.W.fnOf x qual (vf st) (qt st) (qd st) dV kV doc pm an (.ref c) ct) c T:=⟨⟨oc,od,kV,doc,pm,an,ct,osl,rfl,l,cd⟩,hd,k⟩
theorem Fun3.bindsTo(F:Fun3 K x qual st dV f fd c T){P:FuncData->Prop}(h:∀(kV doc pm:Value) (an:Option Addr) (cdv ct:Value),P (PySem.W.fnOf x qual (vf st) (qt st) (qd st) dV kV doc pm an cdv ct)): P fd:=by
 obtain⟨oc,od,kV,doc,pm,an,ct,osl,rfl,lk,hcd⟩:=F.ex;exact h kV doc pm an _ ct
end
theorem qir{P:Program}{w:World}{K:Frag}{mg mb:Str->Option Value}{k:Nat}{fa a:Addr}{fd:FuncData}{x:Str}{s₁:Shared}{vs:List Value}{ns:List Int}{tabs:List (Addr×Addr)}(hT:TabsAt tabs s₁.heap)(hL:∀p∈Lam.tab,p.1∈tabs.map (·.2))(hKT:∀p∈tabs,K.lookup p.2=none)
  (KX:K.In s₁.heap) (hns:s₁.heap.Ns mainGlobals mg) (hb:s₁.heap.Ns builtinsNs mb) (hbb:∀x:Str,x≠"__name__" -> mb x=bootBuiltins x) (hlim:s₁.heap.NoLimit) (hg:s₁.gens = #[])
  (ha:s₁.heap.get? a=some {cls:=.type "list",data:=.seq vs.toArray}) (hi:IntsAre vs ns) (hl:ns.length<=63) (hr:Room k callerA)
  (hB:q1o mg s₁.heap) (Fn:∀base:Heap,K.In base->base.Ns mainGlobals mg->q1o mg base->FnOk P w K mg base CX0 k fa fd [x] (qau K)) (hbind:∀(s:Shared) (u:Value),BindsTo s fd ⟨[u],[]⟩ [(x,u)]) :
  codeAny (model P w) callerA (.call (.ref fa) ⟨[.ref a],[]⟩) (fun r s'=>r=.ok (.ret (.bool true))/\OldK s₁.heap s'.heap/\s'.os=s₁.os/\AllBare s'.gens) s₁:=by
 have rv:=q17 hi;have lenV:=hi.length;have aT:a∉tabs.map (·.2):=fun z=>by
  obtain⟨p,hp,e⟩:=ng.mp z;have e1:=(hT p hp).2;rw [e,ha] at e1;cases e1
 let G:Hp:=fun b=>if b=a/\K.lookup a=none then some (.frz {cls:=.type "list",data:=.seq vs.toArray} (.lst (ns.map V.int))) else none
 let H:Hp:=fun b=>if b∈tabs.map (·.2) then some (.tbl #[]) else G b
 have hG:∀b o,G b=some o->b=a/\K.lookup a=none/\o=.frz {cls:=.type "list",data:=.seq vs.toArray} (.lst (ns.map V.int)):=fun b o z=>by
  by_cases y:b=a/\K.lookup a=none
  ·exact⟨y.1,y.2,(mf ((md y).symm.trans z)).symm⟩
  ·have:=(mi y).symm.trans z;cases this
 have hH1:∀b,b∈tabs.map (·.2)->H b=some (.tbl #[]):=fun b z=>md z;have hH2:∀b,b∉tabs.map (·.2)->H b=G b:=fun b z=>mi z;have tabAt:∀b,b∈tabs.map (·.2)->∃c,CodeHd s₁.heap c b/\s₁.heap.get? b=some (tabObj #[])/\K.lookup b=none:=fun b z=>by
  obtain⟨p,hp,rfl⟩:=ng.mp z;exact⟨p.1,(hT p hp).1,(hT p hp).2,hKT p hp⟩
 have gH:Same G H:=fun b o z=>by
  obtain⟨rfl,_,_⟩:=hG b o z;rw [hH2 _ aT];exact z
 have hok:HOk P w H s₁.heap:=fun b u z=>by
  by_cases y:b∈tabs.map (·.2)
  ·rw [hH1 b y] at z
   cases z;exact(tabAt b y).elim fun c z=>z.2.1
  ·rw [hH2 b y] at z
   obtain⟨rfl,_,rfl⟩:=hG b u z;exact⟨ha,by rw [mn];exact my hl (by decide),vs,_,rv,ha⟩
 have base_of:∀ {b:Addr} {o:Obj},s₁.heap.get? b=some o->H b=none->(q31 s₁.heap H).get? b=some o:=fun e n=>qjv e n;have noA:∀ {b:Addr} {o:Obj} {es:Array DictEntry} {ep:Nat},s₁.heap.get? b=some o->o.data=.dict es ep->H b=none:=fun {b o es ep} e d=>by
  by_cases y:b∈tabs.map (·.2)
  ·obtain⟨c,_,e1,_⟩:=tabAt b y
   rw [e] at e1;rw [mf e1] at d;cases d
  ·rw [hH2 b y]
   cases q:G b with
   | none=>rfl
   | some u=>
    obtain⟨rfl,_,_⟩:=hG b u q;rw [ha] at e;rw [<- mf e] at d;cases d
 have nsK:∀ {b:Addr} {m:Str->Option Value},s₁.heap.Ns b m->(q31 s₁.heap H).Ns b m:=fun {b m} ⟨o,es,ep,e,d,r⟩=>⟨o,es,ep,base_of e (noA e d),d,r⟩
 have hKb:K.In (q31 s₁.heap H):=fun b o e=>base_of (KX b o e) (by
  by_cases y:b∈tabs.map (·.2)
  ·obtain⟨c,_,_,e1⟩:=tabAt b y
   rw [e1] at e;cases e
  ·rw [hH2 b y]
   cases q:G b with
   | none=>rfl
   | some u=>
    obtain⟨rfl,e1,_⟩:=hG b u q;rw [e1] at e;cases e)
 have hM:Mod K mg (q31 s₁.heap H):=⟨hKb,nsK hns,⟨mb,nsK hb,hbb⟩,let⟨mc,h1,h2⟩:=hlim; ⟨mc,nsK h1,h2⟩⟩
 have e0:Env0 P w K mg (q31 s₁.heap H) callerA [] s₁ H:=⟨rfl,hM,fun b o e=>qnc e,g6w (qhc _ _),trivial,fun b hb=>absurd (show b∈([]:List Addr) from hb) (by simp),hok,.of_eq hg⟩
 have hS:SqL K G a (ns.map V.int):=by
  cases hk:K.lookup a with
  | some o=>
   have e:=KX a o hk;rw [ha] at e;cases e;exact .inr ⟨_,vs.toArray,_,hk,rfl,rfl,rfl,by rw [gv,lenV];exact my hl (by decide),by simpa using rv⟩
  | none=>exact .inl (.inr ⟨{cls:=.type "list",data:=.seq vs.toArray},md ⟨rfl,hk⟩⟩)
 have sT:SameT G H:=⟨gH,fun p hp=>⟨#[],hH1 _ (hL p hp),trivial,fun pos cv z=>by simp [codeAmong] at z⟩,fun p hp=>by
  cases q:G p.1 with
  | none=>rfl
  | some u=>
   obtain⟨e,_,_⟩:=hG _ u q;exact absurd (e ▸ hL p hp) aT⟩
 have hBb:q1o mg (q31 s₁.heap H):=by
  obtain⟨bm,ob,B1,B2,B3,B4,B5,B6⟩:=hB;refine⟨bm,ob,B1,B2,base_of B3 ?_,B4,B5,B6⟩
  by_cases y:bm∈tabs.map (·.2)
  ·obtain⟨c,_,e1,_⟩:=tabAt bm y
   rw [B3] at e1;rw [mf e1] at B4;cases B4
  ·rw [hH2 bm y]
   cases q:G bm with
   | none=>rfl
   | some u=>
    obtain⟨rfl,_,_⟩:=hG bm u q;rw [ha] at B3;rw [<- mf B3] at B6;cases B6
 refine g33 ((Fn _ hKb (nsK hns) hBb).run callerA [] s₁ H ⟨[.ref a],[]⟩ [.ref a] [.ref a] (fun v _=>v=.bl true) E0 hr e0 (hbind s₁ (.ref a)) (.cons rfl .nil) ⟨a,ns,G,rfl,sT,hS,hl,fun _=>rfl⟩) fun r s' h=>?_;cases r with
 | error e=>exact h.elim
 | ok fl=>
  cases fl with
  | next=>exact False.elim h
  | brk=>exact False.elim h
  | cont=>exact False.elim h
  | ret u=>
   obtain⟨v,H',os,bare,un,hok',r',q⟩:=h;have q':v=.bl true:=q;subst q';obtain rfl:u=Value.bool true:=r';have tab':∀b,b∈tabs.map (·.2)->∃more,s'.heap.get? b=some (tabObj (#[]++more)):=fun b y=>by
    obtain⟨more,e⟩:=un.tbls b #[] (hH1 b y);exact⟨more,hok' b _ e⟩
   have keep:∀b o,b∉tabs.map (·.2)->s₁.heap.get? b=some o->s'.heap.get? b=some o:=fun b o y e=>by
    cases q:H b with
    | none=>exact un.keep b o e q (by intro z;exact absurd (show b∈([]:List Addr) from z) (by simp)) (by simp)
    | some u=>
     have q2:=q;rw [hH2 b y] at q2;obtain⟨rfl,_,rfl⟩:=hG b u q2;obtain⟨e2,_⟩:=hok' _ _ (un.frzs _ _ _ q);rw [ha] at e;rw [<- mf e];exact e2
   refine⟨rfl,⟨fun b o e=>?_,fun b o e=>?_⟩,os,bare⟩
   ·by_cases y:b∈tabs.map (·.2)
    ·obtain⟨c,C,e1,_⟩:=tabAt b y
     rw [e] at e1;obtain rfl:=mf e1;obtain⟨more,e2⟩:=tab' b y;exact .inr (.inl ⟨(C.tab e).isCodeTable,rfl, #[],more,rfl,e2⟩)
    ·exact .inl (keep b o y e)
   ·by_cases y:b∈tabs.map (·.2)
    ·obtain⟨more,e2⟩:=tab' b y
     exact⟨_,e2⟩
    ·exact⟨o,keep b o y e⟩
omit [Lam] in
theorem qoo{l:PySem.W.OpenLaw}{k:Nat}{x:Str}{q:Program}{loose:List Str}{XP:(Str->Option Value)->Heap->Prop}{YP:World->Heap->Prop}{d:DefRec}{K:Params->Frag}(hn:l.most=some 63)(hdf:d.params.defaults=[])(hk:Room k callerA)
  (hY:∀(w:World) (h:Heap),YP w h->(K w.params).In h)
  (F:∀(w:World) (mg:Str->Option Value) (fa:Addr) (h:Heap),(K w.params).In h->h.Ns mainGlobals mg->mg d.name=some (.ref fa) ->
   ∃(L:Lam) (tabs:List (Addr×Addr)) (fd:FuncData),(∀p∈L.tab,p.1∈tabs.map (·.2))/\(∀p∈tabs,(K w.params).lookup p.2=none/\∃y:Str,((recsOf q).find? (fun e=>e.name==y)).isSome=true/\tabIn (K w.params) y=some p) /\
    (∀(s:Shared) (u:Value),BindsTo s fd ⟨[u],[]⟩ [(x,u)])/\∀base:Heap,(K w.params).In base->base.Ns mainGlobals mg->q1o mg base->FnOk l.prog w (K w.params) mg base CX0 k fa fd [x] (qau (K w.params))) :
  PySem.W.WalkO q loose XP YP l.row.toRowW d [] (fun f vs=>PySem.call f vs):=by
 refine Att.attach_call hn hdf fun w s₀ s₁ mg mb fa o pm cd doc a vs ns G Y ho hd hcd hmg hobj hints hlen hg=>?_;have KX:=hY w _ Y;obtain⟨L,tabs,fd,hL,hT,hb,hF⟩:=F w mg fa _ KX G.T.g hmg;refine qir (tabs:=tabs) (fun p hp=>?_) hL (fun p hp=>(hT p hp).1) KX G.T.g G.T.b G.T.builtins G.T.nolimit hg hobj hints hlen hk (let⟨bm,ob,b1,b2,b3,b4,b5,b6⟩:=G.T.bmain; ⟨bm,ob,b1,b2,b3,b4,b5,b6⟩) hF hb;obtain⟨_,y,e1,e2⟩:=hT p hp;obtain⟨d',e3⟩:=g15.mp e1;exact tab_of G.T KX e3 e2
end DL
namespace Srt
end Srt
namespace DL
open PySem PySem.Spec PyProof.Rows L2 Srt PySem.W
variable[Lam]
set_option maxRecDepth 8000 in
omit [Lam] in
theorem qlf(l:Addr)(items:Array Value)(n:Nat)(b:Addr)(items2:Array Value)(n2:Nat)(sl:Array (Option Value))(hc0:¬(!items.isEmpty&&Builtin.List.listTooLong (items.size+items2.size))=true)(hc1:items.size<=sizeLine)(hs2:items.size+items2.size<=sizeLine+1):
  Meets (Builtin.«list.extend» ⟨[.ref l,.ref b],[]⟩) (fun _ R s=>s.heap.get? l=some {cls:=.type "list",dict:=none,data:=.seq items n,slots:= #[]}/\s.heap.get? b=some {cls:=.type "list",dict:=none,data:=.seq items2 n2,slots:=sl} /\
   R (.ok (.ret Value.none)) {s with heap:=s.heap.update l (Obj.mapSeq fun x=>x++items2),toks:=s.toks}):=
 .of_wp fun prog w A R s h=>by
  obtain⟨hp,g,d,tk,os⟩:=s;obtain⟨hl,hb,h⟩:=h;have hz':(items++items2).size<=sizeLine+1:=by rw [Array.size_append];exact hs2
  have f3:=sub_list_list
  wp_walk using(g30 hl rfl (hz:=hc1) (_hz':=hz')),g2x hl,g2x hb
  exact⟨_,rfl,h⟩
section
variable{X:Cx}
omit [Lam] in
theorem qop:MtM X "list.extend" (fun x vs H Q=>∃l b xs zs,x=.ref l/\vs=[.ref b]/\H l=some (.lst xs)/\SqL X.K H b zs/\xs.length+zs.length<=sizeLine/\Q .non (upd H l (.lst (xs++zs)))):=by
 intro pins s σ H x vs v us Q I rx rv h;obtain⟨l,b,xs,zs,rfl,rfl,hH,hB,hz,q⟩:=h;cases rx;obtain⟨u,rfl,ru⟩:=rv.one;cases ru;obtain⟨z,its,n,r,hl,e⟩:=I.lstM hH;obtain⟨its2,r2,⟨o,n2,e2,c1,c2,c3⟩,hl2⟩:=I.list hB;obtain⟨oc,od,oda,osl⟩:=o;dsimp only at c1 c2 c3;subst c1 c2 c3;have hl1:=r.length;have hl3:=r2.length;have hsz:its.toArray.size+its2.toArray.size<=sizeLine:=by rw [gv,gv];lia
 have hlong:¬(!its.toArray.isEmpty&&Builtin.List.listTooLong (its.toArray.size+its2.toArray.size))=true:=by
  rw [qk8 hsz,g3k];exact mh
 refine g4l F.slot_list_extend ⟨_,e,rfl⟩ F.entry_list_extend (F.args_list_extend_2 _ _)
  (qlf l its.toArray n b its2.toArray n2 osl hlong (by rw [gv];lia) (by lia)) ⟨e,e2,?_⟩
 refine⟨.non,_,I.lset (its':=its++its2) hH e (by simp) (r.append r2) ?_,rfl,q⟩;rw [t5];lia
def qlg(i:Nat)(f:FE): FS:=fun ρ =>(q6t i ρ).bind fun ds=>(f ρ).bind fun d=>match d with
 | .lst es=>if ds.length+es.length<=lim then some (.nx, ρ.set i (some (.ow (ds++es)))) else none
 | _=>none
theorem qri{i:Nat}{x:Str}{e:Expr}{f:FE}{px apos cpos pos:Pos}(hv:PE X (.Name x px) (q6p i))(he:PE X e (tD X.K f))
  (hbase:attributeBase (.Name x px) "extend" X.env (eval (.Name x px) X.env)=eval (.Name x px) X.env:=by rfl)
  (hfew:((backTo cpos (starEach [e] X.env)).all (fun x=> !x.1)&&(backToKw cpos (keywordEach [] X.env)).all (fun x=>x.1.isSome)&&decide ([e].length+([]:List Keyword).length+(if([]:List Keyword).isEmpty then 0 else 1)<30))=true:=by rfl)
  (hline:(apos.endLine==cpos.line)=true:=by rfl) (hse:starEach [e] X.env=(false,eval e X.env) :: starEach [] X.env:=by rfl)
  (hs:swapsWith (.Call (.Attribute (.Name x px) "extend" apos) [e] [] cpos) none pos.line X.env=pure false:=by rfl):PS X (.Expr (.Call (.Attribute (.Name x px) "extend" apos) [e] [] cpos) pos) (tDS X.K (qlg i f)):=
 wx (qei (qmv g64 PySem.F.slot_list_extend PySem.F.type_list_extend qop hv (q07 he q1z hse) hbase hfew hline hse rfl) hs) fun D σ H ⟨F0,H0,F, ρ,fl, ρ',r,hf,q⟩=>by
  obtain⟨ds,h1,hf⟩:=gc.mp hf;obtain⟨d,h2,h3⟩:=gc.mp hf;have h1:=q9m h1;cases d <;> simp only at h3 <;> first|(cases h3;done)|skip
  rename_i es
  split at h3
  ·rename_i hl
   cases h3;obtain⟨a,xs,e1,e2,e3,e4,e5⟩:=r.ow i ds h1;refine⟨.ref a,e1,.inl ⟨rfl,xs,SqL.of e2⟩,F0,H0,F, ρ,_,r,h2,fun v F' H' g' r'=>?_⟩;have r2:=r.grow g';obtain⟨b,zs,rfl,k1,k2⟩:=rep_lst.mp r';refine⟨a,b,xs,zs,rfl,rfl,g'.hh.lst _ _ e2,g'.fh.seq k1,my (by rw [<- e5.length, <- k2.length];exact hl) (by decide),?_⟩;exact q _ F' _ g'.ff (r2.wrt h1 e1 ((e5.mono g'.ff).append k2))
  ·cases h3
end
end DL
namespace Js
open PySem
theorem qg4(A B:List Nat)(j:Nat)(hA:∀x∈A,x<j)(hB:∀x∈B,j<=x): ∀fuel lo hi,lo<=A.length->A.length<=hi->hi<=A.length+B.length->hi-lo<=fuel ->
  SetTable.below.go (A++B).toArray j fuel lo hi=A.length
 | 0,lo,hi,h1,h2,_,h3=>by unfold SetTable.below.go;lia
 | fuel+1,lo,hi,h1,h2,h4,h3=>by
  unfold SetTable.below.go
  by_cases c:lo<hi
  ·rw [md c]
   show(if(A++B).toArray.getD ((lo+hi) / 2) j<j then _ else _)=_;have hm:(lo+hi) / 2<hi:=by lia
   have hm2:lo<=(lo+hi) / 2:=by lia
   by_cases d:(lo+hi) / 2<A.length
   ·have e:(A++B).toArray.getD ((lo+hi) / 2) j=A[(lo+hi) / 2]:=by
     simp [Array.getD,g60 d];lia
    rw [e,md (hA _ (g2p d))];exact qg4 A B j hA hB fuel _ _ (by lia) h2 h4 (by lia)
   ·have hb:(lo+hi) / 2-A.length<B.length:=by lia
    have e:(A++B).toArray.getD ((lo+hi) / 2) j=B[(lo+hi) / 2-A.length]:=by
     have hlt:(lo+hi) / 2<A.length+B.length:=by lia
     simp [Array.getD,g5m (Nat.le_of_not_lt d),hlt]
    rw [e,mi (g5n.mpr (hB _ (g2p hb)))];exact qg4 A B j hA hB fuel _ _ h1 (by lia) (by lia) (by lia)
  ·rw [mi c];lia
theorem below_at{A B:List Nat}{j:Nat}(hA:∀x∈A,x<j)(hB:∀x∈B,j<=x): SetTable.below (A++B).toArray j=A.length:=by
 unfold SetTable.below;exact qg4 A B j hA hB _ 0 _ (um _) (by simp) (by simp) (by simp)
theorem cut(j:Nat): ∀l:List Nat,l.Pairwise (· < ·)->∃A B,l=A++B/\(∀x∈A,x<j)/\(∀x∈B,j<=x)
 | [],_=>⟨[],[],rfl,by simp,by simp⟩
 | x :: l,h=>by
  by_cases c:x<j
  ·obtain⟨A,B,e,a,b⟩:=cut j l (g1m.mp h).2
   exact⟨x :: A,B,by rw [e];rfl,by intro y hy;rcases mm.mp hy with rfl|hy;exact c;exact a y hy,b⟩
  ·exact⟨[],x :: l,rfl,by simp,by
    intro y hy;rcases mm.mp hy with rfl|hy
    ·lia
    ·have:=(g1m.mp h).1 y hy;lia⟩
theorem q6a{α : Type}(A B:List α)(x : α): SetTable.insertAt (A++B).toArray A.length x=(A++x :: B).toArray:=by
 unfold SetTable.insertAt;apply g6p;simp
theorem has_none(j:Nat): SetTable.has #[] j=false:=by unfold SetTable.has;simp
theorem qc8{t:SetTable}{l:List Nat}{j:Nat}(ep:t.place=l.toArray)(ed:t.dummies = #[])(hr:l.Pairwise (· < ·))(h:j∉l): t.slot j=.empty:=by
 obtain⟨A,B,rfl,hA,hB⟩:=cut j l hr;unfold SetTable.slot;rw [ep,ed,below_at hA hB,has_none];have:((A++B).toArray[A.length]? == some j)=false:=by
  cases B with
  | nil=>simp
  | cons b B=>
   have:b≠j:=fun e=>h (by simp [e]);simp [this]
 simp only [this];rfl
theorem qoq{t:SetTable}{l:List Nat}{j:Nat}(ep:t.place=l.toArray)(ed:t.dummies = #[])(hr:l.Pairwise (· < ·))(h:j∈l): ∃i,t.slot j=.live i:=by
 obtain⟨A,B,rfl,hA,hB⟩:=cut j l hr;unfold SetTable.slot;rw [ep,below_at hA hB];have:((A++B).toArray[A.length]? == some j)=true:=by
  rcases nz.mp h with h|h
  ·have:=hA j h;lia
  ·cases B with
   | nil=>simp at h
   | cons b B=>
    have hb:=hB b (gq ..);have:b=j:=by
     rcases mm.mp h with rfl|h
     ·rfl
     ·have:=(g1m.mp (pd.mp hr).2.1).1 j h;lia
    simp [this]
 simp only [this, ↓reduceIte];exact⟨_,rfl⟩
def orb:Nat->Nat->Nat
 | 0,i=>i
 | d+1,i=>orb d ((i*5+1)%8)
theorem qor:∀i<8,∀j<8,∃d<8,orb d i=j:=by decide
theorem qu3{t:SetTable}(hm:t.mask=7){i pt:Nat}(hp:pt<32)(hi:i<8): t.advance {j:=i,more:=0,i:=i,perturb:=pt,dummy:=none} = {j:=(i*5+1)%8,more:=0,i:=(i*5+1)%8,perturb:=0,dummy:=none}:=by
 have e0:pt / 32=0:=by lia
 have e1:SetTable.runEnd 7 ((i*5+1)%8)=(i*5+1)%8:=by unfold SetTable.runEnd;rw [mi (by lia)]
 unfold SetTable.advance;rw [mi (by simp),hm];unfold SetTable.leap;simp only [e0,Nat.add_zero];show({j:=(i*5+1)%8,more:=SetTable.runEnd 7 ((i*5+1)%8)-(i*5+1)%8,i:=(i*5+1)%8,perturb:=0,dummy:=none}:SetTable.Probe)=_;rw [e1,Nat.sub_self]
theorem go7{t:SetTable}{l:List Nat}{h:Int}(ep:t.place=l.toArray)(ed:t.dummies = #[])(hr:l.Pairwise (· < ·))(hm:t.mask=7): ∀(k:Nat) (i pt:Nat),pt<32->i<8->(∃d<k,orb d i∉l) ->
  ∃j,SetTable.probe.go t (fun _=>h+1) h k {j:=i,more:=0,i:=i,perturb:=pt,dummy:=none}=some (.empty j none)/\j∉l/\j<8
 | 0,i,pt,_,_,⟨d,hd,_⟩=>by lia
 | k+1,i,pt,hp,hi,⟨d,hd,hn⟩=>by
  unfold SetTable.probe.go
  by_cases c:i∈l
  ·obtain⟨x,e⟩:=qoq ep ed hr c
   have hne:(h+1==h)=false:=by simp;lia
   simp only [e,hne,gh, ↓reduceIte];rw [qu3 hm hp hi];refine go7 ep ed hr hm k _ 0 (by lia) (Nat.mod_lt _ (by lia)) ?_;cases d with
   | zero=>exact absurd c hn
   | succ d=>exact⟨d,by lia,hn⟩
  ·simp only [qc8 ep ed hr c]
   exact⟨i,rfl,c,hi⟩
theorem q6w{α : Type}[DecidableEq α]: ∀ {a l:List α},a.Nodup->a ⊆ l->a.length<=l.length
 | [],_,_,_=>by simp
 | x :: a,l,hn,hs=>by
  have hx:x∈l:=hs (gq ..);have h2:a ⊆ l.erase x:=fun y hy=>(List.mem_erase_of_ne (fun e:y=x=>(g14.mp hn).1 (e ▸ hy))).mpr (hs (gr _ hy));have:=q6w (g14.mp hn).2 h2;rw [List.length_erase_of_mem hx] at this;have:0<l.length:=List.length_pos_of_mem hx;simp only [p8];lia
theorem qg5:∀(l:List Nat),(∀j<8,j∈l)->8<=l.length:=by
 intro l h;have:(List.range 8) ⊆ l:=fun j hj=>h j (uc.mp hj);have h2:=q6w g2q this
 simpa using h2
theorem qt6{t:SetTable}{l:List Nat}{n:Nat}(ep:t.place=l.toArray)(ed:t.dummies = #[])(hr:l.Pairwise (· < ·))(hm:t.mask=7)(hl:l.length<8)(hn:n<12):
  ∃j,t.freeSlot (n:Int)=some (j,false)/\j∉l/\j<8:=by
 have hb:SetTable.bits (n:Int)=n:=by unfold SetTable.bits;lia
 have hi:n%8<8:=Nat.mod_lt _ (by lia);have hex:∃d<10*SetTable.turns t.mask,orb d (n%8)∉l:=by
  have:∃j,j<8/\j∉l:=g1x fun c=>by
   have:=qg5 l (fun j hj=>g1x fun d=>c ⟨j,hj,d⟩);lia
  obtain⟨j,hj,hnj⟩:=this;obtain⟨d,hd,e⟩:=qor _ hi j hj;refine⟨d,?_,by rw [e];exact hnj⟩;rw [hm];unfold SetTable.turns;lia
 have hst:t.probeStart (n:Int) = {j:=n%8,more:=0,i:=n%8,perturb:=n,dummy:=none}:=by
  unfold SetTable.probeStart;rw [hb,hm];have e1:SetTable.runEnd 7 (n%(7+1))=n%8:=by unfold SetTable.runEnd;rw [mi (by lia)]
  simp only [e1];simp
 obtain⟨j,e,h1,h2⟩:=go7 (h:=(n:Int)) ep ed hr hm (10*SetTable.turns t.mask) (n%8) n (by lia) hi hex;refine⟨j,?_,h1,h2⟩;unfold SetTable.freeSlot SetTable.probe;rw [hst,e]
 rfl
theorem qrj{t:SetTable}{l:List Nat}{n:Nat}(ep:t.place=l.toArray)(ed:t.dummies = #[])(hr:l.Pairwise (· < ·))(hm:15<=t.mask)(hn:n<12)(hnl:n∉l):
  t.freeSlot (n:Int)=some (n,false):=by
 have hb:SetTable.bits (n:Int)=n:=by unfold SetTable.bits;lia
 have hmod:n%(t.mask+1)=n:=Nat.mod_eq_of_lt (by lia);unfold SetTable.freeSlot SetTable.probe SetTable.probeStart;rw [hb];simp only [hmod];have:10*SetTable.turns t.mask=(10*SetTable.turns t.mask-1)+1:=by unfold SetTable.turns;lia
 rw [this];unfold SetTable.probe.go;simp only [qc8 ep ed hr hnl]
 rfl
def el(p:Nat×Nat): Int×Value:=((p.1:Int),.int (p.1:Int) p.2)
structure Tb(t:SetTable)(ks:List (Nat×Nat)): Prop where
 dm:t.dummies = #[]
 pl:t.plain=true
 nd:(ks.map Prod.fst).Nodup
 lt:∀p∈ks,p.1<12
 sz:t.place.toList.length=ks.length
 rs:t.place.toList.Pairwise (· < ·)
 mz:(t.mask=7/\(∀p∈t.place.toList,p<8))\/((t.mask=15\/t.mask=31\/t.mask=63)/\t.place.toList=ks.map Prod.fst)
theorem Tb.n12{t:SetTable}{ks:List (Nat×Nat)}(T:Tb t ks): ks.length<=12:=by
 have:=q6w (l:=List.range 12) T.nd (fun x hx=>by
  obtain⟨p,hp,rfl⟩:=ng.mp hx;exact uc.mpr (T.lt p hp))
 simpa using this
theorem Tb.fits{t:SetTable}{ks:List (Nat×Nat)}(T:Tb t ks)(h:t.mask=7->ks.length<8): t.fits ks.length=true:=by
 have h1:t.place.size=ks.length:=by rw [<- T.sz];simp
 have h2:=T.n12;unfold SetTable.fits SetTable.fill;rw [T.dm,h1];have:ks.length<=t.mask:=by
  rcases T.mz with⟨e,_⟩|⟨e,_⟩
  ·have:=h e;lia
  ·lia
 simp [this]
theorem toArr(a:Array Nat): a=a.toList.toArray:=by simp
theorem qrk{A B:List Nat}{j:Nat}(h:(A++B).Pairwise (· < ·))(hA:∀x∈A,x<j)(hB:∀x∈B,j<=x)(hj:j∉A++B): (A++j :: B).Pairwise (· < ·):=by
 have hB':∀x∈B,j<x:=fun x hx=>by
  have:=hB x hx;have:x≠j:=fun e=>hj (by rw [<- e];exact nt _ hx);lia
 obtain⟨a,b,c⟩:=pd.mp h;refine pd.mpr ⟨a,g1m.mpr ⟨hB',b⟩,fun x hx y hy=>?_⟩;rcases mm.mp hy with rfl|hy
 ·exact hA x hx
 ·exact c x hx y hy
theorem qlh:∀ {l:List Nat},l.Pairwise (· < ·)->l.Nodup:=fun h=>g3v (fun a=>m5 a) h
theorem lay{t:SetTable}{ks:List (Nat×Nat)}(T:Tb t ks){n k:Nat}(hn:n<12)(hnk:n∉ks.map Prod.fst)(h7:t.mask=7->ks.length<7):
  ∃t' ks',layNew t (ks.map el).toArray (n:Int) (.int (n:Int) k)=((ks'.map el).toArray,t',false,false)/\Tb t' ks'/\ks'.Perm ((n,k) :: ks)/\t'.mask=t.mask/\t'.led=t.led/\t'.finger=t.finger/\t'.moves=t.moves:=by
 have key:∃j,t.freeSlot (n:Int)=some (j,false)/\j∉t.place.toList/\((t.mask=7/\j<8)\/((t.mask=15\/t.mask=31\/t.mask=63)/\j=n)):=by
  rcases T.mz with⟨e,_⟩|⟨e,ep⟩
  ·obtain⟨j,h1,h2,h3⟩:=qt6 (n:=n) (toArr t.place) T.dm T.rs e (by rw [T.sz];have:=h7 e;lia) hn
   exact⟨j,h1,h2,.inl ⟨e,h3⟩⟩
  ·exact⟨n,qrj (toArr t.place) T.dm T.rs (by lia) hn (by rw [ep];exact hnk),by rw [ep];exact hnk,.inr ⟨e,rfl⟩⟩
 obtain⟨j,hf,hj,hm⟩:=key;obtain⟨A,B,eAB,hA,hB⟩:=cut j _ T.rs;have hp:t.place=(A++B).toArray:=by rw [<- eAB]
 have hbel:SetTable.below t.place j=A.length:=by rw [hp];exact below_at hA hB
 have hlen:A.length<=ks.length:=by have:=T.sz;rw [eAB,t5] at this;lia
 let ks':=ks.take A.length++(n,k) :: ks.drop A.length
 let t':SetTable:={t with place:=(A++j :: B).toArray,dummies:= #[]}
 have hput:t.put j=(t',A.length):=by
  unfold SetTable.put;simp only [hbel,T.dm,has_none,gh, ↓reduceIte];rw [hp,q6a]
 have hins:SetTable.insertAt (ks.map el).toArray A.length ((n:Int),Value.int (n:Int) k)=(ks'.map el).toArray:=by
  have e:ks.map el=(ks.take A.length).map el++(ks.drop A.length).map el:=by rw [<- uj,pf]
  have el1:((ks.take A.length).map el).length=A.length:=by simp [hlen]
  have:=q6a ((ks.take A.length).map el) ((ks.drop A.length).map el) ((n:Int),Value.int (n:Int) k);rw [el1] at this;rw [e,this];simp [ks',el]
 have hperm:ks'.Perm ((n,k) :: ks):=by
  have:=@List.perm_middle _ (n,k) (ks.take A.length) (ks.drop A.length);rwa [pf] at this
 have hrs:(A++j :: B).Pairwise (· < ·):=qrk (by rw [<- eAB];exact T.rs) hA hB (by rw [<- eAB];exact hj);have T':Tb t' ks':=by
  refine⟨rfl,T.pl,?_,?_,?_,by simpa [t'] using hrs,?_⟩
  ·refine((hperm.map Prod.fst).nodup_iff).mpr ?_
   exact g14.mpr ⟨hnk,T.nd⟩
  ·intro p hp
   rcases mm.mp (hperm.mem_iff.mp hp) with rfl|h
   ·exact hn
   ·exact T.lt p h
  ·rw [hperm.length_eq]
   have:=T.sz;rw [eAB] at this;simp only [t5] at this;simp [t'];lia
  ·rcases hm with⟨e,hj8⟩|⟨e,rfl⟩
   ·refine .inl ⟨e,fun p hp=>?_⟩
    have hp':p∈A++j :: B:=by simpa [t'] using hp
    rcases T.mz with⟨_,hq⟩|⟨e',_⟩
    ·rw [eAB] at hq
     rcases nz.mp hp' with h|h
     ·exact hq p (g2l _ h)
     ·rcases mm.mp h with rfl|h
      ·exact hj8
      ·exact hq p (nt _ h)
    ·lia
   ·refine .inr ⟨e,?_⟩
    rcases T.mz with⟨e',_⟩|⟨_,ep⟩
    ·lia
    ·have e1:A=(ks.map Prod.fst).take A.length:=by rw [<- ep,eAB];simp
     have e2:B=(ks.map Prod.fst).drop A.length:=by rw [<- ep,eAB];simp
     show(A++j :: B).toArray.toList=ks'.map Prod.fst;simp only [ks',uj,gj,g6s,g5f];rw [<- e1, <- e2]
 have h7':t'.mask=7->ks'.length<8:=fun e=>by rw [hperm.length_eq];have:=h7 e;simp;lia
 have hfit:t'.fits (ks'.map el).toArray.size=true:=by
  have:=T'.fits h7'
  simpa using this
 refine⟨t',ks',?_,T',hperm,rfl,rfl,rfl,rfl⟩;unfold layNew;simp only [hf,hput,hins];unfold SetTable.orStandIn;rw [md hfit,hfit]
 rfl
theorem qli{mask:Nat}{owner:Array (Option Nat)}{i pt f:Nat}(h:owner.getD i (some 0)=none): SetTable.layClean.free mask owner (f+1) i pt=some i:=by
 unfold SetTable.layClean.free;have hr:SetTable.runEnd mask i+1-i=(SetTable.runEnd mask i-i)+1:=by
  unfold SetTable.runEnd;split <;> lia
 rw [hr,g2c];have:(List.find? (fun k=>(owner.getD (i+k) (some 0)).isNone) (0 :: List.map Nat.succ (List.range (SetTable.runEnd mask i-i))))=some 0:=by
  rw [List.find?_cons];simp only [Nat.add_zero,h,Option.isNone_none]
 rw [this];rfl
def Own(mask:Nat)(hs:List Nat)(c:Nat)(owner:Array (Option Nat)): Prop:=owner.size=mask+1/\∀j,j<=mask->∀k,owner[j]? = some (some k)↔(k<c/\hs[k]? = some j)
theorem qc9(mask:Nat)(hm:15<=mask)(hs:List Nat)(hnd:hs.Nodup)(hlt:∀x∈hs,x<12): ∀(r:List Nat) (c:Nat) (owner:Array (Option Nat)),hs.drop c=r->c<=hs.length->Own mask hs c owner ->
  ∃ ow,(r.map (Int.ofNat)).foldl (fun acc h=>do
    let(owner,k) <- acc
    let j <- SetTable.layClean.free mask owner (SetTable.turns mask) (SetTable.bits h%(mask+1)) (SetTable.bits h)
    pure (owner.setIfInBounds j (some k),k+1)) (some (owner,c))=some (ow,hs.length)/\Own mask hs hs.length ow
 | [],c,owner,hd,hc,ho=>by
  have:c=hs.length:=by have:=g0d List.length hd;simp at this;lia
  subst this;exact⟨owner,rfl,ho⟩
 | x :: r,c,owner,hd,hc,ho=>by
  have hcl:c<hs.length:=by have:=g0d List.length hd;simp at this;lia
  have hx:hs[c]? = some x:=by
   have:=g0d (fun l=>l[0]?) hd
   simpa using this
  have hxm:x∈hs:=tw hx;have hx12:=hlt x hxm;have hb:SetTable.bits (Int.ofNat x)=x:=by unfold SetTable.bits;simp;lia
  have hmod:x%(mask+1)=x:=Nat.mod_eq_of_lt (by lia);have hnone:owner.getD x (some 0)=none:=by
   have hlt':x<owner.size:=by rw [ho.1];lia
   simp only [Array.getD,hlt', ↓reduceDIte,Array.getInternal_eq_getElem];cases e:owner[x] with
   | none=>rfl
   | some k=>
    have:owner[x]? = some (some k):=by rw [g5o hlt',e]
    obtain⟨h1,h2⟩:=(ho.2 x (by lia) k).mp this;have hkl:k<hs.length:=by lia
    rw [mj hkl] at h2;rw [mj hcl] at hx;have:=(g5s hnd).mp ((mf h2).trans (mf hx).symm);lia
  have hfree:SetTable.layClean.free mask owner (SetTable.turns mask) (SetTable.bits (Int.ofNat x)%(mask+1)) (SetTable.bits (Int.ofNat x))=some x:=by
   rw [hb,hmod];have:SetTable.turns mask=(mask+14)+1:=by unfold SetTable.turns;lia
   rw [this];exact qli hnone
  rw [gj,g69];have hstep:(do
    let(owner,k) <- some (owner,c)
    let j <- SetTable.layClean.free mask owner (SetTable.turns mask) (SetTable.bits (Int.ofNat x)%(mask+1)) (SetTable.bits (Int.ofNat x))
    pure (owner.setIfInBounds j (some k),k+1):Option (Array (Option Nat)×Nat))=some (owner.setIfInBounds x (some c),c+1):=by
   show(SetTable.layClean.free mask owner (SetTable.turns mask) (SetTable.bits (Int.ofNat x)%(mask+1)) (SetTable.bits (Int.ofNat x))).bind _=_;rw [hfree];rfl
  refine qc9 mask hm hs hnd hlt r (c+1) (owner.setIfInBounds x (some c)) ?_ hcl ⟨by simp [ho.1],fun j hj k=>?_⟩ |> fun⟨ow,a,b⟩=>⟨ow,?_,b⟩
  ·rw [<- List.tail_drop,hd];rfl
  ·rw [Array.getElem?_setIfInBounds]
   have hxs:x<owner.size:=by rw [ho.1];lia
   by_cases e:x=j
   ·subst e
    rw [md rfl,md hxs]
    constructor
    ·intro h;have:c=k:=by simpa using h
     subst this;exact⟨by lia,hx⟩
    ·rintro⟨h1,h2⟩
     have hkl:k<hs.length:=by lia
     rw [mj hkl] at h2;rw [mj hcl] at hx;have:=(g5s hnd).mp ((mf h2).trans (mf hx).symm);rw [this]
   ·rw [mi e,ho.2 j hj k]
    constructor
    ·rintro⟨h1,h2⟩;exact⟨by lia,h2⟩
    ·rintro⟨h1,h2⟩
     refine⟨?_,h2⟩;have:k≠c:=fun e2=>by subst e2;rw [hx] at h2;exact e (mf h2)
     lia
  ·rw [<- a];exact g0d (fun z=>List.foldl _ z _) hstep
theorem qca{mask:Nat}(hm:15<=mask){hs:List Nat}(hnd:hs.Nodup)(hlt:∀x∈hs,x<12): ∃ow,SetTable.layClean mask (hs.map Int.ofNat).toArray=some ow/\Own mask hs hs.length ow:=by
 obtain⟨ow,a,b⟩:=qc9 mask hm hs hnd hlt hs 0 (Array.replicate (mask+1) none) rfl (um _) ⟨by simp,fun j hj k=>by simp [Array.getElem?_replicate]⟩;refine⟨ow,?_,b⟩;unfold SetTable.layClean;rw [List.foldl_toArray',a]
 ·rfl
 ·simp
theorem qlj{mask:Nat}{hs:List Nat}(hnd:hs.Nodup)(hlt:∀x∈hs,x<=mask){ow:Array (Option Nat)}(ho:Own mask hs hs.length ow):
  let live:=(List.range (mask+1)).filterMap fun j=>(ow.getD j none).map (j, ·)
  (live.map Prod.fst).Pairwise (· < ·)/\(∀p∈live,hs[p.2]? = some p.1)/\(live.map Prod.snd).Perm (List.range hs.length):=by
 intro live;have hmem:∀p:Nat×Nat,p∈live↔hs[p.2]? = some p.1:=by
  intro p;obtain⟨j,k⟩:=p;simp only [live,g52,uc,m8];have hg:∀j,j<=mask->(ow.getD j none=some k↔hs[k]? = some j):=fun j hj=>by
   have hlt':j<ow.size:=by rw [ho.1];lia
   have:ow.getD j none=some k↔ow[j]? = some (some k):=by
    simp [Array.getD,hlt']
   rw [this,ho.2 j hj k];exact⟨fun h=>h.2,fun h=>⟨(nh.mp h).1,h⟩⟩
  constructor
  ·rintro⟨j',hj',k',e,e2⟩
   injection e2 with e3 e4
   subst e3;subst e4;exact(hg _ (by lia)).mp e
  ·intro h
   have hj:=hlt j (tw h);exact⟨j,by lia,k,(hg j hj).mpr h,rfl⟩
 have hf:live.map Prod.fst=(List.range (mask+1)).filter (fun j=>(ow.getD j none).isSome):=by
  simp only [live];generalize List.range (mask+1)=l
  induction l with
  | nil=>rfl
  | cons a l ih=>
   rw [g1e,ph];cases e:ow.getD a none with
   | none=>simpa using ih
   | some k=>simpa using ih
 have hpw:(live.map Prod.fst).Pairwise (· < ·):=by
  rw [hf];exact g0s _ g45
 refine⟨hpw,fun p hp=>(hmem p).mp hp,?_⟩;have hn2:(live.map Prod.snd).Nodup:=by
  have h1:=qlh hpw;refine g0b.mpr ?_;have h1':=g0b.mp h1;refine g23 ?_ h1';intro p q hp hq hne e;have a:=(hmem p).mp hp;have b:=(hmem q).mp hq;rw [e,b] at a;exact hne (mf a).symm
 refine(g5g hn2 g2q).mpr fun k=>?_;rw [uc,ng]
 constructor
 ·rintro⟨p,hp,rfl⟩
  exact(nh.mp ((hmem p).mp hp)).1
 ·intro hk
  exact⟨(hs[k],k),(hmem _).mpr (mj hk),rfl⟩
theorem range_all{α : Type}: ∀l:List α,(List.range l.length).filterMap (l[·]?)=l
 | []=>rfl
 | a :: l=>by
  rw [p8,g2c,g1e];simp only [g3r,g35];have:((fun x=>(a :: l)[x]?) ∘ Nat.succ)=(l[·]?):=by funext i;simp
  rw [this,range_all l]
theorem q6x{mask f m:Nat}{led:Bool}(hm:mask=15\/mask=31\/mask=63){ks:List (Nat×Nat)}(hnd:(ks.map Prod.fst).Nodup)(hlt:∀p∈ks,p.1<12):
  ∃t order ks',SetTable.laid mask f m led true ((ks.map el).toArray.map (·.1))=some (t,order)/\order.filterMap ((ks.map el).toArray[·]?)=(ks'.map el).toArray/\ks'.Perm ks/\Tb t ks'/\t.mask=mask/\t.led=led /\
   coversAll order ks.length=true:=by
 have hlt':∀x∈ks.map Prod.fst,x<12:=fun x hx=>by obtain⟨p,hp,rfl⟩:=ng.mp hx;exact hlt p hp
 obtain⟨ow,a,b⟩:=qca (mask:=mask) (by lia) hnd hlt';obtain⟨h1,h2,h3⟩:=qlj hnd (fun x hx=>by have:=hlt' x hx;lia) b;generalize hlv:((List.range (mask+1)).filterMap fun j=>(ow.getD j none).map (j, ·))=live at h1 h2 h3;have ehs:(ks.map el).toArray.map (·.1)=((ks.map Prod.fst).map Int.ofNat).toArray:=by
  simp [el,g5j]
 have h3':(live.map Prod.snd).Perm (List.range ks.length):=by simpa using h3
 let ks':=live.filterMap (fun p=>ks[p.2]?)
 have hk2:∀p∈live,∃q,ks[p.2]? = some q/\q.1=p.1:=fun p hp=>by
  have:=h2 p hp;rw [mv,m8] at this;exact this
 have hfst:ks'.map Prod.fst=live.map Prod.fst:=by
  simp only [ks'];clear h3 h3' h1 hlv h2
  induction live with
  | nil=>rfl
  | cons p l ih=>
   obtain⟨q,e,e2⟩:=hk2 p (gq ..);rw [g1e,e,gj,gj,e2,ih (fun r hr=>hk2 r (gr _ hr))]
 have hperm:ks'.Perm ks:=by
  have e1:ks'=(live.map Prod.snd).filterMap (ks[·]?):=by rw [g35];rfl
  rw [e1];refine(List.Perm.filterMap _ h3').trans ?_;rw [range_all]
 refine⟨{mask:=mask,place:=(live.map (·.1)).toArray,dummies:= #[],finger:=f,led:=led,moves:=m,plain:=true},(live.map (·.2)).toArray,ks',?_,?_,hperm,?_,rfl,rfl,?_⟩
 ·unfold SetTable.laid
  rw [ehs,a];simp only [Option.bind_eq_bind,ma,hlv]
  rfl
 ·rw [List.filterMap_toArray]
  congr 1
  rw [g35];have e3:((fun x=>(ks.map el).toArray[x]?) ∘ fun x:Nat×Nat=>x.2)=fun p=>(ks[p.2]?).map el:=by
   funext p;simp
  rw [e3];simp only [ks'];rw [List.map_filterMap]
 ·refine⟨rfl,rfl,?_,?_,?_,?_,.inr ⟨hm,?_⟩⟩
  ·exact((hperm.map Prod.fst).nodup_iff).mpr hnd
  ·exact fun p hp=>hlt p (hperm.mem_iff.mp hp)
  ·have:=g0d List.length hfst
   simpa using this.symm
  ·simpa using h1
  ·simpa using hfst.symm
 ·unfold coversAll
  rw [List.isPerm_iff]
  simpa using h3'
theorem q85{α : Type}: ∀(l:List α) {i:Nat} (hi:i<l.length),([l[i]]++l.eraseIdx i).Perm l
 | [],i,hi=>by simp at hi
 | a :: l,0,hi=>by simp
 | a :: l,i+1,hi=>by
  have:=q85 l (i:=i) (by simpa using hi);simp only [g2e,g3p,g4a,g0v] at this ⊢;exact(List.Perm.swap _ _ _).trans (List.Perm.cons _ this)
theorem q9u{α : Type}(nx:Nat->Nat): ∀(f k:Nat) (l:List α) (out:Array α),l.length<=f->((pickOrder.go nx f k l out).toList).Perm (out.toList++l)
 | 0,k,l,out,h=>by
  have:l=[]:=by cases l <;> simp_all
  subst this;simp [pickOrder.go]
 | f+1,k,[],out,h=>by simp [pickOrder.go]
 | f+1,k,a :: l,out,h=>by
  have hi:nx k%(a :: l).length<(a :: l).length:=Nat.mod_lt _ (by simp);unfold pickOrder.go;rw [mj hi];refine(q9u nx f (k+1) _ _ (by rw [List.length_eraseIdx];simp only [hi,p0];simp at h ⊢;lia)).trans ?_;rw [Array.toList_push,n8];exact g09 _ (q85 _ hi)
theorem q3k{α : Type}(nx:Nat->Nat)(xs:Array α): ((pickOrder nx xs).toList).Perm xs.toList:=by
 unfold pickOrder;have:=q9u nx xs.size 0 xs.toList #[] (by simp)
 simpa using this
theorem q33{n:Nat}(h:8<=n)(h2:n<64): (SetTable.sizeAbove n=16/\n<16)\/(SetTable.sizeAbove n=32/\16<=n/\n<32)\/(SetTable.sizeAbove n=64/\32<=n):=by
 have:∀n<64,8<=n->((SetTable.sizeAbove n=16/\n<16)\/(SetTable.sizeAbove n=32/\16<=n/\n<32)\/(SetTable.sizeAbove n=64/\32<=n)):=by decide +kernel
 exact this n h2 h
abbrev byT(w:World): Bool:=w.params.followText "set-order"
structure SI(w:World)(h:Heap)(a:Addr)(t:SetTable)(ks:List (Nat×Nat)): Prop where
 ob:∃o ep,h.get? a=some o/\o.ExactSet/\o.data=.set (ks.map el).toArray ep t
 tb:Tb t ks
 ld:t.led = !byT w
section
variable{prog:Program}{w:World}{A:Around}{E:Value->Shared->Prop}{s:Shared}{a:Addr}{t:SetTable}{ks:List (Nat×Nat)}
theorem q3z{n:Nat}(h:n<12): (intKind prog w).hash (n:Int)=(n:Int):=by
 have:∀n<12,hashInt ((n:Nat):Int)=((n:Nat):Int):=by decide
 exact this n h
theorem elems(hl:∀p∈ks,p.1<12): ElemsOf (intKind prog w) (ks.map el):=by
 intro e he;obtain⟨p,hp,rfl⟩:=ng.mp he;exact⟨⟨(p.1:Int),g4t _ _ _ _,(q3z (hl p hp)).symm⟩,rfl⟩
theorem q40(T:Tb t ks)(h7:t.mask=7->ks.length<8): t.fits (ks.map el).toArray.size=true:=by
 have:=T.fits h7;simpa using this
theorem qos{n:Nat}(h:n∈ks.map Prod.fst): ∃j,List.findIdx? (fun e=>(intKind prog w).is (n:Int) e.2) (ks.map el)=some j:=by
 obtain⟨p,hp,rfl⟩:=ng.mp h;cases e:List.findIdx? (fun e=>(intKind prog w).is (p.1:Int) e.2) (ks.map el) with
 | some j=>exact⟨j,rfl⟩
 | none=>
  have:=g5p.mp e (el p) (g1g hp);have h2:(intKind prog w).is (p.1:Int) (el p).2=true:=g4t _ _ _ _;rw [h2] at this;exact absurd this (by decide)
theorem qlk{n:Nat}(h:n∉ks.map Prod.fst): List.findIdx? (fun e=>(intKind prog w).is (n:Int) e.2) (ks.map el)=none:=by
 refine g5p.mpr fun e he=>?_;obtain⟨p,hp,rfl⟩:=ng.mp he;cases e:(intKind prog w).is (n:Int) (el p).2 with
 | false=>rfl
 | true=>
  have:=(intKind prog w).inj (el p).2 _ _ e (g4t _ _ (p.1:Int) p.2);have:n=p.1:=by lia
  exact absurd (g1g hp) (this ▸ h)
def Step(t:SetTable)(ks:List (Nat×Nat))(p:Nat×Nat)(t':SetTable)(ks':List (Nat×Nat)): Prop:=
 Tb t' ks'/\t'.led=t.led/\if p.1∈ks.map Prod.fst then ks'=ks/\t'=t else
  ks'.Perm (p :: ks)/\t'.mask=(if(ks.length+1)*5>=t.mask*3 then SetTable.sizeAbove ((ks.length+1)*4)-1 else t.mask)
theorem qot{h:Heap}{o:Obj}{es es':Array (Int×Value)}{ep:Nat}{t t':SetTable}(ho:h.get? a=some o)(hd:o.data=.set es ep t):
  (h.update a (Obj.putSet es' t')).get? a=some {o with data:=.set es' (ep+1) t'}:=by
 have:=g11 (Obj.putSet es' t') ho (by rw [putSet_of es' t' hd];rfl);rw [putSet_of es' t' hd] at this;exact this
theorem SI.put{h:Heap}{t':SetTable}{ks':List (Nat×Nat)}(S:SI w h a t ks)(T':Tb t' ks')(hl:t'.led=t.led): SI w (h.update a (Obj.putSet (ks'.map el).toArray t')) a t' ks':=by
 obtain⟨o,ep,ho,hx,hd⟩:=S.ob;exact⟨⟨_,_,qot ho hd,hx,rfl⟩,T',by rw [hl];exact S.ld⟩
theorem size_le(T:Tb t ks): (ks.map el).toArray.size<=sizeLine:=by
 have:=T.n12;rw [g2b];simp;lia
theorem qis{n k:Nat}{Q:Bool->Shared->Prop}(S:SI w s.heap a t ks)(hn:n<12)(h7:t.mask=7->ks.length<7)
  (h:∀h' t' ks',Heap.SameBut a s.heap h'->SI w h' a t' ks'->Step t ks (n,k) t' ks'->Q (!(decide (n∈ks.map Prod.fst))) {s with heap:=h'}) :
  wpAny (model prog w) A (setAddHashed a (.int (n:Int) k) (n:Int)) Q E s:=by
 obtain⟨o,ep,ho,hx,hd⟩:=id S.ob;have T:=S.tb;have hf:t.fits (ks.map el).toArray.size=true:=q40 T (fun e=>by have:=h7 e;lia);have hel:ElemsOf (intKind prog w) (ks.map el).toArray.toList:=by simpa using elems T.lt
 have hn12:=T.n12;unfold setAddHashed setAddHashedIn;refine ni (g0 (g3w ho hd hf ?_));dsimp only;rw [byScan_of (knd:=intKind prog w) rfl (by unfold scanBound;simp;lia) hel];simp only [↓reduceIte];unfold setAddByScan;refine g0 ?_;refine g0 (g06 ?_);have hsc:=@wpAny_setScan_of prog w Int _ (intKind prog w) A E s a o (ks.map el).toArray ep t (.int (n:Int) k) (n:Int) true;rw [q3z hn] at hsc;refine g0 (hsc (g4t _ _ _ _) ho hd hf hel ?_)
 by_cases hm:n∈ks.map Prod.fst
 ·obtain⟨j,hj⟩:=qos (prog:=prog) (w:=w) hm
  have hj':List.findIdx? (fun e=>(intKind prog w).is (n:Int) e.2) (ks.map el).toArray.toList=some j:=by simpa using hj
  rw [hj'];dsimp only;refine g9 (g9 ?_);have e:s = {s with heap:=s.heap}:=by cases s;rfl
  have:=h s.heap t ks (g1u a s.heap) S ⟨T,rfl,by rw [md hm];exact⟨rfl,rfl⟩⟩;rw [nk hm] at this;rw [e];exact this
 ·have hj':List.findIdx? (fun e=>(intKind prog w).is (n:Int) e.2) (ks.map el).toArray.toList=none:=by simpa using qlk (prog:=prog) (w:=w) hm
  rw [hj'];dsimp only;obtain⟨t1,ks1,hL,T1,p1,m1,l1,f1,v1⟩:=lay T (k:=k) hn hm h7;rw [hL];dsimp only;have hgw:∀(b:Bool) {s₁:Shared} {Q':Unit->Shared->Prop},Q' () s₁->wpAny (model prog w) A (match b with|true=>rule "set.scan.the-table-gave-way" | false=>pure ()) Q' E s₁:=
   fun b s₁ Q' hq=>by cases b <;> first|exact g9 hq|exact g06 hq
  refine g0 (hgw false ?_);rw [T1.pl];simp only [↓reduceIte];rw [hashByValue_scannable 8 rfl];refine g0 (g9 ?_);simp only [plainKind, ↓reduceIte];have S1:SI w (s.heap.update a (Obj.putSet (ks1.map el).toArray t1)) a t1 ks1:=S.put T1 l1;have hsb1:=g07 s.heap a (Obj.putSet (ks1.map el).toArray t1);have hlen:ks1.length=ks.length+1:=by rw [p1.length_eq];rfl
  have htf:t1.tooFull=decide ((ks.length+1)*5>=t.mask*3):=by
   unfold SetTable.tooFull SetTable.fill;have:t1.place.size=ks.length+1:=by rw [<- hlen, <- T1.sz];simp
   rw [T1.dm,this,m1];simp
  refine g0 (g2h ho hd ?_ (size_le T1))
  by_cases hfull:(ks.length+1)*5>=t.mask*3
  ·rw [htf,nk hfull]
   simp only [g2j,g6t, ↓reduceIte];have hn1:=T1.n12;have hg:SetTable.grown (ks1.map el).toArray.size=(ks.length+1)*4:=by
    unfold SetTable.grown;simp only [gv,mn,hlen];rw [mi (by lia)]
   have hsa:SetTable.sizeAbove ((ks.length+1)*4)-1=15\/SetTable.sizeAbove ((ks.length+1)*4)-1=31\/SetTable.sizeAbove ((ks.length+1)*4)-1=63:=by
    have hm7:7<=t.mask:=by rcases T.mz with⟨e,_⟩|⟨e,_⟩ <;> lia
    rcases q33 (n:=(ks.length+1)*4) (by lia) (by lia) with h|h|h <;> lia
   obtain⟨t2,ord,ks2,e2,f2,p2,T2,m2,l2,c2⟩:=q6x (f:=t1.finger) (m:=t1.movedTo (SetTable.sizeAbove ((ks.length+1)*4)-1)) (led:=t1.led) hsa T1.nd T1.lt;have hrl:t1.relaid ((ks1.map el).toArray.map (·.1)) (SetTable.grown (ks1.map el).toArray.size)=some (t2,ord):=by
    unfold SetTable.relaid;rw [hg,T1.pl];exact e2
   have hlen2:ks2.length=ks1.length:=p2.length_eq;have hra:relayAll t1 (ks1.map el).toArray (SetTable.grown (ks1.map el).toArray.size)=((ks2.map el).toArray,t2,false):=by
    unfold relayAll;rw [hrl];dsimp only;rw [f2];have hc:coversAll ord (ks1.map el).toArray.size=true:=by simpa using c2
    have hft:t2.fits (ks2.map el).toArray.size=true:=q40 T2 (fun e=>by lia);rw [hc,hft];rfl
   rw [hra];dsimp only;refine g0 (hgw false ?_);obtain⟨o1,ep1,ho1,hx1,hd1⟩:=id S1.ob;refine g0 (g2h ho1 hd1 ?_ (size_le T2));refine g9 ?_;dsimp only;refine g9 ?_;have:=h _ t2 ks2 (hsb1.trans (g07 _ a _)) (S1.put T2 l2) ⟨T2,l2.trans l1,by
    rw [mi hm,md hfull];exact⟨p2.trans p1,m2⟩⟩
   rw [p9 hm] at this;exact this
  ·rw [htf,p9 hfull]
   simp only [g2j,g5e,gh, ↓reduceIte];refine g9 ?_;have:=h _ t1 ks1 hsb1 S1 ⟨T1,l1,by rw [mi hm,mi hfull];exact⟨p1,m1⟩⟩;rw [p9 hm] at this;exact g9 this
end
theorem q6y{α β : Type}[DecidableEq α]{f : α -> β}: ∀ {l:List β} {ks:List α},l.Perm (ks.map f)->∃ls:List α,ls.Perm ks/\l=ls.map f
 | [],ks,h=>by
  have:ks=[]:=by simpa using h.symm
  exact⟨[],by rw [this],rfl⟩
 | x :: l,ks,h=>by
  have hx:x∈ks.map f:=h.mem_iff.mp (gq ..);obtain⟨p,hp,rfl⟩:=ng.mp hx;have h1:=List.perm_cons_erase hp;have h2:(f p :: l).Perm (f p :: (ks.erase p).map f):=h.trans (h1.map f);obtain⟨ls,a,e⟩:=q6y (List.Perm.cons_inv h2);exact⟨p :: ls,(List.Perm.cons _ a).trans h1.symm,by rw [e];rfl⟩
section
variable{prog:Program}{w:World}{A:Around}{E:Value->Shared->Prop}{s:Shared}{a b:Addr}{t u:SetTable}{ks ls:List (Nat×Nat)}
theorem SI.state{Q:(Array (Int×Value)×Nat×SetTable)->Shared->Prop}(S:SI w s.heap a t ks)(h7:t.mask=7->ks.length<8)
  (h:∀ep,(∃o,s.heap.get? a=some o/\o.ExactSet/\o.data=.set (ks.map el).toArray ep t)->Q ((ks.map el).toArray,ep,t) s):wpAny (model prog w) A (setState a) Q E s:=by
 obtain⟨o,ep,ho,hx,hd⟩:=S.ob;exact g3w ho hd (q40 S.tb h7) (h ep ⟨o,ho,hx,hd⟩)
theorem SI.keep{h h':Heap}(S:SI w h a t ks)(e:∀o,h.get? a=some o->h'.get? a=some o): SI w h' a t ks:=by
 obtain⟨o,ep,ho,r⟩:=S.ob;exact⟨⟨o,ep,e o ho,r⟩,S.tb,S.ld⟩
theorem q86{es:Array (Int×Value)}{t':SetTable}{ord:Array Nat}{es':Array (Int×Value)}{α : Type}{F:Array (Int×Value)×SetTable->Sem α}{Q : α -> Shared->Prop}(e:ord.filterMap (es[·]?)=es')(hs:es'.size=es.size)
  (h:wpAny (model prog w) A (F (es',t')) Q E s) :
  wpAny (model prog w) A ((do
   let some (t,order):=some (t',ord)|unsupported "internal:set-table-without-room"
   let es':=order.filterMap (es[·]?)
   if es'.size != es.size then unsupported "internal:set-table-lost-an-element"
   pure (es',t):Sem (Array (Int×Value)×SetTable)) >>= F) Q E s:=by
 refine g0 ?_;dsimp only;rw [e];have:(es'.size != es.size)=false:=by simp [hs]
 rw [this];simp only [gh, ↓reduceIte];exact g9 h
theorem qll{wanted:Nat}{Q:Unit->Shared->Prop}(S:SI w s.heap a t ks)(h7:t.mask=7->ks.length<8)(hw:8<=wanted)(hw2:wanted<64)
  (h:∀h' t' ks',Heap.SameBut a s.heap h'->SI w h' a t' ks'->t'.mask=SetTable.sizeAbove wanted-1->ks'.Perm ks->Q () {s with heap:=h'}) :
  wpAny (model prog w) A (setRelay a wanted) Q E s:=by
 unfold setRelay;refine g0 (S.state h7 fun ep ⟨o,ho,hx,hd⟩=>?_);dsimp only;have hc:=q33 hw hw2;have hsz:¬(SetTable.sizeAbove wanted>sizeLine):=by rw [g2b];lia
 rw [mi hsz];obtain⟨t2,ord,ks2,e2,f2,p2,T2,m2,l2,c2⟩:=q6x (f:=t.finger) (m:=t.movedTo (SetTable.sizeAbove wanted-1)) (led:=t.led) (mask:=SetTable.sizeAbove wanted-1) (by lia) S.tb.nd S.tb.lt;have hrl:t.relaid ((ks.map el).toArray.map (·.1)) wanted=some (t2,ord):=by
  unfold SetTable.relaid;rw [S.tb.pl];exact e2
 rw [hrl];refine q86 f2 (by simp [p2.length_eq]) ?_;dsimp only;refine g2h ho hd ?_ (size_le T2);exact h _ t2 ks2 (g07 _ a _) (S.put T2 l2) m2 p2
theorem wp_walk{Q:Array (Int×Value)->Shared->Prop}(S:SI w s.heap a t ks)(h7:t.mask=7->ks.length<8)
  (h:∀ls:List (Nat×Nat),ls.Perm ks->Q (ls.map el).toArray s):wpAny (model prog w) A (setWalk a) Q E s:=by
 unfold setWalk;refine g0 (S.state h7 fun ep _=>?_);dsimp only;unfold setsByText;refine g0 (g0 (g01 (g9 ?_)))
 by_cases hb:byT w=true
 ·refine u9 (fun _=>?_) (fun c=>absurd hb c)
  refine g0 (g01 (g9 ?_));have hp:=q3k ((⟨(model prog w).prog,(model prog w).w.params⟩:Setting).params.setOrder a ep) (ks.map el).toArray;generalize pickOrder ((⟨(model prog w).prog,(model prog w).w.params⟩:Setting).params.setOrder a ep) (ks.map el).toArray=xs at hp;have hp':xs.toList.Perm (ks.map el):=by simpa using hp
  obtain⟨ls,hl,e⟩:=q6y hp';have:=h ls hl;rw [<- e] at this;exact this
 ·refine u9 (fun c=>absurd c hb) (fun _=>?_)
  refine u9 (fun c=>?_) (fun _=>?_)
  ·have c':(!t.plain&&decide ((ks.map el).toArray.size>1))=true:=c
   rw [S.tb.pl] at c';simp at c'
  ·have hld:t.led=true:=by rw [S.ld];simpa using hb
   show wpAny _ _ ((do if !t.led&&(ks.map el).toArray.size>1 then unsupported "set:maker-not-led" : Sem Unit) >>= fun _=>pure (ks.map el).toArray) _ _ _;rw [hld];simp only [g0z,g3e,gh, ↓reduceIte];exact g0 (g9 (g9 (h ks (g4y _))))
end
section
variable{prog:Program}{w:World}{A:Around}{E:Value->Shared->Prop}{s:Shared}{a b:Addr}{t u:SetTable}{ks ls:List (Nat×Nat)}
theorem qit{os:List Addr}{f:Option Addr}{Q:Array (Int×Value)->Shared->Prop}(S:SI w s.heap a t ks)(h7:t.mask=7->ks.length<8)
  (h:∀ls:List (Nat×Nat),ls.Perm ks->Q (ls.map el).toArray s):wpAny (model prog w) A (setWalkUnseen a os f) Q E s:=by
 unfold setWalkUnseen;refine g0 (S.state h7 fun ep _=>?_);dsimp only;refine g0 ?_;unfold setsByText;refine g0 (g01 (g9 ?_));dsimp only;refine u9 (fun _=>?_) (fun c=>?_)
 ·exact wp_walk S h7 h
 ·refine absurd ?_ c
  have:t.led = !(model prog w).w.params.followText "set-order" :=S.ld;rw [this,S.tb.pl];cases(model prog w).w.params.followText "set-order" <;> simp
theorem qfb{ep:Nat}{ob:Obj}{each:Sem Unit}(hab:a≠b)(hob:∀ {s':Shared} {Q:(Array (Int×Value)×Nat×SetTable)->Shared->Prop},s'.heap.get? b=some ob->Q ((ls.map el).toArray,ep,u) s'->wpAny (model prog w) A (setState b) Q E s')
  (hea:∀ {s':Shared} {Q:Unit->Shared->Prop},s'.heap.get? b=some ob->Q () s'->wpAny (model prog w) A each Q E s') :
  ∀(r:List (Nat×Nat)) (s:Shared) (t:SetTable) (ks:List (Nat×Nat)) (Q:Unit->Shared->Prop),(∀p∈r,p.1<12)->SI w s.heap a t ks->(ks.length+r.length)*5<t.mask*3->s.heap.get? b=some ob ->
  (∀h' t' ks',Heap.SameBut a s.heap h'->SI w h' a t' ks'->t'.mask=t.mask->(∀n,n∈ks'.map Prod.fst↔n∈ks.map Prod.fst\/n∈r.map Prod.fst)->ks'.length<=ks.length+r.length->Q () {s with heap:=h'}) ->
  wpAny (model prog w) A (forIn (r.map el) PUnit.unit fun(x:Int×Value) (_:PUnit)=>do
   let _ <- holding [x.2] (setAddHashed a x.2 x.1)
   each
   if(<- setState b).2.1 != ep then unsupported "set.changed-during-merge"
   pure (ForInStep.yield PUnit.unit)) Q E s
 | [],s,t,ks,Q,hr,S,hm,hb,h=>by
  simp only [g0x,g3g];refine g9 ?_;have:=h s.heap t ks (g1u _ _) S rfl (fun n=>by simp) (by simp);exact this
 | p :: r,s,t,ks,Q,hr,S,hm,hb,h=>by
  simp only [gj,g28];have hp:=hr p (gq ..);have hml:(ks.length+1+r.length)*5<t.mask*3:=by simp only [p8] at hm;lia
  refine g0 ?_;refine g0 (ni (qis (n:=p.1) (k:=p.2) S hp (fun e=>by lia) fun h' t' ks' hsb S' st=>?_));have hb':h'.get? b=some ob:=by rw [hsb.2 b (fun e=>hab e.symm)];exact hb
  obtain⟨T',l',c⟩:=st;have hlen:ks'.length<=ks.length+1/\t'.mask=t.mask/\(∀n,n∈ks'.map Prod.fst↔n∈ks.map Prod.fst\/n=p.1):=by
   split at c
   ·rename_i hin
    obtain⟨rfl,rfl⟩:=c;exact⟨by lia,rfl,fun n=>⟨.inl,fun h=>h.elim id (fun e=>e ▸ hin)⟩⟩
   ·obtain⟨c1,c2⟩:=c
    rw [mi (by lia)] at c2;refine⟨by rw [c1.length_eq];simp,c2,fun n=>?_⟩;rw [(c1.map Prod.fst).mem_iff,gj,mm];exact Or.comm
  refine g0 (hea (s':={s with heap:=h'}) hb' ?_);refine g0 (hob (s':={s with heap:=h'}) hb' ?_);dsimp only;rw [mi (by simp)];refine g9 ?_;refine qfb hab hob hea r {s with heap:=h'} t' ks' Q (fun q hq=>hr q (gr _ hq)) S' (by rw [hlen.2.1];lia) hb' fun h2 t2 ks2 sb2 S2 m2 i2 l2=>?_;refine h h2 t2 ks2 (hsb.trans sb2) S2 (m2.trans hlen.2.1) (fun n=>?_) (by simp only [p8];lia);rw [i2 n,hlen.2.2 n,gj,mm,or_assoc]
theorem qou{m:Nat}{Q:Unit->Shared->Prop}(S:SI w s.heap a t ks)(h7:t.mask=7->ks.length<8)(hm:m<=12)
  (h:∀h' t' ks',Heap.SameBut a s.heap h'->SI w h' a t' ks'->ks'.Perm ks->(ks.length+m)*5<t'.mask*3 ->
   ((ks.length+m)*5<t.mask*3/\t'.mask=t.mask\/t'.mask=SetTable.sizeAbove ((ks.length+m)*2)-1/\t.mask*3<=(ks.length+m)*5)->Q () {s with heap:=h'}) :
  wpAny (model prog w) A (setRoomFor a m) Q E s:=by
 unfold setRoomFor;refine g0 (S.state h7 fun ep _=>?_);dsimp only;have hsz:t.place.size=ks.length:=by rw [<- S.tb.sz];simp
 have hfl:t.fill=ks.length:=by unfold SetTable.fill;rw [S.tb.dm,hsz];simp
 have hn:=S.tb.n12;unfold SetTable.roomFor;rw [hfl,hsz];have hmk:=S.tb.mz
 by_cases c:(ks.length+m)*5>=t.mask*3
 ·rw [md c]
  dsimp only;refine qll S h7 (by rcases hmk with⟨e,_⟩|⟨e,_⟩ <;> lia) (by lia) fun h' t' ks' sb S' m' p'=>?_;have hc:=q33 (n:=(ks.length+m)*2) (by rcases hmk with⟨e,_⟩|⟨e,_⟩ <;> lia) (by lia);exact h h' t' ks' sb S' p' (by lia) (.inr ⟨m',c⟩)
 ·rw [mi c]
  dsimp only;refine g9 ?_;exact h s.heap t ks (g1u _ _) S (g4y _) (by lia) (.inl ⟨by lia,rfl⟩)
theorem qcb{each:Sem Unit}{Q:Unit->Shared->Prop}(hab:a≠b)(S:SI w s.heap a t ks)(hbm:ks=[]->t.mask=7)(h7:t.mask=7->ks.length<8)(U:SI w s.heap b u ls)(hu:ls.length<5->u.mask=7)(hu7:u.mask=7->ls.length<8)
  (hea:∀ {s':Shared} {Q:Unit->Shared->Prop},s'.heap.get? b=s.heap.get? b->Q () s'->wpAny (model prog w) A each Q E s')
  (h:∀h' t' ks',Heap.SameBut a s.heap h'->SI w h' a t' ks'->(t'.mask=7->ks'.length<8)->(∀n,n∈ks'.map Prod.fst↔n∈ks.map Prod.fst\/n∈ls.map Prod.fst)->(ks=[]->ks'=[]->t'.mask=7)->Q () {s with heap:=h'}) :
  wpAny (model prog w) A (setMerge a b each) Q E s:=by
 unfold setMerge;have hne:(a==b)=false:=by simpa using hab
 rw [hne];simp only [gh, ↓reduceIte];have hn:=S.tb.n12;have hnu:=U.tb.n12;refine g0 (U.state hu7 fun ep ⟨o,ho,hx,hd⟩=>?_);dsimp only
 by_cases he:ls=[]
 ·subst he
  have:((([]:List (Nat×Nat)).map el).toArray).isEmpty=true:=rfl;rw [md this];refine g9 ?_;exact h s.heap t ks (g1u _ _) S h7 (fun n=>by simp) (fun e _=>hbm e)
 ·have:((ls.map el).toArray).isEmpty=false:=by cases ls <;> simp_all
  rw [this];simp only [gh, ↓reduceIte];have hsz:((ls.map el).toArray).size=ls.length:=by simp
  rw [hsz];refine g0 (qou S h7 hnu fun h1 t1 ks1 sb1 S1 p1 r1 q1=>?_);have U1:SI w h1 b u ls:=U.keep fun o e=>by rw [sb1.2 b (fun e=>hab e.symm)];exact e
  have ho1:h1.get? b=some o:=by rw [sb1.2 b (fun e=>hab e.symm)];exact ho
  have hl1:ks1.length=ks.length:=p1.length_eq;have hpos:0<ls.length:=List.length_pos_iff.mpr he;refine g0 (SI.state (s:={s with heap:=h1}) S1 (fun e=>by lia) fun ep1 ⟨o1,ho1',hx1,hd1⟩=>?_);dsimp only;have hfl:t1.fill=ks.length:=by unfold SetTable.fill;rw [S1.tb.dm, <- hl1, <- S1.tb.sz];simp
  unfold SetTable.road;rw [hfl,U.tb.dm]
  by_cases hk:ks=[]
  ·subst hk
   have hk1:ks1=[]:=by simpa using hl1
   subst hk1;simp only [g31,g3u,gh, ↓reduceIte];have hld:(t1.led&&u.led) = !byT w:=by rw [S1.ld,U.ld];simp
   have hpl:(t1.plain&&u.plain)=true:=by rw [S1.tb.pl,U.tb.pl];rfl
   by_cases hmk:t1.mask=u.mask
   ·have hc:((t1.mask==u.mask)&&(#[]:Array Nat).isEmpty)=true:=by simp [hmk]
    rw [hc];simp only [↓reduceIte];refine g2h (s:={s with heap:=h1}) ho1' hd1 ?_ (size_le U.tb);rw [hld,hpl];have T':Tb {u with dummies:= #[],finger:=t1.finger,led:= !byT w,moves:=t1.moves,plain:=true} ls:=⟨rfl,rfl,U.tb.nd,U.tb.lt,U.tb.sz,U.tb.rs,U.tb.mz⟩
    refine h _ _ ls (sb1.trans (g07 _ a _)) (S1.put T' (by rw [S1.ld])) hu7 (fun n=>by simp) (fun _ e=>absurd e he)
   ·have hc:((t1.mask==u.mask)&&(#[]:Array Nat).isEmpty)=false:=by simp [hmk]
    rw [hc];simp only [gh, ↓reduceIte];have ht7:=hbm rfl;have hm1:t1.mask=15\/t1.mask=31\/t1.mask=63:=by
     rcases S1.tb.mz with⟨e,_⟩|⟨e,_⟩
     ·exfalso
      have:ls.length<5:=by rw [e] at r1;simp at r1;lia
      exact hmk (e.trans (hu this).symm)
     ·exact e
    obtain⟨t2,ord,ks2,e2,f2,p2,T2,m2,l2,c2⟩:=q6x (f:=t1.finger) (m:=t1.moves) (led:=t1.led&&u.led) (mask:=t1.mask) hm1 U.tb.nd U.tb.lt;rw [hpl,e2];refine q86 f2 (by simp [p2.length_eq]) ?_;dsimp only;refine g2h (s:={s with heap:=h1}) ho1' hd1 ?_ (size_le T2);refine h _ t2 ks2 (sb1.trans (g07 _ a _)) (S1.put T2 (by rw [l2,hld,S1.ld])) (fun e=>by lia) (fun n=>?_) (fun _ e=>?_)
    ·rw [(p2.map Prod.fst).mem_iff];simp
    ·rw [e] at p2;exact absurd (by simpa using p2.symm) he
  ·have hfn:(ks.length != 0)=true:=by simp [hk]
   rw [hfn];simp only [↓reduceIte];refine g0 (qit (s:={s with heap:=h1}) U1 hu7 fun xs px=>?_);rw [<- Array.forIn_toList];have hxl:xs.length=ls.length:=px.length_eq;have key:=qfb (prog:=prog) (w:=w) (A:=A) (E:=E) (ls:=ls) (u:=u) (ep:=ep) (ob:=o) (each:=each) hab (fun {s'} {Q'} e q=>g3w e hd (q40 U.tb hu7) q) (fun {s'} {Q'} e q=>hea (by rw [e,ho]) q)
    xs {s with heap:=h1} t1 ks1 (fun _ s'=>wpAny (model prog w) A (pure ()) Q E s') (fun p hp=>U.tb.lt p (px.mem_iff.mp hp)) S1 (by rw [hl1,hxl];exact r1) ho1 (fun h2 t2 ks2 sb2 S2 m2 i2 l2=>?_)
   ·exact g0 key
   ·refine g9 ?_
    refine h h2 t2 ks2 (sb1.trans sb2) S2 (fun e=>by lia) (fun n=>?_) (fun e=>absurd e hk);rw [i2 n,(p1.map Prod.fst).mem_iff,(px.map Prod.fst).mem_iff]
end
theorem qcc:entryFor table "set.__or__" = some Builtin.«frozenset.__or__» :=
 entryFor_alias (id':="frozenset.__or__") (by kernel_rfl) rfl (by decide +kernel) (by kernel_rfl)
theorem qfc:isSubtype (.type "set") (.type "set")=pure true:=by rw [g2k];kernel_rfl
section
variable{prog:Program}{w:World}{A:Around}{E:Value->Shared->Prop}{s:Shared}{a b:Addr}{t u:SetTable}{ks ls:List (Nat×Nat)}
theorem SI.typeIs(S:SI w s.heap a t ks): s.TypeIs (.ref a) "set" :=let⟨o,_,ho,hc,_⟩:=S.ob; ⟨o,ho,hc.1⟩
def vh(w:World): Obj:={cls:=.type "set",dict:=none,data:=.set #[] 0 (.fresh 0 0 (!byT w))}
theorem qlm{led:Bool}: Tb (.fresh 0 0 led) []:=⟨rfl,rfl,by simp,by simp,by simp [SetTable.fresh],by simp [SetTable.fresh],.inl ⟨rfl,by simp [SetTable.fresh]⟩⟩
theorem qcd{h:Heap}(ho:h.get? a=some (vh w)): SI w h a (.fresh 0 0 (!byT w)) []:=⟨⟨_,0,ho,⟨rfl,rfl,rfl⟩,rfl⟩,qlm,rfl⟩
theorem qiu{Q:Value->Shared->Prop}(h:Q (.ref s.heap.objs.size) {s with heap:=s.heap.push (vh w)}): wpAny (model prog w) A (newSet (.type "set")) Q E s:=by
 unfold newSet setsByText;refine g0 (g0 (g01 (g9 ?_)));dsimp only;simp only [newObj];exact g0 (wpAny_alloc (g9 h))
theorem qce(S:SI w s.heap a t ks){Q:Bool->Shared->Prop}(h:Q true s): wpAny (model prog w) A (Builtin.Frozenset.isAnySet (.ref a)) Q E s:=by
 unfold Builtin.Frozenset.isAnySet;show wpAny _ _ (isInstance (.ref a) (.type "set") >>= fun b=>_) _ _ _;refine g0 (g2m S.typeIs qfc ?_);exact g9 h
theorem qt7{Q:Value->Shared->Prop}(hab:a≠b)(S:SI w s.heap a t ks)(hs:ks.length<5->t.mask=7)(hs7:t.mask=7->ks.length<8)(U:SI w s.heap b u ls)(hu:ls.length<5->u.mask=7)(hu7:u.mask=7->ls.length<8)
  (h:∀h' t' ks',(∀c o,c<s.heap.objs.size->s.heap.get? c=some o->h'.get? c=some o)->SI w h' s.heap.objs.size t' ks'->(t'.mask=7->ks'.length<8)->(∀n,n∈ks'.map Prod.fst↔n∈ks.map Prod.fst\/n∈ls.map Prod.fst)->Q (.ref s.heap.objs.size) {s with heap:=h'}) :
  wpAny (model prog w) A (binaryOp .BitOr (.ref a) (.ref b)) Q E s:=by
 refine wpAny_binaryOp_same S.typeIs U.typeIs F.fills_set_or F.slot_set_or (p7 F.slot_set_or S.typeIs qcc ?_ (F.args_set_or_2 _ _));have hla:a<s.heap.objs.size:=let⟨o,_,ho,_⟩:=S.ob;gz ho
 have hlb:b<s.heap.objs.size:=let⟨o,_,ho,_⟩:=U.ob;gz ho
 show wpAny _ _ ((Builtin.Frozenset.slot1 "__or__" ⟨[.ref a,.ref b],[]⟩) >>= _) _ _ _;refine g0 (g9 ?_);dsimp only;refine g0 ?_;show wpAny _ _ (Builtin.Frozenset.isAnySet (.ref a) >>= _) _ _ _;refine g0 (qce S ?_);refine qce U ?_;simp only [g0z,gh, ↓reduceIte];refine g0 (g9 ?_);refine g0 ?_;show wpAny _ _ (Builtin.Frozenset.copyOf a >>= _) _ _ _;refine g0 ?_;unfold Builtin.Frozenset.copyOf Builtin.Frozenset.baseOf;refine g0 (g0 (g2m S.typeIs qfc (g9 ?_)));simp only [↓reduceIte];refine g0 (qiu ?_);refine g0 (g9 ?_);have hget:(s.heap.push (vh w)).get? s.heap.objs.size=some (vh w):=gf _ rfl;have old:∀c o,s.heap.get? c=some o->(s.heap.push (vh w)).get? c=some o:=fun c o e=>gd _ e;refine g0 (qcb (s:={s with heap:=s.heap.push (vh w)}) (tu hla) (qcd hget) (fun _=>rfl) (fun _=>by simp) (S.keep (old a)) hs hs7 (fun _ q=>g9 q) fun h1 t1 ks1 sb1 S1 z1 i1 g1=>?_);refine g9 ?_;have old1:∀c o,c<s.heap.objs.size->s.heap.get? c=some o->h1.get? c=some o:=fun c o hc e=>by
  rw [sb1.2 c (m5 hc)];exact old c o e
 have hbne:((Value.ref b) != (Value.ref a))=true:=by simp [nj hab]
 rw [md hbne];have U1:SI w h1 b u ls:=U.keep fun o e=>old1 b o hlb e;refine g0 (g9 ?_);refine g0 (ni ?_);unfold Builtin.Frozenset.updateFrom;refine g0 (qce (s:={s with heap:=h1}) U1 ?_);simp only [↓reduceIte];refine g0 (g9 ?_);unfold Builtin.Frozenset.merge;obtain⟨ob,ep,hob,hxb,hdb⟩:=id U1.ob;refine g0 (wpAny_setEpoch_of (s:={s with heap:=h1}) hob hdb (q40 U.tb hu7) ?_);refine qcb (s:={s with heap:=h1}) (tu hlb) S1 (fun e=>g1 rfl e) z1 U1 hu hu7 (fun {s'} {Q'} e q=>?_) fun h2 t2 ks2 sb2 S2 z2 i2 g2=>?_
 ·unfold Builtin.Frozenset.unchanged
  have e':s'.heap.get? b=some ob:=e.trans hob;refine g0 (wpAny_setEpoch_of e' hdb (q40 U.tb hu7) ?_);rw [mi (by simp)];exact g9 q
 ·refine g9 (g9 ⟨_,rfl,by simp,?_⟩)
  refine h h2 t2 ks2 (fun c o hc e=>?_) S2 z2 (fun n=>?_)
  ·rw [sb2.2 c (m5 hc)];exact old1 c o hc e
  ·rw [i2 n,i1 n];simp
end
def MR(t:SetTable)(ks:List (Nat×Nat)): Prop:=(ks.length<5->t.mask=7)/\(5<=ks.length->t.mask=31)
theorem MR.step{t t':SetTable}{ks ks':List (Nat×Nat)}{p:Nat×Nat}(m:MR t ks)(st:Step t ks p t' ks'): MR t' ks':=by
 obtain⟨T',l',c⟩:=st
 split at c
 ·obtain⟨rfl,rfl⟩:=c;exact m
 ·obtain⟨c1,c2⟩:=c
  have hl:ks'.length=ks.length+1:=by rw [c1.length_eq];rfl
  have h12:=T'.n12
  by_cases h5:ks.length<4
  ·rw [m.1 (by lia),mi (by lia)] at c2
   exact⟨fun _=>c2,fun h=>by lia⟩
  ·by_cases h6:ks.length=4
   ·rw [m.1 (by lia),h6] at c2
    have:t'.mask=31:=by rw [c2];decide
    exact⟨fun h=>by lia,fun _=>this⟩
   ·rw [m.2 (by lia),mi (by lia)] at c2
    exact⟨fun h=>by lia,fun _=>c2⟩
theorem Step.mem{t t':SetTable}{ks ks':List (Nat×Nat)}{p:Nat×Nat}(st:Step t ks p t' ks')(n:Nat): n∈ks'.map Prod.fst↔n∈ks.map Prod.fst\/n=p.1:=by
 obtain⟨T',l',c⟩:=st
 split at c
 ·rename_i hin
  obtain⟨rfl,rfl⟩:=c;exact⟨.inl,fun h=>h.elim id (fun e=>e ▸ hin)⟩
 ·rw [(c.1.map Prod.fst).mem_iff,gj,mm]
  exact Or.comm
def iv(p:Nat×Nat): Value:=.int (p.1:Int) p.2
section
variable{prog:Program}{w:World}{A:Around}{R:Result->Shared->Prop}{I:Addr}{fp wr:List Addr}{G:Array GenState->Array GenState->Prop}{P:Nat->Value->Prop}{St:Nat->Shared->Prop}
theorem qln(qs:List (Nat×Nat))(hq:∀p∈qs,p.1<12)(W:WalksS prog w A.in1 I fp wr G qs.length P St)(S:Addr)(hSf:S∉fp)
  (hval:∀i v,P i v->∃p,qs[i]? = some p/\v=iv p) :
  ∀(k i:Nat) (s:Shared) (t:SetTable) (ks:List (Nat×Nat)),qs.length-i=k->i<=qs.length->St i s ->
   SI w s.heap S t ks->MR t ks->(∀n,n∈ks.map Prod.fst↔n∈(qs.take i).map Prod.fst) ->
   (∀s' t' ks',Moved (S :: wr) G s s'->SI w s'.heap S t' ks'->MR t' ks'->(∀n,n∈ks'.map Prod.fst↔n∈qs.map Prod.fst)->R (.ok (.ret .none)) s') ->
   codeAny (model prog w) A (.builtin "set.update.loop" ⟨[.ref S,.ref I],[]⟩) R s:=by
 have hSw:S∉wr:=fun h=>hSf (W.sub _ h);have hsub:∀b∈wr,b∈S :: wr:=fun b hb=>gr _ hb;intro k
 induction k with
 | zero=>
  intro i s t ks hk hi hst hS hM hmem hR;have hin:i=qs.length:=by lia
  subst hin;refine ui g3b ?_;rw [t9 g1n _];show wpAny _ A.in1 (pyNext (.ref I) >>= _) _ _ s;refine g0 (W.done s _ _ hst fun s' hm=>?_);show wpAny _ A.in1 (ret Value.none) _ _ s';exact g9 (hR s' t ks (hm.mono hsub) (hS.keep fun o e=>hm.heap S _ hSw e) hM (by simpa using hmem))
 | succ k ih=>
  intro i s t ks hk hi hst hS hM hmem hR;have hlt:i<qs.length:=by lia
  refine ui g3b ?_;rw [t9 g1n _];show wpAny _ A.in1 (pyNext (.ref I) >>= _) _ _ s;refine g0 (W.item i s _ _ hlt hst fun v s' hP hst' hm=>?_);obtain⟨p,hp,rfl⟩:=hval i v hP;have hp12:=hq p (tw hp);have hS':SI w s'.heap S t ks:=hS.keep fun o e=>hm.heap S _ hSw e;show wpAny _ A.in1 (holding [iv p] (setAdd S (iv p)) >>= _) _ _ s';refine g0 (ni ?_);unfold setAdd;refine ni ?_;refine g0 ((intKind prog w).pyHash (k:=(p.1:Int)) (g4t _ _ _ _) ?_);rw [q3z hp12];refine qis (s:={s' with toks:=s'.toks+1}) hS' hp12 (fun e=>g1x fun c=>by have:=hM.2 (by lia);lia) fun h' t' ks' hsb S2 st=>?_;refine g9 ⟨g0k g1n _,ih (i+1) _ t' ks' (by lia) hlt (W.frame _ s' _ _ hst' (g1i _) fun b hb o e=>?_) S2 (hM.step st) (fun n=>?_) fun s'' t'' ks'' hm'' hS'' hM'' hi''=>?_⟩
  ·rw [hsb.2 b (fun h:b=S=>hSf (by rw [<- h];exact hb))];exact e
  ·rw [st.mem n,hmem n]
   have:qs.take (i+1)=qs.take i++[p]:=by
    rw [g3l,hp];rfl
   rw [this,uj,nz];simp
  ·refine hR s'' t'' ks'' (Moved.trans W.gtrans ((hm.mono hsub).then_heap (g1i _) fun b o hb e=>?_) hm'') hS'' hM'' hi''
   rw [hsb.2 b (fun h:b=S=>hb (by rw [h];exact gq))];exact e
end
theorem sub_tuple_set:isSubtype (.type "tuple") (.type "set")=pure false:=by rw [g2k];kernel_rfl
theorem sub_tuple_frozenset:isSubtype (.type "tuple") (.type "frozenset")=pure false:=by rw [g2k];kernel_rfl
section
variable{prog:Program}{w:World}{A:Around}{E:Value->Shared->Prop}{s:Shared}
theorem qiv(a:Value){Q₁:Value->Shared->Prop}(h:Q₁ (.ref s.heap.objs.size) {s with heap:=s.heap.push (vh w)}):
  codeAny (model prog w) A (.call (.builtin "set.__new__") ⟨[.type "set",a],[]⟩) (wants Q₁ E) s:=by
 refine codeAny_of_tree ?_;show wpAny _ A.in1 (do checkBuiltinCall "set.__new__" ⟨[.type "set",a],[]⟩;again (.builtin "set.__new__" ⟨[.type "set",a],[]⟩)) _ _ s;refine g0 (g44 (F.newCall_set_1 a) (g9 ⟨g0k F.plain_set_new _,ui F.entry_set_new ?_⟩));rw [t9 F.plain_set_new _];unfold Builtin.«set.__new__» Builtin.Frozenset.newClass;have hsub:=sub_set_self;obtain⟨hp,g,d,tk,os⟩:=s;dsimp only
 wp_walk
 refine g01 (g9 ?_);dsimp only;simp only [newObj];refine g0 (wpAny_alloc (g9 ?_));exact g9 h
set_option maxHeartbeats 3200000 in
theorem q92{l:Addr}(qs:List (Nat×Nat))(hq:∀p∈qs,p.1<12){Q:Value->Shared->Prop}
  (hh:A.handled=none) (hl:s.heap.IsTuple l (qs.map iv).toArray)
  (h:∀(h':Heap) (tk:Nat) t ks,SI w h' s.heap.objs.size t ks->MR t ks->(∀n,n∈ks.map Prod.fst↔n∈qs.map Prod.fst)->s.toks<=tk ->
   (∀b o,b<s.heap.objs.size->s.heap.get? b=some o->h'.get? b=some o)->Q (.ref s.heap.objs.size) {s with heap:=h',toks:=tk}) :
  wpAny (model prog w) A (call (.type "set") [.ref l]) Q E s:=by
 obtain⟨c,tl,hmro⟩:=g24.mro;have hmade:=g24.made;have hsub:=g24.sub;refine g3f (codeAny_of_tree ?_);show wpAny _ _ (callAny (.type "set") _) _ _ _;refine g9 ⟨Code.quiet_builtin _ (by decide +kernel),ui F.entry_type_call ?_⟩;rw [Around.under_plain (weight_type_call_type "set" [.ref l] []) rfl];have h1:=g24.notType;have h2:=g24.canCreate;have hct:=F.typeCall_set_1 (.ref l)
 repeat (any_goals (first|assumption|wp_step))
 refine g33 (qiv (.ref l) (E:=E) (Q₁:=fun obj s₁=>obj=.ref s.heap.objs.size/\s₁ = {s with heap:=s.heap.push (vh w)}) ⟨rfl,rfl⟩) fun r s₁ hr=>?_;cases r with
 | error e=>exact hr
 | ok fl=>
  cases fl with
  | ret obj=>
   obtain⟨rfl,rfl⟩:=hr;have hS:(s.heap.push (vh w)).get? s.heap.objs.size=some (vh w):=gf _ rfl;have hT:Shared.TypeIs {s with heap:=s.heap.push (vh w)} (.ref s.heap.objs.size) "set" :=⟨_,hS,rfl⟩
   have hli:=g24.init.lookup;have hbi:=g24.init.bind (.ref s.heap.objs.size)
   repeat (any_goals (first|assumption|wp_step))
   refine g33 (g1w (R:=wants (fun r s₂=>r=.none/\∃h' tk t ks,s₂ = {s with heap:=h',toks:=tk}/\SI w h' s.heap.objs.size t ks/\MR t ks/\(∀n,n∈ks.map Prod.fst↔n∈qs.map Prod.fst)/\s.toks<=tk /\
     (∀b o,b<s.heap.objs.size->s.heap.get? b=some o->h'.get? b=some o)) E) g24.init.plain F.entry_set_init (check_set_init_1 hT ?_)) fun r₂ s₂ hr₂=>?_
   ·have hl1:(s.heap.push (vh w)).IsTuple l (qs.map iv).toArray:=hl.push _
    obtain⟨ol,hol,hcl,hdl⟩:=id hl1;have hsls:=sub_tuple_set;have hslf:=sub_tuple_frozenset;have hne:(Value.type "tuple" == Value.type "dict")=false:=by decide
    have hTl:Shared.TypeIs {s with heap:=s.heap.push (vh w)} (.ref l) "tuple" :=⟨_,hol,hcl⟩
    unfold Builtin.«set.__init__» noKeywords Builtin.Frozenset.updateFrom;generalize hPI:pyIter=PI
    wp_walk
    subst hPI;refine g36 hl1 ?_;refine g0 (wpAny_runValue ?_);have hlS:l<s.heap.objs.size:=let⟨_,h0,_⟩:=hl;gz h0
    have hh3:A.in1.in1.in1.handled=none:=by simp [hh]
    have hneI:l≠(s.heap.push (vh w)).objs.size:=by
     rw [t6];exact m5 (g0u hlS)
    have hSf:s.heap.objs.size∉[(s.heap.push (vh w)).objs.size,l]:=by
     rw [t6];simp only [mm,n9,g0h,g2d,g6j];exact⟨m5 (uk _),tu hlS⟩
    have hval:∀(i:Nat) (v:Value),(qs.map iv).toArray[i]? = some v->∃p,qs[i]? = some p/\v=iv p:=fun i v hv=>by
     simp only [List.getElem?_toArray,mv,m8] at hv;obtain⟨p,e1,e2⟩:=hv;exact⟨p,e1,e2.symm⟩
    have W:=(Walks.tuple (prog:=prog) (w:=w) hh3 (s.heap.push (vh w)).objs.size l hneI (qs.map iv).toArray).toS;have hsz:(qs.map iv).toArray.size=qs.length:=by simp
    rw [hsz] at W;refine qln qs hq W s.heap.objs.size hSf hval (qs.length-0) 0 _ (.fresh 0 0 (!byT w)) [] (by lia) (um _)
     ⟨⟨_,gf _ rfl,rfl,rfl⟩,(hl1.push _)⟩ (qcd (gd _ hS)) ⟨fun _=>rfl,fun h=>by simp at h⟩ (fun n=>by simp) fun s' t' ks' hm hS' hM' hi'=>?_
    obtain⟨h',g',d',tk',os'⟩:=s';have eg:g'=s.gens:=hm.gens;have ed:d'=s.drawn:=hm.drawn;have eo:os'=s.os:=hm.os;have etk:s.toks<=tk':=hm.toks;subst eg;subst ed;subst eo;show wpAny _ _ _ _ _ _;refine g9 ?_;show wpAny _ _ (ret Value.none) _ _ _;refine g9 ⟨rfl,h',tk',t',ks',rfl,hS',hM',hi',etk,fun b o hb e=>?_⟩;have hb1:b≠s.heap.objs.size:=m5 hb;have hb2:b≠(s.heap.push (vh w)).objs.size:=by
     rw [t6];exact m5 (g0u hb)
    exact hm.heap b o (by simp only [mm,n9,g0h,g2d,g6j];exact⟨hb1,hb2⟩) (gd _ (gd _ e))
   ·cases r₂ with
    | error e=>exact hr₂
    | ok fl₂=>
     cases fl₂ with
     | ret r=>
      obtain⟨rfl,h',tk,t,ks,rfl,hS',hM',hi',htk',hk'⟩:=hr₂
      repeat (any_goals (first|assumption|wp_step))
      exact h _ _ _ _ hS' hM' hi' htk' hk'
     | _=>exact hr₂.elim
  | _=>exact hr.elim
end
theorem qcf:Manifest.owners.lookup (String.ofList ['r','o','t','a','r','e','t','i','_','t','e','s'].reverse)=some Manifest.sig_set_iterator:=by kernel_rfl
theorem slot_si_next:Slot "set_iterator" "__next__" "set_iterator.__next__" :=
 .of (owner:="set_iterator") (n:="__next__") (by rw [g29,g12];kernel_rfl) (by decide +kernel) (by decide +kernel) (by decide +kernel)
  (by first|exact .inl (by decide +kernel)|exact .inr (by decide +kernel)) (by rw [g2k];kernel_rfl)
theorem q4i:entryFor table "set_iterator.__next__" = some Builtin.«set_iterator.__next__» :=entryFor_of_tree (by kernel_rfl)
theorem q57(a:Value): argsOk "set_iterator.__next__" ⟨[a],[]⟩:=by
 unfold argsOk;rw [signature?_of (id:="set_iterator.__next__") (n:=['_','_','t','x','e','n','_','_']) (o:=['r','o','t','a','r','e','t','i','_','t','e','s']) (by kernel_rfl) qcf];kernel_rfl
theorem q58:Slot "set_iterator" "__iter__" "set_iterator.__iter__" :=
 .of (owner:="set_iterator") (n:="__iter__") (by rw [g29,g12];kernel_rfl) (by decide +kernel) (by decide +kernel) (by decide +kernel)
  (by first|exact .inl (by decide +kernel)|exact .inr (by decide +kernel)) (by rw [g2k];kernel_rfl)
theorem qak:entryFor table "set_iterator.__iter__" = some Builtin.«dict_keyiterator.__iter__» :=
 entryFor_alias (id':="dict_keyiterator.__iter__") (by kernel_rfl) rfl (by decide +kernel) (by kernel_rfl)
theorem qcg(a:Value): argsOk "set_iterator.__iter__" ⟨[a],[]⟩:=by
 unfold argsOk;rw [signature?_of (id:="set_iterator.__iter__") (n:=['_','_','r','e','t','i','_','_']) (o:=['r','o','t','a','r','e','t','i','_','t','e','s']) (by kernel_rfl) qcf];kernel_rfl
theorem q93:entryFor table "set.__iter__" = some Builtin.«frozenset.__iter__» :=
 entryFor_alias (id':="frozenset.__iter__") (by kernel_rfl) rfl (by decide +kernel) (by kernel_rfl)
def SIt(h:Heap)(it a:Addr)(slot i n ep:Nat): Prop:=∃o,h.get? it=some o/\o.cls=.type "set_iterator" /\ o.data=.fields #[.int slot 0,.int i 0,.ref a,.int n 0,.int ep 0]
def Row(w:World)(a:Addr)(ep:Nat)(ks vals:List (Nat×Nat)): Prop:=
 (byT w=true->(vals.map el).toArray=pickOrder (w.params.setOrder a ep) (ks.map el).toArray)/\(byT w=false->vals=ks)
theorem qrl(w:World)(a:Addr)(ep:Nat)(ks:List (Nat×Nat)): ∃vals,Row w a ep ks vals/\vals.Perm ks:=by
 cases hb:byT w
 ·exact⟨ks,⟨by simp [hb],fun _=>rfl⟩,g4y _⟩
 ·have hp:=q3k (w.params.setOrder a ep) (ks.map el).toArray
  generalize hx:pickOrder (w.params.setOrder a ep) (ks.map el).toArray=xs at hp;have hp':xs.toList.Perm (ks.map el):=by simpa using hp
  obtain⟨ls,hl,e⟩:=q6y hp';refine⟨ls,⟨fun _=>?_,by simp [hb]⟩,hl⟩;rw [hx, <- e]
def SAt(w:World)(h:Heap)(a:Addr)(t:SetTable)(ks:List (Nat×Nat))(ep:Nat): Prop:=
 (∃o,h.get? a=some o/\o.ExactSet/\o.data=.set (ks.map el).toArray ep t)/\Tb t ks/\t.led=(!byT w)/\(t.mask=7->ks.length<8)
def Far(w:World)(t:SetTable)(slot i:Nat): Prop:=byT w=false->(∀x∈t.place.toList.take i,x<slot)/\(∀x∈t.place.toList.drop i,slot<=x)
section
variable{prog:Program}{w:World}{A:Around}{E:Value->Shared->Prop}{s:Shared}{a it:Addr}{t:SetTable}{ks vals:List (Nat×Nat)}{ep slot i:Nat}
theorem SAt.typeIs(S:SAt w s.heap a t ks ep): s.TypeIs (.ref a) "set" :=let⟨⟨o,ho,hc,_⟩,_⟩:=S; ⟨o,ho,hc.1⟩
theorem SIt.typeIs{n:Nat}(S:SIt s.heap it a slot i n ep): s.TypeIs (.ref it) "set_iterator" :=let⟨o,ho,hc,_⟩:=S; ⟨o,ho,hc⟩
theorem SAt.state{Q:(Array (Int×Value)×Nat×SetTable)->Shared->Prop}(S:SAt w s.heap a t ks ep)(h:Q ((ks.map el).toArray,ep,t) s): wpAny (model prog w) A (setState a) Q E s:=by
 obtain⟨⟨o,ho,hc,hd⟩,T,l,h7⟩:=S;exact g3w ho hd (q40 T h7) h
theorem SAt.keep{h h':Heap}(S:SAt w h a t ks ep)(e:∀o,h.get? a=some o->h'.get? a=some o): SAt w h' a t ks ep:=by
 obtain⟨⟨o,ho,r⟩,q⟩:=S;exact⟨⟨o,e o ho,r⟩,q⟩
theorem qlo{Q:Value->Shared->Prop}(S:SAt w s.heap a t ks ep)(h:Q (.ref s.heap.objs.size) {s with heap:=s.heap.push {cls:=.type "set_iterator",data:=.fields #[.int 0 0,.int 0 0,.ref a,.int ks.length 0,.int ep 0]} }):
  wpAny (model prog w) A (pyIter (.ref a)) Q E s:=by
 refine g5k S.typeIs F.slot_set_iter (p7 F.slot_set_iter S.typeIs q93 ?_ (F.args_set_iter_1 _));unfold Builtin.«frozenset.__iter__»;refine g0 (m:=Builtin.Frozenset.slot0 "__iter__" _) (g9 ?_);refine g0 ?_;unfold Builtin.Frozenset.sizeOf setEntries;refine g0 (g0 (S.state (g9 (g9 ?_))));refine g0 ?_;unfold setDrawn setsByText;refine g0 (S.state ?_);dsimp only;refine g0 (g0 (g01 (g9 (g9 ?_))));refine u9 (fun c=>?_) (fun _=>?_)
 ·have c':(!byT w&&(!t.plain&&decide ((ks.map el).toArray.size>1)))=true:=c
  rw [S.2.1.pl] at c';simp at c'
 refine g0 (g9 ?_);refine g0 ?_;unfold setEpoch;refine g0 (S.state (g9 ?_));have hsz:(ks.map el).toArray.size=ks.length:=by simp
 rw [hsz];refine g0 (pk (g9 ⟨_,rfl,"set_iterator",_,⟨_,gf _ rfl,rfl⟩,slot_si_next.lookup,?_⟩));exact h
theorem q87{h:Heap}{o:Obj}{vs:Array Value}{x:Value}{j:Nat}(ho:h.get? it=some o)(hd:o.data=.fields vs):
  ∃o',(h.update it (Obj.mapFields (·.setIfInBounds j x))).get? it=some o'/\o'.cls=o.cls/\o'.data=.fields (vs.setIfInBounds j x):=
 ⟨_,g11 _ ho (Obj.isFreed_of_fields (g37 hd _)),Obj.cls_mapFields ..,g37 hd _⟩
theorem next_item{Q:Option Value->Shared->Prop}{p:Nat×Nat}(I:SIt s.heap it a slot i ks.length ep)(S:SAt w s.heap a t ks ep)(R:Row w a ep ks vals)(F:Far w t slot i)(hp:vals[i]? = some p)
  (h:∀h' slot',SIt h' it a slot' (i+1) ks.length ep->Far w t slot' (i+1)->Heap.SameBut it s.heap h'->Q (some (.int (p.1:Int) p.2)) {s with heap:=h'}) :
  wpAny (model prog w) A (pyNext (.ref it)) Q E s:=by
 obtain⟨o,ho,hc,hd⟩:=id I;unfold pyNext;refine g0 (g0y (ug (name:=Str.ofString "__next__") I.typeIs slot_si_next
  (p7 slot_si_next I.typeIs q4i ?_ (q57 _))))
 unfold Builtin.«set_iterator.__next__»;refine g0 (m:=slotArgs "__next__" 0 _) (g9 ?_);dsimp only;refine g0 (g50 ho hd ?_);dsimp only;unfold setEntries;refine g0 (g0 (S.state (g9 ?_)));have hsz:(((ks.map el).toArray.size:Int) != (ks.length:Int))=false:=by simp
 dsimp only;rw [hsz];simp only [gh, ↓reduceIte,g0i];have key:∃slot',Far w t slot' (i+1)/\∀ {Q':Option (Value×Nat)->Shared->Prop} {E':Value->Shared->Prop},Q' (some (.int (p.1:Int) p.2,slot')) s->wpAny (model prog w) A.in1 (setNext a slot i ep) Q' E' s:=by
  cases hb:byT w
  ·have hv:vals=ks:=R.2 hb
   rw [hv] at hp;obtain⟨f1,f2⟩:=F hb;have hpl:t.place=(t.place.toList.take i++t.place.toList.drop i).toArray:=by simp
   have hi:i<ks.length:=(nh.mp hp).1;have hi':i<t.place.toList.length:=by rw [S.2.1.sz];exact hi
   have hbel:SetTable.below t.place slot=i:=by
    rw [hpl,below_at f1 f2];simp at hi' ⊢;lia
   have hpj:t.place[i]? = some (t.place.toList[i]):=by rw [<- g0n];exact mj hi'
   have hei:(ks.map el).toArray[i]? = some (el p):=by simp [hp]
   have hdr:t.place.toList.drop i=t.place.toList[i] :: t.place.toList.drop (i+1):=pj hi';have htk:t.place.toList.take (i+1)=t.place.toList.take i++[t.place.toList[i]]:=by
    rw [g3l,mj hi'];rfl
   have hrs:=S.2.1.rs;rw [<- pf i t.place.toList,hdr] at hrs;obtain⟨r1,r2,r3⟩:=pd.mp hrs;refine⟨t.place.toList[i]+1,fun _=>⟨fun x hx=>?_,fun x hx=>?_⟩,fun {Q'} {E'} q=>?_⟩
   ·rw [htk] at hx
    rcases nz.mp hx with h|h
    ·have:=r3 x h _ (gq ..);lia
    ·have:=n9.mp h;lia
   ·have:=(g1m.mp r2).1 x hx;lia
   ·unfold setNext setsByText
    refine g0 (S.state ?_);dsimp only;refine g0 (g0 (g01 (g9 ?_)));refine u9 (fun c=>?_) (fun _=>?_)
    ·have c':byT w=true:=c
     rw [hb] at c';exact absurd c' (by decide)
    refine u9 (fun c=>?_) (fun _=>?_)
    ·have c':(!t.plain&&decide ((ks.map el).toArray.size>1))=true:=c
     rw [S.2.1.pl] at c';simp at c'
    have hld:t.led=true:=by rw [S.2.2.1,hb];rfl
    show wpAny _ _ ((do if !t.led && !(ks.map el).toArray.isEmpty then unsupported "set:maker-not-led" : Sem Unit) >>= fun _=>_) _ _ _;rw [hld];simp only [g0z,g3e,gh, ↓reduceIte];refine g0 (g9 (g9 ?_));rw [hbel,hei,hpj];exact q
  ·have hv:=R.1 hb
   refine⟨slot,fun c=>?_,fun {Q'} {E'} q=>?_⟩
   ·rw [hb] at c;exact absurd c (by decide)
   ·unfold setNext setsByText
    refine g0 (S.state ?_);dsimp only;refine g0 (g0 (g01 (g9 ?_)));refine u9 (fun _=>?_) (fun c=>absurd hb c);rw [mi (by simp)];refine g0 ?_;unfold setWalk setsByText;refine g0 (S.state ?_);dsimp only;refine g0 (g0 (g01 (g9 ?_)));refine u9 (fun _=>?_) (fun c=>absurd hb c);refine g0 (g01 (g9 (g9 ?_)));have:(pickOrder (w.params.setOrder a ep) (ks.map el).toArray)[i]? = some (el p):=by rw [<- hv];simp [hp]
    show Q' (((pickOrder (w.params.setOrder a ep) (ks.map el).toArray)[i]?).map fun e=>(e.2,slot)) s;rw [this];exact q
 obtain⟨slot',F',kn⟩:=key;refine g0 (kn ?_);dsimp only;refine g0 (g3i ho hd (by simp) ?_);obtain⟨o1,ho1,hc1,hd1⟩:=q87 (x:=rawInt slot') (j:=0) ho hd;refine g0 (g3i (s:={s with heap:=s.heap.update it (Obj.mapFields (·.setIfInBounds 0 (rawInt slot')))}) ho1 hd1 (by simp) (g9 ⟨_,rfl,g9 (h _ slot' ?_ F' ((g07 ..).trans (g07 ..)))⟩));obtain⟨o2,ho2,hc2,hd2⟩:=q87 (x:=rawInt (i+1)) (j:=1) ho1 hd1;exact⟨o2,ho2,hc2.trans (hc1.trans hc),by rw [hd2];simp [rawInt]⟩
theorem next_end{Q:Option Value->Shared->Prop}(hh:A.handled=none)(hi:i=ks.length)(I:SIt s.heap it a slot i ks.length ep)(S:SAt w s.heap a t ks ep)(R:Row w a ep ks vals)(hvl:vals.length=ks.length)(F:Far w t slot i)
  (h:∀h',Heap.ExtBut it s.heap h'->Q none {s with heap:=h'}) :
  wpAny (model prog w) A (pyNext (.ref it)) Q E s:=by
 obtain⟨o,ho,hc,hd⟩:=id I;unfold pyNext;refine g0 (g0y (ug (name:=Str.ofString "__next__") I.typeIs slot_si_next
  (p7 slot_si_next I.typeIs q4i ?_ (q57 _))))
 unfold Builtin.«set_iterator.__next__»;refine g0 (m:=slotArgs "__next__" 0 _) (g9 ?_);dsimp only;refine g0 (g50 ho hd ?_);dsimp only;unfold setEntries;refine g0 (g0 (S.state (g9 ?_)));have hsz:(((ks.map el).toArray.size:Int) != (ks.length:Int))=false:=by simp
 dsimp only;rw [hsz];simp only [gh, ↓reduceIte,g0i];have key:∀ {Q':Option (Value×Nat)->Shared->Prop} {E':Value->Shared->Prop},Q' none s->wpAny (model prog w) A.in1 (setNext a slot i ep) Q' E' s:=by
  intro Q' E' q;unfold setNext setsByText;refine g0 (S.state ?_);dsimp only;refine g0 (g0 (g01 (g9 ?_)));cases hb:byT w
  ·refine u9 (fun c=>?_) (fun _=>?_)
   ·have c':byT w=true:=c
    rw [hb] at c';exact absurd c' (by decide)
   refine u9 (fun c=>?_) (fun _=>?_)
   ·have c':(!t.plain&&decide ((ks.map el).toArray.size>1))=true:=c
    rw [S.2.1.pl] at c';simp at c'
   have hld:t.led=true:=by rw [S.2.2.1,hb];rfl
   show wpAny _ _ ((do if !t.led && !(ks.map el).toArray.isEmpty then unsupported "set:maker-not-led" : Sem Unit) >>= fun _=>_) _ _ _;rw [hld];simp only [g0z,g3e,gh, ↓reduceIte];refine g0 (g9 (g9 ?_));obtain⟨f1,f2⟩:=F hb;have hpl:t.place=(t.place.toList.take i++t.place.toList.drop i).toArray:=by simp
   have hbel:SetTable.below t.place slot=i:=by
    rw [hpl,below_at f1 f2];have:=S.2.1.sz;simp at this ⊢;lia
   have hei:(ks.map el).toArray[i]? = none:=by simp [hi]
   rw [hbel,hei];exact q
  ·refine u9 (fun _=>?_) (fun c=>absurd hb c)
   rw [mi (by simp)];refine g0 ?_;unfold setWalk setsByText;refine g0 (S.state ?_);dsimp only;refine g0 (g0 (g01 (g9 ?_)));refine u9 (fun _=>?_) (fun c=>absurd hb c);refine g0 (g01 (g9 (g9 ?_)));have:(pickOrder (w.params.setOrder a ep) (ks.map el).toArray)[i]? = none:=by rw [<- R.1 hb];simp [hi,hvl]
   show Q' (((pickOrder (w.params.setOrder a ep) (ks.map el).toArray)[i]?).map fun e=>(e.2,slot)) s;rw [this];exact q
 refine g0 (key ?_);dsimp only;refine g0 (g3i ho hd (by simp) ?_);show wpAny _ _ (newExc (.type "StopIteration") [] >>= _) _ _ _;refine g0 ?_;simp only [newExc,newTuple];refine g0 (pk ?_ (by size_fits));refine g0 (m:=firstArgMember _ _) (g44 (a:=Value.none) (by first|rfl|(simp only [firstArgMember];rfl)) ?_);refine pk ?_ (by size_fits);simp only [raiseNew];refine g0 (g5b ?_)
 first|rw [show A.in1.handled=none from hh]|rw [hh]
 refine g0 (g9 (wpAny_throw ?_));refine g0 (g2m (T:="StopIteration") (b:=true) ⟨_,gf _ rfl,rfl⟩ isSubtype_stop ?_);exact g9 (h _ (((g07 ..).extBut.push _).push _))
theorem qiw(hh:A.handled=none)(hne:a≠it)(R:Row w a ep ks vals)(hvl:vals.length=ks.length):
  Walks prog w A it [it,a] [it] ks.length (fun i v=>∃p,vals[i]? = some p/\v=.int (p.1:Int) p.2) (fun i h=>∃slot,SIt h it a slot i ks.length ep/\SAt w h a t ks ep/\Far w t slot i) where
 sub:=fun b hb=>by simp at hb;simp [hb]
 frame:=fun i h h' st hk=>by
  obtain⟨slot,⟨o,ho,r⟩,S,F⟩:=st;exact⟨slot,⟨o,hk it (by simp) o ho,r⟩,S.keep (fun o e=>hk a (by simp) o e),F⟩
 item:=fun i s Q E hi st hQ=>by
  obtain⟨slot,I,S,F⟩:=st;have hi':i<vals.length:=by lia
  refine next_item I S R F (mj hi') fun h' slot' I' F' sb=>?_;exact hQ _ h' s.toks ⟨_,mj hi',rfl⟩ ⟨slot',I',S.keep (fun o e=>sb.extBut a o hne e),F'⟩ fun b o hb e=>sb.extBut b o (fun h=>hb (by simp [h])) e
 done:=fun s Q E st hQ=>by
  obtain⟨slot,I,S,F⟩:=st;exact next_end hh rfl I S R hvl F fun h' he=>hQ h' s.toks fun b o hb e=>he b o (fun h=>hb (by simp [h])) e
 self:=fun i s Q E st hQ=>by
  obtain⟨slot,I,S,F⟩:=st;refine g5k I.typeIs q58 (p7 q58 I.typeIs qak ?_ (qcg _));show wpAny _ _ (ret (.ref it)) _ _ s;exact g9 ⟨_,rfl,"set_iterator",_,I.typeIs,slot_si_next.lookup,hQ⟩
end
end Js
namespace Js
open PySem PyProof.Rows
section
variable{prog:Program}{w:World}{A:Around}{E:Value->Shared->Prop}{s:Shared}{a:Addr}{t:SetTable}{ks vals:List (Nat×Nat)}{ep:Nat}
theorem qlp{Q:Bool->Shared->Prop}(hT:s.TypeIs (.ref a) "set")(h:Q false s): wpAny (model prog w) A (Builtin.List.listLengthHint (.ref a)) Q E s:=by
 unfold Builtin.List.listLengthHint;refine g0 (wpAny_specialOf hT F.slot_set_len.lookup ?_);generalize hid:("set.__len__" : String)=id0;dsimp only;rw [show splitId id0=some ("set","__len__") from by subst hid;decide +kernel];subst hid;dsimp only;refine g0 (g2m (T:="set") (b:=true) hT (by rw [g2k];kernel_rfl) ?_);refine u9 (fun hab=>absurd hab (by decide)) (fun _=>?_);refine u9 (fun _=>?_) (fun hab=>absurd (by decide +kernel) hab);refine g0 (g16 hT ?_);exact g9 h
def iv'(p:Nat×Nat): Value:=.int (p.1:Int) p.2
theorem qlq{vals:List (Nat×Nat)}{n:Nat}{acc:Array Value}(hn:vals.length=n)(h:ItemsOf (fun i v=>∃p,vals[i]? = some p/\v=.int (p.1:Int) p.2) acc n): acc.toList=vals.map iv':=by
 apply List.ext_getElem?;intro i
 by_cases hi:i<n
 ·have h1:i<acc.size:=by rw [h.1];exact hi
  have e:acc[i]? = some acc[i]:=g5o h1;obtain⟨p,hp,hv⟩:=h.2 i _ e;rw [g0n,e,mv,hp,hv];rfl
 ·rw [g0n,Array.getElem?_eq_none (by rw [h.1];omega),mv,g6m (by omega)];rfl
theorem qdo{Q:List Value->Shared->Prop}(hh:A.handled=none)(S:SAt w s.heap a t ks ep)
  (h:∀(s':Shared) (vals:List (Nat×Nat)),vals.Perm ks->(∀b o,b<s.heap.objs.size->s.heap.get? b=some o->s'.heap.get? b=some o)->s.heap.objs.size<=s'.heap.objs.size->s'.gens=s.gens->s'.drawn=s.drawn->s'.os=s.os->s.toks<=s'.toks->Q (vals.map iv') s') :
  wpAny (model prog w) A (collect (.ref a)) Q E s:=by
 have hla:a<s.heap.objs.size:=let⟨⟨o,ho,_⟩,_⟩:=S;gz ho
 unfold collect;refine g0 (wpAny_runValue (ui F.entry_proto_collect ?_));rw [t9 F.plain_proto_collect _];show wpAny _ A.in1 (newList [] >>= fun l=>again (.builtin "list.__iadd__" ⟨[l,.ref a],[]⟩)) _ _ s;refine g0 (pk ?_);refine g9 ⟨g0k g3x _,ui F.entry_list_iadd ?_⟩;rw [t9 g3x _]
 let lo:Obj:={cls:=.type "list",data:=.seq ([]:List Value).toArray}
 have S1:SAt w (s.heap.push lo) a t ks ep:=S.keep fun o e=>gd _ e;show wpAny _ A.in1 (Builtin.List.listExtendWith (.ref s.heap.objs.size) (.ref a) (.ref s.heap.objs.size)) _ _ _;unfold Builtin.List.listExtendWith;refine g0 (g16 S1.typeIs ?_);have h1:Builtin.List.listSameRef (.ref s.heap.objs.size) (.ref a)=false:=by simp [Builtin.List.listSameRef];exact tu hla
 have h2:(Value.type "set" == Value.type "list")=false:=by decide
 have h3:(Value.type "set" == Value.type "tuple")=false:=by decide
 simp only [h1,h2,h3,Bool.or_false,gh,ny]
 let io:Obj:={cls:=.type "set_iterator",data:=.fields #[.int 0 0,.int 0 0,.ref a,.int ks.length 0,.int ep 0]}
 refine g0 (qlo (s:={s with heap:=s.heap.push lo}) S1 ?_);have hsz1:(s.heap.push lo).objs.size=s.heap.objs.size+1:=t6 ..;have S2:SAt w ((s.heap.push lo).push io) a t ks ep:=S1.keep fun o e=>gd _ e;refine g0 (ni (qlp (s:={s with heap:=(s.heap.push lo).push io}) S2.typeIs ?_));refine u9 (fun _=>?_) (fun hab=>absurd (by decide +kernel) hab);refine g0 (g06 ?_);have hL1:((s.heap.push lo).push io).get? s.heap.objs.size=some lo:=gd _ (gf _ rfl);refine g0 ?_;show wpAny _ A.in1 (updateSeq s.heap.objs.size (·.push .none) >>= fun _=>updateSeq s.heap.objs.size (·.pop)) _ _ _;refine g0 (g30 (s:={s with heap:=(s.heap.push lo).push io}) hL1 rfl ?_);have hL2:=g11 (Obj.mapSeq (·.push Value.none)) hL1 rfl;refine g30 hL2 rfl ?_;have hL3:=g11 (Obj.mapSeq (·.pop)) hL2 rfl
 let h3':=(((s.heap.push lo).push io).update s.heap.objs.size (Obj.mapSeq (·.push Value.none))).update s.heap.objs.size (Obj.mapSeq (·.pop))
 have oth:∀b o,b≠s.heap.objs.size->((s.heap.push lo).push io).get? b=some o->h3'.get? b=some o:=
  fun b o hb e=>(g0g _ _ (nj hb)).trans ((g0g _ _ (nj hb)).trans e)
 obtain⟨vals,hR,hvp⟩:=qrl w a ep ks;have hvl:vals.length=ks.length:=hvp.length_eq;have W:=(qiw (prog:=prog) (w:=w) (A:=A.in1) (it:=(s.heap.push lo).objs.size) (t:=t) (vals:=vals) (by simpa using hh) (by rw [hsz1];exact m5 (g0u hla)) hR hvl).toS;have hIt:SIt h3' (s.heap.push lo).objs.size a 0 0 ks.length ep:=⟨io,oth _ _ (by rw [hsz1];exact Nat.succ_ne_self _) (gf _ rfl),rfl,rfl⟩
 have hn12:=S.2.1.n12;refine g9 ⟨g0k F.plain_extend_loop _,codeAny_extend_loopS W (by rw [g2b];omega) s.heap.objs.size (by rw [hsz1];simp only [mm,g0h,g2d,g6j];exact⟨m5 (uk _),tu hla⟩) _ ks.length 0 _ _ _ rfl (um _)
  ⟨0,hIt,S2.keep fun o e=>oth a o (m5 hla) e,fun _=>⟨by simp,by simp⟩⟩ hL3 (ItemsOf.nil _) fun s' acc' c' hm hS' hacc=>?_⟩
 show wpAny _ A (load s.heap.objs.size >>= _) _ _ s';refine g0 (wpAny_load hS' ?_);refine g9 ?_;rw [qlq hvl hacc];refine h s' vals hvp (fun b o hb e=>hm.heap b o (by rw [hsz1];simp only [mm,g0h,g2d,g6j];exact⟨m5 hb,m5 (g0u hb)⟩) (oth b o (m5 hb) (gd _ (gd _ e)))) (g5r (gz hS')) hm.gens hm.drawn hm.os hm.toks
theorem qg6{Q:Value->Shared->Prop}(hh:A.handled=none)(S:SAt w s.heap a t ks ep)
  (h:∀(h':Heap) (tk:Nat) (c:Addr) (out:List Value) (ns':List Int) (e:Nat),IntsAre out ns'->ns'.Perm (ks.map fun p=>(p.1:Int))->ns'.Pairwise (· <= ·)->(∀b o,b<s.heap.objs.size->s.heap.get? b=some o->h'.get? b=some o) ->
   s.heap.objs.size<=c->h'.get? c=some (seqObj "list" out.toArray e)->s.toks<=tk->Q (.ref c) {s with heap:=h',toks:=tk}) :
  wpAny (model prog w) A (call (.builtin "sorted") [.ref a]) Q E s:=by
 refine Calls.call_function_entry kind_sorted plain_sorted entry_sorted (args_sorted1 _) ?_;unfold Builtin.«sorted»;refine g0 (m:=checkCount "sorted" 1 1 _) (g9 ?_);have hn12:=S.2.1.n12;refine g0 (qdo (A:=A.in1) (by simpa using hh) S fun s1 vals hp hk hz hg hd ho ht=>?_);have hvl:vals.length=ks.length:=hp.length_eq;refine g0 (g47 ?_);have hoL:(s1.heap.push (seqObj "list" (vals.map iv').toArray 0)).get? s1.heap.objs.size=some (seqObj "list" (vals.map iv').toArray 0):=gf _ rfl;have hI:IntsAre (vals.map iv') (vals.map fun p=>(p.1:Int)):=by
  clear hoL hvl hp
  induction vals with
  | nil=>exact .nil
  | cons p l ih=>exact .cons _ _ ih
 refine g0 (ni (p7 slot_list_sort ⟨_,hoL,rfl⟩ entry_list_sort (list_sort_tree (s:={s1 with heap:=s1.heap.push (seqObj "list" (vals.map iv').toArray 0)}) hoL hI (by simp;omega) fun out ns' a1 a2 a3=>⟨_,rfl,?_⟩) (args_list_sort _)));refine g9 ⟨_,rfl,?_⟩;obtain⟨h1,g1,d1,t1,o1⟩:=s1;dsimp only at hk hz hg hd ho ht hoL;subst hg;subst hd;subst ho;have hz1:(h1.push (seqObj "list" (vals.map iv').toArray 0)).objs.size=h1.objs.size+1:=t6 ..;have e1:=g19 hoL (fun _=> #[]);have e2:=gd (seqObj "tuple" (vals.map iv').toArray 0) e1;have e3:=gd (seqObj "list" #[] 0) e2;have e4:=g19 e3 (fun _=>out);refine h (sortedHeap (h1.push (seqObj "list" (vals.map iv').toArray 0)) h1.objs.size (vals.map iv') out) t1 h1.objs.size out.toList ns' _ a1 (a2.trans (hp.map _)) a3 (fun b ob hb e=>?_) hz (by unfold sortedHeap;simpa using e4) ht;have nb:b≠h1.objs.size:=m5 (gu hb hz);unfold sortedHeap;refine(g0g _ _ (nj nb)).trans ?_;refine gd _ (gd _ ?_);refine(g0g _ _ (nj nb)).trans ?_;exact gd _ (hk b ob hb e)
end
end Js
namespace DL
open PySem PySem.Spec PyProof.Rows L2
variable[Lam]
def q34:List D->Option (List Nat)
 | []=>some []
 | .int i :: r=>if 0<=i/\i<12 then(q34 r).map (i.toNat :: ·) else none
 | _ :: _=>none
def qg7:D->D->Option (List D)
 | .tup ds,.tup es=>(q34 ds).bind fun a=>(q34 es).bind fun b=>some (((List.range 12).filter fun n=>decide (n∈a\/n∈b)).map fun n=>D.int (n:Nat))
 | _,_=>none
def qg8(f g:FE): FA:=fun ρ =>(f ρ).bind fun x=>(g ρ).bind fun y=>qg7 x y
def q41(w:World)(a:Addr)(ns:List Nat): HO:=.ext fun h=>∃t ks,Js.SI w h a t ks/\Js.MR t ks/\∀n,n∈ks.map Prod.fst↔n∈ns
def qg9(w:World)(a:Addr)(ns:List Nat): HO:=.ext fun h=>∃t ks,Js.SI w h a t ks/\(t.mask=7->ks.length<8)/\∀n,n∈ks.map Prod.fst↔n∈ns
def qu4(K:Frag)(w:World): List V->Hp->VK->Prop:=fun xs H Q=>∃F ds ns,Same F H/\RepL K F [.tup ds] xs/\q34 ds=some ns/\∀a,H a=none->Q (.ref a) (upd H a (q41 w a ns))
def rOr(w:World): R2:=fun x y H Q=>∃a b ns ms,x=.ref a/\y=.ref b/\a≠b/\H a=some (q41 w a ns)/\H b=some (q41 w b ms)/\∀c,H c=none->Q (.ref c) (upd H c (qg9 w c (ns++ms)))
def qt8(w:World): List V->Hp->VK->Prop:=fun xs H Q=>∃a ns,xs=[.ref a]/\H a=some (qg9 w a ns)/\∀c,H c=none->Q (.ref c) (upd H c (.lst (((List.range 12).filter fun n=>decide (n∈ns)).map fun n=>V.int (n:Nat))))
omit [Lam] in
theorem q9v{K:Frag}{F:Hp}: ∀ {ds:List D} {ys:List V} {its:List Value} {ns:List Nat},q34 ds=some ns->RepL K F ds ys->Vals ys its->∃qs:List (Nat×Nat),its=qs.map Js.iv/\(∀p∈qs,p.1<12)/\qs.map Prod.fst=ns
 | [],ys,its,ns,h,k,r=>by
  cases h;cases k.nil_inv;cases r;exact⟨[],rfl,by simp,rfl⟩
 | .int i :: ds,ys,its,ns,h,k,r=>by
  unfold q34 at h
  split at h
  ·rename_i hi
   obtain⟨ms,h1,rfl⟩:=m8.mp h;obtain⟨x,ys',rfl,a1,a2⟩:=k.cons_inv;cases rep_int.mp a1;cases r with
   | cons b1 b2=>
    obtain⟨qs,e1,e2,e3⟩:=q9v h1 a2 b2;obtain⟨tk,rfl⟩:=b1;refine⟨(i.toNat,tk) :: qs,?_,?_,by simp [e3]⟩
    ·rw [e1,gj]
     congr 1
     show _=Value.int ((i.toNat:Nat):Int) tk;rw [g2t hi.1]
    ·intro p hp
     rcases mm.mp hp with rfl|hp
     ·show i.toNat<12
      lia
     ·exact e2 p hp
  ·cases h
 | .non :: _,_,_,_,h,_,_=>by cases h
 | .bl _ :: _,_,_,_,h,_,_=>by cases h
 | .str _ :: _,_,_,_,h,_,_=>by cases h
 | .tup _ :: _,_,_,_,h,_,_=>by cases h
 | .lst _ :: _,_,_,_,h,_,_=>by cases h
 | .dct _ _ :: _,_,_,_,h,_,_=>by cases h
 | .dtt _ _ :: _,_,_,_,h,_,_=>by cases h
 | .obj _ :: _,_,_,_,h,_,_=>by cases h
 | .exc _ :: _,_,_,_,h,_,_=>by cases h
section
variable{X:Cx}
theorem qix(hc:X.calm=true): jz X (.type "set") (qu4 X.K X.w):=fun pins s σ H xs us Q I rv ⟨F,ds,ns,fh,rl,hn,q⟩=>by
 obtain⟨x,rfl,rx⟩:=rep1 rl;obtain⟨a,ys,rfl,k1,k2⟩:=rep_tup.mp rx;obtain⟨u,rfl,ru⟩:=vals1 rv;cases ru;obtain⟨its,r1,p1,hz⟩:=I.tuple (qk fh k1);obtain⟨qs,rfl,hq,rfl⟩:=q9v hn k2 r1;refine Js.q92 qs hq (I.ok.hd hc) p1 fun h' tk t ks S M m ht old=>?_;have hnn:H s.heap.objs.size=none:=I.hok.fresh (gw _);obtain⟨o,ep,ho,hx,hd⟩:=id S.ob;refine⟨.ref _,_,I.laid (t':=tk) (a:=s.heap.objs.size) (o:=q41 X.w s.heap.objs.size (qs.map Prod.fst)) (fun b ob qb=>old b ob (gz qb) qb) (gw _) ⟨⟨t,ks,S,M,m⟩,⟨o,ho⟩,fun h1 h2 ⟨t,ks,S,M,m⟩ e=>⟨t,ks,S.keep e,M,m⟩⟩,rfl,q _ hnn⟩
theorem qrm:OpR X (binaryOp .BitOr) (rOr X.w):=fun pins s σ H x y v u Q I rx ry ⟨a,b,ns,ms,e1,e2,hab,ha,hb,q⟩=>by
 subst e1;subst e2;cases rx;cases ry;obtain⟨⟨t,ks,S,M,m⟩,_,_⟩:=I.hok a _ ha;obtain⟨⟨t',ks',S',M',m'⟩,_,_⟩:=I.hok b _ hb;have m7:∀ {t:SetTable} {ks:List (Nat×Nat)},Js.MR t ks->t.mask=7->ks.length<8:=fun M e=>g1x fun c=>by
  have:=M.2 (by lia);lia
 refine Js.qt7 hab S M.1 (m7 M) S' M'.1 (m7 M') fun h2 t2 ks2 old S2 h72 m2=>?_;have hnn:H s.heap.objs.size=none:=I.hok.fresh (gw _);obtain⟨o,ep,ho,hx,hd⟩:=id S2.ob;refine⟨.ref _,_,I.laid (t':=s.toks) (a:=s.heap.objs.size) (o:=qg9 X.w s.heap.objs.size (ns++ms)) (fun c ob qb=>old c ob (gz qb) qb) (gw _) ⟨⟨t2,ks2,S2,h72,fun n=>?_⟩,⟨o,ho⟩,fun h1 h2 ⟨t,ks,S,M,m⟩ e=>⟨t,ks,S.keep e,M,m⟩⟩,rfl,q _ hnn⟩;rw [m2 n,m n,m' n,nz]
theorem qov(hc:X.calm=true): jz X (.builtin "sorted") (qt8 X.w):=fun pins s σ H xs us Q I rv ⟨a,ns,e1,ha,q⟩=>by
 subst e1;obtain⟨u,rfl,ru⟩:=vals1 rv;cases ru;obtain⟨⟨t,ks,S,h7,m⟩,_,_⟩:=I.hok a _ ha;obtain⟨o,ep,ho,hx,hd⟩:=id S.ob;refine Js.qg6 (I.ok.hd hc) ⟨⟨o,ho,hx,hd⟩,S.tb,S.ld,h7⟩ fun h' tk c out ns' e hI hp hs old hc' hget ht=>?_;have hnn:H c=none:=I.hok.fresh hc';have hL:ns'=((List.range 12).filter fun n=>decide (n∈ns)).map fun n:Nat=>(n:Int):=by
  refine q53 (hp.trans ?_) hs ?_
  ·have:(ks.map Prod.fst).Perm ((List.range 12).filter fun n=>decide (n∈ns)):=by
    refine(g5g S.tb.nd (g0s _ g2q)).mpr fun n=>?_;rw [pz,uc,g13, <- m n];refine⟨fun h=>⟨?_,h⟩,fun h=>h.2⟩;obtain⟨p,hp,rfl⟩:=ng.mp h;exact S.tb.lt p hp
   have h2:=this.map fun n:Nat=>(n:Int)
   rw [nv] at h2;exact h2
  ·rw [g0b]
   refine g3v (fun {a b} h=>?_) (g0s _ (g45 (n:=12)));lia
 subst hL;have vo:=q17 hI;rw [nv] at vo;refine⟨.ref c,_,I.laid (t':=tk) (a:=c) (o:=.lst (((List.range 12).filter fun n=>decide (n∈ns)).map fun n=>V.int (n:Nat))) (fun b ob qb=>old b ob (gz qb) qb) hc' ⟨?_,out,e,vo,hget⟩,rfl,q _ hnn⟩;rw [mn];exact my (uf _ _) (ja (by simp;decide))
theorem qow{a b:Expr}{f g:FE}{p p1 p2 q1 q2 q3 pos:Pos}(hc:X.calm=true)(hgs:Gl X "sorted")(hms:X.mg "sorted" = none)(hgt:Gl X "set")(hmt:X.mg "set" = none)(ha:PE X a (tD X.K f))(hb:PE X b (tD X.K g))
  (s1:starEach [a] X.env=(false,eval a X.env) :: starEach [] X.env:=by rfl) (s2:starEach [b] X.env=(false,eval b X.env) :: starEach [] X.env:=by rfl)
  (s3:starEach [.BinOp (.Call (.Name "set" p1) [a] [] q1) .BitOr (.Call (.Name "set" p2) [b] [] q2) q3] X.env=(false,eval (.BinOp (.Call (.Name "set" p1) [a] [] q1) .BitOr (.Call (.Name "set" p2) [b] [] q2) q3) X.env) :: starEach [] X.env:=by rfl)
  (h1:∀pos,(backTo pos (starEach [] X.env)).any (·.1)=false:=by intro _;rfl) :
  PE X (.Call (.Name "sorted" p) [.BinOp (.Call (.Name "set" p1) [a] [] q1) .BitOr (.Call (.Name "set" p2) [b] [] q2) q3] [] pos) (tL X.K (qg8 f g)):=by
 refine j6 (q3q (qov hc) hgs hms boot_sorted (q07 (qmt qrm (q4q (qix hc) hgt hmt (T:="set") (by rfl) (q07 ha q1z s1) (he:=s1) (hpl:=h1 _)) (q4q (qix hc) hgt hmt (T:="set") (by rfl) (q07 hb q1z s2) (he:=s2) (hpl:=h1 _))) q1z s3) (he:=s3) (hpl:=h1 _)) fun σ H Q ⟨F0,H0,F, ρ,ds,r,hf,q⟩=>?_;obtain⟨x,hx,hf⟩:=gc.mp hf;obtain⟨y,hy,hj⟩:=gc.mp hf;unfold qg7 at hj
 split at hj
 ·rename_i xs ys
  obtain⟨ns,hn,hj⟩:=gc.mp hj;obtain⟨ms,hm,hj⟩:=gc.mp hj;cases hj;refine⟨F0,H0,F, ρ,.tup xs,r,hx,fun v F1 H1 g1 r1=>?_⟩;refine⟨F1,xs,ns,g1.fh,.cons r1 .nil,hn,fun c1 hc1=>?_⟩;have g2:Grow F1 H1 F1 (upd H1 c1 (q41 X.w c1 ns)):=Grow.own g1.fh hc1;refine⟨F0,H0,F1, ρ,.tup ys,r.grow (g1.trans g2),hy,fun u F3 H3 g3 r3=>?_⟩;refine⟨F3,ys,ms,g3.fh,.cons r3 .nil,hm,fun c2 hc2=>?_⟩;have g4:Grow F3 H3 F3 (upd H3 c2 (q41 X.w c2 ms)):=Grow.own g3.fh hc2;have e1:H3 c1=some (q41 X.w c1 ns):=g3.hh.ext _ _ qr;have hne:c1≠c2:=jg e1 hc2;refine⟨c1,c2,ns,ms,rfl,rfl,hne,by rw [ql hne];exact e1,qr,fun c3 hc3=>?_⟩;have g5:Grow F3 (upd H3 c2 (q41 X.w c2 ms)) F3 (upd (upd H3 c2 (q41 X.w c2 ms)) c3 (qg9 X.w c3 (ns++ms))):=Grow.own g4.fh hc3;refine⟨c3,ns++ms,rfl,qr,fun c4 hc4=>?_⟩;have g6:=Grow.own (o:=.lst (((List.range 12).filter fun n=>decide (n∈ns++ms)).map fun n=>V.int (n:Nat))) g5.fh hc4;have gg:=g1.trans (g2.trans (g3.trans (g4.trans (g5.trans g6))));refine q c4 _ F3 _ gg (g5.fh.free hc4) ((g1.trans (g2.trans (g3.trans (g4.trans g5)))).hh.free hc4) qr ?_
  ·have e:((List.range 12).filter fun n=>decide (n∈ns++ms))=(List.range 12).filter fun n=>decide (n∈ns\/n∈ms):=by
    congr 1;funext n;simp [nz]
   rw [e];have:=(RepL.ints (K:=X.K) (H:=F3) (ns:=((List.range 12).filter fun n=>decide (n∈ns\/n∈ms)).map fun n:Nat=>(n:Int)) (xs:=((List.range 12).filter fun n=>decide (n∈ns\/n∈ms)).map fun n=>V.int (n:Nat))).mpr (by rw [nv];rfl);rw [nv] at this;exact this
 ·cases hj
end
end DL
namespace Js
open PySem
open Sem (wp)
theorem qch:typeLookup (.type "list") "keys" = pure none:=by rw [g29,g12];kernel_rfl
theorem q88:typeLookup (.type "list") "__getattr__" = pure none:=by rw [g29,g12];kernel_rfl
section
variable{prog:Program}{w:World}{A:Around}{E:Value->Shared->Prop}{s:Shared}{a:Addr}
theorem qiy{xs:Array Value}{n:Nat}{u:Tok}{Q:Value->Shared->Prop}{sl:Array (Option Value)}(hx:s.heap.get? a=some {cls:=.type "list",dict:=none,data:=.seq xs n,slots:=sl})(hh:A.handled=none)
  (h:∀h' tk e,Heap.NewAttrErr s.heap h' e (.ref a) "keys" -> E (.ref e) {s with heap:=h',toks:=tk}) :
  wpAny (model prog w) A (call (.builtin "list.__getattribute__") [.ref a,.str "keys" u]) Q E s:=by
 refine p7 g3c ⟨_,hx,rfl⟩ F.entry_list_ga ?_ (F.args_list_getattribute_2 _ _);obtain⟨hp,g,d,tk,os⟩:=s;have hT:(⟨hp,g,d,tk,os⟩:Shared).TypeIs (.ref a) "list" :=⟨_,hx,rfl⟩
 have f4:=qch;unfold Builtin.«object.__getattribute__»
 repeat (any_goals (first|assumption|wp_step))
 exact wpAny_raiseAttrError (by simpa using hh) (fun h' tk e x=>h h' tk e x) (attrMsg_fits (by decide +kernel) (by size_fits))
theorem qiz{xs:Array Value}{n:Nat}{Q:Option Value->Shared->Prop}{sl:Array (Option Value)}(hx:s.heap.get? a=some {cls:=.type "list",dict:=none,data:=.seq xs n,slots:=sl})(hh:A.handled=none)
  (h:∀h' tk,(∀b o,s.heap.get? b=some o->h'.get? b=some o)->Q none {s with heap:=h',toks:=tk}) :
  wpAny (model prog w) A (getAttr? (.ref a) "keys") Q E s:=by
 obtain⟨hp,g,d,tk,os⟩:=s;have hT:(⟨hp,g,d,tk,os⟩:Shared).TypeIs (.ref a) "list" :=⟨_,hx,rfl⟩
 have f1:=sub_AttributeError;have f3:=g3c.lookup;have f4:=g3c.bind (.ref a);have f5:=q88;unfold getAttr? getAttrBy? getAttrBy
 repeat (any_goals (first|assumption|((with_reducible show wpAny _ _ (call (Value.builtin "list.__getattribute__") _ _) _ _ _);refine qiy hx (by first|exact hh|simpa using hh) fun h' tk' e x=>?_)|wp_step))
 obtain⟨t',u',he⟩:=x.there
 repeat (any_goals (first|assumption|wp_step))
 exact h _ _ x.keeps
end
end Js
namespace Js
open PySem
theorem q2x:entryFor table "dict.update.loop" = some Builtin.«dict.update.loop» :=entryFor_of_tree (by kernel_rfl)
theorem yi:plainId "dict.update.loop" = true:=by decide +kernel
abbrev TK(prog:Program)(w:World):=tupleKind (intKind prog w)
structure Prs(prog:Program)(w:World)(h:Heap)(vs:List Value)(ps:List (List Int×Addr×Value)): Prop where
 len:vs.length=ps.length
 pair:∀(i:Nat) (p:List Int×Addr×Value),ps[i]? = some p->∃q,vs[i]? = some (.ref q)/\h.IsTuple q #[.ref p.2.1,p.2.2]
 key:∀p∈ps,(TK prog w).is h p.1 p.2.1
theorem q0v{prog:Program}{w:World}{h h':Heap}{k:List Int}{a:Addr}(x:(TK prog w).is h k a)(e:∀o,h.get? a=some o->h'.get? a=some o): (TK prog w).is h' k a:=by
 obtain⟨o,items,n,ho,r⟩:=x;exact⟨o,items,n,e o ho,r⟩
section
variable{prog:Program}{w:World}{A:Around}{R:Result->Shared->Prop}
theorem qj0{vs:List Value}{ps:List (List Int×Addr×Value)}{N I S L:Addr}(hu:A.units+1<cLine)(hh:A.in1.handled=none)(hSN:N<=S)(hIN:N<=I)(hLN:L<N)(hSI:S≠I)(h0:Heap)(hN:∀b o,h0.get? b=some o->b<N)(P0:Prs prog w h0 vs ps)(hl0:h0.IsList L vs.toArray)(hnd:(ps.map (·.1)).Nodup)(hz:ps.length<=sizeLine):
  ∀(k i:Nat) (s:Shared) (j:Int) (tj:Tok),ps.length-i=k->i<=ps.length->s.heap.IsListIter I L i->(∀b o,h0.get? b=some o->s.heap.get? b=some o)->s.heap.DictOfH (TK prog w) S (ps.take i) ->
   (∀s',s'.gens=s.gens->s'.drawn=s.drawn->s'.os=s.os->s.toks<=s'.toks->(∀b o,h0.get? b=some o->s'.heap.get? b=some o)->s'.heap.DictOfH (TK prog w) S ps->R (.ok (.ret .none)) s') ->
   codeAny (model prog w) A (.builtin "dict.update.loop" ⟨[.ref S,.ref I,.int j tj,.none],[]⟩) R s:=by
 intro k
 induction k with
 | zero=>
  intro i s j tj hk hi hit hkeep hd hR;have hin:i=ps.length:=by lia
  subst hin;refine ui q2x ?_;rw [t9 yi _];have hls:s.heap.IsList L vs.toArray:=let⟨o,ho,r⟩:=hl0; ⟨o,hkeep L o ho,r⟩
  show wpAny _ A.in1 (pyNext (.ref I) >>= _) _ _ s;refine g0 (g4d hh hit hls (by simp [P0.len]) fun h' he=>?_);show wpAny _ A.in1 (Builtin.Dict.addKeywords S [] >>= _) _ _ _;refine g0 (g9 (g9 ?_));rw [tm (gw _)] at hd;refine hR _ rfl rfl rfl (gw _) (fun b o e=>he b o (m5 (gu (hN b o e) hIN)) (hkeep b o e)) ?_;obtain⟨o,es,ep,ho,hc,hdd,hes,his,hn⟩:=hd;exact⟨o,es,ep,he S o hSI ho,hc,hdd,hes,fun x hx=>q0v (P0.key x hx) fun o' e=>he _ o' (m5 (gu (hN _ o' e) hIN)) (hkeep _ o' e),hn⟩
 | succ k ih=>
  intro i s j tj hk hi hit hkeep hd hR;have hlt:i<ps.length:=by lia
  have hp:ps[i]? = some ps[i]:=mj hlt;obtain⟨q,hq,hqt⟩:=P0.pair i _ hp;have hkey:=P0.key _ (g2p hlt);generalize ps[i]=p at hp hq hqt hkey;refine ui q2x ?_;rw [t9 yi _];have hls:s.heap.IsList L vs.toArray:=let⟨o,ho,r⟩:=hl0; ⟨o,hkeep L o ho,r⟩
  show wpAny _ A.in1 (pyNext (.ref I) >>= _) _ _ s;refine g0 (g40 hit hls (x:=.ref q) (by simpa using hq) fun h' hit' hs'=>?_);have keep1:∀b o,h0.get? b=some o->h'.get? b=some o:=fun b o e=>hs'.extBut b o (m5 (gu (hN b o e) hIN)) (hkeep b o e);have hqt1:h'.IsTuple q #[.ref p.2.1,p.2.2]:=let⟨o,ho,r⟩:=hqt; ⟨o,keep1 q o ho,r⟩
  have hkey1:(TK prog w).is h' p.1 p.2.1:=q0v hkey fun o e=>keep1 _ o e;have hd1:h'.DictOfH (TK prog w) S (ps.take i):=by
   obtain⟨o,es,ep,ho,hc,hdd,hes,his,hn⟩:=hd;exact⟨o,es,ep,hs'.extBut S o hSI ho,hc,hdd,hes,fun x hx=>q0v (P0.key x (g18 hx)) fun o' e=>keep1 _ o' e,hn⟩
  dsimp only;refine g0 (ni ?_);refine g0 (g3m ?_);unfold Builtin.Dict.pairItems;obtain⟨oq,hoq,hcq,nq,hdq⟩:=hqt1;refine g0 (g16 (s:={s with heap:=h'}) (T:="tuple") ⟨oq,hoq,hcq⟩ ?_);rw [md (by decide)];refine g0 (g0l (s:={s with heap:=h'}) hoq hdq (g9 ?_));dsimp only [Option.getD_some];refine ni ?_;have hnone:atKey (ps.take i) p.1=none:=by
   refine g3y fun jj pp e=>?_;have hjj:jj<i:=by
    have:=(nh.mp e).1;rw [p6] at this;lia
   have e':ps[jj]? = some (p.1,pp):=by rw [g1z hjj] at e;exact e
   have:=idxH_unique hnd e' (show ps[i]? = some (p.1,p.2) from hp);lia
  refine wpAny_dictSet_heap (s:={s with heap:=h'}) (show(TK prog w).room A.in1 from hu) hkey1 hd1 (fun h2 hd2 hs2=>?_) (by rw [p6];lia);rw [storedH_new hnone,show ps.take i++[(p.1,p.2.1,p.2.2)]=ps.take (i+1) by rw [g3l,hp];rfl] at hd2;have ne2:∀b o,h0.get? b=some o->b≠S:=fun b o e=>m5 (gu (hN b o e) hSN);refine g9 ⟨g0k yi _,ih (i+1) _ _ _ (by lia) hlt ?_ (fun b o e=>?_) hd2 fun s' a1 a2 a3 a4 a5 a6=>?_⟩
  ·obtain⟨o,ho,r⟩:=hit'
   exact⟨o,hs2.extBut I o (nj hSI) ho,r⟩
  ·exact hs2.extBut b o (ne2 b o e) (keep1 b o e)
  ·exact hR s' a1 a2 a3 (my (g22 _ _) a4) a5 a6
end
section
variable{prog:Program}{w:World}{A:Around}{E:Value->Shared->Prop}{s:Shared}
theorem q89{L:Addr}{vs:List Value}{n0:Nat}{ps:List (List Int×Addr×Value)}{Q:Value->Shared->Prop}(hu:A.units+4<cLine)(hh:A.handled=none){sl:Array (Option Value)}(hL:s.heap.get? L=some {cls:=.type "list",dict:=none,data:=.seq vs.toArray n0,slots:=sl})(P0:Prs prog w s.heap vs ps)(hnd:(ps.map (·.1)).Nodup)(hz:ps.length<=sizeLine)
  (h:∀h' tk,(∀b o,s.heap.get? b=some o->h'.get? b=some o)->h'.DictOfH (TK prog w) s.heap.objs.size ps->Q (.ref s.heap.objs.size) {s with heap:=h',toks:=tk}) :
  wpAny (model prog w) A (call (.type "dict") [.ref L]) Q E s:=by
 refine callType_codes (Q₁:=fun obj s₁=>obj=.ref s.heap.objs.size/\s₁ = {s with heap:=s.heap.push {cls:=.type "dict",data:=.dict #[]} }) F.kt_called_dict (F.kt_typeCall_dict_1 _) F.entry_dict_init (kt_code_dict_new _ ⟨rfl,rfl⟩) ?_
 rintro obj s₁ ⟨rfl,rfl⟩
 let dO:Obj:={cls:=.type "dict",data:=.dict #[]}
 have hnew:(s.heap.push dO).DictOfH (TK prog w) s.heap.objs.size []:=Heap.DictOfH.new s.heap;have hTd:Shared.TypeIs {s with heap:=s.heap.push dO} (.ref s.heap.objs.size) "dict" :=⟨dO,gf _ rfl,rfl⟩
 have hL1:(s.heap.push dO).get? L=some {cls:=.type "list",dict:=none,data:=.seq vs.toArray n0,slots:=sl}:=gd _ hL;refine⟨hTd,F.args_dict_init_2 _ _,?_⟩;unfold Builtin.«dict.__init__»;refine g0 ?_;unfold Builtin.Dict.selfAndRest;refine g0 (g4g hTd ?_);show wpAny _ _ (pure (s.heap.objs.size,[Value.ref L])) _ _ _;refine g9 ?_;show wpAny _ _ (Builtin.Dict.updateFrom "dict.__init__" s.heap.objs.size (.ref L) [] .none) _ _ _;unfold Builtin.Dict.updateFrom;refine g0 (g16 (T:="list") ⟨_,hL1,rfl⟩ ?_);rw [md (by decide)];refine g0 (qiz (s:={s with heap:=s.heap.push dO}) hL1 (by simpa using hh) fun h1 tk1 k1=>?_);rw [md (by rfl)];refine g0 (g06 ?_);have hL2:h1.IsList L vs.toArray:=⟨_,k1 _ _ hL1,rfl,n0,rfl⟩
 refine g0 (g1v (s:={s with heap:=h1,toks:=tk1}) hL2 ?_)
 let iO:Obj:={cls:=.type "list_iterator",data:=.fields #[.ref L,.int 0 0]}
 have hz1:s.heap.objs.size+1<=h1.objs.size:=gz (k1 _ _ (gf s.heap (o:=dO) rfl));have hLs:L<s.heap.objs.size:=gz hL;have keep:∀b o,s.heap.get? b=some o->(h1.push iO).get? b=some o:=fun b o e=>gd _ (k1 b o (gd _ e));have hd0:(h1.push iO).DictOfH (TK prog w) s.heap.objs.size []:=by
  obtain⟨o,es,ep,ho,hc,hdd,hes,his,hn⟩:=hnew;exact⟨o,es,ep,gd _ (k1 _ _ ho),hc,hdd,hes,fun x hx=>(nomatch hx),hn⟩
 refine g9 ⟨g0k yi _,qj0 (A:=A.in1) (N:=s.heap.objs.size) (I:=h1.objs.size) (S:=s.heap.objs.size) (L:=L) (vs:=vs) (ps:=ps) (by show A.units+1+1<cLine;lia) (by simpa using hh) (gw _) (g1b hz1) hLs (m5 hz1) s.heap (fun b o e=>gz e) P0 ⟨_,hL,rfl,n0,rfl⟩ hnd hz
  ps.length 0 _ _ _ rfl (um _) ⟨iO,gf _ rfl,rfl,rfl⟩ keep hd0 fun s' a1 a2 a3 a4 a5 a6=>?_⟩
 obtain⟨h',g',d',tk',os'⟩:=s';dsimp only at a1 a2 a3 a4 a5 a6;subst a1;subst a2;subst a3;exact⟨rfl,h h' tk' a5 a6⟩
end
end Js
namespace DL
open PySem PySem.Spec PyProof.Rows L2
variable[Lam]
def q2c:List D->Option (List (List Int)×List D)
 | []=>some ([],[])
 | .tup [.tup kd,v] :: r=>(jh kd).bind fun k=>(q2c r).map fun p=>(k :: p.1,v :: p.2)
 | _ :: _=>none
def qav:List D->Option D
 | [.lst ds]=>(q2c ds).bind fun p=>if p.1.Nodup/\ds.length<=lim then some (.dtt p.1 p.2) else none
 | _=>none
def q6z:D->D->Option D
 | .tup kd,.dtt ks _=>(jh kd).map fun k=>.bl (decide (k∈ks))
 | _,_=>none
omit [Lam] in
theorem ints_rep{K:Frag}{F:Hp}: ∀ {kd:List D} {xs:List V} {k:List Int},jh kd=some k->RepL K F kd xs->xs=k.map V.int
 | [],xs,k,h,r=>by cases h;exact r.nil_inv
 | .int i :: kd,xs,k,h,r=>by
  obtain⟨k',h1,rfl⟩:=m8.mp h;obtain⟨x,ys,rfl,a1,a2⟩:=r.cons_inv;rw [rep_int.mp a1,ints_rep h1 a2];rfl
 | .non :: _,_,_,h,_=>by cases h
 | .bl _ :: _,_,_,h,_=>by cases h
 | .str _ :: _,_,_,h,_=>by cases h
 | .tup _ :: _,_,_,h,_=>by cases h
 | .lst _ :: _,_,_,h,_=>by cases h
 | .dct _ _ :: _,_,_,h,_=>by cases h
 | .dtt _ _ :: _,_,_,h,_=>by cases h
 | .obj _ :: _,_,_,h,_=>by cases h
 | .exc _ :: _,_,_,h,_=>by cases h
omit [Lam] in
theorem items_int{P:Program}{w:World}: ∀ {k:List Int} {us:List Value},Vals (k.map V.int) us->ItemsAre (intKind P w) k us
 | [],_,r=>by cases r;exact .nil
 | i :: k,_,r=>by
  cases r with
  | cons h t=>
   obtain⟨tk,rfl⟩:=h;exact .cons (g4t _ _ _ _) (items_int t)
section
variable{X:Cx}{pins:List (Addr×Obj)}{σ : St}{H F:Hp}{s:Shared}
omit [Lam] in
theorem kh(I:Inv X pins σ H s)(fh:Same F H){k:List Int}{a:Addr}(h:SqT X.K F a (k.map V.int)): (Js.TK X.prog X.w).is s.heap k a:=by
 obtain⟨its,r,⟨o,ho,hc,n,hd⟩,_⟩:=I.tuple (qk fh h);exact⟨o,its.toArray,n,ho,hc,hd,by simpa using items_int r⟩
omit [Lam] in
theorem qci (I:Inv X pins σ H s) (fh:Same F H):∀ {ds:List D} {ys:List V} {its:List Value} {ks:List (List Int)} {vs:List D},q2c ds=some (ks,vs)->RepL X.K F ds ys->Vals ys its ->
  ∃(ps:List (List Int×Addr×Value)) (ws:List V),Js.Prs X.prog X.w s.heap its ps/\ps.map (·.1)=ks/\(∀p∈ps,SqT X.K F p.2.1 (p.1.map V.int))/\Vals ws (ps.map fun p=>p.2.2)/\RepL X.K F vs ws
 | [],ys,its,ks,vs,h,k,r=>by
  cases h;cases k.nil_inv;cases r;exact⟨[],[],⟨rfl,fun i p e=>by simp at e,fun p hp=>(nomatch hp)⟩,rfl,fun p hp=>(nomatch hp),.nil,.nil⟩
 | d :: ds,ys,its,ks,vs,h,k,r=>by
  unfold q2c at h
  split at h
  ·cases ‹_ :: _=[]›
  ·rename_i kd v r' e
   injection e with e1 e2
   subst e1;subst e2;obtain⟨kk,h1,h2⟩:=gc.mp h;obtain⟨p,h3,h4⟩:=m8.mp h2;cases h4;obtain⟨x,ys',rfl,a1,a2⟩:=k.cons_inv;obtain⟨q,qs,rfl,b1,b2⟩:=rep_tup.mp a1;obtain⟨x1,z1,rfl,c1,c2⟩:=b2.cons_inv;obtain⟨x2,z2,rfl,d1,d2⟩:=c2.cons_inv;cases d2.nil_inv;obtain⟨ka,kxs,rfl,k1,k2⟩:=rep_tup.mp c1;rw [ints_rep h1 k2] at k1;cases r with
   | cons r1 r2=>
    cases r1;obtain⟨uu,hu,⟨oq,hoq,hcq,nq,hdq⟩,_⟩:=I.tuple (qk fh b1);cases hu with
    | cons u1 u2=>
     cases u1;cases u2 with
     | cons u3 u4=>
      cases u4;rename_i uv;obtain⟨ps,ws,P,e1,e2,e3,e4⟩:=qci I fh h3 a2 r2;refine⟨(kk,ka,uv) :: ps,x2 :: ws,⟨by simp [P.len],fun i p e=>?_,fun p hp=>?_⟩,by simp [e1],fun p hp=>?_,.cons u3 e3,.cons d1 e4⟩
      ·cases i with
       | zero=>
        simp only [g3r,g3s] at e;subst e;exact⟨q,rfl,oq,hoq,hcq,nq,hdq⟩
       | succ i=>exact P.pair i p (by simpa using e)
      ·rcases mm.mp hp with rfl|hp
       ·exact kh I fh k1
       ·exact P.key p hp
      ·rcases mm.mp hp with rfl|hp
       ·exact k1
       ·exact e2 p hp
  ·cases h
end
section
variable{X:Cx}
theorem qox(hc:X.calm=true)(hu:X.A.units+64<cLine): jz X (.type "dict") (rC X.K qav):=fun pins s σ H xs us Q I rv ⟨F,ds,d,fh,rl,ho,q⟩=>by
 unfold qav at ho
 split at ho
 ·rename_i ds'
  obtain⟨⟨ks,vs⟩,h1,h2⟩:=gc.mp ho
  split at h2
  ·rename_i hok
   cases h2;obtain⟨x,rfl,rx⟩:=rep1 rl;obtain⟨a,ys,rfl,k1,k2⟩:=rep_lst.mp rx;obtain⟨u,rfl,ru⟩:=vals1 rv;cases ru;obtain⟨its,r1,⟨o,n,e1,e2,e3,e4⟩,hz⟩:=I.list (fh.seq k1);obtain⟨oc,od,oda,osl⟩:=o;dsimp only at e2 e3 e4;subst e2;subst e3;subst e4;obtain⟨ps,ws,P,p1,p2,p3,p4⟩:=qci I fh h1 k2 r1;have hl:ps.length<=lim:=by
    rw [<- P.len, <- r1.length, <- k2.length];exact hok.2
   refine Js.q89 (by lia) (I.ok.hd hc) e1 P (by rw [p1];exact hok.1) (ja hl) fun h' tk old hd=>?_;have hnn:H s.heap.objs.size=none:=I.hok.fresh (gw _);obtain⟨o,es,ep,g1,g2,g3,g4,_,g5⟩:=hd;have de:DE s.heap.objs.size ps ep h':=⟨o,es,g1,g2,g3,g4⟩
   refine⟨.ref _,_,I.laid (t':=tk) (a:=s.heap.objs.size) (o:=.ext (DE s.heap.objs.size ps ep)) old (gw _) ⟨de,⟨o,g1⟩,fun h1 h2 ⟨o,es,z,r⟩ e=>⟨o,es,e o z,r⟩⟩,rfl,?_⟩;have g:=Grow.new (o:=.ext (DE s.heap.objs.size ps ep)) fh hnn;refine q _ _ _ g (rep_dtt.mpr ⟨_,ps,ws,ep,rfl,qr,p1,hok.1,ja hl,g1d.mpr (tu (q8w I)),fun x hx=>qk g.ff (p2 x hx),p3,p4.mono g.ff⟩)
  ·cases h2
 ·cases ho
theorem qrn(hu:X.A.units+64<cLine): OpR X (compareOp .In) (rD X.K q6z):=fun pins s σ H x y v u Q I rx ry ⟨F,d1,d2,d,fh,r1,r2,ho,q⟩=>by
 unfold q6z at ho
 split at ho
 ·rename_i kd ks vs
  obtain⟨k,h1,rfl⟩:=m8.mp ho;obtain⟨b,kxs,rfl,k1,k2⟩:=rep_tup.mp r1;obtain⟨a,xs,ys,ep,rfl,e1,e2,e3,e4,e5,e6,e7,e8⟩:=rep_dtt.mp r2;cases rx;cases ry;rw [ints_rep h1 k2] at k1;obtain⟨⟨o,es,g1,g2,g3,g4⟩,_,_⟩:=(show ObjOk X.prog X.w H s.heap a _ from I.hok a _ (fh _ _ e1))
  have dd:s.heap.DictOfH (Js.TK X.prog X.w) a xs:=⟨o,es,ep,g1,g2,g3,g4,fun x hx=>kh I fh (e6 x hx),by rw [e2];exact e3⟩
  refine wpAny_in_heap (g2a (by lia)) (kh I fh k1) e5 dd ?_;have:(atKey xs k).isSome=decide (k∈ks):=by
   rw [<- e2,g02,ud]
   constructor
   ·intro h
    obtain⟨p,hp⟩:=g15.mp h;obtain⟨z,hz,rfl⟩:=m8.mp hp;have:=List.find?_some hz;exact ng.mpr ⟨z,List.mem_of_find?_eq_some hz,by simpa using this⟩
   ·intro h
    obtain⟨z,hz,rfl⟩:=ng.mp h;obtain⟨i,hi⟩:=g4f.mp hz;rw [atKey_of_get (by rw [e2];exact e3) (show xs[i]? = some (z.1,z.2) from hi)]
    rfl
  rw [this];exact⟨.bl _,H,I.tok _,rfl,q _ F H (.refl fh) (rep_bl.mpr rfl)⟩
 ·cases ho
end
section
variable{X:Cx}
end
section
variable{X:Cx}{e:Expr}{pos:Pos}{f:FE}
end
section
variable{X:Cx}{N':List Str}{scope:Scope}{cap:List (Option Nat)}{tg iter elt:Expr}{ifs:List Expr}{it:FA}{b:FB}{c:FT}{f:FE}{pos:Pos}
theorem j4(hc:X.calm=true)(co:CapOkC X N' scope cap)(fr:q7t b cap)(hi:PI X tg iter (tDI X.K it))
  (hg:∀cl C s₀ H₀ fp,PG (j5 X N' scope cl C s₀ H₀ fp) tg (tDG X.K b)) (hcs:∀cl C s₀ H₀ fp,q1i (j5 X N' scope cl C s₀ H₀ fp) ifs (tDT X.K c)) (he:∀cl C s₀ H₀ fp,PE (j5 X N' scope cl C s₀ H₀ fp) elt (tD X.K f))
  (hs:∀x,foldedSetIterable iter X.env x=pure x:=by intro _;rfl):PE X (.ListComp elt [⟨tg,iter,ifs,0⟩] scope pos) (tL X.K (z9 it cap b c f)):=
 j6 (qkc hc co hi hg hcs he hs) fun σ H Q h=>qi7 fr h
end
def qn5 (outer:List (Str×NameKind)) (N N':List Str) (scope:Scope) (cap:List (Option Nat)):Bool:=
 scope.names.all (fun y=> !(y.2 == .cell) || (scope.names.lookup y.1==some .cell))&&(scope.names.all (fun y=> !(y.2 == .local) || (scope.names.lookup y.1==some .local))&&(scope.names.all (fun y=> !(y.2 == .free) || (outer.lookup y.1==some .cell) || (outer.lookup y.1==some .free)) &&
  (cap.length==N'.length&&(List.range cap.length).all fun i=>match(cap[i]?).join with
   | none=>true
   | some j=>match N'[i]? with
    | none=>false
    | some x=>N[j]? == some x&&scope.names.lookup x==some .free)))
omit [Lam] in
theorem zl{X:Cx}{N':List Str}{scope:Scope}{cap:List (Option Nat)}(hk:scope.kind=.function)(h:qn5 X.env.scope.names X.N N' scope cap=true): CapOkC X N' scope cap:=by
 unfold qn5 at h;simp only [m9,mr] at h;obtain⟨h1,h2,h3,h4,h5⟩:=h;refine⟨hk,fun y hy e=>?_,fun y hy e=>?_,fun y hy e=>?_,by simpa using h4,fun i j e=>?_⟩
 ·have:=h1 y hy;rw [e] at this;simpa using this
 ·have:=h2 y hy;rw [e] at this;simpa using this
 ·have:=h3 y hy
  rw [e] at this;simp only [beq_self_eq_true,g0z,g6q,g17,g4k] at this;exact this
 ·have hi:i<cap.length:=(nh.mp e).1
  have:=h5 i (uc.mpr hi);rw [e] at this;simp only [g49] at this
  split at this
  ·cases this
  ·rename_i x hx
   simp only [m9,g4k] at this;exact⟨x,hx,this.1,this.2⟩
end DL
namespace Js
open PySem PyProof.Rows
section
variable{prog:Program}{w:World}{A:Around}{E:Value->Shared->Prop}{s:Shared}
end
end Js
namespace DL
open PySem PySem.Spec PyProof.Rows L2
variable[Lam]
section
variable{X:Cx}{pos:Pos}
def q2y:D->D->Option D
 | .dtt ks vs,.tup kd=>(jh kd).bind fun k=>if k∈ks then vs[ks.idxOf k]? else none
 | _,_=>none
theorem qro(hu:X.A.units+64<cLine): IxR X (rD X.K q2y):=by
 intro value slice pins s σ H x y v u Q I rx ry ⟨F,d1,d2,d,fh,r1,r2,ho,q⟩ hs;unfold q2y at ho
 split at ho
 ·rename_i ks vs kd
  obtain⟨k,h1,ho⟩:=gc.mp ho
  split at ho
  ·rename_i hk
   obtain⟨b,kxs,rfl,k1,k2⟩:=rep_tup.mp r2;obtain⟨a,xs,ys,ep,rfl,e1,e2,e3,e4,e5,e6,e7,e8⟩:=rep_dtt.mp r1;cases rx;cases ry;rw [ints_rep h1 k2] at k1;obtain⟨⟨o,es,g1,g2,g3,g4⟩,_,_⟩:=(show ObjOk X.prog X.w H s.heap a _ from I.hok a _ (fh _ _ e1))
   have dd:s.heap.DictOfH (Js.TK X.prog X.w) a xs:=⟨o,es,ep,g1,g2,g3,g4,fun x hx=>kh I fh (e6 x hx),by rw [e2];exact e3⟩
   obtain⟨w,ew,rw'⟩:=e8.get ho;obtain⟨uu,eu,ruu⟩:=e7.get ew;rw [mv] at eu;obtain⟨z,hz,rfl⟩:=m8.mp eu;have hzk:z.1=k:=by
    have h2:(xs.map (·.1))[ks.idxOf k]? = some z.1:=by rw [mv,hz];rfl
    rw [e2,mj (g1o hk),g3d] at h2;exact(mf h2).symm
   refine tail_any (ops:=[.ref a,.ref b]) (T:="dict") ⟨o,g1,g2.1⟩ PySem.F.slot_dict_getitem.lookup ?_ hs;refine wpAny_getItem_heap (g2a (by lia)) (kh I fh k1) dd (p:=z.2) ?_ ⟨w,H,I.tok _,ruu,q w F H (.refl fh) rw'⟩;rw [<- hzk];exact atKey_of_get (by rw [e2];exact e3) (show xs[ks.idxOf k]? = some (z.1,z.2) from hz)
  ·cases ho
 ·cases ho
theorem qj1{a b:Expr}{f g:FE}(hu:X.A.units+64<cLine)(ha:PE X a (tD X.K f))(hb:PE X b (tD X.K g))(hs:q8q b:=by intro _ _;rfl): PE X (.Subscript a b pos) (tD X.K (eOp q2y f g)):=j6 (qmu (qro hu) ha hb hs) fun σ H Q h=>two h
end
abbrev DX:=List (List Int×Addr×Value)
section
variable{X:Cx}{pos:Pos}{tg e:Expr}
end
section
variable{X:Cx}{pos:Pos}
theorem qj2:PE X (.Dict [] [] pos) (fun σ H Q=>∀a,H a=none->(a==sysModules)=false->Q (.ref a) (upd H a (.ext (DE a [] 0)))):=fun pins s σ H Q I q=>by
 have hn:H s.heap.objs.size=none:=I.hok.fresh (gw _);have hb:=g1d.mpr (nj (m5 (q8w I)));refine wpAny_Dict_empty ⟨.ref s.heap.objs.size,_,I.laid (a:=s.heap.objs.size) (o:=.ext (DE s.heap.objs.size [] 0)) (t':=s.toks) (fun _ _ z=>gd _ z) (gw _)
  ⟨⟨_, #[],gf _ rfl,⟨rfl,rfl,rfl⟩,rfl,rfl⟩,⟨_,gf _ rfl⟩,fun h1 h2 ⟨o,es,z,r⟩ e=>⟨o,es,e o z,r⟩⟩,rfl,q _ hn hb⟩
def qn6(K:Frag): V->V->V->Hp->(Hp->Prop)->Prop:=fun o i v H Q=>∃a b k xs ep,o=.ref a/\i=.ref b/\H a=some (.ext (DE a xs ep))/\SqT K H b (k.map V.int)/\(∀x∈xs,SqT K H x.2.1 (x.1.map V.int)) /\
 (xs.map (·.1)).Nodup/\k∉xs.map (·.1)/\xs.length<=sizeLine/\∀u ep',RelV v u->(∃h,DE a xs ep h)->Q (upd H a (.ext (DE a (xs++[(k,b,u)]) ep')))
theorem qdp{xs:DX}{k:List Int}{b:Addr}{u:Value}(h:k∉xs.map (·.1)): storedH xs k b u=xs++[(k,b,u)]:=by
 have hn:atKey xs k=none:=g3y fun jj pp e=>h (ng.mpr ⟨_,tw e,rfl⟩);exact storedH_new hn b u
theorem qoy(hu:X.A.units+64<cLine): qpz X (qn6 X.K):=by
 intro pins s σ H o i v ov iv u Q I ro ri rv h;obtain⟨a,b,k,xs,ep,rfl,rfl,e1,k1,e6,nd,hk,hz,q⟩:=h;cases ro;cases ri;obtain⟨⟨o,es,g1,g2,g3,g4⟩,_,_⟩:=(show ObjOk X.prog X.w H s.heap a _ from I.hok a _ e1)
 have dd:s.heap.DictOfH (Js.TK X.prog X.w) a xs:=⟨o,es,ep,g1,g2,g3,g4,fun x hx=>kh I (.refl _) (e6 x hx),nd⟩
 refine wpAny_setItem_heap (g2a (by lia)) (kh I (.refl _) k1) dd (fun h' dd' sb=>?_) hz;rw [qdp hk] at dd';obtain⟨o',es',ep',z1,z2,z3,z4,_,_⟩:=dd';refine⟨_,I.write (x:=a) (e:=a) (o:=.ext (DE a (xs++[(k,b,u)]) ep')) (by rw [e1];trivial) (.inl rfl) (fun c w hc e=>(sb.2 c hc).trans e) ⟨_,z1⟩ ?_,q u ep' rv ⟨_,o,es,g1,g2,g3,g4⟩⟩;exact⟨⟨o',es',z1,z2,z3,z4⟩,⟨o',z1⟩,fun h1 h2 ⟨o,es,z,r⟩ e=>⟨o,es,e o z,r⟩⟩
omit [Lam] in
theorem qlr{a c:Addr}{xs:DX}{ep:Nat}{h:Heap}{b:Str}(d:DE a xs ep h)(k:h.CodeRec (.ref c) b): a≠c:=fun z=>by
 subst z;obtain⟨o,es,g1,g2,g3,g4⟩:=d;obtain⟨c,o',vs,t,e0,e1,e2,_⟩:=k;cases e0;rw [g1] at e1;cases e1;rw [g3] at e2;cases e2
theorem qls{H:Hp}(t:Tab H){p:Addr}{o:HO}{xs:DX}{ep:Nat}(h:H p=some (.ext (DE p xs ep)))(hx:∃h,DE p xs ep h): Tab (upd H p o):=fun q hq=>by
 obtain⟨ps,e,ht,k⟩:=t q hq;obtain⟨h0,hd⟩:=hx;refine⟨ps,by rw [ql (fun z=>by subst z;rw [h] at e;cases e)];exact e,ht,fun pos cv z=>?_⟩;obtain⟨c, φ,e1,e2,e3⟩:=k pos cv z;refine⟨c, φ,e1,?_,e3⟩
 by_cases hc:c=p
 ·subst hc
  rw [h] at e2;cases e2;exact absurd rfl (qlr hd (e3 h0 hd))
 ·rw [ql hc];exact e2
end
section
variable{K:Frag}{F0 H0 F H F' H':Hp}{σ : St}{ρ : Rho}
theorem q1a{i:Nat}(no:xx ρ): xx (ρ.set i none):=fun j b h=>by
 by_cases q:j=i
 ·subst q
  obtain⟨z,_⟩:=qu h;cases z
 ·rw [m6 (nj q)] at h
  exact no j b h
theorem qrp(r:RS K F0 H0 F H σ ρ)(no:xx ρ)(i:Nat)(v:Option V): RS K F0 H0 F H (σ.set i v) (ρ.set i none) where
 t0:=r.t0
 g:=r.g
 len:=by rw [g03,g03];exact r.len
 fz:=fun j e h1=>by
  by_cases q:j=i
  ·subst q
   obtain⟨z,l⟩:=qu h1;cases z
  ·rw [m6 (nj q)] at h1 ⊢
   exact r.fz j e h1
 ow:=fun i ds h=>(y3 (q1a no) h).elim
 dj:=fun i j ds es a _ h=>(y3 (q1a no) h).elim
 od:=fun i ds h=>(y4 (q1a no) h).elim
 o1:=fun i j ds es h=>(y4 (q1a no) h).elim
theorem qn7(r:RS K F0 H0 F H σ ρ)(no:xx ρ){p:Addr}{o:HO}(h1:F p=none)(h2:H0 p=none)(h3:Tab (upd H p o)): RS K F0 H0 F (upd H p o) σ ρ where
 t0:=r.t0
 g :=⟨r.g.ff,⟨fun b u e=>by rw [ql (fun z=>by subst z;rw [h2] at e;cases e)];exact r.g.hh.lst b u e,fun b u e=>by rw [ql (fun z=>by subst z;rw [h2] at e;cases e)];exact r.g.hh.ext b u e,fun {b} e=>by
   by_cases z:b=p
   ·subst z;exact h2
   ·rw [ql z] at e;exact r.g.hh.free e,fun _=>h3,fun b u e=>by rw [ql (fun z=>by subst z;rw [h2] at e;cases e)];exact r.g.hh.dk b u e⟩,fun b u e=>by rw [ql (fun z=>by subst z;rw [h1] at e;cases e)];exact r.g.fh b u e,r.g.nw⟩
 len:=r.len
 fz:=r.fz
 ow:=fun i ds h=>(y3 no h).elim
 dj:=fun i j ds es a _ h=>(y3 no h).elim
 od:=fun i ds h=>(y4 no h).elim
 o1:=fun i j ds es h=>(y4 no h).elim
theorem qrq(r:RS K F0 H0 F H σ ρ)(no:xx ρ){p:Addr}{o:HO}(h1:F p=none)(h2:H0 p=none)(h3:H p=some o): RS K F0 H0 (upd F p o) H σ ρ where
 t0:=r.t0
 g :=⟨r.g.ff.trans (k7 h1),r.g.hh,fun b u e=>by
   by_cases q:b=p
   ·subst q;rw [qr] at e;cases e;exact h3
   ·rw [ql q] at e;exact r.g.fh b u e,fun b hb=>by
   by_cases q:b=p
   ·subst q;exact .inr h2
   ·rw [ql q] at hb;exact r.g.nw b hb⟩
 len:=r.len
 fz:=fun i d e=>let⟨v,e1,e2⟩:=r.fz i d e; ⟨v,e1,e2.mono (k7 h1)⟩
 ow:=fun i ds h=>(y3 no h).elim
 dj:=fun i j ds es a _ h=>(y3 no h).elim
 od:=fun i ds h=>(y4 no h).elim
 o1:=fun i j ds es h=>(y4 no h).elim
theorem qrr(r:RS K F0 H0 F H σ ρ){i:Nat}{d:D}{v:V}(hv : σ[i]? = some (some v))(h:Rep K F d v): RS K F0 H0 F H σ (ρ.set i (some (.fz d))):=by
 have e : σ.set i (some v) = σ :=by
  apply List.ext_getElem?;intro j
  by_cases q:j=i
  ·subst q
   rw [hv,g1h (nh.mp hv).1]
  ·rw [m6 (nj q)]
 have:=r.set i h;rw [e] at this;exact this
structure GD(K:Frag)(F H:Hp)(a:Addr)(ks:List (List Int))(vs:List D): Prop where
 ex:∃xs ys ep,H a=some (.ext (DE a xs ep))/\xs.map (·.1)=ks/\(∀x∈xs,SqT K F x.2.1 (x.1.map V.int))/\Vals ys (xs.map fun x=>x.2.2)/\RepL K F vs ys
 f:F a=none
theorem GD.grow{a:Addr}{ks:List (List Int)}{vs:List D}(d:GD K F H a ks vs)(g:Grow F H F' H'): GD K F' H' a ks vs:=by
 obtain⟨⟨xs,ys,ep,e1,e2,e3,e4,e5⟩,f⟩:=d;exact⟨⟨xs,ys,ep,g.hh.ext _ _ e1,e2,fun x hx=>qk g.ff (e3 x hx),e4,e5.mono g.ff⟩,q2w g f e1⟩
theorem GD.rep{a:Addr}{ks:List (List Int)}{vs:List D}(d:GD K F H a ks vs)(hs:(a==sysModules)=false)(nd:ks.Nodup)(hl:ks.length<=sizeLine): ∃o,H a=some o/\Rep K (upd F a o) (.dtt ks vs) (.ref a):=by
 obtain⟨⟨xs,ys,ep,e1,e2,e3,e4,e5⟩,f⟩:=d;have s:=k7 (o:=.ext (DE a xs ep)) f;exact⟨_,e1,rep_dtt.mpr ⟨a,xs,ys,ep,rfl,qr,e2,nd,by rw [<- mn (·.1),e2];exact hl,hs,fun x hx=>qk s (e3 x hx),e4,e5.mono s⟩⟩
theorem GD.push{a b:Addr}{ks:List (List Int)}{vs:List D}{k:List Int}{dv:D}{v:V}{u:Value}{xs:DX}{ys:List V}{ep':Nat}(f:F a=none)(e2:xs.map (·.1)=ks)(e3:∀x∈xs,SqT K F x.2.1 (x.1.map V.int))(e4:Vals ys (xs.map fun x=>x.2.2))(e5:RepL K F vs ys)
  (hb:SqT K F b (k.map V.int)) (hv:Rep K F dv v) (hu:RelV v u):GD K F (upd H a (.ext (DE a (xs++[(k,b,u)]) ep'))) a (ks++[k]) (vs++[dv]):=by
 refine⟨⟨xs++[(k,b,u)],ys++[v],ep',qr,by rw [uj,e2];rfl,fun x hx=>?_,?_,e5.append (.cons hv .nil)⟩,f⟩
 ·rcases nz.mp hx with hx|hx
  ·exact e3 x hx
  ·rw [n9.mp hx];exact hb
 ·rw [uj]
  exact e4.append (.cons hu .nil)
def qcj:D->Option (List Int)
 | .tup kd=>jh kd
 | _=>none
def q8a:List D->Option (List (List Int))
 | []=>some []
 | d :: ds=>(qcj d).bind fun k=>(q8a ds).map (k :: ·)
def q42(f:FE)(ρ : Rho)(j:Nat): List D->Option (List D)
 | []=>some []
 | d :: ds=>(f (ρ.set j (some (.fz d)))).bind fun v=>(q42 f ρ j ds).map (v :: ·)
def q70(ρ : Rho)(j:Nat)(ds:List D): Rho:=match ds.getLast? with
 | some d=> ρ.set j (some (.fz d))
 | none=> ρ
def qj3(ρ : Rho): Bool:= ρ.all fun b=>match b with
 | some (.ow _)=>false
 | some (.od _)=>false
 | _=>true
omit [Lam] in
theorem qlt(h:qj3 ρ = true): xx ρ :=fun i b e=>by
 have:=mr.mp h _ (tw e);cases b with
 | fz d=>exact⟨d,rfl⟩
 | ow _=>cases this
 | od _=>cases this
omit [Lam] in
theorem q9w:∀ {ds:List D} {ks:List (List Int)},q8a ds=some ks->ks.length=ds.length/\∀(k:Nat) (d:D),ds[k]? = some d->∃q,ks[k]? = some q/\qcj d=some q
 | [],ks,h=>by cases h;exact⟨rfl,fun k d e=>by cases e⟩
 | d :: ds,ks,h=>by
  obtain⟨q,h1,h2⟩:=gc.mp h;obtain⟨r,h3,rfl⟩:=m8.mp h2;obtain⟨e1,e2⟩:=q9w h3;refine⟨by rw [p8,p8,e1],fun k x e=>?_⟩;cases k with
  | zero=>cases e;exact⟨q,rfl,h1⟩
  | succ k=>exact e2 k x e
omit [Lam] in
theorem q9x{f:FE}{j:Nat}: ∀ {ds vs:List D},q42 f ρ j ds=some vs->vs.length=ds.length/\∀(k:Nat) (d:D),ds[k]? = some d->∃q,vs[k]? = some q/\f (ρ.set j (some (.fz d)))=some q
 | [],ks,h=>by cases h;exact⟨rfl,fun k d e=>by cases e⟩
 | d :: ds,ks,h=>by
  obtain⟨q,h1,h2⟩:=gc.mp h;obtain⟨r,h3,rfl⟩:=m8.mp h2;obtain⟨e1,e2⟩:=q9x h3;refine⟨by rw [p8,p8,e1],fun k x e=>?_⟩;cases k with
  | zero=>cases e;exact⟨q,rfl,h1⟩
  | succ k=>exact e2 k x e
end
abbrev qt9:TE:=fun σ H Q=>∀a,H a=none->(a==sysModules)=false->Q (.ref a) (upd H a (.ext (DE a [] 0)))
theorem take_snoc{α : Type}{l:List α}{k:Nat}{x : α}(h:l[k]? = some x): l.take (k+1)=l.take k++[x]:=by rw [g3l,h];rfl
section
variable{X:Cx}{pos:Pos}
theorem qoz{K:Frag}{F:Hp}{d:D}{q:List Int}{x:V}(hq:qcj d=some q)(hr:Rep K F d x): ∃b,x=.ref b/\SqT K F b (q.map V.int):=by
 unfold qcj at hq
 split at hq
 ·obtain⟨b,xs,rfl,h1,h2⟩:=rep_tup.mp hr
  rw [ints_rep hq h2] at h1;exact⟨b,rfl,h1⟩
 ·cases hq
end
section
variable{X:Cx}{pos:Pos}{e:Expr}
end
end DL
namespace Srt
open PySem PyProof.Rows
section
variable{prog:Program}{w:World}{A:Around}{E:Value->Shared->Prop}{s:Shared}{κ : SortKind}{G:Value->Prop}{lt:Value->Value->Bool}
theorem qdq{l:Addr}{vs:List Value}{Q:List Value->Shared->Prop}(hl:s.heap.IsTuple l vs.toArray)
  (hQ:Q vs {s with heap:=(s.heap.push (seqObj "list" #[] 0)).update s.heap.objs.size (Obj.mapSeq fun x=>x++vs.toArray)}) (hn:vs.length<=sizeLine):wpAny (model prog w) A (collect (.ref l)) Q E s:=by
 have hlt:l<s.heap.objs.size:=by obtain⟨o,ho,_⟩:=hl;exact gz ho
 unfold collect;refine g0 (wpAny_runValue (ui F.entry_proto_collect ?_));rw [t9 F.plain_proto_collect _];show wpAny _ A.in1 (newList [] >>= fun x=>again (.builtin "list.__iadd__" ⟨[x,.ref l],[]⟩)) _ _ s;refine g0 (pk ?_);refine g9 ⟨g0k g3x _,ui F.entry_list_iadd ?_⟩;rw [t9 g3x _];have h1:Builtin.List.listSameRef (.ref s.heap.objs.size) (.ref l)=false:=by simp [Builtin.List.listSameRef,tu hlt]
 show wpAny _ A.in1 (Builtin.List.listExtendWith (.ref s.heap.objs.size) (.ref l) (.ref s.heap.objs.size)) _ _ _;unfold Builtin.List.listExtendWith;have hl1:(s.heap.push {cls:=.type "list",data:=.seq ([]:List Value).toArray}).IsTuple l vs.toArray:=by obtain⟨o,ho,r⟩:=hl;exact⟨o,gd _ ho,r⟩
 have hT:Shared.TypeIs {s with heap:=s.heap.push {cls:=.type "list",data:=.seq ([]:List Value).toArray} } (.ref l) "tuple" :=by obtain⟨o,ho,hc,_⟩:=hl1;exact⟨o,ho,hc⟩
 refine g0 (g16 hT ?_);rw [md (by simp)];obtain⟨o,ho,hc,n,hd⟩:=hl1;have hS:(s.heap.push {cls:=.type "list",data:=.seq ([]:List Value).toArray}).get? s.heap.objs.size=some (seqObj "list" #[] 0):=gf _ rfl;refine g0 (g4s ho hd ?_);refine g0 (g4s hS rfl ?_);rw [mi (by simp)];refine g0 (g1s hS rfl ?_ (um _) (by simp;exact Nat.le_succ_of_le hn));refine g9 ?_;have e:=g19 hS fun x=>x++vs.toArray;refine g0 (wpAny_load e ?_);show wpAny _ _ (pure (#[]++vs.toArray).toList) _ _ _;rw [show((#[]:Array Value)++vs.toArray).toList=vs by simp];exact g9 hQ
theorem qdr{l:Addr}{vs:List Value}{Q:Value->Shared->Prop}(hl:s.heap.IsTuple l vs.toArray)(hz:vs.length<=sizeLine)
  (hkind:2<=vs.length->∀Q:SortKind->Shared->Prop,Q κ {s with heap:=jt (srtH s.heap vs) (s.heap.objs.size+1) vs}->wpAny (model prog w) A.in1.in1 (keyKind' vs.toArray) Q E {s with heap:=jt (srtH s.heap vs) (s.heap.objs.size+1) vs})
  (C:2<=vs.length->Cmp prog w A.in1.in1 {s with heap:=jt (srtH s.heap vs) (s.heap.objs.size+1) vs} κ G lt) (g:∀v∈vs,G v)
  (h:∀out:List Value,out.Perm vs->out.Pairwise (fun x y=>lt y x=false)->Q (.ref (s.heap.objs.size+1)) {s with heap:=sortedAll s.heap vs out.toArray}) :
  wpAny (model prog w) A (call (.builtin "sorted") [.ref l]) Q E s:=by
 refine Calls.call_function_entry kind_sorted plain_sorted entry_sorted (args_sorted1 _) ?_;unfold Builtin.«sorted»;refine g0 (m:=checkCount "sorted" 1 1 _) (g9 ?_);refine g0 (qdq hl ?_ hz);refine g0 (g47 ?_);have hsz:((s.heap.push (seqObj "list" #[] 0)).update s.heap.objs.size (Obj.mapSeq (· ++ vs.toArray))).objs.size=s.heap.objs.size+1:=by
  rw [tf,g0f]
 have hoL:(srtH s.heap vs).get? (s.heap.objs.size+1)=some (seqObj "list" vs.toArray 0):=by
  unfold srtH;rw [<- hsz];exact gf _ rfl
 show wpAny _ _ _ _ _ {s with heap:=srtH s.heap vs};rw [hsz];refine g0 (ni (p7 slot_list_sort ⟨_,hoL,rfl⟩ entry_list_sort (qih (κ := κ) (G:=G) (lt:=lt) hoL hz hkind C g fun out a1 a2=>⟨_,rfl,?_⟩) (args_list_sort _)));exact g9 ⟨_,rfl,h out a1 a2⟩
end
end Srt
namespace DL
open PySem PySem.Spec PyProof.Rows L2 Srt PySem.W
variable[Lam]
section
variable{X:Cx}{F H:Hp}{pos:Pos}
def q3l:List D->Option (List D)
 | [.tup ds]=>if q11 ds then some ((w8 (ds.map fun d=>(d,d))).map Prod.snd) else none
 | _=>none
theorem qj4(hu:X.A.units+64<cLine): jz X (.builtin "sorted") (rCL X.K q3l):=fun pins s σ H xs us Q I rv ⟨F,ds,es,fh,rl,ho,q⟩=>by
 unfold q3l at ho
 split at ho
 ·rename_i ds
  split at ho
  ·rename_i hok
   cases ho;obtain⟨x,rfl,rx⟩:=rep1 rl;obtain⟨a,ys,rfl,k1,k2⟩:=rep_tup.mp rx;obtain⟨u,rfl,ru⟩:=vals1 rv;cases ru;obtain⟨its,r1,p1,hz⟩:=I.tuple (qk fh k1);obtain⟨T,t1,t2,t3,t4⟩:=qlb k2 r1;have kds:∀d∈ds,kD d=true:=by
    unfold q11 at hok;rw [m9,m9] at hok;exact mr.mp hok.1.1
   have st:∀t∈T,q2a X.K F t.2.2 t.2.1:=fun t ht=>⟨kds _ (by rw [<- t3];exact g1g ht),t.1,t4 t ht⟩
   have hlen:its.length<=sizeLine:=by rw [<- r1.length];exact hz
   have keep:∀b o,s.heap.get? b=some o->(jt (srtH s.heap its) (s.heap.objs.size+1) its).get? b=some o:=fun b o qb=>by
    have hlt:b<s.heap.objs.size:=gz qb;unfold jt srtH;have z1:((s.heap.push (seqObj "list" #[] 0)).update s.heap.objs.size (Obj.mapSeq (· ++ its.toArray))).objs.size=s.heap.objs.size+1:=by rw [tf,g0f]
    have ne:∀k,b≠s.heap.objs.size+k:=fun k=>m5 (gu hlt (g22 _ _));rw [ue _ _ _ (by rw [g0f,tf,g0f,z1];exact ne 3),ue _ _ _ (by rw [tf,g0f,z1];exact ne 2),g08 _ _ _ _ (ne 1),
     ue _ _ _ (by rw [z1];exact ne 1),g08 _ _ _ _ (show b≠s.heap.objs.size from ne 0),ue _ _ _ (show b≠s.heap.objs.size from ne 0)]
    exact qb
   have I6:Inv X pins σ H {s with heap:=jt (srtH s.heap its) (s.heap.objs.size+1) its}:=I.kept (t':=s.toks) keep;obtain⟨κ,hk,C⟩:=qn4 I6 fh X.A.in1.in1 (by show X.A.units+1+1+60<cLine;lia) (us:=its) (ks:=ds) (fun u hu=>by
    rw [<- t2] at hu;obtain⟨t,ht,rfl⟩:=ng.mp hu;exact⟨t.2.2,by rw [<- t3];exact g1g ht,st t ht⟩) hok
   refine qdr p1 hlen (fun h2 Q q=>hk h2 _ Q q) (fun _=>C) (fun v hv=>hv) fun out a1 a2=>?_;obtain⟨T',pT,eT⟩:=q9r (fun t:V×Value×D=>t.2.1) a1 t2.symm;have hT':∀t∈T',Rep X.K F t.2.2 t.1/\RelV t.1 t.2.1:=fun t ht=>t4 t (pT.mem_iff.mp ht);have hk':∀t∈T',keyOf X.K F t.2.1=t.2.2:=fun t ht=>q3y I fh (st t (pT.mem_iff.mp ht));have eD:T'.map (·.2.2)=(w8 (ds.map fun d=>(d,d))).map Prod.snd:=by
    have e1:T'.map (fun t=>(t.2.2,t.2.2))=w8 (ds.map fun d=>(d,d)):=by
     refine q6v ?_ ?_ ?_
     ·have:=pT.map (fun t:V×Value×D=>(t.2.2,t.2.2))
      rw [<- t3,nv];exact this
     ·rw [g0b]
      rw [eT,g0b] at a2;refine g23 (fun {x y} hx hy h=>?_) a2;rw [hk' x hx,hk' y hy] at h;exact h
     ·intro x hx y hy h1 h2
      obtain⟨d,hd,rfl⟩:=ng.mp hx;obtain⟨e,he,rfl⟩:=ng.mp hy;rw [lt_eq (kds d hd) (kds e he) h1 h2]
    rw [<- e1,nv]
    rfl
   have hn:H (s.heap.objs.size+1)=none:=I.hok.fresh (g1i _);have vo:Vals (T'.map (·.1)) out:=by
    rw [eT];clear eT eD pT hk'
    induction T' with
    | nil=>exact .nil
    | cons t T' ih=>exact .cons (hT' t gq).2 (ih fun t ht=>hT' t (gr _ ht))
   have ro:RepL X.K F (T'.map (·.2.2)) (T'.map (·.1)):=by
    clear eT eD pT hk' vo
    induction T' with
    | nil=>exact .nil
    | cons t T' ih=>exact .cons (hT' t gq).1 (ih fun t ht=>hT' t (gr _ ht))
   obtain⟨e,he⟩:=sortedAll_at s.heap its out.toArray;have ll:(T'.map (·.1)).length<=sizeLine:=by
    rw [mn,pT.length_eq, <- mn (f:=fun t:V×Value×D=>t.1) (as:=T),t1];exact hz
   refine⟨.ref (s.heap.objs.size+1),_,I.laid (t':=s.toks) (a:=s.heap.objs.size+1) (o:=.lst (T'.map (·.1))) (fun b ob q=>sortedAll_old q) (g1i _) ⟨ll,out,e,vo,he⟩,rfl,?_⟩;exact q _ _ F _ (Grow.own fh hn) (fh.free hn) hn qr (by rw [<- eD];exact ro)
  ·cases ho
 ·cases ho
end
end DL
namespace DL
open PySem PySem.Spec PyProof.Rows L2
variable[Lam]
section
variable{X:Cx}{N':List Str}{scope:Scope}{cap:List (Option Nat)}{tg iter elt:Expr}{ifs:List Expr}{it:FA}{b:FB}{c:FT}{f:FE}{pos:Pos}
theorem qlu{i:Nat}{x:Str}{px pe:Pos}(hc:X.calm=true)(hN:X.N.Nodup)(hx0:X.N[i]? = some x)(hx:X.env.scope.names.lookup x=some .local)(co:CapOkC X N' scope cap)(fr:q7t b cap)(hi:PI X tg iter (tDI X.K it))
  (hg:∀cl C s₀ H₀ fp,PG (j5 X N' scope cl C s₀ H₀ fp) tg (tDG X.K b)) (hcs:∀cl C s₀ H₀ fp,q1i (j5 X N' scope cl C s₀ H₀ fp) ifs (tDT X.K c)) (he:∀cl C s₀ H₀ fp,PE (j5 X N' scope cl C s₀ H₀ fp) elt (tD X.K f))
  (hsw:swapsWith (.ListComp elt [⟨tg,iter,ifs,0⟩] scope pe) (some (.Name x px)) pos.line X.env=pure true:=by rfl)
  (hs:∀x,foldedSetIterable iter X.env x=pure x:=by intro _;rfl):PS X (.Assign [.Name x px] (.ListComp elt [⟨tg,iter,ifs,0⟩] scope pe) pos) (tDS X.K (q32 i (z9 it cap b c f))):=
 wx (qdl hc hN hx0 hx co hi hg hcs he hsw hs) fun D σ H h=>qi7 fr (qmx h)
end
end DL
namespace Rv
open PySem PyProof.Rows
section
variable{prog:Program}{w:World}{A:Around}{E:Value->Shared->Prop}{s:Shared}{I:Addr}{fp wr:List Addr}{G:Array GenState->Array GenState->Prop}{n:Nat}{P:Nat->Value->Prop}{St:Nat->Shared->Prop}
end
end Rv
namespace DL
open PySem PySem.Spec PyProof.Rows L2
variable[Lam]
section
variable{X:Cx}{pos:Pos}{tg:Expr}
end
end DL
namespace Rv
open PySem PyProof.Rows
section
variable{prog:Program}{w:World}{A:Around}{s:Shared}{R:Result->Shared->Prop}
variable{I:Addr}{fp wr:List Addr}{G:Array GenState->Array GenState->Prop}{n:Nat}{P:Nat->Value->Prop}{St:Nat->Shared->Prop}
end
section
variable{prog:Program}{w:World}{A:Around}{E:Value->Shared->Prop}{s:Shared}
variable{I:Addr}{fp wr:List Addr}{G:Array GenState->Array GenState->Prop}{n:Nat}{P:Nat->Value->Prop}{St:Nat->Shared->Prop}
end
end Rv
namespace Js
open PySem
open Sem (wp)
theorem qds:typeLookup (.type "tuple") "keys" = pure none:=by rw [g29,g12];kernel_rfl
theorem q94:typeLookup (.type "tuple") "__getattr__" = pure none:=by rw [g29,g12];kernel_rfl
section
variable{prog:Program}{w:World}{A:Around}{E:Value->Shared->Prop}{s:Shared}{a:Addr}
theorem qga{xs:Array Value}{n:Nat}{u:Tok}{Q:Value->Shared->Prop}{sl:Array (Option Value)}(hx:s.heap.get? a=some {cls:=.type "tuple",dict:=none,data:=.seq xs n,slots:=sl})(hh:A.handled=none)
  (h:∀h' tk e,Heap.NewAttrErr s.heap h' e (.ref a) "keys" -> E (.ref e) {s with heap:=h',toks:=tk}) :
  wpAny (model prog w) A (call (.builtin "tuple.__getattribute__") [.ref a,.str "keys" u]) Q E s:=by
 refine p7 g32 ⟨_,hx,rfl⟩ F.entry_tuple_ga ?_ (F.args_tuple_getattribute_2 _ _);obtain⟨hp,g,d,tk,os⟩:=s;have hT:(⟨hp,g,d,tk,os⟩:Shared).TypeIs (.ref a) "tuple" :=⟨_,hx,rfl⟩
 have f4:=qds;unfold Builtin.«object.__getattribute__»
 repeat (any_goals (first|assumption|wp_step))
 exact wpAny_raiseAttrError (by simpa using hh) (fun h' tk e x=>h h' tk e x) (attrMsg_fits (by decide +kernel) (by size_fits))
theorem qgb{xs:Array Value}{n:Nat}{Q:Option Value->Shared->Prop}{sl:Array (Option Value)}(hx:s.heap.get? a=some {cls:=.type "tuple",dict:=none,data:=.seq xs n,slots:=sl})(hh:A.handled=none)
  (h:∀h' tk,(∀b o,s.heap.get? b=some o->h'.get? b=some o)->Q none {s with heap:=h',toks:=tk}) :
  wpAny (model prog w) A (getAttr? (.ref a) "keys") Q E s:=by
 obtain⟨hp,g,d,tk,os⟩:=s;have hT:(⟨hp,g,d,tk,os⟩:Shared).TypeIs (.ref a) "tuple" :=⟨_,hx,rfl⟩
 have f1:=sub_AttributeError;have f3:=g32.lookup;have f4:=g32.bind (.ref a);have f5:=q94;unfold getAttr? getAttrBy? getAttrBy
 repeat (any_goals (first|assumption|((with_reducible show wpAny _ _ (call (Value.builtin "tuple.__getattribute__") _ _) _ _ _);refine qga hx (by first|exact hh|simpa using hh) fun h' tk' e x=>?_)|wp_step))
 obtain⟨t',u',he⟩:=x.there
 repeat (any_goals (first|assumption|wp_step))
 exact h _ _ x.keeps
end
section
variable{prog:Program}{w:World}{A:Around}{R:Result->Shared->Prop}
theorem qgc{vs:List Value}{ps:List (List Int×Addr×Value)}{N I S L:Addr}(hu:A.units+1<cLine)(hh:A.in1.handled=none)(hSN:N<=S)(hIN:N<=I)(hLN:L<N)(hSI:S≠I)(h0:Heap)(hN:∀b o,h0.get? b=some o->b<N)(P0:Prs prog w h0 vs ps)(hl0:h0.IsTuple L vs.toArray)(hnd:(ps.map (·.1)).Nodup)(hz:ps.length<=sizeLine):
  ∀(k i:Nat) (s:Shared) (j:Int) (tj:Tok),ps.length-i=k->i<=ps.length->s.heap.IsTupleIter I L i->(∀b o,h0.get? b=some o->s.heap.get? b=some o)->s.heap.DictOfH (TK prog w) S (ps.take i) ->
   (∀s',s'.gens=s.gens->s'.drawn=s.drawn->s'.os=s.os->s.toks<=s'.toks->(∀b o,h0.get? b=some o->s'.heap.get? b=some o)->s'.heap.DictOfH (TK prog w) S ps->R (.ok (.ret .none)) s') ->
   codeAny (model prog w) A (.builtin "dict.update.loop" ⟨[.ref S,.ref I,.int j tj,.none],[]⟩) R s:=by
 intro k
 induction k with
 | zero=>
  intro i s j tj hk hi hit hkeep hd hR;have hin:i=ps.length:=by lia
  subst hin;refine ui q2x ?_;rw [t9 yi _];have hls:s.heap.IsTuple L vs.toArray:=let⟨o,ho,r⟩:=hl0; ⟨o,hkeep L o ho,r⟩
  show wpAny _ A.in1 (pyNext (.ref I) >>= _) _ _ s;refine g0 (wpAny_pyNext_tuple_end hh hit hls (by simp [P0.len]) fun h' he=>?_);show wpAny _ A.in1 (Builtin.Dict.addKeywords S [] >>= _) _ _ _;refine g0 (g9 (g9 ?_));rw [tm (gw _)] at hd;refine hR _ rfl rfl rfl (gw _) (fun b o e=>he b o (m5 (gu (hN b o e) hIN)) (hkeep b o e)) ?_;obtain⟨o,es,ep,ho,hc,hdd,hes,his,hn⟩:=hd;exact⟨o,es,ep,he S o hSI ho,hc,hdd,hes,fun x hx=>q0v (P0.key x hx) fun o' e=>he _ o' (m5 (gu (hN _ o' e) hIN)) (hkeep _ o' e),hn⟩
 | succ k ih=>
  intro i s j tj hk hi hit hkeep hd hR;have hlt:i<ps.length:=by lia
  have hp:ps[i]? = some ps[i]:=mj hlt;obtain⟨q,hq,hqt⟩:=P0.pair i _ hp;have hkey:=P0.key _ (g2p hlt);generalize ps[i]=p at hp hq hqt hkey;refine ui q2x ?_;rw [t9 yi _];have hls:s.heap.IsTuple L vs.toArray:=let⟨o,ho,r⟩:=hl0; ⟨o,hkeep L o ho,r⟩
  show wpAny _ A.in1 (pyNext (.ref I) >>= _) _ _ s;refine g0 (wpAny_pyNext_tuple_item hit hls (x:=.ref q) (by simpa using hq) fun h' hit' hs'=>?_);have keep1:∀b o,h0.get? b=some o->h'.get? b=some o:=fun b o e=>hs'.extBut b o (m5 (gu (hN b o e) hIN)) (hkeep b o e);have hqt1:h'.IsTuple q #[.ref p.2.1,p.2.2]:=let⟨o,ho,r⟩:=hqt; ⟨o,keep1 q o ho,r⟩
  have hkey1:(TK prog w).is h' p.1 p.2.1:=q0v hkey fun o e=>keep1 _ o e;have hd1:h'.DictOfH (TK prog w) S (ps.take i):=by
   obtain⟨o,es,ep,ho,hc,hdd,hes,his,hn⟩:=hd;exact⟨o,es,ep,hs'.extBut S o hSI ho,hc,hdd,hes,fun x hx=>q0v (P0.key x (g18 hx)) fun o' e=>keep1 _ o' e,hn⟩
  dsimp only;refine g0 (ni ?_);refine g0 (g3m ?_);unfold Builtin.Dict.pairItems;obtain⟨oq,hoq,hcq,nq,hdq⟩:=hqt1;refine g0 (g16 (s:={s with heap:=h'}) (T:="tuple") ⟨oq,hoq,hcq⟩ ?_);rw [md (by decide)];refine g0 (g0l (s:={s with heap:=h'}) hoq hdq (g9 ?_));dsimp only [Option.getD_some];refine ni ?_;have hnone:atKey (ps.take i) p.1=none:=by
   refine g3y fun jj pp e=>?_;have hjj:jj<i:=by
    have:=(nh.mp e).1;rw [p6] at this;lia
   have e':ps[jj]? = some (p.1,pp):=by rw [g1z hjj] at e;exact e
   have:=idxH_unique hnd e' (show ps[i]? = some (p.1,p.2) from hp);lia
  refine wpAny_dictSet_heap (s:={s with heap:=h'}) (show(TK prog w).room A.in1 from hu) hkey1 hd1 (fun h2 hd2 hs2=>?_) (by rw [p6];lia);rw [storedH_new hnone,show ps.take i++[(p.1,p.2.1,p.2.2)]=ps.take (i+1) by rw [g3l,hp];rfl] at hd2;have ne2:∀b o,h0.get? b=some o->b≠S:=fun b o e=>m5 (gu (hN b o e) hSN);refine g9 ⟨g0k yi _,ih (i+1) _ _ _ (by lia) hlt ?_ (fun b o e=>?_) hd2 fun s' a1 a2 a3 a4 a5 a6=>?_⟩
  ·obtain⟨o,ho,r⟩:=hit'
   exact⟨o,hs2.extBut I o (nj hSI) ho,r⟩
  ·exact hs2.extBut b o (ne2 b o e) (keep1 b o e)
  ·exact hR s' a1 a2 a3 (my (g22 _ _) a4) a5 a6
end
section
variable{prog:Program}{w:World}{A:Around}{E:Value->Shared->Prop}{s:Shared}
theorem q71{L:Addr}{vs:List Value}{n0:Nat}{ps:List (List Int×Addr×Value)}{Q:Value->Shared->Prop}(hu:A.units+4<cLine)(hh:A.handled=none){sl:Array (Option Value)}(hL:s.heap.get? L=some {cls:=.type "tuple",dict:=none,data:=.seq vs.toArray n0,slots:=sl})(P0:Prs prog w s.heap vs ps)(hnd:(ps.map (·.1)).Nodup)(hz:ps.length<=sizeLine)
  (h:∀h' tk,(∀b o,s.heap.get? b=some o->h'.get? b=some o)->h'.DictOfH (TK prog w) s.heap.objs.size ps->Q (.ref s.heap.objs.size) {s with heap:=h',toks:=tk}) :
  wpAny (model prog w) A (call (.type "dict") [.ref L]) Q E s:=by
 refine callType_codes (Q₁:=fun obj s₁=>obj=.ref s.heap.objs.size/\s₁ = {s with heap:=s.heap.push {cls:=.type "dict",data:=.dict #[]} }) F.kt_called_dict (F.kt_typeCall_dict_1 _) F.entry_dict_init (kt_code_dict_new _ ⟨rfl,rfl⟩) ?_
 rintro obj s₁ ⟨rfl,rfl⟩
 let dO:Obj:={cls:=.type "dict",data:=.dict #[]}
 have hnew:(s.heap.push dO).DictOfH (TK prog w) s.heap.objs.size []:=Heap.DictOfH.new s.heap;have hTd:Shared.TypeIs {s with heap:=s.heap.push dO} (.ref s.heap.objs.size) "dict" :=⟨dO,gf _ rfl,rfl⟩
 have hL1:(s.heap.push dO).get? L=some {cls:=.type "tuple",dict:=none,data:=.seq vs.toArray n0,slots:=sl}:=gd _ hL;refine⟨hTd,F.args_dict_init_2 _ _,?_⟩;unfold Builtin.«dict.__init__»;refine g0 ?_;unfold Builtin.Dict.selfAndRest;refine g0 (g4g hTd ?_);show wpAny _ _ (pure (s.heap.objs.size,[Value.ref L])) _ _ _;refine g9 ?_;show wpAny _ _ (Builtin.Dict.updateFrom "dict.__init__" s.heap.objs.size (.ref L) [] .none) _ _ _;unfold Builtin.Dict.updateFrom;refine g0 (g16 (T:="tuple") ⟨_,hL1,rfl⟩ ?_);rw [md (by decide)];refine g0 (qgb (s:={s with heap:=s.heap.push dO}) hL1 (by simpa using hh) fun h1 tk1 k1=>?_);rw [md (by rfl)];refine g0 (g06 ?_);have hL2:h1.IsTuple L vs.toArray:=⟨_,k1 _ _ hL1,rfl,n0,rfl⟩
 refine g0 (g36 (s:={s with heap:=h1,toks:=tk1}) hL2 ?_)
 let iO:Obj:={cls:=.type "tuple_iterator",data:=.fields #[.ref L,.int 0 0]}
 have hz1:s.heap.objs.size+1<=h1.objs.size:=gz (k1 _ _ (gf s.heap (o:=dO) rfl));have hLs:L<s.heap.objs.size:=gz hL;have keep:∀b o,s.heap.get? b=some o->(h1.push iO).get? b=some o:=fun b o e=>gd _ (k1 b o (gd _ e));have hd0:(h1.push iO).DictOfH (TK prog w) s.heap.objs.size []:=by
  obtain⟨o,es,ep,ho,hc,hdd,hes,his,hn⟩:=hnew;exact⟨o,es,ep,gd _ (k1 _ _ ho),hc,hdd,hes,fun x hx=>(nomatch hx),hn⟩
 refine g9 ⟨g0k yi _,qgc (A:=A.in1) (N:=s.heap.objs.size) (I:=h1.objs.size) (S:=s.heap.objs.size) (L:=L) (vs:=vs) (ps:=ps) (by show A.units+1+1<cLine;lia) (by simpa using hh) (gw _) (g1b hz1) hLs (m5 hz1) s.heap (fun b o e=>gz e) P0 ⟨_,hL,rfl,n0,rfl⟩ hnd hz
  ps.length 0 _ _ _ rfl (um _) ⟨iO,gf _ rfl,rfl,rfl⟩ keep hd0 fun s' a1 a2 a3 a4 a5 a6=>?_⟩
 obtain⟨h',g',d',tk',os'⟩:=s';dsimp only at a1 a2 a3 a4 a5 a6;subst a1;subst a2;subst a3;exact⟨rfl,h h' tk' a5 a6⟩
end
end Js
namespace DL
open PySem PySem.Spec PyProof.Rows L2
variable[Lam]
section
variable{X:Cx}{pos:Pos}
def q8b:List D->Option D
 | [.tup ds]=>(q2c ds).bind fun p=>if p.1.Nodup/\ds.length<=lim then some (.dtt p.1 p.2) else none
 | _=>none
theorem qlv(hc:X.calm=true)(hu:X.A.units+64<cLine): jz X (.type "dict") (rC X.K q8b):=fun pins s σ H xs us Q I rv ⟨F,ds,d,fh,rl,ho,q⟩=>by
 unfold q8b at ho
 split at ho
 ·rename_i ds'
  obtain⟨⟨ks,vs⟩,h1,h2⟩:=gc.mp ho
  split at h2
  ·rename_i hok
   cases h2;obtain⟨x,rfl,rx⟩:=rep1 rl;obtain⟨a,ys,rfl,k1,k2⟩:=rep_tup.mp rx;obtain⟨u,rfl,ru⟩:=vals1 rv;cases ru;obtain⟨its,r1,⟨o,e1,e2,e3,n,e4⟩,hz⟩:=I.tupleX (qk fh k1);obtain⟨oc,od,oda,osl⟩:=o;dsimp only at e2 e3 e4;subst e2;subst e3;subst e4;obtain⟨ps,ws,P,p1,p2,p3,p4⟩:=qci I fh h1 k2 r1;have hl:ps.length<=lim:=by
    rw [<- P.len, <- r1.length, <- k2.length];exact hok.2
   refine Js.q71 (by lia) (I.ok.hd hc) e1 P (by rw [p1];exact hok.1) (ja hl) fun h' tk old hd=>?_;have hnn:H s.heap.objs.size=none:=I.hok.fresh (gw _);obtain⟨o,es,ep,g1,g2,g3,g4,_,g5⟩:=hd;have de:DE s.heap.objs.size ps ep h':=⟨o,es,g1,g2,g3,g4⟩
   refine⟨.ref _,_,I.laid (t':=tk) (a:=s.heap.objs.size) (o:=.ext (DE s.heap.objs.size ps ep)) old (gw _) ⟨de,⟨o,g1⟩,fun h1 h2 ⟨o,es,z,r⟩ e=>⟨o,es,e o z,r⟩⟩,rfl,?_⟩;have g:=Grow.new (o:=.ext (DE s.heap.objs.size ps ep)) fh hnn;refine q _ _ _ g (rep_dtt.mpr ⟨_,ps,ws,ep,rfl,qr,p1,hok.1,ja hl,g1d.mpr (tu (q8w I)),fun x hx=>qk g.ff (p2 x hx),p3,p4.mono g.ff⟩)
  ·cases h2
 ·cases ho
end
end DL
namespace Js
open PySem PyProof.Rows
section
variable{prog:Program}{w:World}{A:Around}{E:Value->Shared->Prop}{hp:Heap}{g:Array GenState}{dr:Drawn}{tk:Nat}{os:OsState}
theorem qgd{it d:Addr}{i n ep:Nat}{ok ov ky vl:Value}{Q:Value->Shared->Prop}(hit:IsItemIter hp it d i n ep ok ov)
  (hQ:∀h',IsItemIterOut h' it d i n ep ky vl hp.objs.size->h'.get? hp.objs.size=some {cls:=.type "tuple",data:=.seq #[ky,vl]}->(∀b o,b≠it->hp.get? b=some o->h'.get? b=some o)->Q (.ref hp.objs.size) ⟨h',g,dr,tk,os⟩) :
  wpAny (model prog w) A (Builtin.Dict_items.pairFromOwner (.ref it) 6 ky vl) Q E ⟨hp,g,dr,tk,os⟩:=by
 have lt:hp.objs.size≠it:=tu (gz hit);unfold Builtin.Dict_items.pairFromOwner Builtin.Dict_items.ownedTupleIsFree;refine g0 (g4x ?_);have p1:IsItemIter (hp.push {cls:=.type "tuple",data:=.seq #[ky,vl]}) it d i n ep ok ov:=gd _ hit;have t1:(hp.push {cls:=.type "tuple",data:=.seq #[ky,vl]}).get? hp.objs.size=some {cls:=.type "tuple",data:=.seq #[ky,vl]}:=gf _ rfl;have k1:∀b o,b≠it->hp.get? b=some o->(hp.push {cls:=.type "tuple",data:=.seq #[ky,vl]}).get? b=some o:=fun b o _ e=>gd _ e;show wpAny _ _ _ _ _ ⟨hp.push {cls:=.type "tuple",data:=.seq #[ky,vl]},g,dr,tk,os⟩;generalize hp.push {cls:=.type "tuple",data:=.seq #[ky,vl]}=q1 at p1 t1 k1 ⊢;refine g0 (g0 (uy p1 rfl (x:=.none) rfl (g9 ?_)));rw [md rfl];refine g0 (uy p1 rfl (x:=ok) rfl ?_);refine g0 (uy p1 rfl (x:=ov) rfl ?_);refine g0 (uq p1 (by simp) fun q2 p2 b2=>?_);refine g0 (uq p2 (by simp) fun q3 p3 b3=>?_);refine g0 (uq p3 (by simp) fun q4 p4 b4=>?_);refine g0 (uq p4 (by simp) fun q5 p5 b5=>?_);have kk:∀b o,b≠it->q1.get? b=some o->q5.get? b=some o:=fun b o hb e=>b5.extBut b o hb (b4.extBut b o hb (b3.extBut b o hb (b2.extBut b o hb e)));exact g0 (g1y (g9 (hQ q5 p5 (kk _ _ lt t1) fun b o hb e=>kk b o hb (k1 b o hb e))))
theorem qge{it d:Addr}{i ep:Nat}{od:Obj}{es:Array DictEntry}{ok ov:Value}{Q:Option Value->Shared->Prop}(hit:IsItemIter hp it d i es.size ep ok ov)(hod:hp.get? d=some od)(hdd:od.data=.dict es ep)(hlt:i<es.size)
  (hQ:∀h',IsItemIterOut h' it d (i+1) es.size ep (es[i]'hlt).key (es[i]'hlt).val hp.objs.size->h'.get? hp.objs.size=some {cls:=.type "tuple",data:=.seq #[(es[i]'hlt).key,(es[i]'hlt).val]} ->
   (∀b o,b≠it->hp.get? b=some o->h'.get? b=some o)->Q (some (.ref hp.objs.size)) ⟨h',g,dr,tk,os⟩):wpAny (model prog w) A (pyNext (.ref it)) Q E ⟨hp,g,dr,tk,os⟩:=by
 have hT:Shared.TypeIs ⟨hp,g,dr,tk,os⟩ (.ref it) "dict_itemiterator" :=⟨_,hit,rfl⟩
 unfold pyNext;refine g0 (g0y (ug hT g0p (p7 g0p hT g4u ?_ (g4i _))));unfold Builtin.«dict_itemiterator.__next__»
 wp_delta
 wp_walk using g1a hT,wpAny_typeNameOf_itemiter hT,g50 hit rfl,g5l hod hdd,g6a hod hdd,g1j hT
 rw [mi (by omega:¬((i:Int)<0)),show((i:Int)).toNat=i from by simp,g21 es i hlt];refine g0 (g0 (g1a hT (g9 ?_)));refine g0 (g1j hT ?_);show wpAny _ _ (setField (.ref it) 3 (rawInt ((i:Int)+1)) >>= _) _ _ _;refine g0 (uq hit (by simp) fun h1 p1 b1=>?_);have p1:IsItemIter h1 it d (i+1) es.size ep ok ov:=p1;have hT1:Shared.TypeIs ⟨h1,g,dr,tk,os⟩ (.ref it) "dict_itemiterator" :=⟨_,p1,rfl⟩
 have hz:h1.objs.size=hp.objs.size:=b1.1;refine g0 (ni (g0 (g1j hT1 (g0 (g1j hT1 ?_)))));refine qgd p1 fun h' a1 a2 a3=>?_;rw [hz] at a1 a2 ⊢;exact g9 ⟨_,rfl,g9 (hQ h' a1 a2 fun b o hb e=>a3 b o hb (b1.extBut b o hb e))⟩
theorem qj5{it d:Addr}{ep:Nat}{od:Obj}{es:Array DictEntry}{ok ov:Value}{Q:Option Value->Shared->Prop}(hh:A.handled=none)(hit:IsItemIter hp it d es.size es.size ep ok ov)(hod:hp.get? d=some od)(hdd:od.data=.dict es ep)
  (hQ:∀h',Heap.ExtBut it hp h'->Q none ⟨h',g,dr,tk,os⟩):wpAny (model prog w) A (pyNext (.ref it)) Q E ⟨hp,g,dr,tk,os⟩:=by
 have hT:Shared.TypeIs ⟨hp,g,dr,tk,os⟩ (.ref it) "dict_itemiterator" :=⟨_,hit,rfl⟩
 unfold pyNext;refine g0 (g0y (ug hT g0p (p7 g0p hT g4u ?_ (g4i _))));unfold Builtin.«dict_itemiterator.__next__»
 wp_delta
 wp_walk using g1a hT,wpAny_typeNameOf_itemiter hT,g50 hit rfl,g5l hod hdd,g6a hod hdd,g1j hT
 rw [mi (by omega:¬((es.size:Int)<0)),show((es.size:Int)).toNat=es.size from by simp,Array.getElem?_size];refine g0 (g0 (g1a hT (g9 ?_)));show wpAny _ _ (setField (.ref it) 2 .none >>= _) _ _ _;refine g0 (uq hit (by simp) fun h1 p1 b1=>?_);have hA1:A.in1.handled=none:=hh
 wp_walk using pk,g5b hA1
 ·dsimp only
  unfold raiseNew
  wp_walk using g5b hA1,wpAny_throw
  refine g44 isSubtype_stop (g9 ?_);exact hQ _ ((b1.extBut.push _).push _)
 ·exact sizeOk_excFields _ _ _ _ _ _ _ _
 ·show(0:Nat)<=_
  exact um _
theorem qgf{v d:Addr}{ep:Nat}{od:Obj}{es:Array DictEntry}{Q:Value->Shared->Prop}(hv:hp.IsItemsView v d)(hod:hp.get? d=some od)(hdd:od.data=.dict es ep)
  (hQ:Q (.ref hp.objs.size) ⟨hp.push {cls:=.type "dict_itemiterator",data:=.fields #[.none,.bool false,.ref d,.int 0 0,.int es.size 0,.int ep 0,.none,.none]},g,dr,tk,os⟩):wpAny (model prog w) A (pyIter (.ref v)) Q E ⟨hp,g,dr,tk,os⟩:=by
 have hT:Shared.TypeIs ⟨hp,g,dr,tk,os⟩ (.ref v) "dict_items" :=hv.typeIs;obtain⟨o,ho,hc,hd⟩:=hv;refine g5k hT F.slot_dict_items_iter (p7 F.slot_dict_items_iter hT F.entry_dict_items_iter ?_ (F.args_dict_items_iter_1 _));unfold Builtin.«dict_items.__iter__» Builtin.Dict_items.dictOf Builtin.Dict_items.newIterator;refine g0 (g9 (g0 (g0 (uy ho hd (x:=.ref d) rfl (g9 (g0 (g0 (g5l hod hdd (g0 (g6a hod hdd ?_))))))))));simp only [show Builtin.Dict_items.ownsTuple "dict_itemiterator" = true from by decide,p0];exact pk (g9 ⟨_,rfl,"dict_itemiterator",_,⟨_,gf _ rfl,rfl⟩,g0p.lookup,hQ⟩) (by simp [sizeOk,Builtin.Dict_items.ownedTupleFields,g2b])
theorem qgg{d:Addr}{od:Obj}{Q:Value->Shared->Prop}(hs:(d==sysModules)=false)(hod:hp.get? d=some od)(hx:od.ExactDict)
  (hQ:Q (.ref hp.objs.size) ⟨hp.push {cls:=.type "dict_items",data:=.fields #[.ref d]},g,dr,tk,os⟩):wpAny (model prog w) A (call (.builtin "dict.items") [.ref d]) Q E ⟨hp,g,dr,tk,os⟩:=by
 have hT:Shared.TypeIs ⟨hp,g,dr,tk,os⟩ (.ref d) "dict" :=⟨od,hod,hx.1⟩
 refine p7 F.slot_dict_items hT F.entry_dict_items ?_ (F.args_dict_items_1 _);unfold Builtin.«dict.items» Builtin.Dict.noArgs Builtin.Dict.showsAll;refine g0 (g0 (g4g hT (g9 ?_)));rw [mi (by rw [hs];decide)];exact g0 (g9 (g0 (pk (g9 ⟨_,rfl,hQ⟩))))
end
end Js
namespace DL
open PySem PySem.Spec PyProof.Rows L2
variable[Lam]
def Iti(a:Addr)(xs:DX)(ys:List V)(ep:Nat): It:=
 ⟨fun i H=>H a=some (.ext (DE a xs ep))/\i<xs.length,fun i H v H'=>∃p x y,H p=none/\xs[i]? = some x/\ys[i]? = some y/\v=.ref p/\H'=upd H p (.tup [.ref x.2.1,y]),fun i H=>H a=some (.ext (DE a xs ep))/\xs.length<=i⟩
theorem qgh{P:Program}{w:World}{K:Frag}{elts:List Expr}{x1}{tp:Pos}(a it:Addr)(xs:DX)(ys:List V)(ep:Nat)(hv:Vals ys (xs.map fun p=>p.2.2)):
  Turn P w K (.Tuple elts x1 tp) (Iti a xs ys ep) [it] it (fun i h=>i<=xs.length/\∃ok ov,IsItemIter h it a i xs.length ep ok ov) where
 mem:=by simp
 obj:=fun i h ⟨_,ok,ov,c1⟩ b hb=>by
  have e:b=it:=by simpa using hb
  subst e;exact⟨_,c1,fun v z=>by cases z⟩
 keep:=fun i h h' ⟨l,ok,ov,c1⟩ k=>⟨l,ok,ov,k _ (by simp) _ c1⟩
 item:=by
  intro X hP hw hK hc i pins s σ H E I hf st hg;subst hP hw hK;obtain⟨hq,hi⟩:=hg;obtain⟨⟨o,es,g1,g2,g3,g4⟩,_,_⟩:=(show ObjOk X.prog X.w H s.heap a _ from I.hok a _ hq)
  have hsz:es.size=xs.length:=by rw [<- nu,g4,mn]
  obtain⟨_,ok,ov,c1⟩:=st;rw [<- hsz] at c1;have hi':i<es.size:=by rw [hsz];exact hi
  have hx:xs[i]? = some xs[i]:=mj hi;have h2:es[i]'hi'=qki xs[i]:=by
   have h2:es.toList[i]? = some (qki xs[i]):=by rw [g4,mv,hx];rfl
   rw [g0n,g21 es i hi'] at h2;exact mf h2
  have hyl:i<ys.length:=by rw [hv.length,mn];exact hi
  obtain⟨u,hu,ru⟩:=hv.get (mj hyl);rw [mv,hx] at hu;cases hu;obtain⟨hp,g,dr,tk,os⟩:=s;refine Js.qge c1 g1 g3 hi' fun q1 n1 n3 n5=>?_;rw [h2] at n1 n3;refine⟨_,rfl,wpAny_letOwnedTupleGo_items n1 fun q2 m1 sb=>?_⟩;have hz:it<hp.objs.size:=gz c1;have kp:∀c o,c∉[it]->hp.get? c=some o->q2.get? c=some o:=fun c o hc q=>by
   have hc:c≠it:=by simpa using hc
   exact sb.extBut _ _ hc (n5 c o hc q)
  have I1:Inv X pins σ H ⟨q2,g,dr,tk,os⟩:=q5w (t':=tk) I hf kp;have fp:wm X pins H hp.objs.size:=I.fpOk (gw _) I.fresh;have hT:q2.get? hp.objs.size=some {cls:=.type "tuple",data:=.seq #[.ref xs[i].2.1,xs[i].2.2]}:=sb.extBut _ _ (tu hz) n3;have I2:Inv X pins σ (upd H hp.objs.size (.tup [.ref xs[i].2.1,ys[i]])) ⟨q2,g,dr,tk,os⟩:=
   adopt I1 fp ⟨by show 2<=sizeLine;decide,[.ref xs[i].2.1,xs[i].2.2],.cons rfl (.cons ru .nil),⟨_,hT,rfl,rfl,_,rfl⟩⟩
  refine⟨.ref hp.objs.size,_,I2,rfl,⟨_,xs[i],ys[i],I.fresh,hx,mj hyl,rfl,rfl⟩,⟨hi,_,_,by rw [hsz] at m1;exact m1⟩,fun c hc=>?_⟩;have hb0:=(hf c hc).1;have:c≠hp.objs.size:=by
   have e:c=it:=by simpa using hc
   subst e;exact m5 hz
  rw [ql this];exact hb0
 done:=by
  intro X hP hw hK hc i pins s σ H E I hf st hg;subst hP hw hK;obtain⟨hq,hi⟩:=hg;obtain⟨⟨o,es,g1,g2,g3,g4⟩,_,_⟩:=(show ObjOk X.prog X.w H s.heap a _ from I.hok a _ hq)
  have hsz:es.size=xs.length:=by rw [<- nu,g4,mn]
  obtain⟨hle,ok,ov,c1⟩:=st;rw [show i=xs.length from Nat.le_antisymm hle hi, <- hsz] at c1;obtain⟨hp,g,dr,tk,os⟩:=s;refine Js.qj5 (I.ok.hd hc) c1 g1 g3 fun h' eb=>⟨rfl,q5w (t':=tk) I hf fun c o hc q=>?_⟩
  exact eb c o (by simpa using hc) q
 self:=fun A i s Q E st h=>let⟨_,_,_,c1⟩:=st;PySem.W.kcp_self c1 h
abbrev q3m(ks:List (List Int))(vs:List D): List D:=List.zipWith (fun k v=>.tup [.tup (k.map .int),v]) ks vs
theorem qj6{K:Frag}{F:Hp}{a:Addr}{xs:DX}{ys:List V}{ep:Nat}{ks:List (List Int)}{vs:List D}(h:F a=some (.ext (DE a xs ep)))(e2:xs.map (·.1)=ks)(e6:∀x∈xs,SqT K F x.2.1 (x.1.map V.int))(hv:Vals ys (xs.map fun p=>p.2.2))(r:RepL K F vs ys): ItD K F (q3m ks vs) (Iti a xs ys ep) where
 go:=fun i F' H s1 s2 hi=>⟨s2 _ _ (s1 _ _ h),by
  have h1:=r.length;have h2:=hv.length;rw [mn] at h2;rw [<- e2] at hi;rw [g2s,mn] at hi;omega⟩
 yld:=fun i d F' H x H' s1 s2 hi ⟨p,x',y,hp,hx,hy,e1,e3⟩=>by
  subst e1 e3 e2;rw [g6k,mv,hx] at hi;cases hw:vs[i]? with
  | none=>rw [hw] at hi;cases hi
  | some dv=>
   rw [hw] at hi;cases hi;obtain⟨z,k1,k2⟩:=r.get hw;rw [hy] at k1;cases k1;have gn:Grow F' H (upd F' p (.tup [.ref x'.2.1,y])) (upd H p (.tup [.ref x'.2.1,y])):=Grow.new s2 hp;exact⟨_,gn,rep_tup.mpr ⟨p,_,rfl,SqT.of qr,.cons (rep_tup.mpr ⟨_,_,rfl,qk gn.ff (qk s1 (e6 x' (tw hx))),RepL.ints.mpr rfl⟩) (.cons ((k2.mono s1).mono gn.ff) .nil)⟩⟩
 stop:=fun i F' H s1 s2 hi=>⟨s2 _ _ (s1 _ _ h),by
  have h1:=r.length;have h2:=hv.length;rw [mn] at h2;rw [<- e2] at hi;rw [g2s,mn] at hi;omega⟩
section
variable{X:Cx}{o:Expr}{apos cpos:Pos}{elts:List Expr}{x1:Nat}{tp:Pos}
theorem qlw{tl:TE}(ho:PE X o tl)(hbase:attributeBase o "items" X.env (eval o X.env)=eval o X.env:=by rfl)(hline:(apos.endLine==cpos.line)=true:=by rfl):
  PI X (.Tuple elts x1 tp) (.Call (.Attribute o "items" apos) [] [] cpos) (fun σ H R=>tl σ H fun x H1=>∃a xs ys ep,x=.ref a/\H1 a=some (.ext (DE a xs ep))/\(a==sysModules)=false/\Vals ys (xs.map fun p=>p.2.2)/\R (Iti a xs ys ep) H1):=by
 intro pins s σ H R I h;refine wpAny_Call_method0_late hbase hline (thn (ho pins s σ H _ I h) fun v s1 ⟨x,H1,I1,r1,q1⟩=>?_);obtain⟨a,xs,ys,ep,e,hq,hm,hv,q⟩:=q1;subst e;cases r1;obtain⟨⟨ob,es,g1,g2,g3,g4⟩,_,_⟩:=(show ObjOk X.prog X.w H1 s1.heap a _ from I1.hok a _ hq)
 have hsz:es.size=xs.length:=by rw [<- nu,g4,mn]
 obtain⟨hp,g,dr,tk,os⟩:=s1;refine⟨"dict","dict.items",g65,PySem.F.slot_dict_items,PySem.F.type_dict_items,⟨ob,g1,g2.1⟩,fun b e=>by cases e;exact⟨ob,g1,g2.2.1⟩,g43 rfl (PySem.evalArgs_none ?_)⟩;refine Js.qgg hm g1 g2 ?_;refine Js.qgf ⟨_,gf _ rfl,rfl,rfl⟩ (gd _ g1) g3 ?_;have kp:∀c u,hp.get? c=some u->((hp.push {cls:=.type "dict_items",data:=.fields #[.ref a]}).push {cls:=.type "dict_itemiterator",data:=.fields #[.none,.bool false,.ref a,.int 0 0,.int es.size 0,.int ep 0,.none,.none]}).get? c=some u:=fun c u e=>gd _ (gd _ e);have hge:hp.objs.size<=(hp.push {cls:=.type "dict_items",data:=.fields #[.ref a]}).objs.size:=by rw [t6];exact g1i _
 refine⟨_,[_],_,_,H1,rfl,I1.kept (t':=tk) kp,qgh a _ xs ys ep hv,⟨um _,_,_,by rw [<- hsz];exact gf _ rfl⟩,fun b hb=>?_,q⟩;rw [n9.mp hb];exact I1.fpOk hge (I1.hok.fresh hge)
def q59(f:FE): FA:=fun ρ =>(f ρ).bind fun d=>match d with
 | .dtt ks vs=>some (q3m ks vs)
 | _=>none
theorem qck{f:FE}(h:PE X o (tD X.K f))(hbase:attributeBase o "items" X.env (eval o X.env)=eval o X.env:=by rfl)(hline:(apos.endLine==cpos.line)=true:=by rfl):
  PI X (.Tuple elts x1 tp) (.Call (.Attribute o "items" apos) [] [] cpos) (tDI X.K (q59 f)):=q4y (qlw h hbase hline) fun σ H R ⟨F0,H0,F, ρ,ds,r,hf,q⟩=>by
 obtain⟨d,h1,h2⟩:=gc.mp hf;refine⟨F0,H0,F, ρ,d,r,h1,fun v F' H' g' r'=>?_⟩
 split at h2
 ·cases h2
  obtain⟨a,xs,ys,ep,rfl,e1,e2,e3,e4,e5,e6,e7,e8⟩:=rep_dtt.mp r';exact⟨a,xs,ys,ep,rfl,g'.fh _ _ e1,e5,e7,q _ F' H' g' (qj6 e1 e2 e6 e7 e8)⟩
 ·cases h2
end
end DL
namespace Js
open PySem
def qn8:Option Value->Array Value
 | none=> #[]
 | some v=> #[v,v]
def qrs(P:Nat->Value->Prop)(bt:Nat->Nat->Bool)(i:Nat): Option Value->Prop
 | none=>i=0
 | some v=>0<i/\P (argBest bt (i-1)) v
theorem qcl(a:Option Value): (qn8 a).size<=sizeLine:=by
 cases a with
 | none=>show 0<=sizeLine;decide
 | some v=>show 2<=sizeLine;decide
section
variable{prog:Program}{w:World}{A:Around}{R:Result->Shared->Prop}{E:Value->Shared->Prop}{s:Shared}{I:Addr}{fp wr:List Addr}{n:Nat}{P:Nat->Value->Prop}{St:Nat->Heap->Prop}
theorem qgi(W:Walks prog w A.in1 I fp wr n P St)(bt:Nat->Nat->Bool)(hcmp:CmpOf prog w A.in1 .Gt P bt)(S:Addr)(hSf:S∉fp)(dv:Value):
  ∀(k i:Nat) (s:Shared) (acc:Option Value) (c:Nat),n-i=k->i<=n->St i s.heap->qrs P bt i acc ->
  s.heap.get? S=some {cls:=.type "list",dict:=none,data:=.seq (qn8 acc) c,slots:= #[]} ->
  (∀v h' tk,(n=0/\v=dv\/0<n/\P (argBest bt (n-1)) v)->(∀b o,b∉wr->b≠S->s.heap.get? b=some o->h'.get? b=some o)->R (.ok (.ret v)) {s with heap:=h',toks:=tk}) ->
  codeAny (model prog w) A (.builtin "max.loop" ⟨[.ref I,.none,.ref S],[("default",dv)]⟩) R s:=by
 have hSw:S∉wr:=fun h=>hSf (W.sub _ h);have hname:(toString "max" ++ toString ".loop" : String)="max.loop" :=by decide
 intro k
 induction k with
 | zero=>
  intro i s acc c hk hi hst hb hS hR;have e:i=n:=by omega
  subst e;refine ui F.entry_max_loop ?_;rw [t9 g25 _];refine g0 (g0l hS rfl (g0 (g3m (W.done s _ _ hst fun h' tk hk'=>?_))));have hS':=hk' S _ hSw hS;cases acc with
  | none=>exact g0 (g06 (g9 (hR dv _ tk (.inl ⟨hb,rfl⟩) fun b o hbw _ e=>hk' b o hbw e)))
  | some vb=>exact g0 (g30 (hz:=qcl _) hS' rfl (g0 (g1y (g9 (hR vb _ tk (.inr hb) fun b o hbw hbS e=>(g0g _ _ (nj hbS)).trans (hk' b o hbw e))))))
 | succ k ih=>
  intro i s acc c hk hi hst hb hS hR;have hlt:i<n:=by omega
  refine ui F.entry_max_loop ?_;rw [t9 g25 _];refine g0 (g0l hS rfl (g0 (g3m (W.item i s _ _ hlt hst fun v h' tk hP hst' hk'=>?_))));have hS':=hk' S _ hSw hS;have put:∀(s2:Shared) (x:Value),s2 = {s with heap:=h',toks:=tk}->P (argBest bt i) x->wpAny (model prog w) A.in1 (updateSeq S fun _=> #[x,x]) (fun _ s3=>codeAny (model prog w) A (.builtin "max.loop" ⟨[.ref I,.none,.ref S],[("default",dv)]⟩) R s3) (fun e s'=>R (.error e) s') s2:=fun s2 x e2 hx=>by
   subst e2;refine g30 (hz:=qcl _) hS' rfl (ih (i+1) _ (some x) _ (by omega) hlt (W.frame _ _ _ hst' fun b hbf o e=>(g0g _ _ (fun h:S=b=>hSf (by rw [h];exact hbf))).trans e) ⟨Nat.succ_pos _,hx⟩ (g11 _ hS' rfl) fun v' h2 tk2 hv hk2=>?_);exact hR v' h2 tk2 hv fun b o hbw hbS e=>hk2 b o hbw hbS ((g0g _ _ (nj hbS)).trans (hk' b o hbw e))
  refine g0 (g9 ?_);cases acc with
  | none=>
   have e0:i=0:=hb;subst e0;exact g0 (tq (put _ v rfl hP) (fun _ _ h=>g9 ⟨g0k g25 _,h⟩) fun _ _ e=>e)
  | some vb=>
   obtain⟨h0,hPb⟩:=hb;obtain⟨j,rfl⟩:∃j,i=j+1:=⟨i-1,by omega⟩
   refine g0 (g3m (ni (g0 (hcmp (j+1) (argBest bt j) v vb _ _ _ hP hPb (g0 (ni (g1t (g0 (g1y (g9 ?_))))))))));cases ht:bt (j+1) (argBest bt j) with
   | true=>
    have e1:argBest bt (j+1)=j+1:=by simp only [argBest,ht,p0]
    refine g0 (tq (put _ v rfl (by rw [e1];exact hP)) (fun _ _ h=>g0 (g1y (g9 ⟨g0k g25 _,h⟩))) fun _ _ e=>e)
   | false=>
    have e1:argBest bt (j+1)=argBest bt j:=by simp only [argBest,ht,gh,ny]
    refine g0 (g1y (g9 ⟨g0k g25 _,ih (j+2) _ (some vb) c (by omega) hlt hst' ⟨Nat.succ_pos _,by show P (argBest bt (j+1)) vb;rw [e1];exact hPb⟩ hS' fun v' h2 tk2 hv hk2=>?_⟩));exact hR v' h2 tk2 hv fun b o hbw hbS e=>hk2 b o hbw hbS (hk' b o hbw e)
theorem qgj{id:String}{b:Builtin}{args:List Value}{kw:List (Str×Value)}{Q:Value->Shared->Prop}(hk:builtinKind id=none)(hp:plainId id=true)(hb:entryFor table id=some b)(ha:argsOk id ⟨args,kw⟩)
  (hc:wpAny (model prog w) A.in1 (b ⟨args,kw⟩) (fun fin s'=>match fin with
   | .done f=>(match(Except.ok f:Result) with | .ok (.ret v)=>Q v s' | .ok _=>False | .error e=>E e s')
   | .again c'=>c'.quiet=true/\codeAny (model prog w) A c' (fun r s'=>match r with | .ok (.ret v)=>Q v s' | .ok _=>False | .error e=>E e s') s') E s) :
  wpAny (model prog w) A (call (.builtin id) args kw) Q E s:=by
 refine g3f (g1w hp hb ?_);simp only [checkBuiltinCall,hk];cases hsig:Manifest.signature? id with
 | none=>exact g9 hc
 | some sig=>
  simp only [argsOk,hsig] at ha;exact g44 ha hc
theorem qgk(a d:Value): argsOk "max" ⟨[a],[("default",d)]⟩:=by unfold argsOk;kernel_rfl
theorem qgl{l:Addr}{items:Array Value}{bt:Nat->Nat->Bool}{Pv:Nat->Value->Prop}{dv:Value}{Q:Value->Shared->Prop}(hh:A.handled=none)(hl:s.heap.IsList l items)(hP:∀i v,items[i]? = some v->Pv i v)(hcmp:CmpOf prog w A.in1 .Gt Pv bt)
  (hQ:∀v h' tk,(items.size=0/\v=dv\/0<items.size/\Pv (argBest bt (items.size-1)) v)->(∀b o,s.heap.get? b=some o->h'.get? b=some o)->Q v {s with heap:=h',toks:=tk}) :
  wpAny (model prog w) A (call (.builtin "max") [.ref l] [("default",dv)]) Q E s:=by
 have hname:(toString "max" ++ toString ".loop" : String)="max.loop" :=by decide
 refine qgj F.kind_max F.plain_max F.entry_max (qgk _ _) ?_;show wpAny _ A.in1 (Builtin.Builtins.bindParams "max" ["key","default"] 0 ⟨[],[("default",dv)]⟩ >>= _) _ _ s;refine g0 (g44 (show Builtin.Builtins.bindParams "max" ["key","default"] 0 ⟨[],[("default",dv)]⟩=pure [none,some dv] from rfl) (g0 (g9 (g0 (g1v hl (g0 (pk ?_)))))));rw [hname];have hll:l<s.heap.objs.size:=by obtain⟨o,ho,_⟩:=hl;exact gz ho
 have W:=Walks.list (prog:=prog) (w:=w) (A:=A.in1) (by simpa using hh) s.heap.objs.size l (m5 hll) items;refine g9 ⟨g0k g25 _,qgi W bt (fun i j vi vj s Q E h1 h2 hq=>hcmp i j vi vj s Q E (hP i vi h1) (hP j vj h2) hq) _ (fun hm=>?_) dv items.size 0 _ none _ rfl (um _) ?_ rfl (gf _ rfl) fun v h' tk hv hk=>?_⟩
 ·simp only [mm,g0h,g2d,t6] at hm
  exact hm.elim (fun h=>Nat.succ_ne_self _ h) (fun h=>absurd hll (by rw [<- h];exact g5n.mpr (g1i _)))
 ·exact⟨⟨_,gd _ (gf _ rfl),rfl,rfl⟩,let⟨o,ho,r⟩:=hl; ⟨o,gd _ (gd _ ho),r⟩⟩
 ·refine hQ v h' tk (hv.imp id fun z=>⟨z.1,hP _ _ z.2⟩) fun b o e=>?_
  have hb:=gz e;exact hk b o (by simpa using m5 hb) (by rw [t6];exact m5 (g0u hb)) (gd _ (gd _ e))
end
end Js
namespace DL
open PySem PySem.Spec PyProof.Rows L2
variable[Lam]
def qgm(f:List Int->Option Int): List D->D->Option D
 | [.lst ds],d0=>(jh ds).bind fun ns=>some (match f ns with|some m=>.int m|none=>d0)
 | _,_=>none
def qgn(f:List Int->Option Int)(fa:FA)(fd:FE): FE:=fun ρ =>(fa ρ).bind fun xs=>(fd ρ).bind fun d=>qgm f xs d
section
variable{X:Cx}
theorem qp0{e e2:Expr}{fa:FA}{fd:FE}{p kp pos:Pos}(hc:X.calm=true)(hgs:Gl X "max")(hms:X.mg "max" = none)(ha:PA X [e] (tDA X.K fa))(hd:PE X e2 (tD X.K fd))
  (he:backTo pos (starEach [e] X.env)=(false,eval e X.env) :: backTo pos (starEach [] X.env):=by rfl) (hpl:(backTo pos (starEach [e] X.env)).any (·.1)=false:=by rfl) :
  PE X (.Call (.Name "max" p) [e] [⟨some "default",e2,kp⟩] pos) (tD X.K (qgn List.max? fa fd)):=by
 intro pins s σ H Q I ⟨F0,H0,F, ρ,d,r,hf,q⟩;obtain⟨ds1,h1,hf⟩:=gc.mp hf;obtain⟨d0,h2,h3⟩:=gc.mp hf;refine g1l (q16 I hgs hms boot_max ?_ (by decide) (by decide));refine callWith_kw (thn (ha pos pins s σ H (fun vs H1=>∃F1,Grow F H F1 H1/\RepL X.K F1 ds1 vs) I ⟨F0,H0,F, ρ,ds1,r,h1,fun vs F1 H1 g1 r1=>⟨F1,g1,r1⟩⟩) fun us s1 ⟨vs,H1,I1,rv,F1,g1,r1⟩=>?_) he hpl rfl rfl;refine kws_cons (thn (hd pins s1 σ H1 (fun v H2=>∃F2,Grow F1 H1 F2 H2/\Rep X.K F2 d0 v) I1 ⟨F0,H0,F1, ρ,d0,r.grow g1,h2,fun v F2 H2 g2 r2=>⟨F2,g2,r2⟩⟩) fun u s2 ⟨v,H2,I2,ru,F2,g2,r2⟩=>kws_nil ?_);unfold qgm at h3
 split at h3
 ·rename_i ds
  obtain⟨ns,h4,h5⟩:=gc.mp h3;cases h5;obtain⟨x,rfl,rx⟩:=rep1 r1;obtain⟨ux,rfl,ru1⟩:=vals1 rv;obtain⟨a,ys,rfl,k1,k2⟩:=rep_lst.mp rx;cases ru1;obtain rfl:=ints_rep h4 k2;obtain⟨its,v1,pl,hz⟩:=I2.list (g2.fh.seq ((show Same F1 F2 from g2.ff).seq k1));have hlen:its.length=ns.length:=by have:=v1.length;simpa using this.symm
  have hat:∀(i:Nat) (w:Value),its.toArray[i]? = some w->∃t,w=.int (ns.getD i 0) t:=fun i w hw=>by
   have hw:its[i]? = some w:=by simpa using hw
   have hi:i<ns.length:=by rw [<- hlen];exact(nh.mp hw).1
   obtain⟨u',hu',ru'⟩:=v1.get (show(ns.map V.int)[i]? = some (.int ns[i]) by rw [mv,mj hi];rfl);rw [hw] at hu';cases hu';obtain⟨t,rfl⟩:=ru';exact⟨t,by rw [g2r,mj hi];rfl⟩
  refine Js.qgl (Pv:=fun i v=>∃t,v=.int (ns.getD i 0) t) (I2.ok.hd hc) pl.isList hat (CmpOf.ints_gt (fun i=>ns.getD i 0) fun _ _ h=>h) fun v' h' tk hv hk=>?_;have I3:Inv X pins σ H2 {s2 with heap:=h',toks:=tk}:=I2.kept (t':=tk) hk;have hsz:its.toArray.size=ns.length:=by simpa using hlen
  rw [hsz] at hv;rcases hv with⟨h0,rfl⟩|⟨h0,t,rfl⟩
  ·have:ns=[]:=g2f h0
   subst this;exact⟨v,H2,I3,ru,q v F2 H2 (g1.trans g2) r2⟩
  ·obtain⟨b1,b2⟩:=argBest_gt (fun i=>ns.getD i 0) (ns.length-1)
   generalize argBest (fun i j=>decide (ns.getD i 0>ns.getD j 0)) (ns.length-1)=m at b1 b2 ⊢;have hm:m<ns.length:=by omega
   have em:ns.getD m 0=ns[m]:=by rw [g2r,mj hm];rfl
   have mx:ns.max? = some (ns.getD m 0):=by
    rw [g6n];refine⟨by rw [em];exact g2p hm,fun b hb=>?_⟩;obtain⟨j,hj,rfl⟩:=List.getElem_of_mem hb;have:=b2 j (by omega);have ej:ns.getD j 0=ns[j]:=by rw [g2r,mj hj];rfl
    rw [ej] at this;exact this
   rw [mx] at q;exact⟨.int (ns.getD m 0),H2,I3,⟨t,rfl⟩,q _ F2 H2 (g1.trans g2) (rep_int.mpr rfl)⟩
 ·cases h3
end
def sD1(i1 j:Nat)(it:FA)(f1:FE): FS:=fun ρ =>if qj3 ρ = true/\i1 < ρ.length/\j < ρ.length then(it (ρ.set i1 none)).bind fun ds=>(q8a ds).bind fun ks=>if ks.Nodup/\ks.length<=lim then
  (q42 f1 (ρ.set i1 none) j ds).map fun v1=>(.nx,(q70 (ρ.set i1 none) j ds).set i1 (some (.fz (.dtt ks v1)))) else none else none
section
variable{X:Cx}{pos:Pos}
theorem qta{s1 b1:Stmt}{tg iter:Expr}{rest:List Stmt}{i1 j:Nat}{it:FA}{f1:FE}{u:FS}(hj1:i1≠j)
  (hp:PassesOwn (model X.prog X.w) X.A X.env X.xe) (hc:X.calm=true)
  (h1:PS X s1 (qaz qt9 (q2u i1))) (hi:PI X tg iter (tDI X.K it)) (hg:PG X tg (q2u j))
  (hb1:PS X b1 (qaz (tD X.K f1) (qq1 (q6p i1) (q6p j) (qn6 X.K)))) (hr:PSs X rest (tDS X.K u))
  (hs:∀x,foldedSetIterable iter X.env x=pure x:=by intro _;rfl):PSs X (s1 :: .For tg iter [b1] [] pos :: rest) (tDS X.K (z6 (sD1 i1 j it f1) u)):=by
 refine q5s (q6q h1 (q6q (qhj hp hc hi hg (qeh hb1) hs) hr)) fun D σ H ⟨F0,H0,F, ρ,fl, ρ',r,hf,q⟩=>?_;obtain⟨⟨fl1, ρ1⟩,h3,h4⟩:=gc.mp hf;unfold sD1 at h3
 split at h3
 case isFalse=>cases h3
 rename_i hok;obtain⟨hno,l1,lj⟩:=hok;have no:=qlt hno;obtain⟨ds,hit,h3⟩:=gc.mp h3;obtain⟨ks,hks,h3⟩:=gc.mp h3
 split at h3
 case isFalse=>cases h3
 rename_i hnd;obtain⟨v1,hv1,h3⟩:=m8.mp h3;cases h3;obtain⟨kl,kget⟩:=q9w hks;obtain⟨vl1,vget1⟩:=q9x hv1;intro a1 n1 m1;have hF1:F a1=none:=r.fh.free n1;have hz1:H0 a1=none:=r.g.hh.free n1;have r2:=qrp (qn7 r no (o:=.ext (DE a1 [] 0)) hF1 hz1 (r.tab.upd (.inl n1))) no i1 (some (.ref a1));have no2:xx (ρ.set i1 none):=q1a no;have hsl : σ.length = ρ.length:=r.len;have G1:GD X.K F (upd H a1 (.ext (DE a1 [] 0))) a1 [] []:=⟨⟨[],[],0,qr,rfl,nofun,.nil,.nil⟩,hF1⟩
 refine⟨F0,H0,F, ρ.set i1 none,ds,r2,hit,fun J F1 H1 g1 itd=>?_⟩;refine⟨fun k m σ H=>m=ds.length-k/\k<=ds.length/\∃F' ρk,Same F1 F'/\RS X.K F0 H0 F' H σ ρk/\xx ρk/\(∀d, ρk.set j (some (.fz d))=(ρ.set i1 none).set j (some (.fz d)))/\(k=ds.length -> ρk=q70 (ρ.set i1 none) j ds) /\
  σ[i1]? = some (some (.ref a1))/\GD X.K F' H a1 (ks.take k) (v1.take k),
  ⟨ds.length,by simp,um _,F1, ρ.set i1 none,.refl _,r2.grow g1,no2,fun _=>rfl,fun e=>?_,?_,G1.grow g1⟩,?_⟩
 ·have:ds=[]:=g3o.mp e.symm
  subst this;rfl
 ·rw [g1h (by rw [hsl];exact l1)]
 rintro k m σ' H' ⟨rfl,hk,F', ρk,sm,rk,nok,hset,hend,hσ1,d1⟩
 by_cases hlt:k<ds.length
 ·refine .inr ⟨itd.go k F' H' sm rk.fh hlt,fun σ'' H''=>∃F'' ρk,Same F1 F''/\RS X.K F0 H0 F'' H'' σ'' ρk/\xx ρk/\(∀d, ρk.set j (some (.fz d))=(ρ.set i1 none).set j (some (.fz d)))/\(k+1=ds.length -> ρk=q70 (ρ.set i1 none) j ds) /\
   σ''[i1]? = some (some (.ref a1))/\GD X.K F'' H'' a1 (ks.take (k+1)) (v1.take (k+1)),fun σ'' H'' z=>⟨ds.length-(k+1),by omega,rfl,hlt,z⟩,fun x H2 y=>?_⟩
  have hd:ds[k]? = some ds[k]:=mj hlt;obtain⟨F2,g2,rx⟩:=itd.yld k ds[k] F' H' x H2 sm rk.fh hd y;obtain⟨kq,hkq,hki⟩:=kget k _ hd;obtain⟨w1,hw1,he1⟩:=vget1 k _ hd;obtain⟨b,rfl,hb⟩:=qoz hki rx;have r3:=(rk.grow g2).set j rx;rw [hset] at r3;have no3:xx ((ρ.set i1 none).set j (some (.fz ds[k]))):=q4z no2;have s1':(σ'.set j (some (.ref b)))[i1]? = some (some (.ref a1)):=by rw [m6 (nj hj1)];exact hσ1
  have sj':(σ'.set j (some (.ref b)))[j]? = some (some (.ref b)):=by
   rw [g1h];have:=r3.len;rw [g03,g03,g03] at this;rw [this];exact lj
  have hkn:kq∉ks.take k:=fun hm=>by
   obtain⟨i,hi⟩:=g4f.mp hm;have hik:i<k:=by
    have:=(nh.mp hi).1;rw [p6] at this;omega
   rw [g1z hik] at hi;obtain⟨z1,z2⟩:=nh.mp hi;obtain⟨z3,z4⟩:=nh.mp hkq;exact(g2y.mp hnd.1 i k z1 z3 hik) (z2.trans z4.symm)
  have hkl:∀ {l:DX},l.map (·.1)=ks.take k->l.length<=sizeLine:=fun {l} e=>by
   have e2:=g0d List.length e;rw [mn,p6] at e2;exact ja (by have:=hnd.2;omega)
  have ndk:(ks.take k).Nodup:=List.Sublist.nodup (List.take_sublist _ _) hnd.1;refine⟨F0,H0,F2,_,w1,r3,he1,fun v F3 H3 g3 rv=>?_⟩;have d13:=(d1.grow g2).grow g3;have r4:=r3.grow g3;have hb3:=qk g3.ff hb;obtain⟨⟨xs,ys,ep,e1,e2,e3,e4,e5⟩,f⟩:=d13;refine⟨_,s1',_,sj',a1,b,kq,xs,ep,rfl,rfl,e1,qk r4.fh hb3,fun z hz=>qk r4.fh (e3 z hz),by rw [e2];exact ndk,by rw [e2];exact hkn,hkl e2,fun uu ep' ru hx=>?_⟩;have D1:=GD.push (H:=H3) (ep':=ep') f e2 e3 e4 e5 hb3 rv ru;have r5:=qn7 r4 no3 (o:=.ext (DE a1 (xs++[(kq,b,uu)]) ep')) f hz1 (qls r4.tab e1 hx);refine⟨F3,_,(sm.trans g2.ff).trans g3.ff,r5,no3,fun d=>List.set_set ..,fun e=>?_,s1',?_⟩
  ·have:ds.getLast? = some ds[k]:=by rw [g5q, <- e,Nat.add_sub_cancel];exact hd
   unfold q70;rw [this]
  ·rw [take_snoc hkq,take_snoc hw1]
   exact D1
 ·have e:k=ds.length:=by omega
  subst e;refine .inl ⟨itd.stop _ F' H' sm rk.fh (gw _),?_⟩;rw [tm (by omega),tm (by omega)] at d1;have er:=hend rfl;subst er;obtain⟨o1,ho1,rep1⟩:=d1.rep m1 hnd.1 (ja hnd.2);have r8:=qrq rk nok d1.f hz1 ho1;exact⟨F0,H0,_,_,fl, ρ',qrr r8 hσ1 rep1,h4,q24 ((g1.ff.trans sm).trans (k7 d1.f)) q⟩
end
def q8c:D->List D->Option D
 | .dtt ks vs,[.tup kd]=>(jh kd).bind fun k=>if k∈ks then vs[ks.idxOf k]? else some .non
 | .dtt ks vs,[.tup kd,d0]=>(jh kd).bind fun k=>if k∈ks then vs[ks.idxOf k]? else some d0
 | _,_=>none
def q95(f:FE)(fa:FA): FE:=fun ρ =>(f ρ).bind fun d=>(fa ρ).bind fun xs=>q8c d xs
section
variable{X:Cx}
theorem qfd{K:Frag}{F:Hp}{ks:List (List Int)}{vs:List D}{xs:DX}{ys:List V}{k:List Int}(e2:xs.map (·.1)=ks)(e3:ks.Nodup)(e7:Vals ys (xs.map fun p=>p.2.2))(e8:RepL K F vs ys){d0 d:D}{v0:V}{u0:Value}(r0:Rep K F d0 v0)(q0:RelV v0 u0)
  (h:(if k∈ks then vs[ks.idxOf k]? else some d0)=some d):∃v,Rep K F d v/\RelV v (((atKey xs k).map (·.2)).getD u0):=by
 split at h
 ·rename_i hk
  obtain⟨w,ew,rw'⟩:=e8.get h;obtain⟨uu,eu,ruu⟩:=e7.get ew;rw [mv] at eu;obtain⟨z,hz,rfl⟩:=m8.mp eu;have hzk:z.1=k:=by
   have h2:(xs.map (·.1))[ks.idxOf k]? = some z.1:=by rw [mv,hz];rfl
   rw [e2,mj (g1o hk),g3d] at h2;exact(mf h2).symm
  have ha:atKey xs k=some z.2:=by
   rw [<- hzk];exact atKey_of_get (by rw [e2];exact e3) (show xs[ks.idxOf k]? = some (z.1,z.2) from hz)
  exact⟨w,rw',by rw [ha];exact ruu⟩
 ·rename_i hk
  cases h;have ha:atKey xs k=none:=g3y fun i p e=>hk (by rw [<- e2];exact ng.mpr ⟨_,tw e,rfl⟩);exact⟨v0,r0,by rw [ha];exact q0⟩
theorem qrt(hu:X.A.units+64<cLine): MtR X "dict.get" (fun x xs H Q=>∃F d ds r,Same F H/\Rep X.K F d x/\RepL X.K F ds xs/\q8c d ds=some r/\∀v,Rep X.K F r v->Q v H):=by
 intro pins s σ H x vs v us Q I rx rv h;obtain⟨F,d,ds,r,fh,r1,r2,ho,q⟩:=h;unfold q8c at ho
 split at ho
 ·rename_i ks ws kd
  obtain⟨k,h1,ho⟩:=gc.mp ho;obtain⟨x1,rfl,rx1⟩:=rep1 r2;obtain⟨u1,rfl,ru1⟩:=vals1 rv;obtain⟨b,kxs,rfl,k1,k2⟩:=rep_tup.mp rx1;obtain⟨a,xs,ys,ep,rfl,e1,e2,e3,e4,e5,e6,e7,e8⟩:=rep_dtt.mp r1;cases rx;cases ru1;rw [ints_rep h1 k2] at k1;obtain⟨⟨o,es,g1,g2,g3,g4⟩,_,_⟩:=(show ObjOk X.prog X.w H s.heap a _ from I.hok a _ (fh _ _ e1))
  have dd:s.heap.DictOfH (Js.TK X.prog X.w) a xs:=⟨o,es,ep,g1,g2,g3,g4,fun x hx=>kh I fh (e6 x hx),by rw [e2];exact e3⟩
  obtain⟨v,rv,qv⟩:=qfd e2 e3 e7 e8 (d0:=.non) (v0:=.non) (u0:=.none) (rep_non.mpr rfl) rfl ho;refine call_meetsIn g4h dd.typeIs g6f (PySem.F.args_dict_get_2 _ _) (meetsH_dict_get (Js.TK X.prog X.w) a b e5) ⟨g2a (by lia),k,xs,kh I fh k1,dd,?_⟩;exact⟨v,H,I.tok _,qv,q v rv⟩
 ·rename_i ks ws kd d0
  obtain⟨k,h1,ho⟩:=gc.mp ho;obtain⟨x1,t1,rfl,rx1,r3⟩:=r2.cons_inv;obtain⟨x2,rfl,rx2⟩:=rep1 r3;obtain⟨u1,u2,rfl,ru1,ru2⟩:=rv.two;obtain⟨b,kxs,rfl,k1,k2⟩:=rep_tup.mp rx1;obtain⟨a,xs,ys,ep,rfl,e1,e2,e3,e4,e5,e6,e7,e8⟩:=rep_dtt.mp r1;cases rx;cases ru1;rw [ints_rep h1 k2] at k1;obtain⟨⟨o,es,g1,g2,g3,g4⟩,_,_⟩:=(show ObjOk X.prog X.w H s.heap a _ from I.hok a _ (fh _ _ e1))
  have dd:s.heap.DictOfH (Js.TK X.prog X.w) a xs:=⟨o,es,ep,g1,g2,g3,g4,fun x hx=>kh I fh (e6 x hx),by rw [e2];exact e3⟩
  obtain⟨v,rv,qv⟩:=qfd e2 e3 e7 e8 rx2 ru2 ho;refine call_meetsIn g4h dd.typeIs g6f (PySem.F.args_dict_get_3 _ _ _) (meetsH_dict_get_default (Js.TK X.prog X.w) a b e5 u2) ⟨g2a (by lia),k,xs,kh I fh k1,dd,?_⟩;exact⟨v,H,I.tok _,qv,q v rv⟩
 ·cases ho
theorem qru{o e:Expr}{es:List Expr}{f:FE}{fa:FA}{apos cpos:Pos}(hu:X.A.units+64<cLine)(ho:PE X o (tD X.K f))(ha:PA X (e :: es) (tDA X.K fa))
  (hbase:attributeBase o "get" X.env (eval o X.env)=eval o X.env:=by rfl)
  (hfew:((backTo cpos (starEach (e :: es) X.env)).all (fun x=> !x.1)&&(backToKw cpos (keywordEach [] X.env)).all (fun x=>x.1.isSome)
   && decide ((e :: es).length+([]:List Keyword).length+(if([]:List Keyword).isEmpty then 0 else 1)<30))=true:=by rfl)
  (hline:(apos.endLine==cpos.line)=true:=by rfl) (hs:starEach (e :: es) X.env=(false,eval e X.env) :: starEach es X.env:=by rfl) (hplain:(backTo cpos (starEach es X.env)).any (·.1)=false:=by rfl) :
  PE X (.Call (.Attribute o "get" apos) (e :: es) [] cpos) (tD X.K (q95 f fa)):=by
 intro pins s σ H Q I ⟨F0,H0,F, ρ,d,r,hf,q⟩;obtain⟨d1,h1,hf⟩:=gc.mp hf;obtain⟨ds,h2,h3⟩:=gc.mp hf;refine wpAny_Call_method_late hbase hfew hline rfl (thn (ho pins s σ H (fun v H1=>∃F1,Grow F H F1 H1/\Rep X.K F1 d1 v) I ⟨F0,H0,F, ρ,d1,r,h1,fun v F1 H1 g1 r1=>⟨F1,g1,r1⟩⟩) fun v s1 ⟨x,H1,I1,rx,F1,g1,r1⟩=>?_);obtain⟨ks,vs,rfl⟩:∃ks vs,d1=.dtt ks vs:=by cases d1 <;> first|exact⟨_,_,rfl⟩|(simp [q8c] at h3)
 obtain⟨a,xs,ys,ep,rfl,e1,e2,e3,e4,e5,e6,e7,e8⟩:=rep_dtt.mp r1;cases rx;obtain⟨⟨ob,es',k1,k2,k3,k4⟩,_,_⟩:=(show ObjOk X.prog X.w H1 s1.heap a _ from I1.hok a _ (g1.fh _ _ e1))
 refine⟨"dict","dict.get",g65,g4h,PySem.F.type_dict_get,⟨ob,k1,k2.1⟩,fun b e=>by cases e;exact⟨ob,k1,k2.2.1⟩,?_⟩;have hA:=ha cpos pins s1 σ H1 (fun vs H2=>∃F2,Grow F1 H1 F2 H2/\RepL X.K F2 ds vs) I1 ⟨F0,H0,F1, ρ,ds,r.grow g1,h2,fun vs F2 H2 g2 r2=>⟨F2,g2,r2⟩⟩;rw [hs] at hA ⊢;refine g43 (by show(false || (backTo cpos (starEach es X.env)).any (·.1))=false;rw [hplain] <;> rfl) (Calls.evalArgs_plain ?_);exact thn hA fun us s2 ⟨ws,H2,I2,rw',F2,g2,r2⟩=>qrt hu pins s2 σ H2 (.ref a) ws (.ref a) us Q I2 rfl rw' ⟨F2,.dtt ks vs,ds,d,g2.fh,r1.mono g2.ff,r2,h3,fun v rv=>q v F2 H2 (g1.trans g2) rv⟩
end
end DL
namespace DL
open PySem PySem.Spec PyProof.Rows L2
section
variable{prog:Program}{w:World}{A:Around}{E:Value->Shared->Prop}
theorem qcm{it t:Addr}{items:Array Value}(hne:t≠it): ∀(n i:Nat) (s:Shared) (Q:List Value->Shared->Prop),s.heap.IsListIter it t i->s.heap.IsList t items->i+n<=items.size ->
  (∀h',h'.IsListIter it t (i+n)->Heap.SameBut it s.heap h'->Q ((items.toList.drop i).take n) {s with heap:=h'})->wpAny (model prog w) A (draw (.ref it) n) Q E s
 | 0,i,s,Q,hit,_,_,hQ=>g9 (by simpa using hQ s.heap hit (g1u ..))
 | n+1,i,s,Q,hit,ht,hle,hQ=>by
  have hlt:i<items.size:=by omega
  refine g0 (g40 hit ht (x:=items[i]) (by simp [hlt]) fun h1 p1 b1=>g0 (ni (qcm hne n (i+1) _ _ p1 (ht.extBut b1.extBut hne) (by omega) fun h2 p2 b2=>g9 ?_)));have q:=hQ h2 (by rw [show i+(n+1)=i+1+n by omega];exact p2) (b1.trans b2);rwa [show items.toList.drop i=items[i] :: items.toList.drop (i+1) by simp [pj,hlt],List.take_succ_cons] at q
theorem qgo{s:Shared}{env:Env}{elts:List Expr}{x1}{pos:Pos}{t:Addr}{items:Array Value}{Q:Unit->Shared->Prop}(hh:A.handled=none)(ht:s.heap.IsList t items)
  (hn:(assignEach elts env).length=items.size) (hstar:(assignEach elts env).findIdx? (·.1)=none)
  (h:∀h',Heap.ExtBut s.heap.objs.size s.heap h'->wpAny (model prog w) A (assignInOrder ((assignEach elts env).map (·.2)) items.toList) Q E {s with heap:=h'}) :
  wpAny (model prog w) A (assign (.Tuple elts x1 pos) env (.ref t)) Q E s:=by
 have hlt:t≠s.heap.objs.size:=by obtain⟨o,ho,_⟩:=ht;exact m5 (gz ho)
 rw [assign_Tuple];refine g0 (g59 ?_);unfold unpack;rw [hn,hstar];refine g0 (ni ?_);unfold unpackItems notIterableAtAll;refine g0 (g0 (wpAny_specialOf ht.typeIs slot_list_iter.lookup (g9 ?_)));simp only [gh,ny];refine g0 (ni (g1v ht (g0 (ni (qcm hlt items.size 0 _ _ ⟨_,gf _ rfl,rfl,rfl⟩ (ht.push _) (by omega) fun h1 p1 b1=>?_)))));rw [show List.take items.size (List.drop 0 items.toList)=items.toList by rw [g3h];exact tm (by simp),mi (by simp)];refine g0 (ni (g4d hh p1 ((ht.push _).extBut b1.extBut hlt) (by simp) fun h2 e2=>?_));simp only [Option.isSome_none,gh,ny];exact g9 (h h2 fun b o hb e=>e2 b o hb (b1.extBut b o hb (gd _ e)))
end
variable[Lam]
section
variable{X:Cx}{es:List Expr}{pos:Pos}
theorem qrv{k:Nat}{t:TGs}{n:Nat}(hc:X.calm=true)(h:PGs X es t)(hn:(assignEach es X.env).length=n:=by rfl)(hst:(assignEach es X.env).findIdx? (·.1)=none:=by rfl):
  PG X (.Tuple es k pos) (fun v σ H Q=>∃a xs,v=.ref a/\SqL X.K H a xs/\xs.length=n/\t xs σ H Q):=by
 intro pins s σ H v u Q I r hw;obtain⟨a,xs,e1,hq,hl,hw⟩:=hw;subst e1;cases r;obtain⟨its,rv,ht,hz⟩:=I.list hq;refine qgo (I.ok.hd hc) ht.isList (by simp [hn, <- hl,rv.length]) hst fun h' hx=>?_;have I1:Inv X pins σ H {s with heap:=h'}:=I.kept (t':=s.toks) fun b o e=>hx b o (m5 (gz e)) e;exact h pins _ σ H xs _ Q I1 (by simpa using rv) hw
def q96(n:Nat)(bs:FBs): FB:=fun d ρ =>match d with
 | .lst ds=>if ds.length=n then bs ds ρ else none
 | _=>none
theorem qrw{k n:Nat}{bs:FBs}(hc:X.calm=true)(h:PGs X es (qbe X.K bs))(hn:(assignEach es X.env).length=n:=by rfl)(hst:(assignEach es X.env).findIdx? (·.1)=none:=by rfl): PG X (.Tuple es k pos) (tDG X.K (q96 n bs)):=
 qbf (qrv hc h hn hst) fun v σ H Q ⟨F0,H0,F, ρ,d, ρ',r,hr,hb,q⟩=>by
  cases d <;> simp only [q96] at hb <;> first|(cases hb;done)|skip
  rename_i ds
  split at hb
  ·rename_i hl
   obtain⟨a,xs,rfl,h1,h2⟩:=rep_lst.mp hr;exact⟨a,xs,rfl,r.fh.seq h1,by rw [<- h2.length];exact hl,F0,H0,F, ρ,ds, ρ',r,h2,hb,q⟩
  ·cases hb
end
end DL
namespace DL
open PySem L2
theorem qcn(a b:Int): decide (V.int a=V.int b)=decide (a=b):=g4b.mpr ⟨fun h=>by injection h,fun h=>by rw [h]⟩
theorem q62(a b:Int): oEq (.int a) (.int b)=some (.bl (decide (a=b))):=by
 simp only [oEq,qkk,flD,q8o,ma,p0,g6o,qcn]
theorem qfe(a b:Int): q4t (.int a) (.int b)=some (.bl (!decide (a=b))):=by
 simp only [q4t,flD,q8o,ma,p0,qcn]
theorem qrx(a b:Bool): oEq (.bl a) (.bl b)=some (.bl (a==b)):=by
 cases a <;> cases b <;> rfl
theorem qco(a b:Int)(h:0<b): oMod (.int a) (.int b)=some (.int (a%b)):=by simp [oMod,oI,h]
theorem qlx(a b:Int)(h:0<b)(h2:b<1073741824): oDiv (.int a) (.int b)=some (.int (a / b)):=by simp [oDiv,oI,h,h2]
theorem qj7(a b:Int): zg (.int a) (.int b)=some (.int (a+b)):=rfl
theorem qly(a b:Int): oSub (.int a) (.int b)=some (.int (a-b)):=rfl
theorem qff(a b:Int): oLt' (.int a) (.int b)=some (.bl (decide (a<b))):=rfl
theorem qp1(a b:Int): oLe (.int a) (.int b)=some (.bl (decide (a<=b))):=rfl
theorem qp2(a b:Int): oGt (.int a) (.int b)=some (.bl (decide (b<a))):=rfl
theorem qp3(a b:Int): oGe (.int a) (.int b)=some (.bl (decide (b<=a))):=rfl
theorem q5a(xs ys:List D)(h:xs.length+ys.length<=1000000): zg (.tup xs) (.tup ys)=some (.tup (xs++ys)):=by
 show(oAdd (.tup xs) (.tup ys)).or (qbk (.tup xs) (.tup ys))=_;simp only [oAdd,oI,Option.none_or,qbk,lim,md h]
theorem qlz(a b:Int)(h:0<=b)(h2:b<=1000000)(h3:a.natAbs<2 ^ 64): oShl (.int a) (.int b)=some (.int (a*2 ^ b.toNat)):=by simp [oShl,oI,h,h2,h3]
theorem qm0(a b:Int)(h:0<=b)(h2:b<=1000000)(h3:a.natAbs<2 ^ 64): oPow (.int a) (.int b)=some (.int (a ^ b.toNat)):=by simp [oPow,oI,h,h2,h3]
theorem q9y(ns:List Int): qbi [.lst (ns.map .int)]=some (.int ns.sum):=by simp [qbi,o1L,vg]
theorem q43(bs:List Bool): q51 [.lst (bs.map .bl)]=some (.bl (bs.all id)):=by simp [q51,o1L,q7x]
theorem qfg{α : Type}{xs:List α}{i:Int}(h0:0<=i): atI xs i=xs[i.toNat]? :=by
 unfold atI ixN;rw [md h0]
 by_cases h:i<xs.length
 ·rw [md h];rfl
 ·rw [mi h,g6m (by omega)];rfl
theorem qm1{α : Type}(xs:List α): atI xs (-1)=xs.getLast? :=by
 unfold atI ixN;rw [mi (by decide)];cases xs with
 | nil=>rfl
 | cons a r=>
  rw [md (by simp only [p8];omega)];show(a :: r)[((-1:Int)+((a :: r).length:Nat)).toNat]? = _;rw [g5q]
  congr 1
  simp only [p8];omega
section
variable{b:FB}{body:FS}{d:D}{ds:List D}{ρ ρ1 ρ2:Rho}
theorem je(h1:b d ρ = some ρ1)(h2:body ρ1=some (.nx, ρ2)): runFor b body (d :: ds) ρ = runFor b body ds ρ2:=by simp only [runFor,h1,h2,ma]
end
theorem q8d{b:FB}{c:FT}{f:FE}{ρ : Rho}(p:D->Bool)(g:D->D): ∀ {ds:List D},(∀d∈ds,∃ ρ1,b d ρ = some ρ1/\c ρ1=some (p d)/\(p d=true->f ρ1=some (g d)))->qw b c f ρ ds=some ((ds.filter p).map g)
 | [],_=>rfl
 | d :: ds,h=>by
  obtain⟨ρ1,e1,e2,e3⟩:=h d gq;have ih:=q8d p g fun e he=>h e (gr _ he);simp only [qw,e1,e2,ma];cases hp:p d with
  | true=>simp only [p0,e3 hp,ma,ih,pb,ph,hp,gj]
  | false=>simp only [gh,ny,ih,ph,hp]
theorem q12{b:FB}{f:FE}{ρ : Rho}(g:D->D){ds:List D}(h:∀d∈ds,∃ ρ1,b d ρ = some ρ1/\f ρ1=some (g d)): qw b zf f ρ ds=some (ds.map g):=by
 have:=q8d (b:=b) (c:=zf) (f:=f) (ρ := ρ) (fun _=>true) g (ds:=ds) fun d hd=>let⟨ρ1,e1,e2⟩:=h d hd; ⟨ρ1,e1,rfl,fun _=>e2⟩
 rw [List.filter_eq_self.mpr (fun _ _=>rfl)] at this;exact this
theorem q13(lo:Int)(n:Nat): z5 lo (n+1)=.int lo :: z5 (lo+1) n:=by
 unfold z5;rw [g2c,gj,nv]
 congr 1
 ·simp
 ·apply g2u
  intro a _;simp only [Function.comp,Nat.succ_eq_add_one,Int.natCast_add]
  congr 1
  omega
theorem q1p(lo:Int)(n:Nat): (z5 lo n).length=n:=by simp [z5]
theorem q1x(fa:FA)(ρ : Rho)(j:Int)(h:fa ρ = some [.int j])(h1 : -(2 ^ 62)<=j)(h2:j<2 ^ 62): iR1 fa ρ = some (z5 0 j.toNat):=by
 simp only [iR1,h,ma,nk h1,nk h2,g6t,p0]
theorem q6b{α : Type}(xs:List D)(k:Nat): cutD xs none (some (k:Int))=xs.take k:=by
 unfold cutD;rw [HT.sIx_nat,HT.sIx_none];simp only [g3h,Nat.sub_zero]
 by_cases h:k<=xs.length
 ·rw [g6b h]
 ·rw [g62 (by omega),g5w,tm (by omega)]
theorem qcp{α : Type}(xs:List D)(k:Nat): cutD xs (some (k:Int)) none=xs.drop k:=by
 unfold cutD;rw [HT.sIx_nat,HT.sIx_none]
 by_cases h:k<=xs.length
 ·rw [g6b h,tm (by rw [g00];exact gw _)]
 ·rw [g62 (by omega),g5v,List.drop_eq_nil_of_le (by omega)];simp
section
variable{ρ ρ1 ρ':Rho}{f g:FE}{d x y z:D}{i n m ar:Nat}{fa fk:FA}{ds es:List D}{t t2:FT}{c:Bool}{u w:FS}{r:Option (Fl×Rho)}
theorem x_c:eC d ρ = some d:=rfl
theorem x_v(h : ρ[i]? = some (some (.fz d))): eV i ρ = some d:=by unfold eV;rw [h]
theorem qgp{o:D->D->Option D}(h1:f ρ = some x)(h2:g ρ = some y)(h3:o x y=some z): eOp o f g ρ = some z:=by unfold eOp;rw [h1,ma,h2,ma,h3]
theorem qu5{o:D->Option D}(h1:f ρ = some x)(h3:o x=some z): eUn o f ρ = some z:=by unfold eUn;rw [h1,ma,h3]
theorem q44:qh ρ = some []:=rfl
theorem q1b(h1:f ρ = some d)(h2:fa ρ = some ds): qc f fa ρ = some (d :: ds):=by unfold qc;rw [h1,ma,h2,pb]
theorem x_call{o:List D->Option D}(h1:fa ρ = some ds)(h2:o ds=some d): qj o fa ρ = some d:=by unfold qj;rw [h1,ma,h2]
theorem qj8{o:List D->Option D}{dds:List D}(h1:fa ρ = some ds)(hl:(ds++dds).length=ar)(h2:o (ds++dds)=some d): qj (qq ar dds o) fa ρ = some d:=by unfold qj qq;rw [h1,ma,md hl,h2]
theorem qtb(h1:fa ρ = some ds)(hl:ds.length<=lim): xf fa ρ = some (.tup ds):=by unfold xf;rw [h1,ma,md hl]
theorem x_l(h1:fa ρ = some ds): eL fa ρ = some (.lst ds):=by unfold eL;rw [h1,pb]
theorem qm2(h1:f ρ = some d)(h2:qbc d=some c): bT f ρ = some c:=by unfold bT;rw [h1,ma,h2]
theorem qry(h1:t ρ = some c)(hc:c=true)(h2:u ρ = r): sIf t u w ρ = r:=by subst hc;unfold sIf;rw [h1,ma];exact h2
theorem qrz(h1:t ρ = some c)(hc:c=false)(h2:w ρ = r): sIf t u w ρ = r:=by subst hc;unfold sIf;rw [h1,ma];exact h2
theorem qs0:v9 ρ = some (.nx, ρ):=rfl
theorem qs1(h:u (ds.map (fun d=>some (.fz d))++List.replicate (n-ds.length) none)=some (.rt d, ρ')): za n u ds=some d:=by unfold za;rw [h]
end
theorem eV0(d:D)(r:Rho): eV 0 (some (.fz d) :: r)=some d:=rfl
theorem eVs(i:Nat)(x:Option B)(r:Rho): eV (i+1) (x :: r)=eV i r:=rfl
theorem qn9(ds:List D): yz [.tup ds]=some (.int ds.length):=rfl
theorem qtc(ds:List D): yz [.lst ds]=some (.int ds.length):=rfl
theorem qu6(i:Int): (match D.int i with | .int i=>some (some i)|_=>none:Option (Option Int))=some (some i):=rfl
theorem qu7(ds:List D)(r:Rho): frz 0 (some (.ow ds) :: r)=some (.fz (.lst ds)) :: r:=rfl
theorem frzs(i:Nat)(x:Option B)(r:Rho): frz (i+1) (x :: r)=x :: frz i r:=by
 unfold frz;rw [g3q];cases h:r[i]? with
 | none=>rfl
 | some y=>
  cases y with
  | none=>rfl
  | some z=>cases z <;> rfl
theorem wa(a b:Int)(h : -(2 ^ 64)<b/\b<2 ^ 64): ji (.int a) (.int b)=some (.int (a*b)):=by
 have h2:(decide (-(2 ^ 64)<b)&&decide (b<2 ^ 64))=true:=by rw [nk h.1,nk h.2];rfl
 show(if((decide (-(2 ^ 64)<a)&&decide (a<2 ^ 64)) || (decide (-(2 ^ 64)<b)&&decide (b<2 ^ 64)))=true then some (D.int (a*b)) else none).or _=_;rw [h2,Bool.or_true,md rfl,g6o]
theorem qdt(a b:Int)(h : -(2 ^ 64)<a/\a<2 ^ 64): ji (.int a) (.int b)=some (.int (a*b)):=by
 have h2:(decide (-(2 ^ 64)<a)&&decide (a<2 ^ 64))=true:=by rw [nk h.1,nk h.2];rfl
 show(if((decide (-(2 ^ 64)<a)&&decide (a<2 ^ 64)) || (decide (-(2 ^ 64)<b)&&decide (b<2 ^ 64)))=true then some (D.int (a*b)) else none).or _=_;rw [h2,Bool.true_or,md rfl,g6o]
theorem qu8(ds:List D)(i:Int): oIx (.lst ds) (.int i)=atI ds i:=rfl
theorem qs2(ds:List D)(i:Int): oIx (.tup ds) (.int i)=atI ds i:=rfl
theorem qp4{α : Type}(xs:List α)(n:Nat): atI xs (no_index (OfNat.ofNat n:Int))=xs[n]? :=by
 show atI xs (n:Int)=xs[n]?;rw [qfg (show(0:Int)<=(n:Int) by omega)]
 rfl
theorem qm3{α : Type}(xs:List α)(n:Nat): atI xs (n:Int)=xs[n]? :=by
 rw [qfg (show(0:Int)<=(n:Int) by omega)]
 rfl
theorem qp5(ds:List D): qmz [.lst ds]=some ds:=rfl
theorem qp6(ds:List D): qmz [.tup ds]=some ds:=rfl
theorem y6(ds:List D): yb [.lst ds]=some (.tup ds):=rfl
theorem qm4(ds:List D): yb [.tup ds]=some (.tup ds):=rfl
theorem q45(ds:List D)(r:Rho): q6t 0 (some (.ow ds) :: r)=some ds:=rfl
theorem q46(i:Nat)(x:Option B)(r:Rho): q6t (i+1) (x :: r)=q6t i r:=rfl
theorem ze{n:Nat}{u:FS}{ds:List D}{d:D}(h:(u (ds.map (fun d=>some (.fz d))++List.replicate (n-ds.length) none)).map Prod.fst=some (.rt d)): za n u ds=some d:=by
 cases e:u (ds.map (fun d=>some (.fz d))++List.replicate (n-ds.length) none) with
 | none=>rw [e] at h;cases h
 | some p=>
  obtain⟨fl, ρ'⟩:=p;rw [e] at h;have h':fl=.rt d:=by simpa using h
  subst h';exact qs1 e
theorem qp7:zc .int .non=false/\(∀b:Bool,zc .int (.bl b)=true)/\(∀i:Int,zc .int (.int i)=true)/\(∀x:Str,zc .int (.str x)=false)/\(∀ds:List D,zc .int (.tup ds)=false)/\(∀ds:List D,zc .int (.lst ds)=false)/\(∀(ks:List Key) (vs:List D),zc .int (.dct ks vs)=false)/\(∀(ks:List (List Int)) (vs:List D),zc .int (.dtt ks vs)=false)/\zc .bool .non=false/\(∀b:Bool,zc .bool (.bl b)=true)/\(∀i:Int,zc .bool (.int i)=false)/\(∀x:Str,zc .bool (.str x)=false)/\(∀ds:List D,zc .bool (.tup ds)=false)/\(∀ds:List D,zc .bool (.lst ds)=false)/\(∀(ks:List Key) (vs:List D),zc .bool (.dct ks vs)=false)/\(∀(ks:List (List Int)) (vs:List D),zc .bool (.dtt ks vs)=false)/\zc .tuple .non=false/\(∀b:Bool,zc .tuple (.bl b)=false)/\(∀i:Int,zc .tuple (.int i)=false)/\(∀x:Str,zc .tuple (.str x)=false)/\(∀ds:List D,zc .tuple (.tup ds)=true)/\(∀ds:List D,zc .tuple (.lst ds)=false)/\(∀(ks:List Key) (vs:List D),zc .tuple (.dct ks vs)=false)/\(∀(ks:List (List Int)) (vs:List D),zc .tuple (.dtt ks vs)=false)/\zc .list .non=false/\(∀b:Bool,zc .list (.bl b)=false)/\(∀i:Int,zc .list (.int i)=false)/\(∀x:Str,zc .list (.str x)=false)/\(∀ds:List D,zc .list (.tup ds)=false)/\(∀ds:List D,zc .list (.lst ds)=true)/\(∀(ks:List Key) (vs:List D),zc .list (.dct ks vs)=false)/\(∀(ks:List (List Int)) (vs:List D),zc .list (.dtt ks vs)=false)/\zc .str .non=false/\(∀b:Bool,zc .str (.bl b)=false)/\(∀i:Int,zc .str (.int i)=false)/\(∀x:Str,zc .str (.str x)=true)/\(∀ds:List D,zc .str (.tup ds)=false)/\(∀ds:List D,zc .str (.lst ds)=false)/\(∀(ks:List Key) (vs:List D),zc .str (.dct ks vs)=false)/\(∀(ks:List (List Int)) (vs:List D),zc .str (.dtt ks vs)=false)/\zc .dict .non=false/\(∀b:Bool,zc .dict (.bl b)=false)/\(∀i:Int,zc .dict (.int i)=false)/\(∀x:Str,zc .dict (.str x)=false)/\(∀ds:List D,zc .dict (.tup ds)=false)/\(∀ds:List D,zc .dict (.lst ds)=false)/\(∀(ks:List Key) (vs:List D),zc .dict (.dct ks vs)=true)/\(∀(ks:List (List Int)) (vs:List D),zc .dict (.dtt ks vs)=true):=by
 refine⟨?_,?_,?_,?_,?_,?_,?_,?_,?_,?_,?_,?_,?_,?_,?_,?_,?_,?_,?_,?_,?_,?_,?_,?_,?_,?_,?_,?_,?_,?_,?_,?_,?_,?_,?_,?_,?_,?_,?_,?_,?_,?_,?_,?_,?_,?_,?_,?_⟩ <;> intros <;> rfl
theorem qp8{x:Int}{n:Nat}(hn:0<n): ∃k:Nat,k<n/\oMod (.int x) (.int (n:Int))=some (.int (k:Int)):=by
 have h1:=g0w x (show(n:Int)≠0 by omega);have h2:=g1p x (show(0:Int)<(n:Int) by omega);refine⟨(x%n).toNat,by omega,?_⟩;rw [qco _ _ (by omega),g2t h1]
end DL
namespace My
open PySem PySem.Spec PyProof.Rows L2 DL
local macro_rules | `(tactic| walk_at "A")=> `(tactic| ((refine qnu (hs:=?hs) ?a ?_);(case hs=>exact qes rfl)))
local macro_rules | `(tactic| walk_at "L")=> `(tactic| first|exact .inl rfl|exact .inr rfl|assumption)
def top(i:Nat): Stmt:=PySem.Challenge.pw_oftentogether_k22_whole_closed.main.body.getD i (.Pass ⟨0,0,0,0⟩)
def qs3(i j:Nat): Stmt:=match top i with | .ClassDef _ _ _ body _ _ _ _ _ _ _=>body.getD j (.Pass ⟨0,0,0,0⟩)|x=>x
section
variable[Lam]{P:Program}{w:World}{K:Frag}{mg:Str->Option Value}{base:Heap}
abbrev q0b:Stmt:=top 25
noncomputable def q5b:List Str:=["_law_mark","_law_some","_law_ware"]
theorem q1q:(q5b).Nodup:=by decide +kernel
theorem qgq:FnScope q5b ["_law_mark"] (qd q0b):=⟨rfl,rfl,rfl,q1q,rfl,by decide +kernel,by decide +kernel⟩
noncomputable def vd:FS:=(z6 (sIf (jb oEq (eOp oMod (eV 0) (eC (.int 2))) (eC (.int 1))) (q25 1 (eV 2)) v9) (zw 0 (eOp oDiv (eV 0) (eC (.int 2)))))
noncomputable def q1c:FS:=(z6 (q32 1 (q23 qh)) (z6 (ya (iR1 (qc (eC (.int 12)) qh)) (bN 2) vd) (q3r 1 (zk (qj yb (qc (eV 1) qh))))))
noncomputable def zu:List D->Option D:=za 3 q1c
theorem q8e{fa:Addr}{cdv:Value}{A:Around}{outer:List Env}{s:Shared}{H:Hp}{E:XK}(n_range:mg "range" = none)(n_tuple:mg "tuple" = none)(hr:Room 0 (A.deeper (envOfC "_law_set" (qd q0b) s.heap.objs.size fa cdv))):
  PSs (zr CX0 P w K mg base q5b "_law_set" (qd q0b) fa cdv A outer s H E).nox (qt q0b) (tDS K q1c):=by
 unfold q1c vd;refine(qm ?_ ?_);exact(q4x (i:=1) q1q rfl (Or.inl rfl) (q0f qf));refine(qm ?_ ?_);refine(q0g g0o rfl ?_ (qz q1q rfl (Or.inl rfl) (.inl rfl)) (qm ?_ ?_));refine(q08 rfl n_range ?_);walk_at "A";exact qe;exact qf;refine(xi ?_ (qp ?_) jd);refine(zx (q0h hr.units) ?_ qe);refine(qo jc ?_ qe);exact(qa (pv 0));refine(q7s (pv 1) ?_);exact(qa (pv 2));refine(qp ?_);refine(zd (i:=0) ?_ ?_ ?_ ?_ ?_ ?_);exact q1q;exact rfl;exact(Or.inl rfl);refine(qo wy ?_ qe);exact(qa (pv 0));exact rfl;walk_at "L";refine(q26 1 (qp ?_));refine(z8 ?_);refine(xg (yk) rfl n_tuple DL.boot_tuple ?_);walk_at "A";exact(qa (pv 1));exact qf
theorem qgr{fa:Addr}{dV:Value}{fd:FuncData}(F:Fun2 K "_law_set" "_law_set" q0b dV fa fd)(n_range:mg "range" = none)(n_tuple:mg "tuple" = none): FnOk P w K mg base CX0 1 fa fd ["_law_mark"] (spD K 1 zu):=
 F.okn (k:=0) (n:=3) (ar:=1) (k1:=1) (u:=q1c) qgq rfl rfl rfl fun cdv A outer s H E hr=>(by first|(with_reducible exact q8e n_range n_tuple hr)|exact q8e n_range n_tuple hr)
abbrev yt:Stmt:=top 26
noncomputable def q35:List Str:=["_law_many"]
theorem qcq:(q35).Nodup:=by decide +kernel
theorem qcr:FnScope q35 ["_law_many"] (qd yt):=⟨rfl,rfl,rfl,qcq,rfl,by decide +kernel,by decide +kernel⟩
noncomputable def q14:FS:=(zk (eOp oIx (eL (q23 (qc (eC (.int 1)) (qc (eC (.int 2)) (qc (eC (.int 4)) (qc (eC (.int 8)) (qc (eC (.int 16)) (qc (eC (.int 32)) (qc (eC (.int 64)) (qc (eC (.int 128)) (qc (eC (.int 256)) (qc (eC (.int 512)) (qc (eC (.int 1024)) (qc (eC (.int 2048)) (qc (eC (.int 4096)) qh))))))))))))))) (eV 0)))
noncomputable def zt:List D->Option D:=za 1 q14
theorem q5c{fa:Addr}{cdv:Value}{A:Around}{outer:List Env}{s:Shared}{H:Hp}{E:XK}(hr:Room 0 (A.deeper (envOfC "_law_power" (qd yt) s.heap.objs.size fa cdv))):
  PSs (zr CX0 P w K mg base q35 "_law_power" (qd yt) fa cdv A outer s H E).nox (qt yt) (tDS K q14):=by
 unfold q14;refine(qp ?_);refine(z8 ?_);refine(x5 ?_ ?_);refine(xu ?_);refine(q0f ?_);walk_at "A";exact qe;walk_at "A";exact qe;walk_at "A";exact qe;walk_at "A";exact qe;walk_at "A";exact qe;walk_at "A";exact qe;walk_at "A";exact qe;walk_at "A";exact qe;walk_at "A";exact qe;walk_at "A";exact qe;walk_at "A";exact qe;walk_at "A";exact qe;walk_at "A";exact qe;exact qf;exact(qa (pv 0))
theorem qcs{fa:Addr}{dV:Value}{fd:FuncData}(F:Fun2 K "_law_power" "_law_power" yt dV fa fd): FnOk P w K mg base CX0 1 fa fd ["_law_many"] (spD K 1 zt):=
 F.okn (k:=0) (n:=1) (ar:=1) (k1:=1) (u:=q14) qcr rfl rfl rfl fun cdv A outer s H E hr=>(by first|(with_reducible exact q5c  hr)|exact q5c  hr)
abbrev q0c:Stmt:=top 27
noncomputable def q5d:List Str:=["_law_number","_law_wares","_law_most"]
theorem qgs:(q5d).Nodup:=by decide +kernel
theorem qgt:FnScope q5d ["_law_number","_law_wares","_law_most"] (qd q0c):=⟨rfl,rfl,rfl,qgs,rfl,by decide +kernel,by decide +kernel⟩
noncomputable def q1d:FS:=(zk (xf (qc (eOp zg (eC (.int 1)) (eOp oMod (eOp oDiv (eV 0) (eC (.int 4096))) (eV 2))) (qc (qj (qq 1 [] zu) (qc (eOp oMod (eV 0) (qj (qq 1 [] zt) (qc (eV 1) qh))) qh)) qh))))
noncomputable def ki:List D->Option D:=za 3 q1d
theorem q8f{fa:Addr}{cdv:Value}{A:Around}{outer:List Env}{s:Shared}{H:Hp}{E:XK}{a__law_set:Addr}{fd__law_set:FuncData}(c_17:Cal P w K mg base "_law_set" 1 ["_law_mark"] 1 zu a__law_set fd__law_set)(b_17:Binds K fd__law_set ["_law_mark"] []){a__law_power:Addr}{fd__law_power:FuncData}(c_14:Cal P w K mg base "_law_power" 1 ["_law_many"] 1 zt a__law_power fd__law_power)(b_14:Binds K fd__law_power ["_law_many"] [])(hr:Room 1 (A.deeper (envOfC "_law_run" (qd q0c) s.heap.objs.size fa cdv))):
  PSs (zr CX0 P w K mg base q5d "_law_run" (qd q0c) fa cdv A outer s H E).nox (qt q0c) (tDS K q1d):=by
 unfold q1d;refine(qp ?_);refine(z8 ?_);refine(y9 ?_);walk_at "A";refine(qo zp qe ?_);refine(qo jc ?_ ?_);refine(qo wy ?_ qe);exact(qa (pv 0));exact(qa (pv 2));walk_at "A";refine(z0 c_17 b_17 hr (by decide) rfl ?_);walk_at "A";refine(qo jc ?_ ?_);exact(qa (pv 0));refine(z0 c_14 b_14 hr (by decide) rfl ?_);walk_at "A";exact(qa (pv 1));exact qf;exact qf;exact qf
theorem qgu{fa:Addr}{dV:Value}{fd:FuncData}(F:Fun2 K "_law_run" "_law_run" q0c dV fa fd){a__law_set:Addr}{fd__law_set:FuncData}(c_17:Cal P w K mg base "_law_set" 1 ["_law_mark"] 1 zu a__law_set fd__law_set)(b_17:Binds K fd__law_set ["_law_mark"] []){a__law_power:Addr}{fd__law_power:FuncData}(c_14:Cal P w K mg base "_law_power" 1 ["_law_many"] 1 zt a__law_power fd__law_power)(b_14:Binds K fd__law_power ["_law_many"] []): FnOk P w K mg base CX0 2 fa fd ["_law_number","_law_wares","_law_most"] (spD K 3 ki):=
 F.okn (k:=1) (n:=3) (ar:=3) (k1:=2) (u:=q1d) qgt rfl rfl rfl fun cdv A outer s H E hr=>(by first|(with_reducible exact q8f c_17 b_17 c_14 b_14 hr)|exact q8f c_17 b_17 c_14 b_14 hr)
abbrev yu:Stmt:=top 24
noncomputable def q36:List Str:=["_law_script","_law_k","_law_number"]
theorem q0k:(q36).Nodup:=by decide +kernel
theorem qct:FnScope q36 ["_law_script","_law_k"] (qd yu):=⟨rfl,rfl,rfl,q0k,rfl,by decide +kernel,by decide +kernel⟩
noncomputable def yw:FS:=(z6 (zw 2 (eOp zg (eOp ji (eC (.int 5)) (eV 1)) (eC (.int 2)))) (z6 (sIf (jb oGt (qj yz (qc (eV 0) qh)) (eC (.int 0))) (zw 2 (eOp oMod (eOp oIx (eV 0) (eOp oMod (eV 1) (qj yz (qc (eV 0) qh)))) (eC (.int 2147483629)))) v9) (z6 (zw 2 (eOp oMod (eOp zg (eOp zg (eOp ji (eV 2) (eC (.int 48271))) (eOp ji (eOp ji (eV 1) (eV 1)) (eC (.int 69621)))) (eC (.int 11))) (eC (.int 2147483647)))) (zk (eOp oMod (eOp ji (eV 2) (eV 2)) (eC (.int 2147483629)))))))
noncomputable def x6:List D->Option D:=za 3 yw
theorem q5e{fa:Addr}{cdv:Value}{A:Around}{outer:List Env}{s:Shared}{H:Hp}{E:XK}(n_len:mg "len" = none)(hr:Room 0 (A.deeper (envOfC "_law_mixed" (qd yu) s.heap.objs.size fa cdv))):
  PSs (zr CX0 P w K mg base q36 "_law_mixed" (qd yu) fa cdv A outer s H E).nox (qt yu) (tDS K yw):=by
 unfold yw;refine(qm ?_ ?_);refine(zd (i:=2) ?_ ?_ ?_ ?_ ?_ ?_);exact q0k;exact rfl;exact(Or.inl rfl);refine(qo zp ?_ qe);refine(qo vc qe ?_);exact(qa (pv 1));exact rfl;walk_at "L";refine(qm ?_ ?_);refine(xi ?_ (qp ?_) jd);refine(zx q7q ?_ qe);refine(j3 (k9) rfl n_len DL.xh ?_);walk_at "A";exact(qa (pv 0));exact qf;refine(zd (i:=2) ?_ ?_ ?_ ?_ ?_ ?_);exact q0k;exact rfl;exact(Or.inl rfl);refine(qo jc ?_ qe);refine(x5 ?_ ?_);exact(qa (pv 0));refine(qo jc ?_ ?_);exact(qa (pv 1));refine(j3 (k9) rfl n_len DL.xh ?_);walk_at "A";exact(qa (pv 0));exact qf;exact rfl;walk_at "L";refine(qm ?_ ?_);refine(zd (i:=2) ?_ ?_ ?_ ?_ ?_ ?_);exact q0k;exact rfl;exact(Or.inl rfl);refine(qo jc ?_ qe);refine(qo zp ?_ qe);refine(qo zp ?_ ?_);refine(qo vc ?_ qe);exact(qa (pv 2));refine(qo vc ?_ qe);refine(qo vc ?_ ?_);exact(qa (pv 1));exact(qa (pv 1));exact rfl;walk_at "L";refine(qp ?_);refine(z8 ?_);refine(qo jc ?_ qe);refine(qo vc ?_ ?_);exact(qa (pv 2));exact(qa (pv 2))
theorem qcu{fa:Addr}{dV:Value}{fd:FuncData}(F:Fun2 K "_law_mixed" "_law_mixed" yu dV fa fd)(n_len:mg "len" = none): FnOk P w K mg base CX0 1 fa fd ["_law_script","_law_k"] (spD K 2 x6):=
 F.okn (k:=0) (n:=3) (ar:=2) (k1:=1) (u:=yw) qct rfl rfl rfl fun cdv A outer s H E hr=>(by first|(with_reducible exact q5e n_len hr)|exact q5e n_len hr)
abbrev wb:Stmt:=top 28
noncomputable def q47:List Str:=["_law_script","_law_most_wares","_law_first","_law_wares","_law_most","_law_runs","_law_k","_law_number"]
theorem x8:(q47).Nodup:=by decide +kernel
theorem qdu:FnScope q47 ["_law_script","_law_most_wares"] (qd wb):=⟨rfl,rfl,rfl,x8,rfl,by decide +kernel,by decide +kernel⟩
theorem qal:(["_law_cell","_law_wares","_law_most"]:List Str).Nodup:=by decide +kernel
noncomputable def xq:FS:=(z6 (zw 7 (eOp zg (eOp ji (qj (qq 2 [] x6) (qc (eV 0) (qc (eOp zg (eOp ji (eC (.int 3)) (eV 6)) (eC (.int 1))) qh))) (eC (.int 4096))) (eOp oMod (qj (qq 2 [] x6) (qc (eV 0) (qc (eOp zg (eOp ji (eC (.int 3)) (eV 6)) (eC (.int 2))) qh))) (eC (.int 4096))))) (z6 (sIf (q4u (jb oGt (eV 6) (eC (.int 1))) (jb oEq (eOp oMod (qj (qq 2 [] x6) (qc (eV 0) (qc (eOp zg (eOp ji (eC (.int 3)) (eV 6)) (eC (.int 3))) qh))) (eC (.int 3))) (eC (.int 0)))) (zw 7 (eOp zg (eOp ji (eOp oDiv (eV 7) (eC (.int 4096))) (eC (.int 4096))) (eOp oMod (eOp ji (eOp oDiv (eOp oMod (eV 7) (eC (.int 4096))) (eC (.int 8))) (eC (.int 8))) (eC (.int 4096))))) v9) (q25 5 (qj (qq 3 [] ki) (qc (eV 7) (qc (eV 3) (qc (eV 4) qh)))))))
noncomputable def wc:FS:=(z6 (zw 2 (eC (.int 0))) (z6 (sIf (jb oGt (qj yz (qc (eV 0) qh)) (eC (.int 0))) (zw 2 (eOp oIx (eV 0) (eC (.int 0)))) v9) (z6 (zw 3 (eOp oMod (eV 2) (eOp zg (eV 1) (eC (.int 1))))) (z6 (zw 4 (eOp oIx (eL (q23 (qc (eC (.int 3)) (qc (eC (.int 40)) (qc (eOp oPow (eC (.int 10)) (eC (.int 12))) qh))))) (eOp oMod (eOp oDiv (eV 2) (eC (.int 16))) (eC (.int 3))))) (z6 (sIf (jb oEq (eOp oMod (eOp oDiv (eV 2) (eC (.int 48))) (eC (.int 2))) (eC (.int 0))) (zk (xf (qc (eV 3) (qc (qj yb (qc (eL (z9 (xw (eSl (eV 0) (oAt (eC (.int 1))) (oAt (eC (.int 63))))) [none,some 3,some 4] (bN 0) zf (qj (qq 3 [] ki) (qc (eV 0) (qc (eV 1) (qc (eV 2) qh)))))) qh)) qh)))) v9) (z6 (q32 5 (q23 qh)) (z6 (ya (iR1 (qc (eOp oMod (eOp oDiv (eV 2) (eC (.int 96))) (eC (.int 25))) qh)) (bN 6) xq) (q3r 5 (zk (xf (qc (eV 3) (qc (qj yb (qc (eV 5) qh)) qh))))))))))))
noncomputable def vm:List D->Option D:=za 8 wc
theorem q6c{fa:Addr}{cdv:Value}{A:Around}{outer:List Env}{s:Shared}{H:Hp}{E:XK}{a__law_run:Addr}{fd__law_run:FuncData}(c_15:Cal P w K mg base "_law_run" 2 ["_law_number","_law_wares","_law_most"] 3 ki a__law_run fd__law_run)(b_15:Binds K fd__law_run ["_law_number","_law_wares","_law_most"] []){a__law_mixed:Addr}{fd__law_mixed:FuncData}(c_12:Cal P w K mg base "_law_mixed" 1 ["_law_script","_law_k"] 2 x6 a__law_mixed fd__law_mixed)(b_12:Binds K fd__law_mixed ["_law_script","_law_k"] [])(n_range:mg "range" = none)(n_len:mg "len" = none)(n_tuple:mg "tuple" = none)(hr:Room 2 (A.deeper (envOfC "_law_pile" (qd wb) s.heap.objs.size fa cdv))):
  PSs (zr CX0 P w K mg base q47 "_law_pile" (qd wb) fa cdv A outer s H E).nox (qt wb) (tDS K wc):=by
 unfold wc xq;refine(qm ?_ ?_);refine(zd (i:=2) ?_ ?_ ?_ qe ?_ ?_);exact x8;exact rfl;exact(Or.inl rfl);exact rfl;walk_at "L";refine(qm ?_ ?_);refine(xi ?_ (qp ?_) jd);refine(zx q7q ?_ qe);refine(j3 (k9) rfl n_len DL.xh ?_);walk_at "A";exact(qa (pv 0));exact qf;refine(zd (i:=2) ?_ ?_ ?_ ?_ ?_ ?_);exact x8;exact rfl;exact(Or.inl rfl);refine(x5 ?_ qe);exact(qa (pv 0));exact rfl;walk_at "L";refine(qm ?_ ?_);refine(zd (i:=3) ?_ ?_ ?_ ?_ ?_ ?_);exact x8;exact rfl;exact(Or.inr rfl);refine(qo jc ?_ ?_);exact(qa (pv 2));refine(qo zp ?_ qe);exact(qa (pv 1));exact rfl;walk_at "L";refine(qm ?_ ?_);refine(zd (i:=4) ?_ ?_ ?_ ?_ ?_ ?_);exact x8;exact rfl;exact(Or.inr rfl);refine(x5 ?_ ?_);refine(xu ?_);refine(q0f ?_);walk_at "A";exact qe;walk_at "A";exact qe;walk_at "A";exact(qo qhz qe qe);exact qf;refine(qo jc ?_ qe);refine(qo wy ?_ qe);exact(qa (pv 2));exact rfl;walk_at "L";refine(qm ?_ ?_);refine(xi ?_ (qp ?_) jd);refine(zx (q0h hr.units) ?_ qe);refine(qo jc ?_ qe);refine(qo wy ?_ qe);exact(qa (pv 2));refine(z8 ?_);refine(y9 ?_);walk_at "A";exact(qa (pv 3));walk_at "A";refine(xg (yk) rfl n_tuple DL.boot_tuple ?_);walk_at "A";refine(xu ?_);refine(j4 (N':=["_law_cell","_law_wares","_law_most"]) (cap:=[none,some 3,some 4]) rfl (zl rfl rfl) (zq rfl) ?_ (fun _ _ _ _ _=>(qz qal rfl (Or.inl rfl) (.inr rfl))) (fun _ _ _ _ _=>yp) (fun _ _ _ _ _=>?_));refine(jr ?_);refine(q28 ?_ (q0u qe) (q0u qe));exact(qa (pv 0));refine(z0 c_15 b_15 hr (by decide) rfl ?_);walk_at "A";exact(qa (pv 0));walk_at "A";exact(qa (pv 1));walk_at "A";exact(qa (pv 2));exact qf;exact qf;exact qf;refine(qm ?_ ?_);exact(q4x (i:=5) x8 rfl (Or.inl rfl) (q0f qf));refine(qm ?_ ?_);refine(q0g g0o rfl ?_ (qz x8 rfl (Or.inl rfl) (.inl rfl)) (qm ?_ ?_));refine(q08 rfl n_range ?_);walk_at "A";refine(qo jc ?_ qe);refine(qo wy ?_ qe);exact(qa (pv 2));exact qf;refine(zd (i:=7) ?_ ?_ ?_ ?_ ?_ ?_);exact x8;exact rfl;exact(Or.inl rfl);refine(qo zp ?_ ?_);refine(qo vc ?_ qe);refine(z0 c_12 b_12 hr (by decide) rfl ?_);walk_at "A";exact(qa (pv 0));walk_at "A";refine(qo zp ?_ qe);refine(qo vc qe ?_);exact(qa (pv 6));exact qf;refine(qo jc ?_ qe);refine(z0 c_12 b_12 hr (by decide) rfl ?_);walk_at "A";exact(qa (pv 0));walk_at "A";refine(qo zp ?_ qe);refine(qo vc qe ?_);exact(qa (pv 6));exact qf;exact rfl;walk_at "L";refine(qm ?_ ?_);refine(xi ?_ (qp ?_) jd);refine(PW.pt (q3g ?_ (q1u ?_)));refine(zx q7q ?_ qe);exact(qa (pv 6));refine(zx (q0h hr.units) ?_ qe);refine(qo jc ?_ qe);refine(z0 c_12 b_12 hr (by decide) rfl ?_);walk_at "A";exact(qa (pv 0));walk_at "A";refine(qo zp ?_ qe);refine(qo vc qe ?_);exact(qa (pv 6));exact qf;refine(zd (i:=7) ?_ ?_ ?_ ?_ ?_ ?_);exact x8;exact rfl;exact(Or.inl rfl);refine(qo zp ?_ ?_);refine(qo vc ?_ qe);refine(qo wy ?_ qe);exact(qa (pv 7));refine(qo jc ?_ qe);refine(qo vc ?_ qe);refine(qo wy ?_ qe);refine(qo jc ?_ qe);exact(qa (pv 7));exact rfl;walk_at "L";refine(qp ?_);refine(q7s (pv 5) ?_);refine(z0 c_15 b_15 hr (by decide) rfl ?_);walk_at "A";exact(qa (pv 7));walk_at "A";exact(qa (pv 3));walk_at "A";exact(qa (pv 4));exact qf;refine(q26 5 (qp ?_));refine(z8 ?_);refine(y9 ?_);walk_at "A";exact(qa (pv 3));walk_at "A";refine(xg (yk) rfl n_tuple DL.boot_tuple ?_);walk_at "A";exact(qa (pv 5));exact qf;exact qf
theorem qdv{fa:Addr}{dV:Value}{fd:FuncData}(F:Fun2 K "_law_pile" "_law_pile" wb dV fa fd){a__law_run:Addr}{fd__law_run:FuncData}(c_15:Cal P w K mg base "_law_run" 2 ["_law_number","_law_wares","_law_most"] 3 ki a__law_run fd__law_run)(b_15:Binds K fd__law_run ["_law_number","_law_wares","_law_most"] []){a__law_mixed:Addr}{fd__law_mixed:FuncData}(c_12:Cal P w K mg base "_law_mixed" 1 ["_law_script","_law_k"] 2 x6 a__law_mixed fd__law_mixed)(b_12:Binds K fd__law_mixed ["_law_script","_law_k"] [])(n_range:mg "range" = none)(n_len:mg "len" = none)(n_tuple:mg "tuple" = none): FnOk P w K mg base CX0 3 fa fd ["_law_script","_law_most_wares"] (spD K 2 vm):=
 F.okn (k:=2) (n:=8) (ar:=2) (k1:=3) (u:=wc) qdu rfl rfl rfl fun cdv A outer s H E hr=>(by first|(with_reducible exact q6c c_15 b_15 c_12 b_12 n_range n_len n_tuple hr)|exact q6c c_15 b_15 c_12 b_12 n_range n_len n_tuple hr)
abbrev yx:Stmt:=top 29
noncomputable def q37:List Str:=["_law_pile_here","_law_some","_law_total","_law_many","_law_basket"]
theorem kj:(q37).Nodup:=by decide +kernel
theorem qcv:FnScope q37 ["_law_pile_here","_law_some"] (qd yx):=⟨rfl,rfl,rfl,kj,rfl,by decide +kernel,by decide +kernel⟩
theorem q97:(["_law_ware","_law_basket"]:List Str).Nodup:=by decide +kernel
noncomputable def ju:FS:=(sIf (jb oEq (qj yz (qc (eL (z9 (xw (eV 1)) [none,some 4] (bN 0) (jb (oIn false) (eV 0) (eV 1)) (eV 0))) qh)) (qj yz (qc (eV 1) qh))) (zw 2 (eOp zg (eV 2) (eV 3))) v9)
noncomputable def wz:FS:=(z6 (zw 2 (eC (.int 0))) (z6 (ya (xw (eOp oIx (eV 0) (eC (.int 1)))) (va 2 (zb (bN 3) (zb (bN 4) xv))) ju) (zk (eV 2))))
noncomputable def j7:List D->Option D:=za 5 wz
theorem q5f{fa:Addr}{cdv:Value}{A:Around}{outer:List Env}{s:Shared}{H:Hp}{E:XK}(n_len:mg "len" = none)(hr:Room 0 (A.deeper (envOfC "_law_count" (qd yx) s.heap.objs.size fa cdv))):
  PSs (zr CX0 P w K mg base q37 "_law_count" (qd yx) fa cdv A outer s H E).nox (qt yx) (tDS K wz):=by
 unfold wz ju;refine(qm ?_ ?_);refine(zd (i:=2) ?_ ?_ ?_ qe ?_ ?_);exact kj;exact rfl;exact(Or.inl rfl);exact rfl;walk_at "L";refine(qm ?_ ?_);refine(q0g g0o rfl ?_ (q27 rfl (jq (qz kj rfl (Or.inl rfl) (.inl rfl)) (jq (qz kj rfl (Or.inr rfl) (.inl rfl)) q18))) (qp ?_));refine(jr ?_);refine(x5 ?_ qe);exact(qa (pv 0));refine(xi ?_ (qp ?_) jd);refine(zx (q0h hr.units) ?_ ?_);refine(j3 (k9) rfl n_len DL.xh ?_);walk_at "A";refine(xu ?_);refine(j4 (N':=["_law_ware","_law_basket"]) (cap:=[none,some 4]) rfl (zl rfl rfl) (zq rfl) ?_ (fun _ _ _ _ _=>(qz q97 rfl (Or.inl rfl) (.inr rfl))) (fun _ _ _ _ _=>(q3h ?_)) (fun _ _ _ _ _=>?_));refine(jr ?_);exact(qa (pv 1));refine(zx qn1 ?_ ?_);exact(qa (pv 0));exact(qa (pv 1));exact(qa (pv 0));exact qf;refine(j3 (k9) rfl n_len DL.xh ?_);walk_at "A";exact(qa (pv 1));exact qf;refine(zd (i:=2) ?_ ?_ ?_ ?_ ?_ ?_);exact kj;exact rfl;exact(Or.inl rfl);refine(qo zp ?_ ?_);exact(qa (pv 2));exact(qa (pv 3));exact rfl;walk_at "L";refine(qp ?_);refine(z8 ?_);exact(qa (pv 2))
theorem qcw{fa:Addr}{dV:Value}{fd:FuncData}(F:Fun2 K "_law_count" "_law_count" yx dV fa fd)(n_len:mg "len" = none): FnOk P w K mg base CX0 1 fa fd ["_law_pile_here","_law_some"] (spD K 2 j7):=
 F.okn (k:=0) (n:=5) (ar:=2) (k1:=1) (u:=wz) qcv rfl rfl rfl fun cdv A outer s H E hr=>(by first|(with_reducible exact q5f n_len hr)|exact q5f n_len hr)
abbrev yy:Stmt:=top 30
noncomputable def q38:List Str:=["_law_script","_law_pile_here","_law_number","_law_kind"]
theorem km:(q38).Nodup:=by decide +kernel
theorem qcx:FnScope q38 ["_law_script","_law_pile_here"] (qd yy):=⟨rfl,rfl,rfl,km,rfl,by decide +kernel,by decide +kernel⟩
noncomputable def y8:FS:=(z6 (zw 2 (eC (.int 0))) (z6 (sIf (jb oGt (qj yz (qc (eV 0) qh)) (eC (.int 0))) (zw 2 (eOp oDiv (eOp oIx (eV 0) (eC (.int 0))) (eC (.int 2400)))) v9) (z6 (zw 3 (eOp oMod (eV 2) (eC (.int 4)))) (z6 (zw 2 (eOp oDiv (eV 2) (eC (.int 4)))) (z6 (sIf (jb oEq (eV 3) (eC (.int 0))) (zk (eOp zg (eC (.int 1)) (eOp oMod (eV 2) (eC (.int 6))))) v9) (z6 (sIf (jb oEq (eV 3) (eC (.int 3))) (zk (eOp zg (eC (.int 1)) (eOp oMod (eV 2) (eOp oPow (eC (.int 10)) (eC (.int 14)))))) v9) (zk (qj oMax (qc (eC (.int 1)) (qc (eOp oSub (eOp zg (qj (qq 2 [] j7) (qc (eV 1) (qc (qj (qq 1 [] zu) (qc (eOp oMod (eV 2) (qj (qq 1 [] zt) (qc (eOp oIx (eV 1) (eC (.int 0))) qh))) qh)) qh))) (eV 3)) (eC (.int 1))) qh))))))))))
noncomputable def xa:List D->Option D:=za 4 y8
theorem q5g{fa:Addr}{cdv:Value}{A:Around}{outer:List Env}{s:Shared}{H:Hp}{E:XK}{a__law_count:Addr}{fd__law_count:FuncData}(c_10:Cal P w K mg base "_law_count" 1 ["_law_pile_here","_law_some"] 2 j7 a__law_count fd__law_count)(b_10:Binds K fd__law_count ["_law_pile_here","_law_some"] []){a__law_set:Addr}{fd__law_set:FuncData}(c_17:Cal P w K mg base "_law_set" 1 ["_law_mark"] 1 zu a__law_set fd__law_set)(b_17:Binds K fd__law_set ["_law_mark"] []){a__law_power:Addr}{fd__law_power:FuncData}(c_14:Cal P w K mg base "_law_power" 1 ["_law_many"] 1 zt a__law_power fd__law_power)(b_14:Binds K fd__law_power ["_law_many"] [])(n_max:mg "max" = none)(n_len:mg "len" = none)(hr:Room 1 (A.deeper (envOfC "_law_least" (qd yy) s.heap.objs.size fa cdv))):
  PSs (zr CX0 P w K mg base q38 "_law_least" (qd yy) fa cdv A outer s H E).nox (qt yy) (tDS K y8):=by
 unfold y8;refine(qm ?_ ?_);refine(zd (i:=2) ?_ ?_ ?_ qe ?_ ?_);exact km;exact rfl;exact(Or.inl rfl);exact rfl;walk_at "L";refine(qm ?_ ?_);refine(xi ?_ (qp ?_) jd);refine(zx q7q ?_ qe);refine(j3 (k9) rfl n_len DL.xh ?_);walk_at "A";exact(qa (pv 0));exact qf;refine(zd (i:=2) ?_ ?_ ?_ ?_ ?_ ?_);exact km;exact rfl;exact(Or.inl rfl);refine(qo wy ?_ qe);refine(x5 ?_ qe);exact(qa (pv 0));exact rfl;walk_at "L";refine(qm ?_ ?_);refine(zd (i:=3) ?_ ?_ ?_ ?_ ?_ ?_);exact km;exact rfl;exact(Or.inl rfl);refine(qo jc ?_ qe);exact(qa (pv 2));exact rfl;walk_at "L";refine(qm ?_ ?_);refine(zd (i:=2) ?_ ?_ ?_ ?_ ?_ ?_);exact km;exact rfl;exact(Or.inl rfl);refine(qo wy ?_ qe);exact(qa (pv 2));exact rfl;walk_at "L";refine(qm ?_ ?_);refine(xi ?_ (qp ?_) jd);refine(zx (q0h hr.units) ?_ qe);exact(qa (pv 3));refine(z8 ?_);refine(qo zp qe ?_);refine(qo jc ?_ qe);exact(qa (pv 2));refine(qm ?_ ?_);refine(xi ?_ (qp ?_) jd);refine(zx (q0h hr.units) ?_ qe);exact(qa (pv 3));refine(z8 ?_);refine(qo zp qe ?_);refine(qo jc ?_ ?_);exact(qa (pv 2));exact(qo qhz qe qe);refine(qp ?_);refine(z8 ?_);refine(j3 (qr0 rfl) rfl n_max DL.boot_max ?_);walk_at "A";exact qe;walk_at "A";refine(qo qqp ?_ qe);refine(qo zp ?_ ?_);refine(z0 c_10 b_10 hr (by decide) rfl ?_);walk_at "A";exact(qa (pv 1));walk_at "A";refine(z0 c_17 b_17 hr (by decide) rfl ?_);walk_at "A";refine(qo jc ?_ ?_);exact(qa (pv 2));refine(z0 c_14 b_14 hr (by decide) rfl ?_);walk_at "A";refine(x5 ?_ qe);exact(qa (pv 1));exact qf;exact qf;exact qf;exact(qa (pv 3));exact qf
theorem qcy{fa:Addr}{dV:Value}{fd:FuncData}(F:Fun2 K "_law_least" "_law_least" yy dV fa fd){a__law_count:Addr}{fd__law_count:FuncData}(c_10:Cal P w K mg base "_law_count" 1 ["_law_pile_here","_law_some"] 2 j7 a__law_count fd__law_count)(b_10:Binds K fd__law_count ["_law_pile_here","_law_some"] []){a__law_set:Addr}{fd__law_set:FuncData}(c_17:Cal P w K mg base "_law_set" 1 ["_law_mark"] 1 zu a__law_set fd__law_set)(b_17:Binds K fd__law_set ["_law_mark"] []){a__law_power:Addr}{fd__law_power:FuncData}(c_14:Cal P w K mg base "_law_power" 1 ["_law_many"] 1 zt a__law_power fd__law_power)(b_14:Binds K fd__law_power ["_law_many"] [])(n_max:mg "max" = none)(n_len:mg "len" = none): FnOk P w K mg base CX0 2 fa fd ["_law_script","_law_pile_here"] (spD K 2 xa):=
 F.okn (k:=1) (n:=4) (ar:=2) (k1:=2) (u:=y8) qcx rfl rfl rfl fun cdv A outer s H E hr=>(by first|(with_reducible exact q5g c_10 b_10 c_17 b_17 c_14 b_14 n_max n_len hr)|exact q5g c_10 b_10 c_17 b_17 c_14 b_14 n_max n_len hr)
abbrev xb:Stmt:=top 31
noncomputable def q48:List Str:=["_law_wares"]
theorem qdw:(q48).Nodup:=by decide +kernel
theorem qdx:FnScope q48 ["_law_wares"] (qd xb):=⟨rfl,rfl,rfl,qdw,rfl,by decide +kernel,by decide +kernel⟩
theorem qam:(["_law_mark"]:List Str).Nodup:=by decide +kernel
noncomputable def jv:List D->Option D:=za 1 (zk (xf (qc (qj yz (qc (eV 0) qh)) (qc (eV 0) qh))))
noncomputable def q0l:FS:=(zk (eL (q5v (q61 jv) (qc (eL (z9 (iR1 (qc (qj (qq 1 [] zt) (qc (eV 0) qh)) qh)) [none] (bN 0) zf (qj (qq 1 [] zu) (qc (eV 0) qh)))) qh))))
noncomputable def vn:List D->Option D:=za 1 q0l
theorem q6d{fa:Addr}{A:Around}{outer:List Env}{s:Shared}{H:Hp}{E:XK}{a__law_set:Addr}{fd__law_set:FuncData}(c_17:Cal P w K mg base "_law_set" 1 ["_law_mark"] 1 zu a__law_set fd__law_set)(b_17:Binds K fd__law_set ["_law_mark"] []){a__law_power:Addr}{fd__law_power:FuncData}(c_14:Cal P w K mg base "_law_power" 1 ["_law_many"] 1 zt a__law_power fd__law_power)(b_14:Binds K fd__law_power ["_law_many"] [])(n_sorted:mg "sorted" = none)(n_range:mg "range" = none)(n_len:mg "len" = none){cL TL:Addr}{dV':Value}{fd':FuncData}(F_L:Fun3 K "_law_sets" "_law_sets" xb dV' fa fd' cL TL)(hP_L:(TL,("_law_sets.<locals>.<lambda>" : Str))∈Lam.tab)(hU_L:∀p∈Lam.tab,p.1=TL->p.2="_law_sets.<locals>.<lambda>")(B_L:q1o mg base)(hr:Room 3 (A.deeper (envOfC "_law_sets" (qd xb) s.heap.objs.size fa (.ref cL)))):
  PSs (zr CX0 P w K mg base q48 "_law_sets" (qd xb) fa (.ref cL) A outer s H E).nox (qt xb) (tDS K q0l):=by
 unfold q0l jv;refine(qp ?_);refine(z8 ?_);refine(xu ?_);refine(qle (N:=["_law_some"]) (ps:=["_law_some"]) (k:=0) (u:=(xf (qc (qj yz (qc (eV 0) qh)) (qc (eV 0) qh)))) rfl F_L.hd hP_L hU_L B_L hr rfl n_sorted ?_ ⟨rfl,rfl,rfl,by decide,rfl,by decide +kernel,by decide +kernel⟩ (fun _ _ _ _ _ _ _ hr=>?_) (fun _ _ _ us hl=>match us,hl with | [_],_=>rfl) (by decide) rfl);walk_at "A";refine(xu ?_);refine(j4 (N':=["_law_mark"]) (cap:=[none]) rfl (zl rfl rfl) (zq rfl) ?_ (fun _ _ _ _ _=>(qz qam rfl (Or.inl rfl) (.inr rfl))) (fun _ _ _ _ _=>yp) (fun _ _ _ _ _=>?_));refine(q08 rfl n_range ?_);walk_at "A";refine(z0 c_14 b_14 hr (by decide) rfl ?_);walk_at "A";exact(qa (pv 0));exact qf;exact qf;refine(z0 c_17 b_17 hr (by decide) rfl ?_);walk_at "A";exact(qa (pv 0));exact qf;exact qf;refine(y9 ?_);walk_at "A";refine(j3 (k9) rfl n_len DL.xh ?_);walk_at "A";exact(qa (pv 0));exact qf;walk_at "A";exact(qa (pv 0));exact qf
theorem qdy{fa:Addr}{a__law_set:Addr}{fd__law_set:FuncData}(c_17:Cal P w K mg base "_law_set" 1 ["_law_mark"] 1 zu a__law_set fd__law_set)(b_17:Binds K fd__law_set ["_law_mark"] []){a__law_power:Addr}{fd__law_power:FuncData}(c_14:Cal P w K mg base "_law_power" 1 ["_law_many"] 1 zt a__law_power fd__law_power)(b_14:Binds K fd__law_power ["_law_many"] [])(n_sorted:mg "sorted" = none)(n_range:mg "range" = none)(n_len:mg "len" = none){cL TL:Addr}{dV':Value}{fd':FuncData}(F_L:Fun3 K "_law_sets" "_law_sets" xb dV' fa fd' cL TL)(hP_L:(TL,("_law_sets.<locals>.<lambda>" : Str))∈Lam.tab)(hU_L:∀p∈Lam.tab,p.1=TL->p.2="_law_sets.<locals>.<lambda>")(B_L:q1o mg base): FnOk P w K mg base CX0 4 fa fd' ["_law_wares"] (spD K 1 vn):=
 F_L.okn (k:=3) (n:=1) (ar:=1) (k1:=4) (u:=q0l) qdx rfl rfl rfl fun A outer s H E hr=>(by first|(with_reducible exact q6d c_17 b_17 c_14 b_14 n_sorted n_range n_len F_L hP_L hU_L B_L hr)|exact q6d c_17 b_17 c_14 b_14 n_sorted n_range n_len F_L hP_L hU_L B_L hr)
abbrev yc:Stmt:=top 33
noncomputable def q2d:List Str:=["_law_pile_here","_law_least_here","_law_counts","_law_some","_law_due","_law_many","_law_alike","_law_ware"]
theorem j9:(q2d).Nodup:=by decide +kernel
theorem qan:FnScope q2d ["_law_pile_here","_law_least_here"] (qd yc):=⟨rfl,rfl,rfl,j9,rfl,by decide +kernel,by decide +kernel⟩
noncomputable def zy:FS:=(sIf (q4u (jb (oIn true) (eV 7) (eV 3)) (jb oEq (eOp q2y (eV 2) (qj yb (qc (eL (q5v q3l (qc (eOp zg (eV 3) (xf (qc (eV 7) qh))) qh))) qh))) (eV 5))) (zw 6 (eOp zg (eV 6) (eC (.int 1)))) v9)
noncomputable def vp:FS:=(z6 (zw 6 (eC (.int 0))) (z6 (ya (iR1 (qc (eOp oIx (eV 0) (eC (.int 0))) qh)) (bN 7) zy) (sIf (q4u (jb oGe (eV 5) (eV 1)) (jb oEq (eV 6) (eC (.int 0)))) (q25 4 (xf (qc (eV 3) (qc (eV 5) qh)))) v9)))
noncomputable def ko:FS:=(z6 (sD1 2 3 (xw (qj (qq 1 [] vn) (qc (eOp oIx (eV 0) (eC (.int 0))) qh))) (qj (qq 2 [] j7) (qc (eV 0) (qc (eV 3) qh)))) (z6 (q32 4 (q23 qh)) (z6 (ya (q59 (eV 2)) (va 2 (zb (bN 3) (zb (bN 5) xv))) vp) (q3r 4 (zk (eL (q23 (qc (eV 2) (qc (qj yb (qc (eV 4) qh)) qh)))))))))
noncomputable def jl:List D->Option D:=za 8 ko
theorem q4j{fa:Addr}{cdv:Value}{A:Around}{outer:List Env}{s:Shared}{H:Hp}{E:XK}{a__law_sets:Addr}{fd__law_sets:FuncData}(c_18:Cal P w K mg base "_law_sets" 4 ["_law_wares"] 1 vn a__law_sets fd__law_sets)(b_18:Binds K fd__law_sets ["_law_wares"] []){a__law_count:Addr}{fd__law_count:FuncData}(c_10:Cal P w K mg base "_law_count" 1 ["_law_pile_here","_law_some"] 2 j7 a__law_count fd__law_count)(b_10:Binds K fd__law_count ["_law_pile_here","_law_some"] [])(n_range:mg "range" = none)(n_tuple:mg "tuple" = none)(n_sorted:mg "sorted" = none)(hr:Room 4 (A.deeper (envOfC "_law_closed" (qd yc) s.heap.objs.size fa cdv))):
  PSs (zr CX0 P w K mg base q2d "_law_closed" (qd yc) fa cdv A outer s H E).nox (qt yc) (tDS K ko):=by
 unfold ko vp zy;refine(qta (by decide) g0o rfl (qb0 (i:=2) j9 rfl (Or.inl rfl) qj2) ?_ (qej j9 rfl (Or.inl rfl)) (qhe ?_ (qq2 (pv 2) (pv 3) (qoy hr.units))) ?_);refine(jr ?_);refine(z0 c_18 b_18 hr (by decide) rfl ?_);walk_at "A";refine(x5 ?_ qe);exact(qa (pv 0));exact qf;refine(z0 c_10 b_10 hr (by decide) rfl ?_);walk_at "A";exact(qa (pv 0));walk_at "A";exact(qa (pv 3));exact qf;refine(qm ?_ ?_);exact(q4x (i:=4) j9 rfl (Or.inl rfl) (q0f qf));refine(qm ?_ ?_);refine(q0g g0o rfl ?_ (q27 rfl (jq (qz j9 rfl (Or.inl rfl) (.inl rfl)) (jq (qz j9 rfl (Or.inl rfl) (.inl rfl)) q18))) (qm ?_ ?_));refine(qck ?_);exact(qa (pv 2));refine(zd (i:=6) ?_ ?_ ?_ qe ?_ ?_);exact j9;exact rfl;exact(Or.inl rfl);exact rfl;walk_at "L";refine(qm ?_ ?_);refine(q0g g0o rfl ?_ (qz j9 rfl (Or.inl rfl) (.inl rfl)) (qp ?_));refine(q08 rfl n_range ?_);walk_at "A";refine(x5 ?_ qe);exact(qa (pv 0));exact qf;refine(xi ?_ (qp ?_) jd);refine(PW.pt (q3g ?_ (q1u ?_)));refine(zx qbl ?_ ?_);exact(qa (pv 7));exact(qa (pv 3));refine(zx (q0h hr.units) ?_ ?_);refine(qj1 hr.units ?_ ?_);exact(qa (pv 2));refine(xg (yk) rfl n_tuple DL.boot_tuple ?_);walk_at "A";refine(xu ?_);refine(qkt (qj4 hr.units) rfl n_sorted DL.boot_sorted ?_);walk_at "A";refine(qo zp ?_ ?_);exact(qa (pv 3));refine(y9 ?_);walk_at "A";exact(qa (pv 7));exact qf;exact qf;exact qf;exact(qa (pv 5));refine(zd (i:=6) ?_ ?_ ?_ ?_ ?_ ?_);exact j9;exact rfl;exact(Or.inl rfl);refine(qo zp ?_ qe);exact(qa (pv 6));exact rfl;walk_at "L";refine(qp ?_);refine(xi ?_ (qp ?_) jd);refine(PW.pt (q3g ?_ (q1u ?_)));refine(zx qfu ?_ ?_);exact(qa (pv 5));exact(qa (pv 1));refine(zx (q0h hr.units) ?_ qe);exact(qa (pv 6));refine(q7s (pv 4) ?_);refine(y9 ?_);walk_at "A";exact(qa (pv 3));walk_at "A";exact(qa (pv 5));exact qf;refine(q26 4 (qp ?_));refine(z8 ?_);refine(xu ?_);refine(q0f ?_);walk_at "A";exact(qa (pv 2));walk_at "A";refine(xg (yk) rfl n_tuple DL.boot_tuple ?_);walk_at "A";exact(qa (pv 4));exact qf;exact qf
theorem qao{fa:Addr}{dV:Value}{fd:FuncData}(F:Fun2 K "_law_closed" "_law_closed" yc dV fa fd){a__law_sets:Addr}{fd__law_sets:FuncData}(c_18:Cal P w K mg base "_law_sets" 4 ["_law_wares"] 1 vn a__law_sets fd__law_sets)(b_18:Binds K fd__law_sets ["_law_wares"] []){a__law_count:Addr}{fd__law_count:FuncData}(c_10:Cal P w K mg base "_law_count" 1 ["_law_pile_here","_law_some"] 2 j7 a__law_count fd__law_count)(b_10:Binds K fd__law_count ["_law_pile_here","_law_some"] [])(n_range:mg "range" = none)(n_tuple:mg "tuple" = none)(n_sorted:mg "sorted" = none): FnOk P w K mg base CX0 5 fa fd ["_law_pile_here","_law_least_here"] (spD K 2 jl):=
 F.okn (k:=4) (n:=8) (ar:=2) (k1:=5) (u:=ko) qan rfl rfl rfl fun cdv A outer s H E hr=>(by first|(with_reducible exact q4j c_18 b_18 c_10 b_10 n_range n_tuple n_sorted hr)|exact q4j c_18 b_18 c_10 b_10 n_range n_tuple n_sorted hr)
abbrev wd:Stmt:=top 14
noncomputable def q49:List Str:=["pairs","least"]
theorem qdz:(q49).Nodup:=by decide +kernel
theorem qe0:FnScope q49 ["pairs","least"] (qd wd):=⟨rfl,rfl,rfl,qdz,rfl,by decide +kernel,by decide +kernel⟩
theorem qap:(["pair","least"]:List Str).Nodup:=by decide +kernel
noncomputable def we:FS:=(zk (qj yb (qc (eL (z9 (xw (eV 0)) [none,some 1] (bN 0) (jb oGe (eOp oIx (eV 0) (eC (.int 1))) (eV 1)) (eV 0))) qh)))
noncomputable def xy:List D->Option D:=za 2 we
theorem q6e{fa:Addr}{cdv:Value}{A:Around}{outer:List Env}{s:Shared}{H:Hp}{E:XK}(n_tuple:mg "tuple" = none)(hr:Room 0 (A.deeper (envOfC "at_least" (qd wd) s.heap.objs.size fa cdv))):
  PSs (zr CX0 P w K mg base q49 "at_least" (qd wd) fa cdv A outer s H E).nox (qt wd) (tDS K we):=by
 unfold we;refine(qp ?_);refine(z8 ?_);refine(xg (yk) rfl n_tuple DL.boot_tuple ?_);walk_at "A";refine(xu ?_);refine(j4 (N':=["pair","least"]) (cap:=[none,some 1]) rfl (zl rfl rfl) (zq rfl) ?_ (fun _ _ _ _ _=>(qz qap rfl (Or.inl rfl) (.inr rfl))) (fun _ _ _ _ _=>(q3h ?_)) (fun _ _ _ _ _=>?_));refine(jr ?_);exact(qa (pv 0));refine(zx qfu ?_ ?_);refine(x5 ?_ qe);exact(qa (pv 0));exact(qa (pv 1));exact(qa (pv 0));exact qf
theorem qe1{fa:Addr}{dV:Value}{fd:FuncData}(F:Fun2 K "at_least" "at_least" wd dV fa fd)(n_tuple:mg "tuple" = none): FnOk P w K mg base CX0 1 fa fd ["pairs","least"] (spD K 2 xy):=
 F.okn (k:=0) (n:=2) (ar:=2) (k1:=1) (u:=we) qe0 rfl rfl rfl fun cdv A outer s H E hr=>(by first|(with_reducible exact q6e n_tuple hr)|exact q6e n_tuple hr)
abbrev q0d:Stmt:=top 1
noncomputable def q5h:List Str:=["some"]
theorem qgv:(q5h).Nodup:=by decide +kernel
theorem qgw:FnScope q5h ["some"] (qd q0d):=⟨rfl,rfl,rfl,qgv,rfl,by decide +kernel,by decide +kernel⟩
theorem qcz:(["ware"]:List Str).Nodup:=by decide +kernel
noncomputable def q1e:FS:=(zk (qj qbi (qc (eL (z9 (xw (eV 0)) [none] (bN 0) zf (eOp oShl (eC (.int 1)) (eV 0)))) qh)))
noncomputable def v5:List D->Option D:=za 1 q1e
theorem q8g{fa:Addr}{cdv:Value}{A:Around}{outer:List Env}{s:Shared}{H:Hp}{E:XK}(n_sum:mg "sum" = none)(hr:Room 0 (A.deeper (envOfC "mark_of" (qd q0d) s.heap.objs.size fa cdv))):
  PSs (zr CX0 P w K mg base q5h "mark_of" (qd q0d) fa cdv A outer s H E).nox (qt q0d) (tDS K q1e):=by
 unfold q1e;refine(qp ?_);refine(z8 ?_);refine(j3 (qi8 rfl) rfl n_sum DL.boot_sum ?_);walk_at "A";refine(xu ?_);refine(j4 (N':=["ware"]) (cap:=[none]) rfl (zl rfl rfl) (zq rfl) ?_ (fun _ _ _ _ _=>(qz qcz rfl (Or.inl rfl) (.inr rfl))) (fun _ _ _ _ _=>yp) (fun _ _ _ _ _=>?_));refine(jr ?_);exact(qa (pv 0));refine(qo qqr qe ?_);exact(qa (pv 0));exact qf
theorem qgx{fa:Addr}{dV:Value}{fd:FuncData}(F:Fun2 K "mark_of" "mark_of" q0d dV fa fd)(n_sum:mg "sum" = none): FnOk P w K mg base CX0 1 fa fd ["some"] (spD K 1 v5):=
 F.okn (k:=0) (n:=1) (ar:=1) (k1:=1) (u:=q1e) qgw rfl rfl rfl fun cdv A outer s H E hr=>(by first|(with_reducible exact q8g n_sum hr)|exact q8g n_sum hr)
abbrev q0w:Stmt:=top 11
noncomputable def q72:List Str:=["pile"]
theorem qj9:(q72).Nodup:=by decide +kernel
theorem qja:FnScope q72 ["pile"] (qd q0w):=⟨rfl,rfl,rfl,qj9,rfl,by decide +kernel,by decide +kernel⟩
theorem q6f:(["many","basket"]:List Str).Nodup:=by decide +kernel
noncomputable def q2e:FS:=(zk (eL (z9 (xw (eOp oIx (eV 0) (eC (.int 1)))) [none,none] (va 2 (zb (bN 0) (zb (bN 1) xv))) zf (xf (qc (eV 0) (qc (qj (qq 1 [] v5) (qc (eV 1) qh)) qh))))))
noncomputable def q2f:List D->Option D:=za 1 q2e
theorem q9z{fa:Addr}{cdv:Value}{A:Around}{outer:List Env}{s:Shared}{H:Hp}{E:XK}{a_mark_of:Addr}{fd_mark_of:FuncData}(c_21:Cal P w K mg base "mark_of" 1 ["some"] 1 v5 a_mark_of fd_mark_of)(b_21:Binds K fd_mark_of ["some"] [])(hr:Room 1 (A.deeper (envOfC "marked" (qd q0w) s.heap.objs.size fa cdv))):
  PSs (zr CX0 P w K mg base q72 "marked" (qd q0w) fa cdv A outer s H E).nox (qt q0w) (tDS K q2e):=by
 unfold q2e;refine(qp ?_);refine(z8 ?_);refine(xu ?_);refine(j4 (N':=["many","basket"]) (cap:=[none,none]) rfl (zl rfl rfl) (q50 (yr rfl (yr rfl q3s))) ?_ (fun _ _ _ _ _=>(q27 rfl (jq (qz q6f rfl (Or.inl rfl) (.inr rfl)) (jq (qz q6f rfl (Or.inl rfl) (.inr rfl)) q18)))) (fun _ _ _ _ _=>yp) (fun _ _ _ _ _=>?_));refine(jr ?_);refine(x5 ?_ qe);exact(qa (pv 0));refine(y9 ?_);walk_at "A";exact(qa (pv 0));walk_at "A";refine(z0 c_21 b_21 hr (by decide) rfl ?_);walk_at "A";exact(qa (pv 1));exact qf;exact qf
theorem qjb{fa:Addr}{dV:Value}{fd:FuncData}(F:Fun2 K "marked" "marked" q0w dV fa fd){a_mark_of:Addr}{fd_mark_of:FuncData}(c_21:Cal P w K mg base "mark_of" 1 ["some"] 1 v5 a_mark_of fd_mark_of)(b_21:Binds K fd_mark_of ["some"] []): FnOk P w K mg base CX0 2 fa fd ["pile"] (spD K 1 q2f):=
 F.okn (k:=1) (n:=1) (ar:=1) (k1:=2) (u:=q2e) qja rfl rfl rfl fun cdv A outer s H E hr=>(by first|(with_reducible exact q9z c_21 b_21 hr)|exact q9z c_21 b_21 hr)
abbrev xk:Stmt:=top 7
noncomputable def q0m:List Str:=["some","wares","first"]
theorem q2g:(q0m).Nodup:=by decide +kernel
theorem q73:FnScope q0m ["some","wares"] (qd xk):=⟨rfl,rfl,rfl,q2g,rfl,by decide +kernel,by decide +kernel⟩
theorem q5i:(["ware","some"]:List Str).Nodup:=by decide +kernel
noncomputable def xl:FS:=(z6 (zw 2 (eIf (bT (eV 0)) (eOp zg (eOp oIx (eV 0) (eUn q8u (eC (.int 1)))) (eC (.int 1))) (eC (.int 0)))) (zk (eL (z9 (iR2 (qc (eV 2) (qc (eV 1) qh))) [none,some 0] (bN 0) zf (eOp zg (eV 1) (xf (qc (eV 0) qh)))))))
noncomputable def xm:List D->Option D:=za 3 xl
theorem q2h{fa:Addr}{cdv:Value}{A:Around}{outer:List Env}{s:Shared}{H:Hp}{E:XK}(n_range:mg "range" = none)(hr:Room 0 (A.deeper (envOfC "one_ware_more" (qd xk) s.heap.objs.size fa cdv))):
  PSs (zr CX0 P w K mg base q0m "one_ware_more" (qd xk) fa cdv A outer s H E).nox (qt xk) (tDS K xl):=by
 unfold xl;refine(qm ?_ ?_);refine(zd (i:=2) ?_ ?_ ?_ ?_ ?_ ?_);exact q2g;exact rfl;exact(Or.inl rfl);refine(qsx ?_ ?_ qe);refine(k8 ?_);exact(qa (pv 0));refine(qo zp ?_ qe);refine(x5 ?_ ?_);exact(qa (pv 0));exact(qr5 qe);exact rfl;walk_at "L";refine(qp ?_);refine(z8 ?_);refine(xu ?_);refine(j4 (N':=["ware","some"]) (cap:=[none,some 0]) rfl (zl rfl rfl) (zq rfl) ?_ (fun _ _ _ _ _=>(qz q5i rfl (Or.inl rfl) (.inr rfl))) (fun _ _ _ _ _=>yp) (fun _ _ _ _ _=>?_));refine(qi6 rfl n_range ?_);walk_at "A";exact(qa (pv 2));walk_at "A";exact(qa (pv 1));exact qf;refine(qo zp ?_ ?_);exact(qa (pv 1));refine(y9 ?_);walk_at "A";exact(qa (pv 0));exact qf
theorem q74{fa:Addr}{dV:Value}{fd:FuncData}(F:Fun2 K "one_ware_more" "one_ware_more" xk dV fa fd)(n_range:mg "range" = none): FnOk P w K mg base CX0 1 fa fd ["some","wares"] (spD K 2 xm):=
 F.okn (k:=0) (n:=3) (ar:=2) (k1:=1) (u:=xl) q73 rfl rfl rfl fun cdv A outer s H E hr=>(by first|(with_reducible exact q2h n_range hr)|exact q2h n_range hr)
abbrev jw:Stmt:=top 9
noncomputable def q03:List Str:=["some"]
theorem q65:(q03).Nodup:=by decide +kernel
theorem q66:FnScope q03 ["some"] (qd jw):=⟨rfl,rfl,rfl,q65,rfl,by decide +kernel,by decide +kernel⟩
theorem q4o:(["place","some"]:List Str).Nodup:=by decide +kernel
noncomputable def ve:FS:=(zk (eL (z9 (iR1 (qc (qj yz (qc (eV 0) qh)) qh)) [none,some 0] (bN 0) zf (eOp zg (eSl (eV 1) oNo (oAt (eV 0))) (eSl (eV 1) (oAt (eOp zg (eV 0) (eC (.int 1)))) oNo)))))
noncomputable def jx:List D->Option D:=za 1 ve
theorem q1k{fa:Addr}{cdv:Value}{A:Around}{outer:List Env}{s:Shared}{H:Hp}{E:XK}(n_range:mg "range" = none)(n_len:mg "len" = none)(hr:Room 0 (A.deeper (envOfC "one_ware_fewer" (qd jw) s.heap.objs.size fa cdv))):
  PSs (zr CX0 P w K mg base q03 "one_ware_fewer" (qd jw) fa cdv A outer s H E).nox (qt jw) (tDS K ve):=by
 unfold ve;refine(qp ?_);refine(z8 ?_);refine(xu ?_);refine(j4 (N':=["place","some"]) (cap:=[none,some 0]) rfl (zl rfl rfl) (zq rfl) ?_ (fun _ _ _ _ _=>(qz q4o rfl (Or.inl rfl) (.inr rfl))) (fun _ _ _ _ _=>yp) (fun _ _ _ _ _=>?_));refine(q08 rfl n_range ?_);walk_at "A";refine(j3 (k9) rfl n_len DL.xh ?_);walk_at "A";exact(qa (pv 0));exact qf;exact qf;refine(qo zp ?_ ?_);refine(q28 ?_ q3t (q0u ?_));exact(qa (pv 1));exact(qa (pv 0));refine(q28 ?_ (q0u ?_) q3t);exact(qa (pv 1));refine(qo zp ?_ qe);exact(qa (pv 0))
theorem q67{fa:Addr}{dV:Value}{fd:FuncData}(F:Fun2 K "one_ware_fewer" "one_ware_fewer" jw dV fa fd)(n_range:mg "range" = none)(n_len:mg "len" = none): FnOk P w K mg base CX0 1 fa fd ["some"] (spD K 1 jx):=
 F.okn (k:=0) (n:=1) (ar:=1) (k1:=1) (u:=ve) q66 rfl rfl rfl fun cdv A outer s H E hr=>(by first|(with_reducible exact q1k n_range n_len hr)|exact q1k n_range n_len hr)
abbrev q1y:Stmt:=top 17
noncomputable def q98:List Str:=["layer","wares","known","found","some","longer"]
theorem q2i:(q98).Nodup:=by decide +kernel
theorem qm5:FnScope q98 ["layer","wares"] (qd q1y):=⟨rfl,rfl,rfl,q2i,rfl,by decide +kernel,by decide +kernel⟩
theorem qgy:(["some"]:List Str).Nodup:=by decide +kernel
theorem qgz:(["shorter","known"]:List Str).Nodup:=by decide +kernel
noncomputable def ym:FS:=(sIf (bT (qj q51 (qc (eL (z9 (xw (qj (qq 1 [] jx) (qc (eV 5) qh))) [none,some 2] (bN 0) zf (eOp q6z (eV 0) (eV 1)))) qh))) (q25 3 (eV 5)) v9)
noncomputable def q0n:FS:=(ya (xw (qj (qq 2 [] xm) (qc (eV 4) (qc (eV 1) qh)))) (bN 5) ym)
noncomputable def q3n:FS:=(z6 (zw 2 (qj qav (qc (eL (z9 (xw (eV 0)) [none] (bN 0) zf (xf (qc (eV 0) (qc (eC (.bl true)) qh))))) qh))) (z6 (q32 3 (q23 qh)) (z6 (ya (xw (eV 0)) (bN 4) q0n) (q3r 3 (zk (eV 3))))))
noncomputable def q3o:List D->Option D:=za 6 q3n
theorem qd0{fa:Addr}{cdv:Value}{A:Around}{outer:List Env}{s:Shared}{H:Hp}{E:XK}{a_one_ware_more:Addr}{fd_one_ware_more:FuncData}(c_24:Cal P w K mg base "one_ware_more" 1 ["some","wares"] 2 xm a_one_ware_more fd_one_ware_more)(b_24:Binds K fd_one_ware_more ["some","wares"] []){a_one_ware_fewer:Addr}{fd_one_ware_fewer:FuncData}(c_23:Cal P w K mg base "one_ware_fewer" 1 ["some"] 1 jx a_one_ware_fewer fd_one_ware_fewer)(b_23:Binds K fd_one_ware_fewer ["some"] [])(n_dict:mg "dict" = none)(n_all:mg "all" = none)(hr:Room 1 (A.deeper (envOfC "grown" (qd q1y) s.heap.objs.size fa cdv))):
  PSs (zr CX0 P w K mg base q98 "grown" (qd q1y) fa cdv A outer s H E).nox (qt q1y) (tDS K q3n):=by
 unfold q3n q0n ym;refine(qm ?_ ?_);refine(zd (i:=2) ?_ ?_ ?_ ?_ ?_ ?_);exact q2i;exact rfl;exact(Or.inr rfl);refine(xg (qox rfl hr.units) rfl n_dict DL.boot_dict ?_);walk_at "A";refine(xu ?_);refine(j4 (N':=["some"]) (cap:=[none]) rfl (zl rfl rfl) (zq rfl) ?_ (fun _ _ _ _ _=>(qz qgy rfl (Or.inl rfl) (.inr rfl))) (fun _ _ _ _ _=>yp) (fun _ _ _ _ _=>?_));refine(jr ?_);exact(qa (pv 0));refine(y9 ?_);walk_at "A";exact(qa (pv 0));walk_at "A";exact q2v;exact qf;exact qf;exact rfl;walk_at "L";refine(qm ?_ ?_);exact(q4x (i:=3) q2i rfl (Or.inl rfl) (q0f qf));refine(qm ?_ ?_);refine(q0g g0o rfl ?_ (qz q2i rfl (Or.inl rfl) (.inl rfl)) (qp ?_));refine(jr ?_);exact(qa (pv 0));refine(q0g g0o rfl ?_ (qz q2i rfl (Or.inl rfl) (.inl rfl)) (qp ?_));refine(jr ?_);refine(z0 c_24 b_24 hr (by decide) rfl ?_);walk_at "A";exact(qa (pv 4));walk_at "A";exact(qa (pv 1));exact qf;refine(xi ?_ (qp ?_) jd);refine(k8 ?_);refine(j3 (qbj rfl) rfl n_all DL.boot_all ?_);walk_at "A";refine(xu ?_);refine(j4 (N':=["shorter","known"]) (cap:=[none,some 2]) rfl (zl rfl rfl) (zq rfl) ?_ (fun _ _ _ _ _=>(qz qgz rfl (Or.inl rfl) (.inr rfl))) (fun _ _ _ _ _=>yp) (fun _ _ _ _ _=>?_));refine(jr ?_);refine(z0 c_23 b_23 hr (by decide) rfl ?_);walk_at "A";exact(qa (pv 5));exact qf;refine(q7r (qrn hr.units) ?_ ?_);exact(qa (pv 0));exact(qa (pv 1));exact qf;refine(q7s (pv 3) ?_);exact(qa (pv 5));refine(q26 3 (qp ?_));refine(z8 ?_);exact(qa (pv 3))
theorem qm6{fa:Addr}{dV:Value}{fd:FuncData}(F:Fun2 K "grown" "grown" q1y dV fa fd){a_one_ware_more:Addr}{fd_one_ware_more:FuncData}(c_24:Cal P w K mg base "one_ware_more" 1 ["some","wares"] 2 xm a_one_ware_more fd_one_ware_more)(b_24:Binds K fd_one_ware_more ["some","wares"] []){a_one_ware_fewer:Addr}{fd_one_ware_fewer:FuncData}(c_23:Cal P w K mg base "one_ware_fewer" 1 ["some"] 1 jx a_one_ware_fewer fd_one_ware_fewer)(b_23:Binds K fd_one_ware_fewer ["some"] [])(n_dict:mg "dict" = none)(n_all:mg "all" = none): FnOk P w K mg base CX0 2 fa fd ["layer","wares"] (spD K 2 q3o):=
 F.okn (k:=1) (n:=6) (ar:=2) (k1:=2) (u:=q3n) qm5 rfl rfl rfl fun cdv A outer s H E hr=>(by first|(with_reducible exact qd0 c_24 b_24 c_23 b_23 n_dict n_all hr)|exact qd0 c_24 b_24 c_23 b_23 n_dict n_all hr)
abbrev v7:Stmt:=top 12
noncomputable def q0x:List Str:=["marked_runs","some","mark"]
theorem q2z:(q0x).Nodup:=by decide +kernel
theorem q8h:FnScope q0x ["marked_runs","some"] (qd v7):=⟨rfl,rfl,rfl,q2z,rfl,by decide +kernel,by decide +kernel⟩
theorem q1l:(["many","basket","mark"]:List Str).Nodup:=by decide +kernel
noncomputable def ye:FS:=(z6 (zw 2 (qj (qq 1 [] v5) (qc (eV 1) qh))) (zk (qj qbi (qc (eL (z9 (xw (eV 0)) [none,none,some 2] (va 2 (zb (bN 0) (zb (bN 1) xv))) (jb oEq (eOp oBand (eV 1) (eV 2)) (eV 2)) (eV 0))) qh))))
noncomputable def v8:List D->Option D:=za 3 ye
theorem q30{fa:Addr}{cdv:Value}{A:Around}{outer:List Env}{s:Shared}{H:Hp}{E:XK}{a_mark_of:Addr}{fd_mark_of:FuncData}(c_21:Cal P w K mg base "mark_of" 1 ["some"] 1 v5 a_mark_of fd_mark_of)(b_21:Binds K fd_mark_of ["some"] [])(n_sum:mg "sum" = none)(hr:Room 1 (A.deeper (envOfC "count_marked" (qd v7) s.heap.objs.size fa cdv))):
  PSs (zr CX0 P w K mg base q0x "count_marked" (qd v7) fa cdv A outer s H E).nox (qt v7) (tDS K ye):=by
 unfold ye;refine(qm ?_ ?_);refine(zd (i:=2) ?_ ?_ ?_ ?_ ?_ ?_);exact q2z;exact rfl;exact(Or.inr rfl);refine(z0 c_21 b_21 hr (by decide) rfl ?_);walk_at "A";exact(qa (pv 1));exact qf;exact rfl;walk_at "L";refine(qp ?_);refine(z8 ?_);refine(j3 (qi8 rfl) rfl n_sum DL.boot_sum ?_);walk_at "A";refine(xu ?_);refine(j4 (N':=["many","basket","mark"]) (cap:=[none,none,some 2]) rfl (zl rfl rfl) (q50 (yr rfl (yr rfl q3s))) ?_ (fun _ _ _ _ _=>(q27 rfl (jq (qz q1l rfl (Or.inl rfl) (.inr rfl)) (jq (qz q1l rfl (Or.inl rfl) (.inr rfl)) q18)))) (fun _ _ _ _ _=>(q3h ?_)) (fun _ _ _ _ _=>?_));refine(jr ?_);exact(qa (pv 0));refine(zx (q0h hr.units) ?_ ?_);refine(qo qo2 ?_ ?_);exact(qa (pv 1));exact(qa (pv 2));exact(qa (pv 2));exact(qa (pv 0));exact qf
theorem q8i{fa:Addr}{dV:Value}{fd:FuncData}(F:Fun2 K "count_marked" "count_marked" v7 dV fa fd){a_mark_of:Addr}{fd_mark_of:FuncData}(c_21:Cal P w K mg base "mark_of" 1 ["some"] 1 v5 a_mark_of fd_mark_of)(b_21:Binds K fd_mark_of ["some"] [])(n_sum:mg "sum" = none): FnOk P w K mg base CX0 2 fa fd ["marked_runs","some"] (spD K 2 v8):=
 F.okn (k:=1) (n:=3) (ar:=2) (k1:=2) (u:=ye) q8h rfl rfl rfl fun cdv A outer s H E hr=>(by first|(with_reducible exact q30 c_21 b_21 n_sum hr)|exact q30 c_21 b_21 n_sum hr)
abbrev zm:Stmt:=qs3 18 1
noncomputable def wt:List Str:=["self","pile","least","runs","told","layer","pairs"]
theorem jf:(wt).Nodup:=by decide +kernel
theorem q5j:FnScope wt ["self","pile","least"] (qd zm):=⟨rfl,rfl,rfl,jf,rfl,by decide +kernel,by decide +kernel⟩
theorem q4a:(["some","runs"]:List Str).Nodup:=by decide +kernel
theorem q4b:(["pair"]:List Str).Nodup:=by decide +kernel
noncomputable def jm:FS:=(z6 (q32 6 (z9 (xw (eV 5)) [none,some 3] (bN 0) zf (xf (qc (eV 0) (qc (qj (qq 2 [] v8) (qc (eV 1) (qc (eV 0) qh))) qh))))) (q3r 6 (z6 (qlg 4 (eV 6)) (zw 5 (qj (qq 2 [] q3o) (qc (eL (z9 (xw (qj (qq 2 [] xy) (qc (eV 6) (qc (eV 2) qh)))) [none] (bN 0) zf (eOp oIx (eV 0) (eC (.int 0))))) (qc (eOp oIx (eV 1) (eC (.int 0))) qh)))))))
noncomputable def zv:FS:=(z6 (zw 3 (qj (qq 1 [] q2f) (qc (eV 1) qh))) (z6 (q32 4 (q23 qh)) (z6 (zw 5 (eL (q23 (qc (xf qh) qh)))) (z6 (yj (bT (eV 5)) jm 100000) (q3r 6 (q3r 4 (zk (qj yb (qc (eV 4) qh)))))))))
noncomputable def xr:List D->Option D:=za 7 zv
theorem q1f{fa:Addr}{cdv:Value}{A:Around}{outer:List Env}{s:Shared}{H:Hp}{E:XK}{a_marked:Addr}{fd_marked:FuncData}(c_22:Cal P w K mg base "marked" 2 ["pile"] 1 q2f a_marked fd_marked)(b_22:Binds K fd_marked ["pile"] []){a_grown:Addr}{fd_grown:FuncData}(c_7:Cal P w K mg base "grown" 2 ["layer","wares"] 2 q3o a_grown fd_grown)(b_7:Binds K fd_grown ["layer","wares"] []){a_count_marked:Addr}{fd_count_marked:FuncData}(c_6:Cal P w K mg base "count_marked" 2 ["marked_runs","some"] 2 v8 a_count_marked fd_count_marked)(b_6:Binds K fd_count_marked ["marked_runs","some"] []){a_at_least:Addr}{fd_at_least:FuncData}(c_3:Cal P w K mg base "at_least" 1 ["pairs","least"] 2 xy a_at_least fd_at_least)(b_3:Binds K fd_at_least ["pairs","least"] [])(n_tuple:mg "tuple" = none)(hr:Room 2 (A.deeper (envOfC "Growing.counted" (qd zm) s.heap.objs.size fa cdv))):
  PSs (zr CX0 P w K mg base wt "Growing.counted" (qd zm) fa cdv A outer s H E).nox (qt zm) (tDS K zv):=by
 unfold zv jm;refine(qm ?_ ?_);refine(zd (i:=3) ?_ ?_ ?_ ?_ ?_ ?_);exact jf;exact rfl;exact(Or.inr rfl);refine(z0 c_22 b_22 hr (by decide) rfl ?_);walk_at "A";exact(qa (pv 1));exact qf;exact rfl;walk_at "L";refine(qm ?_ ?_);exact(q4x (i:=4) jf rfl (Or.inl rfl) (q0f qf));refine(qm ?_ ?_);refine(zd (i:=5) ?_ ?_ ?_ ?_ ?_ ?_);exact jf;exact rfl;exact(Or.inl rfl);refine(xu ?_);refine(q0f ?_);walk_at "A";exact(y9 qf);exact qf;exact rfl;walk_at "L";refine(qm ?_ ?_);refine(qkn 100000 g0o ?_ (qm ?_ ?_));refine(k8 ?_);exact(qa (pv 5));refine(qlu (i:=6) rfl jf rfl rfl (N':=["some","runs"]) (cap:=[none,some 3]) (zl rfl rfl) (zq rfl) ?_ (fun _ _ _ _ _=>(qz q4a rfl (Or.inl rfl) (.inr rfl))) (fun _ _ _ _ _=>yp) (fun _ _ _ _ _=>?_));refine(jr ?_);exact(qa (pv 5));refine(y9 ?_);walk_at "A";exact(qa (pv 0));walk_at "A";refine(z0 c_6 b_6 hr (by decide) rfl ?_);walk_at "A";exact(qa (pv 1));walk_at "A";exact(qa (pv 0));exact qf;exact qf;refine(q26 6 (qm ?_ ?_));refine(qri (pv 4) ?_);exact(qa (pv 6));refine(qp ?_);refine(zd (i:=5) ?_ ?_ ?_ ?_ ?_ ?_);exact jf;exact rfl;exact(Or.inl rfl);refine(z0 c_7 b_7 hr (by decide) rfl ?_);walk_at "A";refine(xu ?_);refine(j4 (N':=["pair"]) (cap:=[none]) rfl (zl rfl rfl) (zq rfl) ?_ (fun _ _ _ _ _=>(qz q4b rfl (Or.inl rfl) (.inr rfl))) (fun _ _ _ _ _=>yp) (fun _ _ _ _ _=>?_));refine(jr ?_);refine(z0 c_3 b_3 hr (by decide) rfl ?_);walk_at "A";exact(qa (pv 6));walk_at "A";exact(qa (pv 2));exact qf;refine(x5 ?_ qe);exact(qa (pv 0));walk_at "A";refine(x5 ?_ qe);exact(qa (pv 1));exact qf;exact rfl;walk_at "L";refine(q26 6 (q26 4 (qp ?_)));refine(z8 ?_);refine(xg (yk) rfl n_tuple DL.boot_tuple ?_);walk_at "A";exact(qa (pv 4));exact qf
theorem q5k{fa:Addr}{dV:Value}{fd:FuncData}(F:Fun2 K "counted" "Growing.counted" zm dV fa fd){a_marked:Addr}{fd_marked:FuncData}(c_22:Cal P w K mg base "marked" 2 ["pile"] 1 q2f a_marked fd_marked)(b_22:Binds K fd_marked ["pile"] []){a_grown:Addr}{fd_grown:FuncData}(c_7:Cal P w K mg base "grown" 2 ["layer","wares"] 2 q3o a_grown fd_grown)(b_7:Binds K fd_grown ["layer","wares"] []){a_count_marked:Addr}{fd_count_marked:FuncData}(c_6:Cal P w K mg base "count_marked" 2 ["marked_runs","some"] 2 v8 a_count_marked fd_count_marked)(b_6:Binds K fd_count_marked ["marked_runs","some"] []){a_at_least:Addr}{fd_at_least:FuncData}(c_3:Cal P w K mg base "at_least" 1 ["pairs","least"] 2 xy a_at_least fd_at_least)(b_3:Binds K fd_at_least ["pairs","least"] [])(n_tuple:mg "tuple" = none): FnOk P w K mg base CX0 3 fa fd ["self","pile","least"] (spD K 3 xr):=
 F.okn (k:=2) (n:=7) (ar:=3) (k1:=3) (u:=zv) q5j rfl rfl rfl fun cdv A outer s H E hr=>(by first|(with_reducible exact q1f c_22 b_22 c_7 b_7 c_6 b_6 c_3 b_3 n_tuple hr)|exact q1f c_22 b_22 c_7 b_7 c_6 b_6 c_3 b_3 n_tuple hr)
abbrev j0:Stmt:=qs3 18 0
noncomputable def q0o:List Str:=["self","pile","least"]
theorem q75:(q0o).Nodup:=by decide +kernel
theorem q76:FnScope q0o ["self","pile","least"] (qd j0):=⟨rfl,rfl,rfl,q75,rfl,by decide +kernel,by decide +kernel⟩
noncomputable def vq:FS:=(zk (qj (qq 2 [] xy) (qc (qc7 "Growing" 3 xr (eV 0) (qc (eV 1) (qc (eV 2) qh))) (qc (eV 2) qh))))
noncomputable def vt:List D->Option D:=za 3 vq
theorem q2j{fa:Addr}{cdv:Value}{A:Around}{outer:List Env}{s:Shared}{H:Hp}{E:XK}{C_Growing:Addr}(O_Growing:ClsOk K "Growing" C_Growing){a_at_least:Addr}{fd_at_least:FuncData}(c_3:Cal P w K mg base "at_least" 1 ["pairs","least"] 2 xy a_at_least fd_at_least)(b_3:Binds K fd_at_least ["pairs","least"] []){a_Growing_counted:Addr}{fd_Growing_counted:FuncData}(c_0:CalM P w K mg base "Growing" "counted" C_Growing 3 ["self","pile","least"] 3 xr a_Growing_counted fd_Growing_counted)(b_0:Binds K fd_Growing_counted ["self","pile","least"] [])(hr:Room 3 (A.deeper (envOfC "Growing.often" (qd j0) s.heap.objs.size fa cdv))):
  PSs (zr CX0 P w K mg base q0o "Growing.often" (qd j0) fa cdv A outer s H E).nox (qt j0) (tDS K vq):=by
 unfold vq;refine(qp ?_);refine(z8 ?_);refine(z0 c_3 b_3 hr (by decide) rfl ?_);walk_at "A";refine(qip O_Growing c_0 b_0 hr (by decide) ?_ ?_);exact(qa (pv 0));walk_at "A";exact(qa (pv 1));walk_at "A";exact(qa (pv 2));exact qf;walk_at "A";exact(qa (pv 2));exact qf
theorem q77{fa:Addr}{dV:Value}{fd:FuncData}(F:Fun2 K "often" "Growing.often" j0 dV fa fd){C_Growing:Addr}(O_Growing:ClsOk K "Growing" C_Growing){a_at_least:Addr}{fd_at_least:FuncData}(c_3:Cal P w K mg base "at_least" 1 ["pairs","least"] 2 xy a_at_least fd_at_least)(b_3:Binds K fd_at_least ["pairs","least"] []){a_Growing_counted:Addr}{fd_Growing_counted:FuncData}(c_0:CalM P w K mg base "Growing" "counted" C_Growing 3 ["self","pile","least"] 3 xr a_Growing_counted fd_Growing_counted)(b_0:Binds K fd_Growing_counted ["self","pile","least"] []): FnOk P w K mg base CX0 4 fa fd ["self","pile","least"] (spD K 3 vt):=
 F.okn (k:=3) (n:=3) (ar:=3) (k1:=4) (u:=vq) q76 rfl rfl rfl fun cdv A outer s H E hr=>(by first|(with_reducible exact q2j O_Growing c_3 b_3 c_0 b_0 hr)|exact q2j O_Growing c_3 b_3 c_0 b_0 hr)
abbrev q0y:Stmt:=top 4
noncomputable def q78:List Str:=["one","other"]
theorem qjc:(q78).Nodup:=by decide +kernel
theorem qjd:FnScope q78 ["one","other"] (qd q0y):=⟨rfl,rfl,rfl,qjc,rfl,by decide +kernel,by decide +kernel⟩
noncomputable def q2k:FS:=(zk (qj yb (qc (eL (qg8 (eV 0) (eV 1))) qh)))
noncomputable def q0z:List D->Option D:=za 2 q2k
theorem qa0{fa:Addr}{cdv:Value}{A:Around}{outer:List Env}{s:Shared}{H:Hp}{E:XK}(n_tuple:mg "tuple" = none)(n_sorted:mg "sorted" = none)(n_set:mg "set" = none)(hr:Room 0 (A.deeper (envOfC "joined" (qd q0y) s.heap.objs.size fa cdv))):
  PSs (zr CX0 P w K mg base q78 "joined" (qd q0y) fa cdv A outer s H E).nox (qt q0y) (tDS K q2k):=by
 unfold q2k;refine(qp ?_);refine(z8 ?_);refine(xg (yk) rfl n_tuple DL.boot_tuple ?_);walk_at "A";refine(xu ?_);refine(qow rfl rfl n_sorted rfl n_set ?_ ?_);exact(qa (pv 0));exact(qa (pv 1));exact qf
theorem qje{fa:Addr}{dV:Value}{fd:FuncData}(F:Fun2 K "joined" "joined" q0y dV fa fd)(n_tuple:mg "tuple" = none)(n_sorted:mg "sorted" = none)(n_set:mg "set" = none): FnOk P w K mg base CX0 1 fa fd ["one","other"] (spD K 2 q0z):=
 F.okn (k:=0) (n:=2) (ar:=2) (k1:=1) (u:=q2k) qjd rfl rfl rfl fun cdv A outer s H E hr=>(by first|(with_reducible exact qa0 n_tuple n_sorted n_set hr)|exact qa0 n_tuple n_sorted n_set hr)
abbrev xn:Stmt:=top 8
noncomputable def q0p:List Str:=["some","wares"]
theorem q79:(q0p).Nodup:=by decide +kernel
theorem q7a:FnScope q0p ["some","wares"] (qd xn):=⟨rfl,rfl,rfl,q79,rfl,by decide +kernel,by decide +kernel⟩
theorem q5l:(["ware","some"]:List Str).Nodup:=by decide +kernel
noncomputable def vw:FS:=(zk (eL (z9 (iR1 (qc (eV 1) qh)) [none,some 0] (bN 0) (jb (oIn true) (eV 0) (eV 1)) (qj (qq 2 [] q0z) (qc (eV 1) (qc (xf (qc (eV 0) qh)) qh))))))
noncomputable def vx:List D->Option D:=za 2 vw
theorem q2l{fa:Addr}{cdv:Value}{A:Around}{outer:List Env}{s:Shared}{H:Hp}{E:XK}{a_joined:Addr}{fd_joined:FuncData}(c_8:Cal P w K mg base "joined" 1 ["one","other"] 2 q0z a_joined fd_joined)(b_8:Binds K fd_joined ["one","other"] [])(n_range:mg "range" = none)(hr:Room 1 (A.deeper (envOfC "any_ware_more" (qd xn) s.heap.objs.size fa cdv))):
  PSs (zr CX0 P w K mg base q0p "any_ware_more" (qd xn) fa cdv A outer s H E).nox (qt xn) (tDS K vw):=by
 unfold vw;refine(qp ?_);refine(z8 ?_);refine(xu ?_);refine(j4 (N':=["ware","some"]) (cap:=[none,some 0]) rfl (zl rfl rfl) (zq rfl) ?_ (fun _ _ _ _ _=>(qz q5l rfl (Or.inl rfl) (.inr rfl))) (fun _ _ _ _ _=>(q3h ?_)) (fun _ _ _ _ _=>?_));refine(q08 rfl n_range ?_);walk_at "A";exact(qa (pv 1));exact qf;refine(zx qbl ?_ ?_);exact(qa (pv 0));exact(qa (pv 1));refine(z0 c_8 b_8 hr (by decide) rfl ?_);walk_at "A";exact(qa (pv 1));walk_at "A";refine(y9 ?_);walk_at "A";exact(qa (pv 0));exact qf;exact qf
theorem q7b{fa:Addr}{dV:Value}{fd:FuncData}(F:Fun2 K "any_ware_more" "any_ware_more" xn dV fa fd){a_joined:Addr}{fd_joined:FuncData}(c_8:Cal P w K mg base "joined" 1 ["one","other"] 2 q0z a_joined fd_joined)(b_8:Binds K fd_joined ["one","other"] [])(n_range:mg "range" = none): FnOk P w K mg base CX0 2 fa fd ["some","wares"] (spD K 2 vx):=
 F.okn (k:=1) (n:=2) (ar:=2) (k1:=2) (u:=vw) q7a rfl rfl rfl fun cdv A outer s H E hr=>(by first|(with_reducible exact q2l c_8 b_8 n_range hr)|exact q2l c_8 b_8 n_range hr)
abbrev xo:Stmt:=top 20
noncomputable def q0q:List Str:=["some","counts","wares"]
theorem q7c:(q0q).Nodup:=by decide +kernel
theorem q7d:FnScope q0q ["some","counts","wares"] (qd xo):=⟨rfl,rfl,rfl,q7c,rfl,by decide +kernel,by decide +kernel⟩
theorem q5m:(["longer","counts","some"]:List Str).Nodup:=by decide +kernel
noncomputable def vy:FS:=(zk (qj q51 (qc (eL (z9 (xw (qj (qq 2 [] vx) (qc (eV 0) (qc (eV 2) qh)))) [none,some 1,some 0] (bN 0) zf (eOp q4t (q95 (eV 1) (qc (eV 0) qh)) (eOp q2y (eV 1) (eV 2))))) qh)))
noncomputable def xp:List D->Option D:=za 3 vy
theorem q2m{fa:Addr}{cdv:Value}{A:Around}{outer:List Env}{s:Shared}{H:Hp}{E:XK}{a_any_ware_more:Addr}{fd_any_ware_more:FuncData}(c_2:Cal P w K mg base "any_ware_more" 2 ["some","wares"] 2 vx a_any_ware_more fd_any_ware_more)(b_2:Binds K fd_any_ware_more ["some","wares"] [])(n_all:mg "all" = none)(hr:Room 2 (A.deeper (envOfC "loses_by_each" (qd xo) s.heap.objs.size fa cdv))):
  PSs (zr CX0 P w K mg base q0q "loses_by_each" (qd xo) fa cdv A outer s H E).nox (qt xo) (tDS K vy):=by
 unfold vy;refine(qp ?_);refine(z8 ?_);refine(j3 (qbj rfl) rfl n_all DL.boot_all ?_);walk_at "A";refine(xu ?_);refine(j4 (N':=["longer","counts","some"]) (cap:=[none,some 1,some 0]) rfl (zl rfl rfl) (zq rfl) ?_ (fun _ _ _ _ _=>(qz q5m rfl (Or.inl rfl) (.inr rfl))) (fun _ _ _ _ _=>yp) (fun _ _ _ _ _=>?_));refine(jr ?_);refine(z0 c_2 b_2 hr (by decide) rfl ?_);walk_at "A";exact(qa (pv 0));walk_at "A";exact(qa (pv 2));exact qf;refine(q7r qi0 ?_ ?_);refine(qru hr.units ?_ ?_);exact(qa (pv 1));walk_at "A";exact(qa (pv 0));exact qf;refine(qj1 hr.units ?_ ?_);exact(qa (pv 1));exact(qa (pv 2));exact qf
theorem q7e{fa:Addr}{dV:Value}{fd:FuncData}(F:Fun2 K "loses_by_each" "loses_by_each" xo dV fa fd){a_any_ware_more:Addr}{fd_any_ware_more:FuncData}(c_2:Cal P w K mg base "any_ware_more" 2 ["some","wares"] 2 vx a_any_ware_more fd_any_ware_more)(b_2:Binds K fd_any_ware_more ["some","wares"] [])(n_all:mg "all" = none): FnOk P w K mg base CX0 3 fa fd ["some","counts","wares"] (spD K 3 xp):=
 F.okn (k:=2) (n:=3) (ar:=3) (k1:=3) (u:=vy) q7d rfl rfl rfl fun cdv A outer s H E hr=>(by first|(with_reducible exact q2m c_2 b_2 n_all hr)|exact q2m c_2 b_2 n_all hr)
abbrev q10:Stmt:=top 21
noncomputable def q7f:List Str:=["pile","least","pairs","counts"]
theorem q5n:(q7f).Nodup:=by decide +kernel
theorem qjf:FnScope q7f ["pile","least"] (qd q10):=⟨rfl,rfl,rfl,q5n,rfl,by decide +kernel,by decide +kernel⟩
theorem qe2:(["pair","counts","pile"]:List Str).Nodup:=by decide +kernel
noncomputable def q2n:FS:=(z6 (zw 2 (qc7 "Growing" 3 vt (eC (.obj "Growing")) (qc (eV 0) (qc (eV 1) qh)))) (z6 (zw 3 (qj q8b (qc (eV 2) qh))) (zk (qj yb (qc (eL (z9 (xw (eV 2)) [none,some 3,some 0] (bN 0) (bT (qj (qq 3 [] xp) (qc (eOp oIx (eV 0) (eC (.int 0))) (qc (eV 1) (qc (eOp oIx (eV 2) (eC (.int 0))) qh))))) (eV 0))) qh)))))
noncomputable def yn:List D->Option D:=za 4 q2n
theorem qa1{fa:Addr}{cdv:Value}{A:Around}{outer:List Env}{s:Shared}{H:Hp}{E:XK}{C_Growing:Addr}(O_Growing:ClsOk K "Growing" C_Growing)(m_Growing:mg "Growing" = some (.ref C_Growing)){a_Growing_often:Addr}{fd_Growing_often:FuncData}(c_1:CalM P w K mg base "Growing" "often" C_Growing 4 ["self","pile","least"] 3 vt a_Growing_often fd_Growing_often)(b_1:Binds K fd_Growing_often ["self","pile","least"] []){a_loses_by_each:Addr}{fd_loses_by_each:FuncData}(c_20:Cal P w K mg base "loses_by_each" 3 ["some","counts","wares"] 3 xp a_loses_by_each fd_loses_by_each)(b_20:Binds K fd_loses_by_each ["some","counts","wares"] [])(n_dict:mg "dict" = none)(n_tuple:mg "tuple" = none)(hr:Room 4 (A.deeper (envOfC "closed" (qd q10) s.heap.objs.size fa cdv))):
  PSs (zr CX0 P w K mg base q7f "closed" (qd q10) fa cdv A outer s H E).nox (qt q10) (tDS K q2n):=by
 unfold q2n;refine(qm ?_ ?_);refine(zd (i:=2) ?_ ?_ ?_ ?_ ?_ ?_);exact q5n;exact rfl;exact(Or.inl rfl);refine(qip O_Growing c_1 b_1 hr (by decide) ?_ ?_);exact(qrg O_Growing m_Growing rfl);walk_at "A";exact(qa (pv 0));walk_at "A";exact(qa (pv 1));exact qf;exact rfl;walk_at "L";refine(qm ?_ ?_);refine(zd (i:=3) ?_ ?_ ?_ ?_ ?_ ?_);exact q5n;exact rfl;exact(Or.inr rfl);refine(xg (qlv rfl hr.units) rfl n_dict DL.boot_dict ?_);walk_at "A";exact(qa (pv 2));exact qf;exact rfl;walk_at "L";refine(qp ?_);refine(z8 ?_);refine(xg (yk) rfl n_tuple DL.boot_tuple ?_);walk_at "A";refine(xu ?_);refine(j4 (N':=["pair","counts","pile"]) (cap:=[none,some 3,some 0]) rfl (zl rfl rfl) (zq rfl) ?_ (fun _ _ _ _ _=>(qz qe2 rfl (Or.inl rfl) (.inr rfl))) (fun _ _ _ _ _=>(q3h ?_)) (fun _ _ _ _ _=>?_));refine(jr ?_);exact(qa (pv 2));refine(k8 ?_);refine(z0 c_20 b_20 hr (by decide) rfl ?_);walk_at "A";refine(x5 ?_ qe);exact(qa (pv 0));walk_at "A";exact(qa (pv 1));walk_at "A";refine(x5 ?_ qe);exact(qa (pv 2));exact qf;exact(qa (pv 0));exact qf
theorem qjg{fa:Addr}{dV:Value}{fd:FuncData}(F:Fun2 K "closed" "closed" q10 dV fa fd){C_Growing:Addr}(O_Growing:ClsOk K "Growing" C_Growing)(m_Growing:mg "Growing" = some (.ref C_Growing)){a_Growing_often:Addr}{fd_Growing_often:FuncData}(c_1:CalM P w K mg base "Growing" "often" C_Growing 4 ["self","pile","least"] 3 vt a_Growing_often fd_Growing_often)(b_1:Binds K fd_Growing_often ["self","pile","least"] []){a_loses_by_each:Addr}{fd_loses_by_each:FuncData}(c_20:Cal P w K mg base "loses_by_each" 3 ["some","counts","wares"] 3 xp a_loses_by_each fd_loses_by_each)(b_20:Binds K fd_loses_by_each ["some","counts","wares"] [])(n_dict:mg "dict" = none)(n_tuple:mg "tuple" = none): FnOk P w K mg base CX0 5 fa fd ["pile","least"] (spD K 2 yn):=
 F.okn (k:=4) (n:=4) (ar:=2) (k1:=5) (u:=q2n) qjf rfl rfl rfl fun cdv A outer s H E hr=>(by first|(with_reducible exact qa1 O_Growing m_Growing c_1 b_1 c_20 b_20 n_dict n_tuple hr)|exact qa1 O_Growing m_Growing c_1 b_1 c_20 b_20 n_dict n_tuple hr)
abbrev wg:Stmt:=top 32
noncomputable def q4c:List Str:=["_law_found","_law_due","_law_one","_law_other"]
theorem q39:(q4c).Nodup:=by decide +kernel
theorem qe3:FnScope q4c ["_law_found","_law_due"] (qd wg):=⟨rfl,rfl,rfl,q39,rfl,by decide +kernel,by decide +kernel⟩
noncomputable def yq(rc:List D->Option D): FS:=(sIf (q6s (bT (qj (qq 2 [] rc) (qc (eV 2) (qc (eV 3) qh))))) (zk (eC (.bl false))) v9)
noncomputable def vz(rc:List D->Option D): FS:=(z6 (sIf (bT (q8s .tuple (eV 1))) (z6 (sIf (bOr (q6s (bT (q8s .tuple (eV 0)))) (jb q4t (qj yz (qc (eV 0) qh)) (qj yz (qc (eV 1) qh)))) (zk (eC (.bl false))) v9) (z6 (ya (qky (qc (eV 0) (qc (eV 1) qh))) (va 2 (zb (bN 2) (zb (bN 3) xv))) (yq rc)) (zk (eC (.bl true))))) v9) (zk (qfv (q8s .int (eV 0)) (qfv (qkl (q8s .bool (eV 0))) (eOp oEq (eV 0) (eV 1))))))
noncomputable def F_law_same(n:Nat): List D->Option D:=Nat.rec (fun _=>none) (fun _ rc=>za 4 (vz rc)) n
noncomputable def xc:List D->Option D:=F_law_same 16
theorem qe4{fa:Addr}{cdv:Value}{A:Around}{outer:List Env}{s:Shared}{H:Hp}{E:XK}{rc:List D->Option D}{kr kk:Nat}(hkr:kr<=kk)(hk0:0<=kk){a__law_same:Addr}{fd__law_same:FuncData}(c_16:Cal P w K mg base "_law_same" kr ["_law_found","_law_due"] 2 rc a__law_same fd__law_same)(b_16:Binds K fd__law_same ["_law_found","_law_due"] [])(n_isinstance:mg "isinstance" = none)(n_tuple:mg "tuple" = none)(n_zip:mg "zip" = none)(n_int:mg "int" = none)(n_bool:mg "bool" = none)(n_len:mg "len" = none)(hr:Room kk (A.deeper (envOfC "_law_same" (qd wg) s.heap.objs.size fa cdv))):
  PSs (zr CX0 P w K mg base q4c "_law_same" (qd wg) fa cdv A outer s H E).nox (qt wg) (tDS K (vz rc)):=by
 unfold vz yq;refine(qm ?_ ?_);refine(xi ?_ (qm ?_ ?_) jd);refine(k8 ?_);refine(q7v .tuple rfl n_isinstance rfl n_tuple DL.boot_tuple ?_);exact(qa (pv 1));refine(xi ?_ (qp ?_) jd);refine(PW.pt (qsw ?_ (qqu ?_)));refine(q4v ?_);refine(k8 ?_);refine(q7v .tuple rfl n_isinstance rfl n_tuple DL.boot_tuple ?_);exact(qa (pv 0));refine(zx qi0 ?_ ?_);refine(j3 (k9) rfl n_len DL.xh ?_);walk_at "A";exact(qa (pv 0));exact qf;refine(j3 (k9) rfl n_len DL.xh ?_);walk_at "A";exact(qa (pv 1));exact qf;exact(z8 q2v);refine(qm ?_ ?_);refine(q0g g0o rfl ?_ (q27 rfl (jq (qz q39 rfl (Or.inl rfl) (.inl rfl)) (jq (qz q39 rfl (Or.inl rfl) (.inl rfl)) q18))) (qp ?_));refine(qr4 rfl n_zip ?_);walk_at "A";exact(qa (pv 0));walk_at "A";exact(qa (pv 1));exact qf;refine(xi ?_ (qp ?_) jd);refine(q4v ?_);refine(k8 ?_);refine(z0 c_16 b_16 hr hkr rfl ?_);walk_at "A";exact(qa (pv 2));walk_at "A";exact(qa (pv 3));exact qf;exact(z8 q2v);refine(qp ?_);exact(z8 q2v);refine(qp ?_);refine(z8 ?_);refine(qi2 ?_ (qi2 ?_ (qqv ?_)));refine(q7v .int rfl n_isinstance rfl n_int DL.boot_int ?_);exact(qa (pv 0));refine(qqw ?_);refine(q7v .bool rfl n_isinstance rfl n_bool DL.boot_bool ?_);exact(qa (pv 0));refine(q7r (q0h hr.units) ?_ ?_);exact(qa (pv 0));exact(qa (pv 1))
theorem qe5{fa:Addr}{dV:Value}{fd:FuncData}(F:Fun2 K "_law_same" "_law_same" wg dV fa fd)(mgf:mg "_law_same" = some (.ref fa))(kpf:PySem.W.keepIn K (.ref fa)=true)(b_16:Binds K fd ["_law_found","_law_due"] [])(n_isinstance:mg "isinstance" = none)(n_tuple:mg "tuple" = none)(n_zip:mg "zip" = none)(n_int:mg "int" = none)(n_bool:mg "bool" = none)(n_len:mg "len" = none)(n:Nat): FnOk P w K mg base CX0 (1+n) fa fd ["_law_found","_law_due"] (spD K 2 (F_law_same n)):=by
 induction n with
 | zero=>exact qiq
 | succ n ih=>exact F.okn (k:=1+n) (n:=4) (ar:=2) (k1:=1+(n+1)) (u:=vz (F_law_same n)) qe3 rfl rfl rfl fun cdv A outer s H E hr=>(by exact qe4 (kr:=1+n) (kk:=1+n) (gw _) (by omega) (Cal.mk ih mgf kpf) b_16 n_isinstance n_tuple n_zip n_int n_bool n_len hr)
abbrev yf:Stmt:=top 3
noncomputable def q2o:List Str:=["one","other"]
theorem qaq:(q2o).Nodup:=by decide +kernel
theorem qar:FnScope q2o ["one","other"] (qd yf):=⟨rfl,rfl,rfl,qaq,rfl,by decide +kernel,by decide +kernel⟩
theorem q8j:(["ware","other"]:List Str).Nodup:=by decide +kernel
noncomputable def ku:FS:=(zk (qj q51 (qc (eL (z9 (xw (eV 0)) [none,some 1] (bN 0) zf (eOp (oIn false) (eV 0) (eV 1)))) qh)))
noncomputable def yg:List D->Option D:=za 2 ku
theorem q4k{fa:Addr}{cdv:Value}{A:Around}{outer:List Env}{s:Shared}{H:Hp}{E:XK}(n_all:mg "all" = none)(hr:Room 0 (A.deeper (envOfC "lies_below" (qd yf) s.heap.objs.size fa cdv))):
  PSs (zr CX0 P w K mg base q2o "lies_below" (qd yf) fa cdv A outer s H E).nox (qt yf) (tDS K ku):=by
 unfold ku;refine(qp ?_);refine(z8 ?_);refine(j3 (qbj rfl) rfl n_all DL.boot_all ?_);walk_at "A";refine(xu ?_);refine(j4 (N':=["ware","other"]) (cap:=[none,some 1]) rfl (zl rfl rfl) (zq rfl) ?_ (fun _ _ _ _ _=>(qz q8j rfl (Or.inl rfl) (.inr rfl))) (fun _ _ _ _ _=>yp) (fun _ _ _ _ _=>?_));refine(jr ?_);exact(qa (pv 0));refine(q7r qn1 ?_ ?_);exact(qa (pv 0));exact(qa (pv 1));exact qf
theorem qas{fa:Addr}{dV:Value}{fd:FuncData}(F:Fun2 K "lies_below" "lies_below" yf dV fa fd)(n_all:mg "all" = none): FnOk P w K mg base CX0 1 fa fd ["one","other"] (spD K 2 yg):=
 F.okn (k:=0) (n:=2) (ar:=2) (k1:=1) (u:=ku) qar rfl rfl rfl fun cdv A outer s H E hr=>(by first|(with_reducible exact q4k n_all hr)|exact q4k n_all hr)
abbrev wj:Stmt:=top 22
noncomputable def q4d:List Str:=["pairs","some"]
theorem qe6:(q4d).Nodup:=by decide +kernel
theorem qe7:FnScope q4d ["pairs","some"] (qd wj):=⟨rfl,rfl,rfl,qe6,rfl,by decide +kernel,by decide +kernel⟩
theorem q4l:(["other","number","some"]:List Str).Nodup:=by decide +kernel
noncomputable def q0r:FS:=(zk (qgn List.max? (qc (eL (z9 (xw (eV 0)) [none,none,some 1] (va 2 (zb (bN 0) (zb (bN 1) xv))) (bT (qj (qq 2 [] yg) (qc (eV 2) (qc (eV 0) qh)))) (eV 1))) qh) (eC .non)))
noncomputable def q0s:List D->Option D:=za 2 q0r
theorem q6g{fa:Addr}{cdv:Value}{A:Around}{outer:List Env}{s:Shared}{H:Hp}{E:XK}{a_lies_below:Addr}{fd_lies_below:FuncData}(c_19:Cal P w K mg base "lies_below" 1 ["one","other"] 2 yg a_lies_below fd_lies_below)(b_19:Binds K fd_lies_below ["one","other"] [])(n_max:mg "max" = none)(hr:Room 1 (A.deeper (envOfC "count_by" (qd wj) s.heap.objs.size fa cdv))):
  PSs (zr CX0 P w K mg base q4d "count_by" (qd wj) fa cdv A outer s H E).nox (qt wj) (tDS K q0r):=by
 unfold q0r;refine(qp ?_);refine(z8 ?_);refine(qp0 rfl rfl n_max ?_ qhy);walk_at "A";refine(xu ?_);refine(j4 (N':=["other","number","some"]) (cap:=[none,none,some 1]) rfl (zl rfl rfl) (q50 (yr rfl (yr rfl q3s))) ?_ (fun _ _ _ _ _=>(q27 rfl (jq (qz q4l rfl (Or.inl rfl) (.inr rfl)) (jq (qz q4l rfl (Or.inl rfl) (.inr rfl)) q18)))) (fun _ _ _ _ _=>(q3h ?_)) (fun _ _ _ _ _=>?_));refine(jr ?_);exact(qa (pv 0));refine(k8 ?_);refine(z0 c_19 b_19 hr (by decide) rfl ?_);walk_at "A";exact(qa (pv 2));walk_at "A";exact(qa (pv 0));exact qf;exact(qa (pv 1));exact qf
theorem qe8{fa:Addr}{dV:Value}{fd:FuncData}(F:Fun2 K "count_by" "count_by" wj dV fa fd){a_lies_below:Addr}{fd_lies_below:FuncData}(c_19:Cal P w K mg base "lies_below" 1 ["one","other"] 2 yg a_lies_below fd_lies_below)(b_19:Binds K fd_lies_below ["one","other"] [])(n_max:mg "max" = none): FnOk P w K mg base CX0 2 fa fd ["pairs","some"] (spD K 2 q0s):=
 F.okn (k:=1) (n:=2) (ar:=2) (k1:=2) (u:=q0r) qe7 rfl rfl rfl fun cdv A outer s H E hr=>(by first|(with_reducible exact q6g c_19 b_19 n_max hr)|exact q6g c_19 b_19 n_max hr)
abbrev q63:Stmt:=top 34
noncomputable def qh0:List Str:=["_law_script","_law_pile_here","_law_least_here","_law_counts","_law_due","_law_pairs","_law_some","_law_many","_law_found","_law_other"]
theorem kx:(qh0).Nodup:=by decide +kernel
theorem qs4:FnScope qh0 ["_law_script"] (qd q63):=⟨rfl,rfl,rfl,kx,rfl,by decide +kernel,by decide +kernel⟩
noncomputable def q04:FS:=(z6 (zw 8 (qj (qq 2 [] q0s) (qc (eV 5) (qc (eV 6) qh)))) (z6 (sIf (q4u (jb oLt' (eV 7) (eV 2)) (jb (oIs true) (eV 8) (eC .non))) (zk (eC (.bl false))) v9) (sIf (q4u (jb oGe (eV 7) (eV 2)) (q6s (bT (qj (qq 2 [] xc) (qc (eV 8) (qc (eV 7) qh)))))) (zk (eC (.bl false))) v9)))
noncomputable def q4e:FS:=(z6 (zw 1 (qj (qq 2 [] vm) (qc (eV 0) (qc (eC (.int 6)) qh)))) (z6 (sIf (q4u (jb oGt (qj yz (qc (eV 0) qh)) (eC (.int 0))) (jb oEq (eOp oMod (eOp oDiv (eOp oIx (eV 0) (eC (.int 0))) (eC (.int 7))) (eC (.int 16))) (eC (.int 9)))) (zw 1 (qj (qq 2 [] vm) (qc (eSl (eV 0) oNo (oAt (eC (.int 20)))) (qc (eC (.int 8)) qh)))) v9) (z6 (zw 2 (qj (qq 2 [] xa) (qc (eV 0) (qc (eV 1) qh)))) (z6 (q5u (qj (qq 2 [] jl) (qc (eV 1) (qc (eV 2) qh))) (q96 2 (zb (bN 3) (zb (bN 4) xv)))) (z6 (zw 5 (qj (qq 2 [] yn) (qc (eV 1) (qc (eV 2) qh)))) (z6 (sIf (q6s (bT (qj (qq 2 [] xc) (qc (eV 5) (qc (eV 4) qh))))) (zk (eC (.bl false))) v9) (z6 (ya (q59 (eV 3)) (va 2 (zb (bN 6) (zb (bN 7) xv))) q04) (z6 (zw 9 (xf (qc (eOp oIx (eV 1) (eC (.int 0))) (qc (eSl (eOp oIx (eV 1) (eC (.int 1))) (oAt (eC (.int 1))) oNo) qh)))) (z6 (sIf (q6s (bT (qj (qq 2 [] xc) (qc (qj (qq 2 [] yn) (qc (eV 1) (qc (eOp zg (eV 2) (eC (.int 1))) qh))) (qc (eOp oIx (qj (qq 2 [] jl) (qc (eV 1) (qc (eOp zg (eV 2) (eC (.int 1))) qh))) (eC (.int 1))) qh))))) (zk (eC (.bl false))) v9) (zk (qj (qq 2 [] xc) (qc (qj (qq 2 [] yn) (qc (eV 9) (qc (eV 2) qh))) (qc (eOp oIx (qj (qq 2 [] jl) (qc (eV 9) (qc (eV 2) qh))) (eC (.int 1))) qh)))))))))))))
noncomputable def qh1:List D->Option D:=za 10 q4e
theorem qjh{fa:Addr}{cdv:Value}{A:Around}{outer:List Env}{s:Shared}{H:Hp}{E:XK}{a__law_pile:Addr}{fd__law_pile:FuncData}(c_13:Cal P w K mg base "_law_pile" 3 ["_law_script","_law_most_wares"] 2 vm a__law_pile fd__law_pile)(b_13:Binds K fd__law_pile ["_law_script","_law_most_wares"] []){a__law_least:Addr}{fd__law_least:FuncData}(c_11:Cal P w K mg base "_law_least" 2 ["_law_script","_law_pile_here"] 2 xa a__law_least fd__law_least)(b_11:Binds K fd__law_least ["_law_script","_law_pile_here"] []){a__law_closed:Addr}{fd__law_closed:FuncData}(c_9:Cal P w K mg base "_law_closed" 5 ["_law_pile_here","_law_least_here"] 2 jl a__law_closed fd__law_closed)(b_9:Binds K fd__law_closed ["_law_pile_here","_law_least_here"] []){a_closed:Addr}{fd_closed:FuncData}(c_4:Cal P w K mg base "closed" 5 ["pile","least"] 2 yn a_closed fd_closed)(b_4:Binds K fd_closed ["pile","least"] []){a__law_same:Addr}{fd__law_same:FuncData}(c_16:Cal P w K mg base "_law_same" 17 ["_law_found","_law_due"] 2 xc a__law_same fd__law_same)(b_16:Binds K fd__law_same ["_law_found","_law_due"] []){a_count_by:Addr}{fd_count_by:FuncData}(c_5:Cal P w K mg base "count_by" 2 ["pairs","some"] 2 q0s a_count_by fd_count_by)(b_5:Binds K fd_count_by ["pairs","some"] [])(n_len:mg "len" = none)(hr:Room 17 (A.deeper (envOfC "law" (qd q63) s.heap.objs.size fa cdv))):
  PSs (zr CX0 P w K mg base qh0 "law" (qd q63) fa cdv A outer s H E).nox (qt q63) (tDS K q4e):=by
 unfold q4e q04;refine(qm ?_ ?_);refine(zd (i:=1) ?_ ?_ ?_ ?_ ?_ ?_);exact kx;exact rfl;exact(Or.inl rfl);refine(z0 c_13 b_13 hr (by decide) rfl ?_);walk_at "A";exact(qa (pv 0));walk_at "A";exact qe;exact qf;exact rfl;walk_at "L";refine(qm ?_ ?_);refine(xi ?_ (qp ?_) jd);refine(PW.pt (q3g ?_ (q1u ?_)));refine(zx q7q ?_ qe);refine(j3 (k9) rfl n_len DL.xh ?_);walk_at "A";exact(qa (pv 0));exact qf;refine(zx (q0h hr.units) ?_ qe);refine(qo jc ?_ qe);refine(qo wy ?_ qe);refine(x5 ?_ qe);exact(qa (pv 0));refine(zd (i:=1) ?_ ?_ ?_ ?_ ?_ ?_);exact kx;exact rfl;exact(Or.inl rfl);refine(z0 c_13 b_13 hr (by decide) rfl ?_);walk_at "A";refine(q28 ?_ q3t (q0u qe));exact(qa (pv 0));walk_at "A";exact qe;exact qf;exact rfl;walk_at "L";refine(qm ?_ ?_);refine(zd (i:=2) ?_ ?_ ?_ ?_ ?_ ?_);exact kx;exact rfl;exact(Or.inl rfl);refine(z0 c_11 b_11 hr (by decide) rfl ?_);walk_at "A";exact(qa (pv 0));walk_at "A";exact(qa (pv 1));exact qf;exact rfl;walk_at "L";refine(qm ?_ ?_);refine(qnw ?_ (qrw rfl (jq (qz kx rfl (Or.inl rfl) (.inl rfl)) (jq (qz kx rfl (Or.inl rfl) (.inl rfl)) q18))));refine(z0 c_9 b_9 hr (by decide) rfl ?_);walk_at "A";exact(qa (pv 1));walk_at "A";exact(qa (pv 2));exact qf;refine(qm ?_ ?_);refine(zd (i:=5) ?_ ?_ ?_ ?_ ?_ ?_);exact kx;exact rfl;exact(Or.inl rfl);refine(z0 c_4 b_4 hr (by decide) rfl ?_);walk_at "A";exact(qa (pv 1));walk_at "A";exact(qa (pv 2));exact qf;exact rfl;walk_at "L";refine(qm ?_ ?_);refine(xi ?_ (qp ?_) jd);refine(q4v ?_);refine(k8 ?_);refine(z0 c_16 b_16 hr (by decide) rfl ?_);walk_at "A";exact(qa (pv 5));walk_at "A";exact(qa (pv 4));exact qf;exact(z8 q2v);refine(qm ?_ ?_);refine(q0g g0o rfl ?_ (q27 rfl (jq (qz kx rfl (Or.inl rfl) (.inl rfl)) (jq (qz kx rfl (Or.inl rfl) (.inl rfl)) q18))) (qm ?_ ?_));refine(qck ?_);exact(qa (pv 3));refine(zd (i:=8) ?_ ?_ ?_ ?_ ?_ ?_);exact kx;exact rfl;exact(Or.inl rfl);refine(z0 c_5 b_5 hr (by decide) rfl ?_);walk_at "A";exact(qa (pv 5));walk_at "A";exact(qa (pv 6));exact qf;exact rfl;walk_at "L";refine(qm ?_ ?_);refine(xi ?_ (qp ?_) jd);refine(PW.pt (q3g ?_ (q1u ?_)));refine(zx qr7 ?_ ?_);exact(qa (pv 7));exact(qa (pv 2));refine(zx (ql1 rfl) ?_ qhy);exact(qa (pv 8));exact(z8 q2v);refine(qp ?_);refine(xi ?_ (qp ?_) jd);refine(PW.pt (q3g ?_ (q1u ?_)));refine(zx qfu ?_ ?_);exact(qa (pv 7));exact(qa (pv 2));refine(q4v ?_);refine(k8 ?_);refine(z0 c_16 b_16 hr (by decide) rfl ?_);walk_at "A";exact(qa (pv 8));walk_at "A";exact(qa (pv 7));exact qf;exact(z8 q2v);refine(qm ?_ ?_);refine(zd (i:=9) ?_ ?_ ?_ ?_ ?_ ?_);exact kx;exact rfl;exact(Or.inl rfl);refine(y9 ?_);walk_at "A";refine(x5 ?_ qe);exact(qa (pv 1));walk_at "A";refine(q28 ?_ (q0u qe) q3t);refine(x5 ?_ qe);exact(qa (pv 1));exact qf;exact rfl;walk_at "L";refine(qm ?_ ?_);refine(xi ?_ (qp ?_) jd);refine(q4v ?_);refine(k8 ?_);refine(z0 c_16 b_16 hr (by decide) rfl ?_);walk_at "A";refine(z0 c_4 b_4 hr (by decide) rfl ?_);walk_at "A";exact(qa (pv 1));walk_at "A";refine(qo zp ?_ qe);exact(qa (pv 2));exact qf;walk_at "A";refine(x5 ?_ qe);refine(z0 c_9 b_9 hr (by decide) rfl ?_);walk_at "A";exact(qa (pv 1));walk_at "A";refine(qo zp ?_ qe);exact(qa (pv 2));exact qf;exact qf;exact(z8 q2v);refine(qp ?_);refine(z8 ?_);refine(z0 c_16 b_16 hr (by decide) rfl ?_);walk_at "A";refine(z0 c_4 b_4 hr (by decide) rfl ?_);walk_at "A";exact(qa (pv 9));walk_at "A";exact(qa (pv 2));exact qf;walk_at "A";refine(x5 ?_ qe);refine(z0 c_9 b_9 hr (by decide) rfl ?_);walk_at "A";exact(qa (pv 9));walk_at "A";exact(qa (pv 2));exact qf;exact qf
theorem qs5{fa:Addr}{dV:Value}{fd:FuncData}(F:Fun2 K "law" "law" q63 dV fa fd){a__law_pile:Addr}{fd__law_pile:FuncData}(c_13:Cal P w K mg base "_law_pile" 3 ["_law_script","_law_most_wares"] 2 vm a__law_pile fd__law_pile)(b_13:Binds K fd__law_pile ["_law_script","_law_most_wares"] []){a__law_least:Addr}{fd__law_least:FuncData}(c_11:Cal P w K mg base "_law_least" 2 ["_law_script","_law_pile_here"] 2 xa a__law_least fd__law_least)(b_11:Binds K fd__law_least ["_law_script","_law_pile_here"] []){a__law_closed:Addr}{fd__law_closed:FuncData}(c_9:Cal P w K mg base "_law_closed" 5 ["_law_pile_here","_law_least_here"] 2 jl a__law_closed fd__law_closed)(b_9:Binds K fd__law_closed ["_law_pile_here","_law_least_here"] []){a_closed:Addr}{fd_closed:FuncData}(c_4:Cal P w K mg base "closed" 5 ["pile","least"] 2 yn a_closed fd_closed)(b_4:Binds K fd_closed ["pile","least"] []){a__law_same:Addr}{fd__law_same:FuncData}(c_16:Cal P w K mg base "_law_same" 17 ["_law_found","_law_due"] 2 xc a__law_same fd__law_same)(b_16:Binds K fd__law_same ["_law_found","_law_due"] []){a_count_by:Addr}{fd_count_by:FuncData}(c_5:Cal P w K mg base "count_by" 2 ["pairs","some"] 2 q0s a_count_by fd_count_by)(b_5:Binds K fd_count_by ["pairs","some"] [])(n_len:mg "len" = none): FnOk P w K mg base CX0 18 fa fd ["_law_script"] (spD K 1 qh1):=
 F.okn (k:=17) (n:=10) (ar:=1) (k1:=18) (u:=q4e) qs4 rfl rfl rfl fun cdv A outer s H E hr=>(by first|(with_reducible exact qjh c_13 b_13 c_11 b_11 c_9 b_9 c_4 b_4 c_16 b_16 c_5 b_5 n_len hr)|exact qjh c_13 b_13 c_11 b_11 c_9 b_9 c_4 b_4 c_16 b_16 c_5 b_5 n_len hr)
end
end My
open PySem PyProof.Rows L2 DL
local macro_rules | `(tactic| simp! [$a,*])=> `(tactic| simp (config:={decide:=true,implicitDefEqProofs:=false}) only [za,z6,sIf,zw,zk,qsy,v9,q32,qty,qtz,qsz,ya,q3r,q5u,eOp,eC,eV0,eVs,qj,qc,qh,xf,eL,q23,q5v,eSl,oNo,oAt,qu6,q4u,jb,q6s,bT,bOr,qfv,eOr,qkl,eIf,q8s,qp7,eUn,isB,qbc,q8u,qn9,qtc,qu7,frzs,xw,q6u,qq,qt3,qu2,bN,va,zb,xv,wo,qqy,gj,g0x,p8,g31,mn,Nat.reduceAdd,Nat.reduceSub,Nat.reduceEqDiff,List.replicate,g4a,g0v,g2v,List.set_cons_zero,List.set_cons_succ,List.set_nil,g3r,g3q,ma,Option.bind_none,pb,Option.map_none,g49,Option.join_none,qco,qlx,qj7,qly,wa,qdt,q62,qfe,qrx,qff,qp1,qp2,qp3,y6,qm4,p0,ny,g6g,g63,gh,g0z,g2j,and_true,true_and,and_self,ite_true,ite_false,Int.reduceSub,Int.reduceMod,Int.reduceAdd,Int.reduceDiv,Int.reducePow,Int.reduceMul,Int.reduceNeg,Int.reduceEq,Int.reduceLT,Int.reduceLE,Int.reduceToNat,qu8,qs2,qp4,qp5,qp6,qm0,reduceCtorEq,List.isEmpty_nil,List.isEmpty_cons,List.isEmpty_iff, $a,*])
namespace My
open PySem PyProof.Rows L2 DL
abbrev TI(ns:List Int): D:=.tup (ns.map .int)
def bit(m i:Nat): Bool:=m / 2 ^ i%2==1
def qi(n m:Nat): List Int:=((List.range n).filter fun i=>bit m i).map fun i:Nat=>(i:Int)
def mk(b:List Int): Int:=(b.map fun x=>(2:Int) ^ x.toNat).sum
theorem q99(a b:Nat): Builtin.bitAnd (a:Int) (b:Int)=((a &&& b:Nat):Int):=by
 unfold Builtin.bitAnd;rw [nk (by lia:(0:Int)<=(a:Int)),nk (by lia:(0:Int)<=(b:Int))];simp
theorem qa2(a b:Int): oBand (.int a) (.int b)=some (.int (Builtin.bitAnd a b)):=rfl
theorem q3p(n:Nat): z5 0 n=(List.range n).map fun i:Nat=>.int (i:Int):=by
 unfold z5;simp only [g6y]
theorem wk:∀k:Nat,k<256->qi (Builtin.Int.intBits (k:Int)) k=qi 12 k/\mk (qi 12 k)=(k:Int):=by decide +kernel
theorem q2p:∀a:Nat,a<256->∀b:Nat,b<256->qi 12 a=qi 12 b->a=b:=fun a ha b hb h=>by
 have h1:=(wk a ha).2;have h2:=(wk b hb).2;rw [h,h2] at h1;lia
theorem q05(n m:Nat): (qi n m).length<=n:=by
 unfold qi;rw [mn];exact my (uf _ _) (by simp)
theorem q7g{n m:Nat}{x:Int}(h:x∈qi n m): ∃i:Nat,x=(i:Int)/\i<n:=by
 unfold qi at h;obtain⟨i,hi,rfl⟩:=ng.mp h;exact⟨i,rfl,by simpa using(pz.mp hi).1⟩
theorem qp9(b:List Int)(hb:∀x∈b,0<=x/\x<100)(ρ : Rho): qw (bN 0) zf (eOp oShl (eC (.int 1)) (eV 0)) (none :: ρ) (b.map D.int)=some ((b.map fun x=>(2:Int) ^ x.toNat).map D.int):=by
 have:=q12 (b:=bN 0) (f:=eOp oShl (eC (.int 1)) (eV 0)) (ρ :=none :: ρ) (fun d=>match d with | .int x=>.int (2 ^ x.toNat)|_=>.non) (ds:=b.map D.int) fun d hd=>by
  obtain⟨x,hx,rfl⟩:=ng.mp hd;have:=hb x hx;refine⟨_,rfl,qgp x_c (x_v rfl) ?_⟩;rw [qlz 1 x (by lia) (by lia) (by decide),Int.one_mul]
 rw [this,nv,nv]
 rfl
theorem q8k(b:List Int)(hb:∀x∈b,0<=x/\x<100)(hl:b.length<=1000): v5 [TI b]=some (.int (mk b)):=by
 have hl':b.length<=lim:=by show _<=1000000;lia
 have c:=qp9 b hb [];have a:=q9y (b.map fun x=>(2:Int) ^ x.toNat)
 (refine ze ?_;simp! [q1e,z9,hl',c,a])
 rfl
def q9a(lt:Nat->Nat->Bool)(x:Nat): List Nat->List Nat
 | []=>[x]
 | y :: r=>if lt y x=true then y :: q9a lt x r else x :: y :: r
def q8l(lt:Nat->Nat->Bool): List Nat->List Nat
 | []=>[]
 | x :: r=>q9a lt x (q8l lt r)
theorem qa3(lt:Nat->Nat->Bool)(x:Nat): ∀l,(q9a lt x l).Perm (x :: l)
 | []=>.refl _
 | y :: r=>by
  unfold q9a
  split
  ·exact((qa3 lt x r).cons y).trans (.swap x y r)
  ·exact .refl _
theorem q1r(lt:Nat->Nat->Bool): ∀l,(q8l lt l).Perm l
 | []=>.refl _
 | x :: r=>(qa3 lt x _).trans ((q1r lt r).cons x)
theorem qd1(f:Nat->D×D)(x:Nat): ∀l,q54 (f x) (l.map f)=(q9a (fun a b=>ltT (f a).1 (f b).1) x l).map f
 | []=>rfl
 | y :: r=>by
  rw [gj];unfold q54 q9a
  by_cases h:ltT (f y).1 (f x).1=true
  ·rw [md h,md h,qd1 f x r,gj]
  ·rw [mi h,mi h,gj,gj]
theorem qa4(f:Nat->D×D): ∀l,w8 (l.map f)=(q8l (fun a b=>ltT (f a).1 (f b).1) l).map f
 | []=>rfl
 | x :: r=>by
  rw [gj];unfold w8 q8l;rw [qa4 f r,qd1]
def wu(k:Nat): D:=.tup [.int ((qi 12 k).length:Int),TI (qi 12 k)]
def ltO(a b:Nat): Bool:=ltT (wu a) (wu b)
theorem qd2:∀ns:List Int,kDL (ns.map D.int)=true
 | []=>by simp [kDL]
 | n :: ns=>by simp only [gj,kDL,kD,qd2 ns,g48]
theorem qd3:∀ns ms:List Int,shL (ns.map D.int) (ms.map D.int)=true
 | [],ms=>by simp [shL]
 | n :: ns,[]=>by simp [shL]
 | n :: ns,m :: ms=>by simp only [gj,shL,shD,qd3 ns ms,g48]
theorem qa5:∀ns:List Int,yl (ns.map D.int)=0
 | []=>by simp [yl]
 | n :: ns=>by simp only [gj,yl,kc,qa5 ns];rfl
theorem qd4(k:Nat): kD (wu k)=true:=by simp only [wu,TI,kD,kDL,qd2,g48]
theorem qs6(a b:Nat): shD (wu a) (wu b)=true:=by simp only [wu,TI,shD,shL,qd3,g48]
theorem qpa(k:Nat): kc (wu k)<=50:=by simp only [wu,TI,kc,yl,qa5];decide
theorem qd5:∀ {a b:List Int},a.map D.int=b.map D.int->a=b
 | [],[],_=>rfl
 | [],_ :: _,h=>by cases h
 | _ :: _,[],h=>by cases h
 | x :: a,y :: b,h=>by
  rw [gj,gj] at h;injection h with h1 h2
  injection h1 with h1
  rw [h1,qd5 h2]
theorem qpb{a b:Nat}(ha:a<256)(hb:b<256)(h1:ltO a b=false)(h2:ltO b a=false): a=b:=by
 have:=lt_eq (qd4 a) (qd4 b) h1 h2;unfold wu at this;injection this with this
 injection this with _ this
 injection this with this _
 injection this with this
 exact q2p a ha b hb (qd5 this)
theorem qji(l:List Nat): q11 (l.map wu)=true:=by
 unfold q11;rw [m9,m9,g17,m9];refine⟨⟨?_,?_⟩,.inr ⟨?_,?_⟩⟩
 ·rw [g04,mr];exact fun k _=>qd4 k
 ·rw [g04,mr]
  intro a _;show(List.all _ _)=true;rw [g04,mr];exact fun b _=>qs6 a b
 ·rw [g04,mr];exact fun k _=>rfl
 ·rw [g04,mr];exact fun k _=>nk (qpa k)
theorem qd6:∀l:List Nat,l.Nodup->(∀k∈l,k<256)->q56 (l.map wu)=true
 | [],_,_=>rfl
 | k :: l,hn,hl=>by
  rw [gj];unfold q56;rw [m9];have hn':=g14.mp hn;refine⟨?_,qd6 l hn'.2 fun x hx=>hl x (gr _ hx)⟩;rw [g04,mr];intro b hb;show(ltO k b || ltO b k)=true;cases h1:ltO k b
  ·cases h2:ltO b k
   ·have:=qpb (hl k gq) (hl b (gr _ hb)) h1 h2
    exact absurd (this ▸ hb) hn'.1
   ·rfl
  ·rfl
abbrev qg(k:Nat): D:=TI (qi 12 k)
def marksOf(w:Nat): List Nat:=q8l ltO (List.range (2 ^ w))
theorem k6{w:Nat}(hw:w<=8): 2 ^ w<=256:=my (Nat.pow_le_pow_right (by decide) hw) (by decide)
end My
open PySem PyProof.Rows L2 DL
namespace My
open PySem PyProof.Rows L2 DL
def jn(k:Nat): List Nat:=((List.range 8).filter fun j=>bit k j).map fun j=>k-2 ^ j
theorem qh2:∀k:Nat,k<256->((List.range (qi 12 k).length).map fun p=>(qi 12 k).take p++(qi 12 k).drop (p+1))=(jn k).map (qi 12):=by decide +kernel
theorem qm7(k:Nat)(hk:k<256): jx [qg k]=some (.lst ((jn k).map qg)):=by
 have hb:=q05 12 k;have c:qw (bN 0) zf (eOp zg (eSl (eV 1) oNo (oAt (eV 0))) (eSl (eV 1) (oAt (eOp zg (eV 0) (eC (.int 1)))) oNo)) [none,some (.fz (qg k))] (z5 0 (qi 12 k).length) =
   some ((jn k).map qg):=by
  have:=q12 (b:=bN 0) (f:=eOp zg (eSl (eV 1) oNo (oAt (eV 0))) (eSl (eV 1) (oAt (eOp zg (eV 0) (eC (.int 1)))) oNo)) (ρ :=[none,some (.fz (qg k))]) (fun d=>match d with | .int x=>TI ((qi 12 k).take x.toNat++(qi 12 k).drop (x.toNat+1))|_=>.non) (ds:=z5 0 (qi 12 k).length) fun d hd=>by
   rw [q3p] at hd;obtain⟨i,hi,rfl⟩:=ng.mp hd;have s1:oSl (qg k) none (some (i:Int))=some (TI ((qi 12 k).take i)):=by
    show some (D.tup (DL.cutD ((qi 12 k).map D.int) none (some (i:Int))))=_;rw [q6b (α :=D), <- g6s]
   have s2:oSl (qg k) (some ((i+1:Nat):Int)) none=some (TI ((qi 12 k).drop (i+1))):=by
    show some (D.tup (DL.cutD ((qi 12 k).map D.int) (some ((i+1:Nat):Int)) none))=_;rw [qcp (α :=D), <- g5f]
   have s3:zg (TI ((qi 12 k).take i)) (TI ((qi 12 k).drop (i+1)))=some (TI ((qi 12 k).take i++(qi 12 k).drop (i+1))):=by
    rw [q5a _ _ (by rw [mn,mn,p6,g00];lia), <- uj]
   refine⟨_,rfl,?_⟩;show eOp zg (eSl (eV 1) oNo (oAt (eV 0))) (eSl (eV 1) (oAt (eOp zg (eV 0) (eC (.int 1)))) oNo) [some (.fz (.int (i:Int))),some (.fz (qg k))]=some (TI ((qi 12 k).take (i:Int).toNat++(qi 12 k).drop ((i:Int).toNat+1)));rw [g0i];have e1:(i:Int)+1=((i+1:Nat):Int):=by lia
   simp! [s1,e1,s2,s3]
  rw [this,q3p,nv];have hf:=g0d (List.map TI) (qh2 k hk);rw [nv,nv] at hf;exact g0d some hf
 have hr:iR1 (qc (qj yz (qc (eV 0) qh)) qh) [some (.fz (qg k))]=some (z5 0 (qi 12 k).length):=by
  have ha:qc (qj yz (qc (eV 0) qh)) qh [some (.fz (qg k))]=some [.int ((qi 12 k).length:Int)]:=by
   refine q1b (x_call (q1b (x_v rfl) q44) ?_) q44;rw [qn9,mn]
  rw [q1x _ _ _ ha (by lia) (by lia),g0i]
 have hl:(z5 0 (qi 12 k).length).length<=lim:=by rw [q1p];show _<=1000000;lia
 (refine ze ?_;simp! [ve,z9,hr,hl,c])
theorem q3a{A:List Nat}(hn:A.Nodup)(hA:∀k∈A,k<256): (A.map (qi 12)).Nodup:=by
 rw [List.Nodup,g0b];refine g23 (fun {a b} ha hb hne e=>hne (q2p a (hA a ha) b (hA b hb) e)) hn
theorem qa6:∀A:List Nat,q2c (A.map fun k=>D.tup [qg k,.bl true])=some (A.map (qi 12),A.map fun _=>.bl true)
 | []=>rfl
 | k :: A=>by
  have hi:jh ((qi 12 k).map D.int)=some (qi 12 k):=vg _;rw [gj];show(jh ((qi 12 k).map D.int)).bind (fun q=>(q2c (A.map fun k=>D.tup [qg k,.bl true])).map fun p=>(q :: p.1,D.bl true :: p.2))=_;rw [hi,qa6 A]
  rfl
abbrev xt(A:List Nat): D:=.dtt (A.map (qi 12)) (A.map fun _=>.bl true)
theorem qh3(A:List Nat)(hn:A.Nodup)(hA:∀k∈A,k<256)(hl:A.length<=1000): qav [.lst (A.map fun k=>D.tup [qg k,.bl true])]=some (xt A):=by
 show(q2c (A.map fun k=>D.tup [qg k,.bl true])).bind (fun p=>if p.1.Nodup/\(A.map fun k=>D.tup [qg k,.bl true]).length<=lim then some (D.dtt p.1 p.2) else none)=_;rw [qa6];show(if(A.map (qi 12)).Nodup/\_ then _ else _)=_;rw [md ⟨q3a hn hA,by rw [mn];show _<=1000000;lia⟩]
theorem qjj(A:List Nat)(hA:∀k∈A,k<256)(m:Nat)(hm:m<256)(vs:List D): q6z (qg m) (.dtt (A.map (qi 12)) vs)=some (.bl (decide (m∈A))):=by
 have hi:jh ((qi 12 m).map D.int)=some (qi 12 m):=vg _;show(jh ((qi 12 m).map D.int)).map (fun k=>D.bl (decide (k∈A.map (qi 12))))=_;rw [hi,pb]
 congr 2
 rw [g02,ud,ud]
 constructor
 ·intro h
  obtain⟨a,ha,e⟩:=ng.mp h;exact q2p a (hA a ha) m hm e ▸ ha
 ·exact fun h=>g1g h
theorem qm8(A:List Nat)(hA:∀k∈A,k<256)(m:Nat)(hm:m<256): q6z (qg m) (xt A)=some (.bl (decide (m∈A))):=qjj A hA m hm _
theorem qm9:∀k:Nat,k<256->∀m∈jn k,m<256:=by decide +kernel
def w6:Nat->Int->Int->List Int
 | 0,_,_=>[]
 | n+1,m,k=>if m%2=1 then k :: w6 n (m / 2) (k+1) else w6 n (m / 2) (k+1)
theorem q2q:∀(n:Nat) (m k:Int) (acc:List D) (b:Option B),acc.length+n<=100->∃b' m',
  runFor (bN 2) vd (z5 k n) [some (.fz (.int m)),some (.ow acc),b]=some (.nx,[some (.fz (.int m')),some (.ow (acc++(w6 n m k).map .int)),b'])
 | 0,m,k,acc,b,_=>⟨b,m,by simp [z5,runFor,w6]⟩
 | n+1,m,k,acc,b,h=>by
  have ha:acc.length<lim:=by show _<1000000;lia
  rw [q13]
  by_cases hm:m%2=1
  ·obtain⟨b',m',ih⟩:=q2q n (m / 2) (k+1) (acc++[.int k]) (some (.fz (.int k))) (by simp;lia)
   refine⟨b',m',?_⟩;rw [je (b:=bN 2) rfl (show vd [some (.fz (.int m)),some (.ow acc),some (.fz (.int k))]=some (.nx,[some (.fz (.int (m / 2))),some (.ow (acc++[.int k])),some (.fz (.int k))]) by simp! [vd,hm,q25,q45,q46,ha]),ih,w6,md hm];simp
  ·obtain⟨b',m',ih⟩:=q2q n (m / 2) (k+1) acc (some (.fz (.int k))) (by lia)
   refine⟨b',m',?_⟩;rw [je (b:=bN 2) rfl (show vd [some (.fz (.int m)),some (.ow acc),some (.fz (.int k))]=some (.nx,[some (.fz (.int (m / 2))),some (.ow acc),some (.fz (.int k))]) by simp! [vd,hm]),ih,w6,mi hm]
theorem qh4(m:Int): zu [.int m]=some (TI (w6 12 m 0)):=by
 obtain⟨b',m',h⟩:=q2q 12 m 0 [] none (by simp);rw [g0v] at h;have r:iR1 (qc (eC (.int 12)) qh) [some (.fz (.int m)),some (.ow []),none]=some (z5 0 12):=q1x _ _ 12 rfl (by decide) (by decide)
 (refine ze ?_;simp! [q1c,ya,r,h])
theorem q9b(x:Int): ∀b:List Int,inF (.int x) (b.map D.int)=decide (x∈b)
 | []=>rfl
 | y :: b=>by
  show((eqF (.int y) (.int x)) || inF (.int x) (b.map D.int))=_;rw [q9b x b];show((y==x) || _)=_;rw [g02];simp only [g17,g4k,ud,mm]
  constructor <;> rintro(h|h)
  ·exact .inl h.symm
  ·exact .inr h
  ·exact .inl h.symm
  ·exact .inr h
theorem qa7(b:List Int): (b.map D.int).all flat=true:=by
 rw [g04,mr];intro x _;rfl
theorem qd7(x:Int)(b:List Int): oIn false (.int x) (TI b)=some (.bl (decide (x∈b))):=by
 show(if(flat (.int x)&&(b.map D.int).all flat)=true then some (D.bl (if false=true then !inF (.int x) (b.map D.int) else inF (.int x) (b.map D.int))) else none)=_;rw [qa7,q9b];rfl
def uni(s t:List Int): List Int:=((List.range 12).map fun i:Nat=>(i:Int)).filter fun x=>decide (x∈s\/x∈t)
theorem q5o:∀(s:List Int),(∀x∈s,0<=x/\x<12)->q34 (s.map D.int)=some (s.map Int.toNat)
 | [],_=>rfl
 | x :: s,h=>by
  have hx:=h x gq;show(if 0<=x/\x<12 then(q34 (s.map D.int)).map (x.toNat :: ·) else none)=_;rw [md hx,q5o s fun y hy=>h y (gr _ hy)]
  rfl
theorem qa8{s:List Int}(h:∀x∈s,0<=x/\x<12)(n:Nat): n∈s.map Int.toNat↔(n:Int)∈s:=by
 constructor
 ·intro hn
  obtain⟨x,hx,e⟩:=ng.mp hn;have:=h x hx;have:x=(n:Int):=by lia
  exact this ▸ hx
 ·intro hn
  exact ng.mpr ⟨_,hn,by simp⟩
theorem qh5(s t:List Int)(hs:∀x∈s,0<=x/\x<12)(ht:∀x∈t,0<=x/\x<12): qg7 (TI s) (TI t)=some ((uni s t).map D.int):=by
 show(q34 (s.map D.int)).bind (fun a=>(q34 (t.map D.int)).bind fun b=>some (((List.range 12).filter fun n=>decide (n∈a\/n∈b)).map fun n=>D.int (n:Nat)))=_;rw [q5o s hs,q5o t ht];show some _=_
 congr 1
 unfold uni;rw [List.filter_map,nv]
 congr 1
 refine g3z fun n _=>?_;show decide (n∈s.map Int.toNat\/n∈t.map Int.toNat)=decide ((n:Int)∈s\/(n:Int)∈t);rw [g02,g13,g13,qa8 hs,qa8 ht]
theorem qjk(s t:List Int)(hs:∀x∈s,0<=x/\x<12)(ht:∀x∈t,0<=x/\x<12): q0z [TI s,TI t]=some (TI (uni s t)):=by
 have h:=qh5 s t hs ht
 (refine ze ?_;simp! [q2k,qg8,h,y6])
theorem qfh(x:Int)(b:List Int): oIn true (.int x) (TI b)=some (.bl (!decide (x∈b))):=by
 show(if(flat (.int x)&&(b.map D.int).all flat)=true then some (D.bl (if true=true then !inF (.int x) (b.map D.int) else inF (.int x) (b.map D.int))) else none)=_;rw [qa7,q9b];rfl
theorem qna{c:FT}{ρ : Rho}(q:Int->Bool): ∀(l:List Int),(∀x∈l,c (some (.fz (.int x)) :: ρ)=some (q x))->qw (bN 0) c (eV 0) (none :: ρ) (l.map D.int)=some ((l.filter q).map D.int)
 | [],_=>rfl
 | x :: l,h=>by
  have ih:=qna q l fun y hy=>h y (gr _ hy);have h1:=h x gq;have b1:bN 0 (D.int x) (none :: ρ)=some (some (.fz (.int x)) :: ρ):=rfl;have v1:eV 0 (some (.fz (.int x)) :: ρ)=some (.int x):=rfl;simp only [gj,qw,b1,h1,ma,ph];cases q x with
  | true=>simp only [p0,v1,ma,ih,pb,gj]
  | false=>simp only [gh,ny,ih]
theorem qu9(d:D)(r:Rho): frz 0 (some (.fz d) :: r)=some (.fz d) :: r:=rfl
theorem qs7:∀k:Nat,k<256->w6 12 (k:Int) 0=qi 12 k:=by decide +kernel
theorem q4m(k:Nat)(hk:k<256): zu [.int (k:Int)]=some (qg k):=by rw [qh4,qs7 k hk]
theorem q2r(w:Nat)(hw:w<=8): zt [.int (w:Int)]=some (.int ((2 ^ w:Nat):Int)):=by
 have:w=0\/w=1\/w=2\/w=3\/w=4\/w=5\/w=6\/w=7\/w=8:=by lia
 rcases this with rfl|rfl|rfl|rfl|rfl|rfl|rfl|rfl|rfl <;> rfl
theorem qma(l:List Nat): k5 jv (l.map qg)=some (l.map wu):=by
 induction l with
 | nil=>rfl
 | cons k l ih=>
  have e:jv [qg k]=some (wu k):=by
   (refine ze ?_;simp! [jv])
   rfl
  rw [gj];simp only [k5,e,ih,ma,pb,gj]
theorem qe9(w:Nat)(hw:w<=8): vn [.int (w:Int)]=some (.lst ((marksOf w).map qg)):=by
 have h2:=k6 hw;have hp:=q2r w hw;have hr:iR1 (qc (qj (qq 1 [] zt) (qc (eV 0) qh)) qh) [some (.fz (.int (w:Int)))]=some (z5 0 (2 ^ w)):=by
  have ha:qc (qj (qq 1 [] zt) (qc (eV 0) qh)) qh [some (.fz (.int (w:Int)))]=some [.int ((2 ^ w:Nat):Int)]:=q1b (qj8 (q1b (x_v rfl) q44) rfl hp) q44;have h3:(0:Int)<=((2 ^ w:Nat):Int):=Int.natCast_nonneg _;have h4:((2 ^ w:Nat):Int)<=256:=by exact_mod_cast h2
  rw [q1x _ _ _ ha (Int.le_trans (by decide) h3) (Int.lt_of_le_of_lt h4 (by decide)),g0i]
 have hl:(z5 0 (2 ^ w)).length<=lim:=by rw [q1p];show _<=1000000;lia
 have c:qw (bN 0) zf (qj (qq 1 [] zu) (qc (eV 0) qh)) [none] (z5 0 (2 ^ w))=some ((List.range (2 ^ w)).map qg):=by
  have:=q12 (b:=bN 0) (f:=qj (qq 1 [] zu) (qc (eV 0) qh)) (ρ :=[none]) (fun d=>match d with | .int x=>qg x.toNat|_=>.non) (ds:=z5 0 (2 ^ w)) fun d hd=>by
   rw [q3p] at hd;obtain⟨i,hi,rfl⟩:=ng.mp hd;refine⟨_,rfl,qj8 (q1b (x_v rfl) q44) rfl ?_⟩;show zu [.int (i:Int)]=some (qg (i:Int).toNat);rw [g0i];exact q4m i (by have:=uc.mp hi;lia)
  rw [this,q3p,nv];exact g0d some (g2u fun i _=>by show qg (i:Int).toNat=qg i;rw [g0i])
 have srt:q61 jv [.lst ((List.range (2 ^ w)).map qg)]=some ((marksOf w).map qg):=by
  show q2b jv (.lst ((List.range (2 ^ w)).map qg))=_;unfold q2b;dsimp only;rw [qma,ma,qji,qd6 _ g2q (fun k hk=>by have:=uc.mp hk;lia)];have ez:((List.range (2 ^ w)).map wu).zip ((List.range (2 ^ w)).map qg)=(List.range (2 ^ w)).map fun k=>(wu k,qg k):=by
   rw [g6r]
  rw [ez,qa4];simp only [g6t,p0,nv];exact rfl
 (refine ze ?_;simp! [q0l,z9,hr,hl,c,srt])
theorem q0e(w k:Nat): k∈marksOf w↔k<2 ^ w:=by
 unfold marksOf;rw [(q1r ltO _).mem_iff,uc]
theorem q6h(w:Nat): (marksOf w).Nodup:=(q1r ltO _).nodup_iff.mpr g2q
theorem q4f{w:Nat}(hw:w<=8): ∀k∈marksOf w,k<256:=fun k hk=>gu ((q0e w k).mp hk) (k6 hw)
theorem q1g(w:Nat): (marksOf w).length=2 ^ w:=by unfold marksOf;rw [(q1r ltO _).length_eq,List.length_range]
end My
open PySem PyProof.Rows L2 DL
namespace My
open PySem PyProof.Rows L2 DL
theorem q4g{α : Type}{b:FB}{e:FE}{ρ : Rho}(f g : α -> D): ∀(as:List α),(∀a∈as,∃ ρ1,b (f a) ρ = some ρ1/\e ρ1=some (g a))->qw b zf e ρ (as.map f)=some (as.map g)
 | [],_=>rfl
 | a :: as,h=>by
  obtain⟨ρ1,e1,e2⟩:=h a gq;have ih:=q4g f g as fun x hx=>h x (gr _ hx);simp only [gj,qw,e1,e2,ma,zf,p0,ih,pb]
theorem q15{α : Type}{b:FB}{c:FT}{e:FE}{ρ : Rho}(f : α -> D)(p : α -> Bool)(g : α -> D): ∀(as:List α),(∀a∈as,∃ ρ1,b (f a) ρ = some ρ1/\c ρ1=some (p a)/\(p a=true->e ρ1=some (g a)))->qw b c e ρ (as.map f)=some ((as.filter p).map g)
 | [],_=>rfl
 | a :: as,h=>by
  obtain⟨ρ1,e1,e2,e3⟩:=h a gq;have ih:=q15 f p g as fun x hx=>h x (gr _ hx);simp only [gj,qw,e1,e2,ma,ph];cases hp:p a with
  | true=>simp only [p0,e3 hp,ma,ih,pb,gj]
  | false=>simp only [gh,ny,ih]
abbrev nD(m:Nat): D:=.int (m:Int)
def blw(k m:Nat): Bool:=decide (k &&& m=k)
theorem qs8(a b:Nat): oEq (.int (a:Int)) (.int (b:Int))=some (.bl (decide (a=b))):=by
 rw [q62]
 congr 2
 exact g4b.mpr (by lia)
def jo(w k:Nat): List Nat:=((List.range w).filter fun i=> !bit k i).map fun i=>k+2 ^ i
theorem qmb:∀k:Nat,k<256->∀i:Nat,i<8->bit k i=false->uni (qi 12 k) [(i:Int)]=qi 12 (k+2 ^ i):=by decide +kernel
theorem q9c:∀k:Nat,k<256->∀i:Nat,i<8->decide ((i:Int)∈qi 12 k)=bit k i:=by decide +kernel
theorem q2s:∀w:Nat,w<9->∀k:Nat,k<2 ^ w->∀m∈jo w k,m<2 ^ w:=by decide +kernel
theorem qea(w k:Nat)(hw:w<=8)(hk:k<256): vx [qg k,.int (w:Int)]=some (.lst ((jo w k).map qg)):=by
 have r:iR1 (qc (eV 1) qh) [some (.fz (qg k)),some (.fz (.int (w:Int)))]=some (z5 0 w):=q1x _ _ (w:Int) rfl (by lia) (by lia);have hl:(z5 0 w).length<=lim:=by rw [q1p];show _<=1000000;lia
 have t1:∀d:D,([d]:List D).length<=lim:=fun _=>by show 1<=1000000;decide
 have c:=q15 (b:=bN 0) (c:=jb (oIn true) (eV 0) (eV 1)) (e:=qj (qq 2 [] q0z) (qc (eV 1) (qc (xf (qc (eV 0) qh)) qh))) (ρ :=[none,some (.fz (qg k))]) nD (fun i=> !bit k i) (fun i=>qg (k+2 ^ i)) (List.range w) fun i hi=>by
  have hi6:i<8:=by have:=uc.mp hi;lia
  have o:=qfh (i:Int) (qi 12 k);rw [q9c k hk i hi6] at o;refine⟨[some (.fz (nD i)),some (.fz (qg k))],rfl,by simp! [o],fun hb=>?_⟩;have hb':bit k i=false:=by simpa using hb
  have j:=qjk (qi 12 k) [(i:Int)] (fun x hx=>by obtain⟨i,rfl,hi⟩:=q7g hx;lia) (fun x hx=>by rw [n9.mp hx];lia);rw [qmb k hk i hi6 hb',show TI [(i:Int)]=.tup [nD i] from rfl] at j;simp! [j,t1]
 rw [<- show z5 0 w=(List.range w).map nD from q3p w] at c;have e:(jo w k).map qg=((List.range w).filter fun i=> !bit k i).map fun i=>qg (k+2 ^ i):=by unfold jo;rw [nv];rfl
 rw [e]
 (refine ze ?_;simp! [vw,z9,r,hl,c])
theorem qjl(w k:Nat): (jo w k).length<=w:=by
 unfold jo;rw [mn];exact my (uf _ _) (by rw [List.length_range];exact gw _)
end My
open PySem PyProof.Rows L2 DL
namespace My
open PySem PyProof.Rows L2 DL
abbrev Run:=Int×List Int
abbrev q06(r:Run): D:=.tup [.int r.1,TI r.2]
abbrev z7(w:Nat)(rs:List Run): D:=.tup [.int (w:Int),.tup (rs.map q06)]
def zo(rs:List Run): Prop:=rs.length<=1000/\∀r∈rs,(∀x∈r.2,0<=x/\x<100)/\r.2.length<=1000/\0<=r.1/\∃t,t<256/\r.2=qi 12 t
abbrev mrD(r:Run): D:=.tup [.int r.1,.int (mk r.2)]
theorem qjm(w:Nat)(rs:List Run)(h:zo rs): q2f [z7 w rs]=some (.lst (rs.map mrD)):=by
 have hl':rs.length<=lim:=by have:=h.1;show _<=1000000;lia
 have c:qw (va 2 (zb (bN 0) (zb (bN 1) xv))) zf (xf (qc (eV 0) (qc (qj (qq 1 [] v5) (qc (eV 1) qh)) qh))) [none,none] (rs.map q06)=some (rs.map mrD):=by
  have hr:=h.2;clear hl' h
  induction rs with
  | nil=>rfl
  | cons r rs ih=>
   have ih':=ih fun x hx=>hr x (gr _ hx);have m:=q8k r.2 (hr r gq).1 (hr r gq).2.1;rw [gj];simp! [qw,ih',m,zf]
 (refine ze ?_;simp! [q2e,z9,hl',c])
def cM(rs:List Run)(k:Nat): Int:=((rs.filter fun r=>decide (Builtin.bitAnd (mk r.2) (k:Int)=(k:Int))).map (·.1)).sum
theorem qpc(rs:List Run)(k:Nat): qw (va 2 (zb (bN 0) (zb (bN 1) xv))) (jb oEq (eOp oBand (eV 1) (eV 2)) (eV 2)) (eV 0) [none,none,some (.fz (.int (k:Int)))] (rs.map mrD)
  = some (((rs.filter fun r=>decide (Builtin.bitAnd (mk r.2) (k:Int)=(k:Int))).map (·.1)).map D.int):=by
 induction rs with
 | nil=>rfl
 | cons r rs ih=>
  rw [gj]
  by_cases hb:Builtin.bitAnd (mk r.2) (k:Int)=(k:Int)
  ·simp! [qw,ih,qa2,hb,ph,g6g,p0]
  ·simp! [qw,ih,qa2,hb,ph,g63,ny,gh]
theorem q8m(rs:List Run)(h:zo rs)(k:Nat)(hk:k<256): v8 [.lst (rs.map mrD),TI (qi 12 k)]=some (.int (cM rs k)):=by
 have hl':rs.length<=lim:=by have:=h.1;show _<=1000000;lia
 have m:v5 [TI (qi 12 k)]=some (.int (k:Int)):=by
  rw [q8k _ (fun x hx=>?_) (my (q05 12 k) (by decide)),(wk k hk).2];obtain⟨i,rfl,hi⟩:=q7g hx;lia
 have c:=qpc rs k;have a:=q9y ((rs.filter fun r=>decide (Builtin.bitAnd (mk r.2) (k:Int)=(k:Int))).map (·.1))
 (refine ze ?_;simp! [ye,z9,hl',m,c,a])
 rfl
abbrev pairD(rs:List Run)(k:Nat): D:=.tup [qg k,.int (cM rs k)]
theorem qeb(rs:List Run)(L:Int)(l:List Nat)(hl:l.length<=1000): xy [.lst (l.map (pairD rs)),.int L]=some (.tup ((l.filter fun k=>decide (L<=cM rs k)).map (pairD rs))):=by
 have hl':l.length<=lim:=by show _<=1000000;lia
 have c:qw (bN 0) (jb oGe (eOp oIx (eV 0) (eC (.int 1))) (eV 1)) (eV 0) [none,some (.fz (.int L))] (l.map (pairD rs))=some ((l.filter fun k=>decide (L<=cM rs k)).map (pairD rs)):=by
  clear hl hl'
  induction l with
  | nil=>rfl
  | cons k l ih=>
   rw [gj]
   by_cases hb:L<=cM rs k
   ·simp! [qw,ih,hb,ph,g6g,p0]
   ·simp! [qw,ih,hb,ph,g63,ny,gh]
 (refine ze ?_;simp! [we,z9,hl',c,y6])
theorem qd8(rs:List Run)(L:Int)(l:List Nat)(hl:l.length<=1000): xy [.tup (l.map (pairD rs)),.int L]=some (.tup ((l.filter fun k=>decide (L<=cM rs k)).map (pairD rs))):=by
 have hl':l.length<=lim:=by show _<=1000000;lia
 have c:qw (bN 0) (jb oGe (eOp oIx (eV 0) (eC (.int 1))) (eV 1)) (eV 0) [none,some (.fz (.int L))] (l.map (pairD rs))=some ((l.filter fun k=>decide (L<=cM rs k)).map (pairD rs)):=by
  clear hl hl'
  induction l with
  | nil=>rfl
  | cons k l ih=>
   rw [gj]
   by_cases hb:L<=cM rs k
   ·simp! [qw,ih,hb,ph,g6g,p0]
   ·simp! [qw,ih,hb,ph,g63,ny,gh]
 (refine ze ?_;simp! [we,z9,hl',c,y6])
def firstOf(b:List Int): Int:=match b.getLast? with
 | some x=>x+1
 | none=>0
theorem qjn:∀i:Nat,i<8->∀m:Nat,m<2 ^ i->qi 12 (m+2 ^ i)=qi 12 m++[(i:Int)]:=by decide +kernel
theorem qpd(b:List Int)(x:Int): oIx (TI (b++[x])) (.int (-1))=some (.int x):=by
 rw [qs2,qm1,uj,gj,g0x,List.getLast?_append];simp
theorem qpe{fa:FA}{ρ : Rho}{i j:Int}(ha:fa ρ = some [.int i,.int j])(h1 : -(2 ^ 62)<=i)(h2:i<2 ^ 62)(h3 : -(2 ^ 62)<=j)(h4:j<2 ^ 62): iR2 fa ρ = some (z5 i (j-i).toNat):=by
 unfold iR2;rw [ha,ma];dsimp only;rw [nk h1,nk h2,nk h3,nk h4]
 rfl
theorem qec(b:List Int)(w s:Nat)(hs:firstOf b=(s:Int))(hb:b.length<=100)(hw:w<=100)(hs2:s<=100): xm [TI b,.int (w:Int)]=some (.lst ((List.range (w-s)).map fun i:Nat=>TI (b++[((s+i:Nat):Int)]))):=by
 have e:eIf (bT (eV 0)) (eOp zg (eOp oIx (eV 0) (eUn q8u (eC (.int 1)))) (eC (.int 1))) (eC (.int 0)) [some (.fz (TI b)),some (.fz (.int (w:Int))),none]=some (.int (s:Int)):=by
  rw [<- hs];cases b with
  | nil=>rfl
  | cons x r=>
   have hx:∃b' y,x :: r=b'++[y]:=⟨(x :: r).dropLast,(x :: r).getLast (by simp),(List.dropLast_concat_getLast (by simp)).symm⟩
   obtain⟨b',y,e⟩:=hx;have ht:bT (eV 0) [some (.fz (TI (x :: r))),some (.fz (.int (w:Int))),none]=some true:=rfl;unfold eIf;rw [ht,ma,md rfl,e];have hf:firstOf (b'++[y])=y+1:=by unfold firstOf;rw [List.getLast?_append];simp
   rw [hf];exact qgp (qgp (x_v rfl) (qu5 x_c rfl) (qpd b' y)) x_c rfl
 have r:iR2 (qc (eV 2) (qc (eV 1) qh)) [some (.fz (TI b)),some (.fz (.int (w:Int))),some (.fz (.int (s:Int)))]=some (z5 (s:Int) (w-s)):=by
  rw [qpe (q1b (x_v rfl) (q1b (x_v rfl) q44)) (by lia) (by lia) (by lia) (by lia),show((w:Int)-(s:Int)).toNat=w-s by lia]
 have hl:(z5 (s:Int) (w-s)).length<=lim:=by rw [q1p];show _<=1000000;lia
 have c:qw (bN 0) zf (eOp zg (eV 1) (xf (qc (eV 0) qh))) [none,some (.fz (TI b))] (z5 (s:Int) (w-s))=some ((List.range (w-s)).map fun i:Nat=>TI (b++[((s+i:Nat):Int)])):=by
  have:=q12 (b:=bN 0) (f:=eOp zg (eV 1) (xf (qc (eV 0) qh))) (ρ :=[none,some (.fz (TI b))]) (fun d=>match d with | .int x=>TI (b++[x])|_=>.non) (ds:=z5 (s:Int) (w-s)) fun d hd=>by
   simp only [z5,ng] at hd;obtain⟨i,_,rfl⟩:=hd;refine⟨_,rfl,qgp (x_v rfl) (qtb (q1b (x_v rfl) q44) (by show 1<=1000000;decide)) ?_⟩;rw [q5a _ _ (by rw [mn];simp;lia)];simp only [TI,uj,gj,g0x]
  rw [this,z5,nv]
  congr 1
 have lc:z9 (iR2 (qc (eV 2) (qc (eV 1) qh))) [none,some 0] (bN 0) zf (eOp zg (eV 1) (xf (qc (eV 0) qh))) [some (.fz (TI b)),some (.fz (.int (w:Int))),some (.fz (.int (s:Int)))]=some ((List.range (w-s)).map fun i:Nat=>TI (b++[((s+i:Nat):Int)])):=by
  unfold z9;rw [r,ma,md hl];exact c
 have k1:zw 2 (eIf (bT (eV 0)) (eOp zg (eOp oIx (eV 0) (eUn q8u (eC (.int 1)))) (eC (.int 1))) (eC (.int 0))) [some (.fz (TI b)),some (.fz (.int (w:Int))),none]=some (.nx,[some (.fz (TI b)),some (.fz (.int (w:Int))),some (.fz (.int (s:Int)))]):=by
  unfold zw;rw [e]
  rfl
 have k2:zk (eL (z9 (iR2 (qc (eV 2) (qc (eV 1) qh))) [none,some 0] (bN 0) zf (eOp zg (eV 1) (xf (qc (eV 0) qh))))) [some (.fz (TI b)),some (.fz (.int (w:Int))),some (.fz (.int (s:Int)))]=some (.rt (.lst ((List.range (w-s)).map fun i:Nat=>TI (b++[((s+i:Nat):Int)]))),[some (.fz (TI b)),some (.fz (.int (w:Int))),some (.fz (.int (s:Int)))]):=by
  unfold zk;rw [x_l lc]
  rfl
 have k3:xl [some (.fz (TI b)),some (.fz (.int (w:Int))),none]=some (.rt (.lst ((List.range (w-s)).map fun i:Nat=>TI (b++[((s+i:Nat):Int)]))),[some (.fz (TI b)),some (.fz (.int (w:Int))),some (.fz (.int (s:Int)))]):=by
  unfold xl z6;simp (config:={implicitDefEqProofs:=false}) only [k1,ma,k2]
 refine ze ?_;have k4:([TI b,.int (w:Int)].map (fun d=>some (B.fz d))++List.replicate (3 - [TI b,D.int (w:Int)].length) none:Rho)=[some (.fz (TI b)),some (.fz (.int (w:Int))),none]:=rfl;rw [k4,k3,pb]
def firstN(k:Nat): Nat:=((List.range 9).find? fun s=>decide (k<2 ^ s)).getD 8
def yo(w k:Nat): List Nat:=(List.range (w-firstN k)).map fun i=>k+2 ^ (firstN k+i)
theorem qmc:∀k:Nat,k<256->firstOf (qi 12 k)=(firstN k:Int)/\k<2 ^ firstN k/\firstN k<=8:=by decide +kernel
theorem qpf(w k:Nat)(hw:w<=8)(hk:k<256): xm [qg k,.int (w:Int)]=some (.lst ((yo w k).map qg)):=by
 obtain⟨h1,h2,h3⟩:=qmc k hk;rw [qec (qi 12 k) w (firstN k) h1 (my (q05 12 k) (by decide)) (by lia) (by lia)];unfold yo;rw [nv]
 congr 2
 refine g2u fun i hi=>?_;have hi':=uc.mp hi;have h4:k<2 ^ (firstN k+i):=gu h2 (Nat.pow_le_pow_right (by decide) (by lia));show TI _=TI (qi 12 (k+2 ^ (firstN k+i)));rw [qjn (firstN k+i) (by lia) k h4]
def chk(A:List Nat)(l:Nat): Bool:=(jn l).all fun m=>decide (m∈A)
theorem qs9(A:List Nat)(hA:∀k∈A,k<256)(l:Nat)(hl:l<256)(x0 x1 x3 x4:Option B): qj q51 (qc (eL (z9 (xw (qj (qq 1 [] jx) (qc (eV 5) qh))) [none,some 2] (bN 0) zf (eOp q6z (eV 0) (eV 1)))) qh)
  [x0,x1,some (.fz (xt A)),x3,x4,some (.fz (qg l))]=some (.bl (chk A l)):=by
 have f:=qm7 l hl;have hlen:((jn l).map qg).length<=lim:=by
  rw [mn];unfold jn;rw [mn];exact my (uf _ _) (by simp;decide)
 have c:qw (bN 0) zf (eOp q6z (eV 0) (eV 1)) [none,some (.fz (xt A))] ((jn l).map qg)=some (((jn l).map fun m=>decide (m∈A)).map D.bl):=by
  have hf:=qm9 l hl;generalize jn l=q at hf;clear f hlen
  induction q with
  | nil=>rfl
  | cons m q ih=>
   have ih':=ih fun x hx=>hf x (gr _ hx);have hi:=qm8 A hA m (hf m gq);rw [gj];simp! [qw,ih',hi,zf]
 have a:q51 [.lst (((jn l).map fun m=>decide (m∈A)).map D.bl)]=some (.bl (chk A l)):=by rw [q43,g04];rfl
 rw [mn] at hlen;simp! [f,z9,hlen,c,a]
theorem qpg:∀w:Nat,w<9->∀k:Nat,k<256->∀l∈yo w k,l<256:=by decide +kernel
theorem qmd:∀w:Nat,w<9->∀k:Nat,k<256->(yo w k).length<=8:=by decide +kernel
theorem q3b(A:List Nat)(hA:∀k∈A,k<256)(x0 x1 x4:Option B): ∀(q acc:List Nat) (b5:Option B),(∀l∈q,l<256)->acc.length+q.length<=1000->∃b5',
  runFor (bN 5) ym (q.map qg) [x0,x1,some (.fz (xt A)),some (.ow (acc.map qg)),x4,b5]=some (.nx,[x0,x1,some (.fz (xt A)),some (.ow ((acc++q.filter (chk A)).map qg)),x4,b5'])
 | [],acc,b5,_,_=>⟨b5,by simp [runFor]⟩
 | l :: q,acc,b5,hq,hl=>by
  simp only [p8] at hl;have hla:acc.length<lim:=by show _<1000000;lia
  have ck:=qs9 A hA l (hq l gq) x0 x1 (some (.ow (acc.map qg))) x4;have hq':∀x∈q,x<256:=fun x hx=>hq x (gr _ hx);have e0:bN 5 (qg l) [x0,x1,some (.fz (xt A)),some (.ow (acc.map qg)),x4,b5]=some [x0,x1,some (.fz (xt A)),some (.ow (acc.map qg)),x4,some (.fz (qg l))]:=by
   unfold bN
   rfl
  cases hc:chk A l with
  | true=>
   rw [hc] at ck;obtain⟨b5',ih⟩:=q3b A hA x0 x1 x4 q (acc++[l]) (some (.fz (qg l))) hq' (by simp;lia);have body:ym [x0,x1,some (.fz (xt A)),some (.ow (acc.map qg)),x4,some (.fz (qg l))]=some (.nx,[x0,x1,some (.fz (xt A)),some (.ow ((acc++[l]).map qg)),x4,some (.fz (qg l))]):=by
    unfold ym;refine qry (qm2 ck rfl) rfl ?_;simp! [q25,q45,q46,hla,uj]
   refine⟨b5',?_⟩;rw [gj,je (b:=bN 5) e0 body,ih,ph,md hc];simp
  | false=>
   rw [hc] at ck;obtain⟨b5',ih⟩:=q3b A hA x0 x1 x4 q acc (some (.fz (qg l))) hq' (by lia);have body:ym [x0,x1,some (.fz (xt A)),some (.ow (acc.map qg)),x4,some (.fz (qg l))]=some (.nx,[x0,x1,some (.fz (xt A)),some (.ow (acc.map qg)),x4,some (.fz (qg l))]):=by
    unfold ym;exact qrz (qm2 ck rfl) rfl qs0
   refine⟨b5',?_⟩;rw [gj,je (b:=bN 5) e0 body,ih,ph,mi (by rw [hc];exact mh)]
def qaw(w:Nat)(A:List Nat): List Nat:=A.flatMap fun s=>(yo w s).filter (chk A)
theorem q6i(w:Nat)(hw:w<=8)(A:List Nat)(hA:∀k∈A,k<256)(x0:Option B): ∀(q acc:List Nat) (b4 b5:Option B),(∀l∈q,l<256)->acc.length+q.length*8<=1000->∃b4' b5',
  runFor (bN 4) q0n (q.map qg) [x0,some (.fz (.int (w:Int))),some (.fz (xt A)),some (.ow (acc.map qg)),b4,b5]=some (.nx,[x0,some (.fz (.int (w:Int))),some (.fz (xt A)),some (.ow ((acc++q.flatMap fun s=>(yo w s).filter (chk A)).map qg)),b4',b5'])
 | [],acc,b4,b5,_,_=>⟨b4,b5,by simp [runFor]⟩
 | s :: q,acc,b4,b5,hq,hl=>by
  simp only [p8] at hl;have hs:=hq s gq;have m:=qpf w s hw hs;have hml:=qmd w (by lia) s hs;obtain⟨c5,e⟩:=q3b A hA x0 (some (.fz (.int (w:Int)))) (some (.fz (qg s))) (yo w s) acc b5 (qpg w (by lia) s hs) (by lia);have hfl:((yo w s).filter (chk A)).length<=8:=my (uf _ _) hml;obtain⟨b4',b5',ih⟩:=q6i w hw A hA x0 q (acc++(yo w s).filter (chk A)) (some (.fz (qg s))) c5 (fun x hx=>hq x (gr _ hx)) (by rw [t5];lia);have body:q0n [x0,some (.fz (.int (w:Int))),some (.fz (xt A)),some (.ow (acc.map qg)),some (.fz (qg s)),b5]=some (.nx,[x0,some (.fz (.int (w:Int))),some (.fz (xt A)),some (.ow ((acc++(yo w s).filter (chk A)).map qg)),some (.fz (qg s)),c5]):=by
   simp! [q0n,m,e]
  refine⟨b4',b5',?_⟩;rw [gj,je (b:=bN 4) rfl body,ih,g1c,n8]
theorem qme(w:Nat)(hw:w<=8)(A:List Nat)(hn:A.Nodup)(hA:∀k∈A,k<256)(hl:A.length<=100): q3o [.lst (A.map qg),.int (w:Int)]=some (.lst ((qaw w A).map qg)):=by
 have hl':A.length<=lim:=by show _<=1000000;lia
 have c:qw (bN 0) zf (xf (qc (eV 0) (qc (eC (.bl true)) qh))) [none] (A.map qg)=some (A.map fun k=>D.tup [qg k,.bl true]):=by
  clear hl hl' hn hA
  induction A with
  | nil=>rfl
  | cons k A ih=>
   rw [gj];simp! [qw,ih,zf]
 have d:=qh3 A hn hA (by lia);obtain⟨b4,b5,e⟩:=q6i w hw A hA (some (.fz (.lst (A.map qg)))) A [] none none hA (by simp;lia);simp only [g0x,g0v] at e
 (refine ze ?_;simp! [q3n,z9,hl',c,d,e])
 rfl
end My
open PySem PyProof.Rows L2 DL
namespace My
open PySem PyProof.Rows L2 DL
theorem q7h(p q:Run->Bool): ∀rs:List Run,(∀r∈rs,0<=r.1)->(∀r∈rs,p r=true->q r=true)->((rs.filter p).map (·.1)).sum<=((rs.filter q).map (·.1)).sum
 | [],_,_=>Int.le_refl _
 | r :: rs,h,hpq=>by
  have ih:=q7h p q rs (fun x hx=>h x (gr _ hx)) fun x hx=>hpq x (gr _ hx);have h0:=h r gq;have h1:=hpq r gq;rw [ph,ph];cases hp:p r with
  | true=>
   rw [hp] at h1;rw [md rfl,md (h1 rfl),gj,gj,g6u,g6u];lia
  | false=>
   rw [mi mh]
   split
   ·rw [gj,g6u];lia
   ·exact ih
def zh(rs:List Run)(L:Int)(k:Nat): Bool:=decide (L<=cM rs k)
theorem qed:∀k:Nat,k<256->∀m∈jn k,m &&& k=m/\m<k:=by decide +kernel
theorem qjo(t:Nat)(ht:t<256)(k:Nat)(hk:k<256)(m:Nat)(hm:m∈jn k)(h:t &&& k=k): t &&& m=m:=by
 rw [<- (qed k hk m hm).1,g6z m k, <- g6v,h]
theorem qtd(rs:List Run)(h:zo rs)(k:Nat)(hk:k<256)(m:Nat)(hm:m∈jn k): cM rs k<=cM rs m:=by
 unfold cM;refine q7h _ _ rs (fun r hr=>(h.2 r hr).2.2.1) fun r hr hq=>?_;obtain⟨t,ht,e⟩:=(h.2 r hr).2.2.2;have e2:mk r.2=(t:Int):=by rw [e];exact(wk t ht).2
 rw [ud,e2,q99] at hq ⊢;have:=qjo t ht k hk m hm (by exact_mod_cast hq);rw [this]
theorem qa9(rs:List Run)(L:Int)(h:zo rs)(k:Nat)(hk:k<256)(hp:zh rs L k=true): ∀m∈jn k,zh rs L m=true:=fun m hm=>by
 have:=qtd rs h k hk m hm;unfold zh at hp ⊢;rw [ud] at hp ⊢;lia
def cnd(rs:List Run)(L:Int)(l:Nat): Bool:=(jn l).all (zh rs L)
def lv(w:Nat): Nat->List Nat
 | 0=>[0]
 | d+1=>(lv w d).flatMap (yo w)
theorem qmf:∀w:Nat,w<9->marksOf w=(List.range (w+1)).flatMap (lv w):=by decide +kernel
def oft(w:Nat)(rs:List Run)(L:Int): List Nat:=(marksOf w).filter fun k=>decide (L<=cM rs k)
theorem qd9:∀w:Nat,w<9->lv w (w+1)=[]/\∀d:Nat,d<10->(∀k∈lv w d,k<256)/\(lv w d).Nodup/\(lv w d).length<=70:=by decide +kernel
theorem qh6:∀w:Nat,w<9->∀k:Nat,k<256->∀l∈yo w k,k∈jn l:=by decide +kernel
theorem qmg:∀w:Nat,w<9->∀d:Nat,d<9->∀l∈lv w (d+1),∀m∈jn l,m∈lv w d:=by decide +kernel
theorem q6j{α β : Type}(q : α -> Bool)(g : α -> List β): ∀l:List α,(∀s∈l,q s=false->g s=[])->(l.filter q).flatMap g=l.flatMap g
 | [],_=>rfl
 | s :: l,h=>by
  have ih:=q6j q g l fun x hx=>h x (gr _ hx);rw [ph,g1c];cases c:q s with
  | true=>rw [md rfl,g1c,ih]
  | false=>rw [mi mh,ih,h s gq c,g0v]
theorem q3c{α β : Type}(p : β -> Bool)(g : α -> List β): ∀l:List α,(l.flatMap g).filter p=l.flatMap fun s=>(g s).filter p
 | []=>rfl
 | s :: l=>by rw [g1c,g1c,List.filter_append,q3c p g l]
def layer(w:Nat)(rs:List Run)(L:Int)(d:Nat): List Nat:=(lv w d).filter (cnd rs L)
theorem step(w:Nat)(hw:w<=8)(rs:List Run)(L:Int)(h:zo rs)(d:Nat)(hd:d<9): qaw w ((layer w rs L d).filter (zh rs L))=layer w rs L (d+1):=by
 obtain⟨_,lf⟩:=qd9 w (by lia);obtain⟨l1,l2,l3⟩:=lf d (by lia);obtain⟨k1,k2,k3⟩:=lf (d+1) (by lia);have eA:(layer w rs L d).filter (zh rs L)=(lv w d).filter fun k=>zh rs L k&&cnd rs L k:=by
  unfold layer;rw [g57]
 rw [eA];unfold qaw;rw [q6j _ _ (lv w d) fun s hs hq=>?_]
 ·unfold layer
  show _=((lv w d).flatMap (yo w)).filter (cnd rs L);have e1:(lv w d).flatMap (fun s=>(yo w s).filter (chk ((lv w d).filter fun k=>zh rs L k&&cnd rs L k)))=((lv w d).flatMap (yo w)).filter (chk ((lv w d).filter fun k=>zh rs L k&&cnd rs L k)):=(q3c _ _ _).symm;rw [e1];refine g3z fun l hl=>?_;have hl':l∈lv w (d+1):=hl;have hf:=qmg w (by lia) d (by lia) l hl';unfold chk cnd;rw [g02,mr,mr]
  constructor
  ·intro z m hm
   have:=z m hm;rw [ud,pz,m9] at this;exact this.2.1
  ·intro z m hm
   rw [ud,pz,m9];refine⟨hf m hm,z m hm,?_⟩;show(jn m).all (zh rs L)=true;rw [mr];exact qa9 rs L h m (l1 m (hf m hm)) (z m hm)
 ·refine g6h.mpr fun l hl hc=>?_
  have hm:=qh6 w (by lia) s (l1 s hs) l hl;unfold chk at hc;have:=mr.mp hc s hm;rw [ud,pz] at this;rw [this.2] at hq;cases hq
theorem qaa(w:Nat)(hw:w<=8)(rs:List Run)(L:Int)(h:zo rs): ∀n d:Nat,d+n<=w+1->layer w rs L d=[]->(List.range' d n).flatMap (layer w rs L)=[]
 | 0,d,_,_=>rfl
 | n+1,d,hd,e=>by
  have s:=step w hw rs L h d (by lia);rw [e] at s;have e1:layer w rs L (d+1)=[]:=s.symm;rw [List.range'_succ,g1c,e,g0v];exact qaa w hw rs L h n (d+1) (by lia) e1
theorem qjp(rs:List Run)(h:zo rs)(A:List Nat)(hA:∀k∈A,k<256): qw (bN 0) zf (xf (qc (eV 0) (qc (qj (qq 2 [] v8) (qc (eV 1) (qc (eV 0) qh))) qh))) [none,some (.fz (.lst (rs.map mrD)))] (A.map qg)=some (A.map (pairD rs)):=by
 induction A with
 | nil=>rfl
 | cons k l ih=>
  have ih':=ih fun x hx=>hA x (gr _ hx);have cm:=q8m rs h k (hA k gq);rw [gj];simp! [qw,ih',cm,zf]
theorem qmh(rs:List Run)(A:List Nat): qw (bN 0) zf (eOp oIx (eV 0) (eC (.int 0))) [none] (A.map (pairD rs))=some (A.map qg):=by
 induction A with
 | nil=>rfl
 | cons k l ih=>
  rw [gj];simp! [qw,ih,zf]
theorem turn(w:Nat)(hw:w<=8)(rs:List Run)(L:Int)(h:zo rs)(x0:Option B)(A acc:List Nat)(hn:A.Nodup)(hA:∀k∈A,k<256)(hl:A.length<=100)(hacc:acc.length<=1000)(b6:Option B):
  jm [x0,some (.fz (z7 w rs)),some (.fz (.int L)),some (.fz (.lst (rs.map mrD))),some (.ow (acc.map (pairD rs))),some (.fz (.lst (A.map qg))),b6] =
   some (.nx,[x0,some (.fz (z7 w rs)),some (.fz (.int L)),some (.fz (.lst (rs.map mrD))),some (.ow ((acc++A).map (pairD rs))),some (.fz (.lst ((qaw w (A.filter (zh rs L))).map qg))),some (.fz (.lst (A.map (pairD rs))))]):=by
 have hl':A.length<=lim:=by show _<=1000000;lia
 have hfl:(A.filter fun k=>decide (L<=cM rs k)).length<=lim:=my (uf _ _) hl';have he:acc.length+A.length<=lim:=by show _<=1000000;lia
 have c1:=qjp rs h A hA;have al:=qeb rs L A (by lia);have c2:=qmh rs (A.filter fun k=>decide (L<=cM rs k));have g:=qme w hw (A.filter fun k=>decide (L<=cM rs k)) (g0s _ hn) (fun k hk=>hA k (pz.mp hk).1) (my (uf _ _) hl);have e:(A.filter (zh rs L))=A.filter fun k=>decide (L<=cM rs k):=rfl;rw [e];simp! [jm,z9,hl',c1,qlg,q45,q46,he,al,hfl,c2,g,uj]
theorem qda(w:Nat)(hw:w<=8)(rs:List Run)(L:Int)(h:zo rs)(x0:Option B): ∀(n d f:Nat) (acc:List Nat) (b6:Option B),d+n=w+1->n<f->acc.length+n*70<=1000->∃b5' b6',
  yj (bT (eV 5)) jm f [x0,some (.fz (z7 w rs)),some (.fz (.int L)),some (.fz (.lst (rs.map mrD))),some (.ow (acc.map (pairD rs))),some (.fz (.lst ((layer w rs L d).map qg))),b6] =
   some (.nx,[x0,some (.fz (z7 w rs)),some (.fz (.int L)),some (.fz (.lst (rs.map mrD))),some (.ow ((acc++(List.range' d n).flatMap (layer w rs L)).map (pairD rs))),b5',b6'])
 | n,d,0,acc,b6,_,hf,_=>by lia
 | n,d,f+1,acc,b6,hd,hf,hl=>by
  obtain⟨le,lf⟩:=qd9 w (by lia);have ht:bT (eV 5) [x0,some (.fz (z7 w rs)),some (.fz (.int L)),some (.fz (.lst (rs.map mrD))),some (.ow (acc.map (pairD rs))),some (.fz (.lst ((layer w rs L d).map qg))),b6]=some (!((layer w rs L d).map qg).isEmpty):=qm2 (x_v rfl) rfl
  by_cases hc:layer w rs L d=[]
  ·rw [hc] at ht
   have hz:=qaa w hw rs L h n d (by lia) hc;rw [hz,g2v];refine⟨some (.fz (.lst ((layer w rs L d).map qg))),b6,?_⟩;unfold yj;rw [hc];rw [ht]
   rfl
  ·have hne:(!((layer w rs L d).map qg).isEmpty)=true:=by
    cases e:layer w rs L d with
    | nil=>exact absurd e hc
    | cons a l=>rfl
   rw [hne] at ht;cases n with
   | zero=>
    have:d=w+1:=by lia
    subst this;exact absurd (by unfold layer;rw [le];rfl) hc
   | succ n=>
    obtain⟨k1,k2,k3⟩:=lf d (by lia);have hll:(layer w rs L d).length<=70:=my (uf _ _) k3;have t:=turn w hw rs L h x0 (layer w rs L d) acc (g0s _ k2) (fun k hk=>k1 k (pz.mp hk).1) (by lia) (by lia) b6;rw [step w hw rs L h d (by lia)] at t;obtain⟨b5',b6',ih⟩:=qda w hw rs L h x0 n (d+1) f (acc++layer w rs L d) (some (.fz (.lst ((layer w rs L d).map (pairD rs))))) (by lia) (by lia) (by rw [t5];lia);refine⟨b5',b6',?_⟩;unfold yj;rw [ht,ma,md rfl,t,ma];dsimp only;rw [ih,List.range'_succ,g1c,n8]
theorem qua(r:Rho): frz 0 (none :: r)=none :: r:=rfl
def q5p(w:Nat)(rs:List Run)(L:Int): List Nat:=(marksOf w).filter (cnd rs L)
theorem qh7(self:D)(w:Nat)(hw:w<=8)(rs:List Run)(L:Int)(h:zo rs): xr [self,z7 w rs,.int L]=some (.tup ((q5p w rs L).map (pairD rs))):=by
 have m:=qjm w rs h;obtain⟨b5,b6,e⟩:=qda w hw rs L h (some (.fz self)) (w+1) 0 100000 [] none (by lia) (by lia) (by simp;lia);have e0:layer w rs L 0=[0]:=rfl;rw [e0, <- List.range_eq_range',g0v] at e;have e1:(List.range (w+1)).flatMap (layer w rs L)=q5p w rs L:=by
  unfold q5p;rw [qmf w (by lia),q3c]
  rfl
 rw [e1] at e;simp only [g0x,gj] at e;rw [show qg 0=D.tup [] from rfl] at e;cases b6 with
 | none=>(refine ze ?_;simp! [zv,m,e,y6,qua])
 | some z=>cases z with
  | fz z=>(refine ze ?_;simp! [zv,m,e,y6,qu9])
  | ow z=>(refine ze ?_;simp! [zv,m,e,y6])
  | od z=>(refine ze ?_;simp! [zv,m,e,y6])
theorem qh8(rs:List Run)(L:Int)(h:zo rs)(k:Nat)(hk:k<256)(hp:zh rs L k=true): cnd rs L k=true:=by
 unfold cnd;rw [mr];exact qa9 rs L h k hk hp
theorem qmi(w:Nat)(hw:w<=8)(rs:List Run)(L:Int)(h:zo rs): (q5p w rs L).filter (fun k=>decide (L<=cM rs k))=oft w rs L:=by
 unfold q5p oft;rw [g57];refine g3z fun k hk=>?_;cases hp:decide (L<=cM rs k) with
 | false=>rfl
 | true=>rw [qh8 rs L h k (q4f hw k hk) hp];rfl
theorem qmj(w:Nat)(hw:w<=8)(rs:List Run)(L:Int): (q5p w rs L).length<=256:=by
 unfold q5p;exact my (uf _ _) (by rw [q1g w];exact k6 hw)
theorem qnb:isO "Growing" (.obj "Growing")=true:=by decide
theorem qmk(w:Nat)(hw:w<=8)(rs:List Run)(L:Int)(h:zo rs): vt [.obj "Growing",z7 w rs,.int L]=some (.tup ((oft w rs L).map (pairD rs))):=by
 have c:=qh7 (.obj "Growing") w hw rs L h;have a:=qd8 rs L (q5p w rs L) (by have:=qmj w hw rs L;lia);rw [qmi w hw rs L h] at a
 (refine ze ?_;simp! [vq,qc7,qnb,c,a])
end My
open PySem PyProof.Rows L2 DL
namespace My
open PySem PyProof.Rows L2 DL
theorem same_int(n:Nat)(i:Int): F_law_same (n+1) [.int i,.int i]=some (.bl true):=by
 show za 4 (vz (F_law_same n)) [.int i,.int i]=_
 (refine ze ?_;simp! [vz])
theorem qab(n:Nat)(x0 x1:Option B): ∀(ds:List D) (b2 b3:Option B),(∀d∈ds,F_law_same n [d,d]=some (.bl true))->∃b2' b3',runFor (va 2 (zb (bN 2) (zb (bN 3) xv))) (yq (F_law_same n)) (q52 ds ds) [x0,x1,b2,b3]=some (.nx,[x0,x1,b2',b3'])
 | [],b2,b3,_=>⟨b2,b3,rfl⟩
 | d :: ds,b2,b3,h=>by
  obtain⟨b2',b3',ih⟩:=qab n x0 x1 ds (some (.fz d)) (some (.fz d)) fun e he=>h e (gr _ he);refine⟨b2',b3',?_⟩;have hd:=h d gq;have z:q52 (d :: ds) (d :: ds)=.tup [d,d] :: q52 ds ds:=rfl;rw [z,je (ρ1:=[x0,x1,some (.fz d),some (.fz d)]) rfl (show yq (F_law_same n) [x0,x1,some (.fz d),some (.fz d)]=some (.nx,[x0,x1,some (.fz d),some (.fz d)]) by simp! [yq,hd]),ih]
theorem q7i(n:Nat)(ds:List D)(h:∀d∈ds,F_law_same n [d,d]=some (.bl true)): F_law_same (n+1) [.tup ds,.tup ds]=some (.bl true):=by
 obtain⟨b2,b3,hl⟩:=qab n (some (.fz (.tup ds))) (some (.fz (.tup ds))) ds none none h;show za 4 (vz (F_law_same n)) [.tup ds,.tup ds]=_
 (refine ze ?_;simp! [vz,qky,ya,hl])
theorem qph(n:Nat)(b:List Int): F_law_same (n+2) [TI b,TI b]=some (.bl true):=q7i _ _ fun d hd=>by
 obtain⟨x,_,rfl⟩:=ng.mp hd;exact same_int _ _
theorem q2t(ns:List Int)(k:Int)(h0:0<=k)(h1:k<=1000000): ∃m,x6 [.lst (ns.map .int),.int k]=some (.int m)/\0<=m/\m<2147483629:=by
 have hkk:ji (.int k) (.int k)=some (.int (k*k)):=wa _ _ ⟨by lia,by lia⟩;have hx:∀x:Int,ji (.int (x%2147483647)) (.int (x%2147483647))=some (.int ((x%2147483647)*(x%2147483647))):=fun x=>
  wa _ _ ⟨by have:=g0w x (show(2147483647:Int)≠0 by decide);lia,by have:=g1p x (show(0:Int)<2147483647 by decide);lia⟩
 have fin:∀x:Int,0<=x%2147483629/\x%2147483629<2147483629:=fun x=>⟨g0w x (by decide),g1p x (by decide)⟩
 by_cases hn:0<ns.length
 ·obtain⟨j,hj,hm⟩:=qp8 (x:=k) hn
  have hn':(0:Int)<(ns.length:Int):=by lia
  have hi:atI (ns.map D.int) (j:Int)=some (.int ns[j]):=by rw [qm3,mv,mj hj];rfl
  simp! [x6,yw,hkk,hx,hm,hn',hi];exact⟨_,rfl,fin _⟩
 ·have hn':¬(0:Int)<(ns.length:Int):=by lia
  simp! [x6,yw,hkk,hx,hn'];exact⟨_,rfl,fin _⟩
theorem qfi(w:Nat)(hw:w<=8)(x:Int): ∃m:Nat,m<2 ^ w/\zu [.int (x%((2 ^ w:Nat):Int))]=some (qg m):=by
 have hp:(0:Int)<((2 ^ w:Nat):Int):=by exact_mod_cast g4v w
 have a:=g0w x (Int.ne_of_gt hp);have b:=g1p x hp;refine⟨(x%((2 ^ w:Nat):Int)).toNat,by lia,?_⟩;have:=q4m (x%((2 ^ w:Nat):Int)).toNat (by have:=k6 hw;lia);rw [g2t a] at this;exact this
theorem qdb(x:Int)(n:Nat)(hn:0<n): ∃k:Nat,k<n/\x%(n:Int)=(k:Int):=by
 have a:=g0w x (show(n:Int)≠0 by lia);have b:=g1p x (show(0:Int)<(n:Int) by lia);exact⟨(x%(n:Int)).toNat,by lia,by lia⟩
theorem qml:∀a:Nat,a<256->∀b:Nat,b<256->((List.range 8).all fun i=> !bit a i || bit b i)=blw a b:=by decide +kernel
theorem qmm:∀k:Nat,k<256->∀x∈qi 12 k,0<=x/\x<8:=by decide +kernel
theorem q64{k:Nat}(hk:k<256){i:Nat}(hi:i<8): (i:Int)∈qi 12 k↔bit k i=true:=by rw [<- q9c k hk i hi,g13]
theorem qac(a:Nat)(ha:a<256)(b:Nat)(hb:b<256): decide (((qi 12 a).filter fun x=>decide (x∈qi 12 b)).length=(qi 12 a).length)=blw a b:=by
 rw [<- qml a ha b hb,g02,g13,g4c,mr]
 constructor
 ·intro h i hi
  have hi:=uc.mp hi;cases hx:bit a i with
  | false=>rfl
  | true=>
   have:=g0j (h _ ((q64 ha hi).mpr hx));rw [(q64 hb hi).mp this];rfl
 ·intro h x hx
  have hl:=qmm a ha x hx;obtain⟨i,rfl⟩:∃i:Nat,x=(i:Int):=⟨x.toNat,by lia⟩
  have hi:i<8:=by lia
  have:=h i (uc.mpr hi);rw [(q64 ha hi).mp hx] at this;exact nk ((q64 hb hi).mpr (by simpa using this))
def Good(r:Run): Prop:=0<=r.1/\∃t,t<256/\r.2=qi 12 t
theorem q9d{rs:List Run}(hl:rs.length<=1000)(h:∀r∈rs,Good r): zo rs:=⟨hl,fun r hr=>by
 obtain⟨h0,t,ht,e⟩:=h r hr;refine⟨fun x hx=>?_,by rw [e];have:=q05 12 t;lia,h0,t,ht,e⟩;rw [e] at hx;obtain⟨i,rfl,hi⟩:=q7g hx;lia⟩
theorem q1s(x:Int)(w:Nat)(hw:w<=8)(M:Int)(hM:0<M): ∃r,ki [.int x,.int (w:Int),.int M]=some (q06 r)/\Good r:=by
 obtain⟨m,hm,hs⟩:=qfi w hw x;have hp:=q2r w hw;have h0:=g0w (x / 4096) (show M≠0 by lia);have l2:∀a b:D,([a,b]:List D).length<=lim:=fun _ _=>by show 2<=1000000;decide
 have hpp:(0:Int)<((2 ^ w:Nat):Int):=by exact_mod_cast g4v w
 refine⟨(1+x / 4096%M,qi 12 m),?_,by show 0<=1+x / 4096%M;lia,m,gu hm (k6 hw),rfl⟩
 (refine ze ?_;simp! [q1d,hM,hp,hpp,hs,l2])
theorem qad(ns:List Int)(w:Nat)(hw:w<=8)(M:Int)(hM:0<M)(x1 x2:Option B): ∀(n k:Nat) (ra:List Run) (b6 b7:Option B),k+n<=100->ra.length+n<=100->(∀r∈ra,Good r)->∃(rs:List Run) (b6' b7':Option B),rs.length<=100/\(∀r∈rs,Good r) /\
  runFor (bN 6) xq (z5 (k:Int) n) [some (.fz (.lst (ns.map .int))),x1,x2,some (.fz (.int (w:Int))),some (.fz (.int M)),some (.ow (ra.map q06)),b6,b7]=some (.nx,[some (.fz (.lst (ns.map .int))),x1,x2,some (.fz (.int (w:Int))),some (.fz (.int M)),some (.ow (rs.map q06)),b6',b7'])
 | 0,k,ra,b6,b7,_,h1,h3=>⟨ra,b6,b7,h1,h3,rfl⟩
 | n + 1,k,ra,b6,b7,hk,h1,h3=>by
  obtain⟨m1,hm1,_,_⟩:=q2t ns (3*(k:Int)+1) (by lia) (by lia);obtain⟨m2,hm2,_,_⟩:=q2t ns (3*(k:Int)+2) (by lia) (by lia);obtain⟨m3,hm3,_,_⟩:=q2t ns (3*(k:Int)+3) (by lia) (by lia);have la:ra.length<lim:=by show _<1000000;lia
  have t3:ji (.int 3) (.int (k:Int))=some (.int (3*(k:Int))):=wa _ _ ⟨by lia,by lia⟩;have t4:∀x:Int,ji (.int x) (.int 4096)=some (.int (x*4096)):=fun x=>wa _ _ ⟨by decide,by decide⟩;have t8:∀x:Int,ji (.int x) (.int 8)=some (.int (x*8)):=fun x=>wa _ _ ⟨by decide,by decide⟩;have e0:bN 6 (.int (k:Int)) [some (.fz (.lst (ns.map .int))),x1,x2,some (.fz (.int (w:Int))),some (.fz (.int M)),some (.ow (ra.map q06)),b6,b7]=some [some (.fz (.lst (ns.map .int))),x1,x2,some (.fz (.int (w:Int))),some (.fz (.int M)),some (.ow (ra.map q06)),some (.fz (.int (k:Int))),b7]:=rfl;have body:∃y r,Good r/\xq [some (.fz (.lst (ns.map .int))),x1,x2,some (.fz (.int (w:Int))),some (.fz (.int M)),some (.ow (ra.map q06)),some (.fz (.int (k:Int))),b7]=some (.nx,[some (.fz (.lst (ns.map .int))),x1,x2,some (.fz (.int (w:Int))),some (.fz (.int M)),some (.ow ((ra++[r]).map q06)),some (.fz (.int (k:Int))),some (.fz (.int y))]):=by
   by_cases c1:1<(k:Int)
   ·by_cases c2:m3%3=0
    ·obtain⟨r,hr,g⟩:=q1s ((m1*4096+m2%4096) / 4096*4096+(m1*4096+m2%4096)%4096 / 8*8%4096) w hw M hM
     refine⟨(m1*4096+m2%4096) / 4096*4096+(m1*4096+m2%4096)%4096 / 8*8%4096,r,g,?_⟩;rw [uj];simp! [xq,t3,t4,t8,hm1,hm2,hm3,c1,c2,hr,q25,q45,q46,la]
    ·obtain⟨r,hr,g⟩:=q1s (m1*4096+m2%4096) w hw M hM
     refine⟨m1*4096+m2%4096,r,g,?_⟩;rw [uj];simp! [xq,t3,t4,t8,hm1,hm2,hm3,c1,c2,hr,q25,q45,q46,la]
   ·obtain⟨r,hr,g⟩:=q1s (m1*4096+m2%4096) w hw M hM
    refine⟨m1*4096+m2%4096,r,g,?_⟩;rw [uj];simp! [xq,t3,t4,t8,hm1,hm2,c1,hr,q25,q45,q46,la]
  obtain⟨y,r,g,hb⟩:=body;obtain⟨rs,b6',b7',q1,q3,ih⟩:=qad ns w hw M hM x1 x2 n (k+1) (ra++[r]) (some (.fz (.int (k:Int)))) (some (.fz (.int y))) (by lia) (by simp only [t5,p8,g31];lia)
   (fun q hq=>by
    rcases nz.mp hq with z|z
    ·exact h3 q z
    ·rw [n9.mp z];exact g)
  refine⟨rs,b6',b7',q1,q3,?_⟩;rw [q13,je e0 hb,show(k:Int)+1=((k+1:Nat):Int) by lia,ih]
theorem qdc(w:Nat)(hw:w<=8)(M:Int)(hM:0<M): ∀ms:List Int,∃rs:List Run,rs.length=ms.length/\(∀r∈rs,Good r)/\qw (bN 0) zf (qj (qq 3 [] ki) (qc (eV 0) (qc (eV 1) (qc (eV 2) qh)))) [none,some (.fz (.int (w:Int))),some (.fz (.int M))] (ms.map D.int)=some (rs.map q06)
 | []=>⟨[],rfl,(fun _ h=>by cases h),rfl⟩
 | x :: ms=>by
  obtain⟨rs,h1,h2,h3⟩:=qdc w hw M hM ms;obtain⟨r,hr,g⟩:=q1s x w hw M hM;refine⟨r :: rs,by simp [h1],fun q hq=>?_,?_⟩
  ·rcases mm.mp hq with rfl|hq
   ·exact g
   ·exact h2 q hq
  ·rw [gj]
   simp! [qw,zf,hr,h3]
theorem qpi(c:Int): ∃M:Int,0<M/\atI [D.int 3,D.int 40,D.int 1000000000000] (c%3)=some (.int M):=by
 have h1:=g0w c (show(3:Int)≠0 by decide);have h2:=g1p c (show(0:Int)<3 by decide);have:c%3=0\/c%3=1\/c%3=2:=by lia
 rcases this with e|e|e <;> rw [e]
 ·exact⟨3,by decide,rfl⟩
 ·exact⟨40,by decide,rfl⟩
 ·exact⟨1000000000000,by decide,rfl⟩
theorem q6k(ns:List Int)(hl:ns.length<=63)(mw:Nat)(hmw:mw<=8): ∃(w:Nat) (rs:List Run),vm [.lst (ns.map D.int),.int (mw:Int)]=some (z7 w rs)/\w<=8/\zo rs:=by
 obtain e|⟨fst,r,e⟩:ns=[]\/∃a r,ns=a :: r:=by
  cases ns with
  | nil=>exact .inl rfl
  | cons a r=>exact .inr ⟨a,r,rfl⟩
 ·subst e
  refine⟨0,[],?_,by lia,q9d (by decide) (fun _ h=>by cases h)⟩;have:mw=0\/mw=1\/mw=2\/mw=3\/mw=4\/mw=5\/mw=6\/mw=7\/mw=8:=by lia
  rcases this with rfl|rfl|rfl|rfl|rfl|rfl|rfl|rfl|rfl <;> rfl
 have i0:(ns.map D.int)[0]? = some (.int fst):=by rw [e];rfl
 have hn':(0:Int)<(ns.length:Int):=by rw [e,p8];lia
 have sl:oSl (.lst (ns.map D.int)) (some 1) (some 63)=some (.lst ((ns.drop 1).map D.int)):=by
  show some (D.lst (DL.cutD (ns.map D.int) (some ((1:Nat):Int)) (some ((63:Nat):Int))))=_;unfold DL.cutD;rw [HT.sIx_nat,HT.sIx_nat,mn,g62 hl]
  by_cases h:1<=ns.length
  ·rw [g6b h,tm (by simp),g5f]
  ·have:ns=[]:=by cases ns with
    | nil=>rfl
    | cons a r=>simp at h
   subst this;rfl
 obtain⟨w,hw,ew⟩:=qdb fst (mw+1) (by lia);have ew:fst%((mw:Int)+1)=(w:Int):=by rw [<- ew];congr 1
 have hm0:(0:Int)<(mw:Int)+1:=by lia
 obtain⟨M,hM,eM⟩:=qpi (fst / 16);have ll:(ns.drop 1).length<=lim:=by rw [g00];show _<=1000000;lia
 have t0:([]:List D).length<=lim:=by decide
 have l2:∀a b:D,([a,b]:List D).length<=lim:=fun _ _=>by show 2<=1000000;decide
 have l3:∀a b c:D,([a,b,c]:List D).length<=lim:=fun _ _ _=>by show 3<=1000000;decide
 obtain⟨tn,htn,etn⟩:=qdb (fst / 96) 25 (by decide);have er:∀(x0 x1:Option B) (t:Rho),iR1 (qc (eOp oMod (eOp oDiv (eV 2) (eC (.int 96))) (eC (.int 25))) qh) (x0 :: x1 :: some (.fz (.int fst)) :: t)=some (z5 0 tn):=fun x0 x1 t=>by
  rw [q1x _ _ (fst / 96%25) (by simp! [p0]) (by lia) (by lia)];rw [show(fst / 96%25).toNat=tn by have:fst / 96%25=(tn:Int):=etn;lia]
 by_cases c48:fst / 48%2=0
 ·obtain⟨rs,h1,h2,c⟩:=qdc w (by lia) M hM (ns.drop 1)
  refine⟨w,rs,?_,by lia,q9d (by rw [h1,g00];lia) h2⟩
  (refine ze ?_;simp! [wc,hn',i0,hm0,ew,l3,eM,c48,sl,z9,ll,c,l2])
 ·obtain⟨rs,b6,b7,h1,h2,h3⟩:=qad ns w (by lia) M hM (some (.fz (.int (mw:Int)))) (some (.fz (.int fst))) tn 0 [] none none (by lia) (by simp only [g31];lia) (fun _ h=>by cases h)
  rw [show((0:Nat):Int)=0 from rfl,g0x] at h3;refine⟨w,rs,?_,by lia,q9d (by lia) h2⟩
  (refine ze ?_;simp! [wc,hn',i0,hm0,ew,l3,eM,c48,t0,ya,er,h3,l2])
theorem count_loop(k:Nat)(hk:k<256)(x0:Option B): ∀(rs:List Run) (acc:Int) (b3 b4:Option B),(∀r∈rs,Good r)->∃b3' b4',
  runFor (va 2 (zb (bN 3) (zb (bN 4) xv))) ju (rs.map q06) [x0,some (.fz (qg k)),some (.fz (.int acc)),b3,b4]=some (.nx,[x0,some (.fz (qg k)),some (.fz (.int (acc+cM rs k))),b3',b4'])
 | [],acc,b3,b4,_=>⟨b3,b4,by simp [runFor,cM]⟩
 | r :: rs,acc,b3,b4,hg=>by
  obtain⟨h0,t,ht,e⟩:=hg r gq;have hg':∀q∈rs,Good q:=fun q hq=>hg q (gr _ hq);have c:=qna (c:=jb (oIn false) (eV 0) (eV 1)) (ρ :=[some (.fz (qg t))]) (fun x=>decide (x∈qi 12 t)) (qi 12 k) fun x _=>by
   have o:=qd7 x (qi 12 t);simp! [o]
  have hl:(qi 12 k).length<=lim:=my (q05 12 k) (by decide);have eq:=qs8 (((qi 12 k).filter fun x=>decide (x∈qi 12 t)).length) (qi 12 k).length;rw [qac k hk t ht] at eq;have e0:va 2 (zb (bN 3) (zb (bN 4) xv)) (q06 r) [x0,some (.fz (qg k)),some (.fz (.int acc)),b3,b4]=some [x0,some (.fz (qg k)),some (.fz (.int acc)),some (.fz (.int r.1)),some (.fz (qg t))]:=by
   show some [x0,some (.fz (qg k)),some (.fz (.int acc)),some (.fz (.int r.1)),some (.fz (TI r.2))]=_;rw [e]
  have pq:decide (Builtin.bitAnd (mk r.2) (k:Int)=(k:Int))=blw k t:=by
   rw [e,(wk t ht).2,q99];unfold blw;rw [g6z];exact g4b.mpr (by lia)
  have cr:cM (r :: rs) k=(if blw k t=true then r.1 else 0)+cM rs k:=by
   unfold cM;rw [ph,pq];cases blw k t
   ·simp
   ·simp
  rw [cr];cases hb:blw k t with
  | true=>
   rw [hb] at eq;obtain⟨b3',b4',ih⟩:=count_loop k hk x0 rs (acc+r.1) (some (.fz (.int r.1))) (some (.fz (qg t))) hg';refine⟨b3',b4',?_⟩;have body:ju [x0,some (.fz (qg k)),some (.fz (.int acc)),some (.fz (.int r.1)),some (.fz (qg t))]=some (.nx,[x0,some (.fz (qg k)),some (.fz (.int (acc+r.1))),some (.fz (.int r.1)),some (.fz (qg t))]):=by
    simp! [ju,z9,hl,c,eq]
   rw [gj,je e0 body,ih,md rfl,Int.add_assoc]
  | false=>
   rw [hb] at eq;obtain⟨b3',b4',ih⟩:=count_loop k hk x0 rs acc (some (.fz (.int r.1))) (some (.fz (qg t))) hg';refine⟨b3',b4',?_⟩;have body:ju [x0,some (.fz (qg k)),some (.fz (.int acc)),some (.fz (.int r.1)),some (.fz (qg t))]=some (.nx,[x0,some (.fz (qg k)),some (.fz (.int acc)),some (.fz (.int r.1)),some (.fz (qg t))]):=by
    simp! [ju,z9,hl,c,eq]
   rw [gj,je e0 body,ih,mi (by decide),g6y]
theorem qpj{rs:List Run}(h:zo rs): ∀r∈rs,Good r:=fun r hr=>⟨(h.2 r hr).2.2.1,(h.2 r hr).2.2.2⟩
theorem q5q(w:Nat)(rs:List Run)(h:zo rs)(k:Nat)(hk:k<256): j7 [z7 w rs,qg k]=some (.int (cM rs k)):=by
 obtain⟨b3,b4,c⟩:=count_loop k hk (some (.fz (z7 w rs))) rs 0 none none (qpj h);rw [g6y] at c
 (refine ze ?_;simp! [wz,ya,c])
theorem qdd(ns:List Int)(w:Nat)(hw:w<=8)(rs:List Run)(h:zo rs): ∃L:Int,xa [.lst (ns.map D.int),z7 w rs]=some (.int L)/\1<=L:=by
 have hpw:=q2r w hw;have hp:(0:Int)<((2 ^ w:Nat):Int):=by exact_mod_cast g4v w
 have hmx:∀x:Int,oMax [.int 1,.int x]=some (.int (if x>1 then x else 1)):=fun _=>rfl;obtain e|⟨fst,r,e⟩:ns=[]\/∃a r,ns=a :: r:=by
  cases ns with
  | nil=>exact .inl rfl
  | cons a r=>exact .inr ⟨a,r,rfl⟩
 ·subst e
  exact⟨1,rfl,by decide⟩
 have i0:(ns.map D.int)[0]? = some (.int fst):=by rw [e];rfl
 have hn':(0:Int)<(ns.length:Int):=by rw [e,p8];lia
 by_cases c0:fst / 2400%4=0
 ·simp! [xa,y8,hn',i0,c0]
  exact⟨_,rfl,by have:=g0w (fst / 2400 / 4) (show(6:Int)≠0 by decide);lia⟩
 ·by_cases c3:fst / 2400%4=3
  ·simp! [xa,y8,hn',i0,c0,c3]
   exact⟨_,rfl,by have:=g0w (fst / 2400 / 4) (show(100000000000000:Int)≠0 by decide);lia⟩
  ·obtain⟨m,hm,hs⟩:=qfi w hw (fst / 2400 / 4)
   have ce:=q5q w rs h m (gu hm (k6 hw));simp! [xa,y8,hn',i0,c0,c3,hpw,hp,hs,ce,hmx];exact⟨_,rfl,by split <;> lia⟩
end My
open PySem PyProof.Rows L2 DL
namespace My
open PySem PyProof.Rows L2 DL
theorem qae(rs:List Run): ∀A:List Nat,q2c (A.map (pairD rs))=some (A.map (qi 12),A.map fun k=>.int (cM rs k))
 | []=>rfl
 | k :: A=>by
  have hi:jh ((qi 12 k).map D.int)=some (qi 12 k):=vg _;show((jh ((qi 12 k).map D.int)).bind fun x=>(q2c (A.map (pairD rs))).map fun p=>(x :: p.1,D.int (cM rs k) :: p.2))=_;rw [hi,qae rs A]
  rfl
theorem qh9(rs:List Run)(A:List Nat)(hn:A.Nodup)(hA:∀k∈A,k<256)(hl:A.length<=1000): q8b [.tup (A.map (pairD rs))]=some (.dtt (A.map (qi 12)) (A.map fun k=>.int (cM rs k))):=by
 show(q2c (A.map (pairD rs))).bind (fun p=>if p.1.Nodup/\(A.map (pairD rs)).length<=lim then some (D.dtt p.1 p.2) else none)=_;rw [qae];show(if(A.map (qi 12)).Nodup/\_ then _ else _)=_;rw [md ⟨q3a hn hA,by rw [mn];show _<=1000000;lia⟩]
theorem qfj(w:Nat)(hw:w<=8)(rs:List Run)(L:Int): (oft w rs L).length<=256:=my (uf _ _) (by rw [q1g];exact k6 hw)
theorem qde(M:List Nat)(hM:∀k∈M,k<256)(m:Nat)(hm:m∈M): (M.map (qi 12)).idxOf (qi 12 m)=M.idxOf m:=by
 induction M with
 | nil=>cases hm
 | cons k M ih=>
  rw [gj,List.idxOf_cons,List.idxOf_cons]
  by_cases h:k=m
  ·subst h;simp
  ·have h':qi 12 k≠qi 12 m:=fun z=>h (q2p k (hM k gq) m (hM m hm) z)
   rw [g1d.mpr h,g1d.mpr h'];simp only [cond_false];rw [ih (fun x hx=>hM x (gr _ hx)) ((mm.mp hm).resolve_left (nj h))]
theorem q6l:∀A:List Nat,q8a (A.map qg)=some (A.map (qi 12))
 | []=>rfl
 | k :: A=>by
  have e:qcj (qg k)=some (qi 12 k):=vg _;simp only [gj,q8a,e,q6l A,ma,pb]
theorem qdf{f:FE}{ρ : Rho}{j:Nat}(g:Nat->D): ∀A:List Nat,(∀k∈A,f (ρ.set j (some (.fz (qg k))))=some (g k))->q42 f ρ j (A.map qg)=some (A.map g)
 | [],_=>rfl
 | k :: A,h=>by
  simp only [gj,q42,h k gq,qdf g A fun x hx=>h x (gr _ hx),ma,pb]
abbrev cD(rs:List Run)(M:List Nat): D:=.dtt (M.map (qi 12)) (M.map fun k=>.int (cM rs k))
theorem qdg(rs:List Run)(M:List Nat)(hM:∀k∈M,k<256)(m:Nat)(hm:m∈M): q2y (cD rs M) (qg m)=some (.int (cM rs m)):=by
 show(jh ((qi 12 m).map D.int)).bind (fun k=>if k∈M.map (qi 12) then(M.map fun k=>D.int (cM rs k))[(M.map (qi 12)).idxOf k]? else none)=_;rw [vg,ma,md (ng.mpr ⟨m,hm,rfl⟩),qde M hM m hm,mv,mj (g1o hm),g3d]
 rfl
theorem qfk(rs:List Run)(h:zo rs){a b:Nat}(hab:blw a b=true): cM rs b<=cM rs a:=by
 have hab:a &&& b=a:=g0j hab;unfold cM;refine q7h _ _ rs (fun r hr=>(h.2 r hr).2.2.1) fun r hr hq=>?_;obtain⟨t,ht,e⟩:=(h.2 r hr).2.2.2;have e2:mk r.2=(t:Int):=by rw [e];exact(wk t ht).2
 rw [ud,e2,q99] at hq ⊢;have hq:t &&& b=b:=by exact_mod_cast hq
 have:t &&& a=a:=by
  rw [<- hab,g6z a b, <- g6v,hq]
 rw [this]
theorem qjq{a b c:Nat}(h1:blw a b=true)(h2:blw b c=true): blw a c=true:=by
 have h1:a &&& b=a:=g0j h1;have h2:b &&& c=b:=g0j h2;exact nk (by rw [<- h1,g6v,h2])
theorem qmn(a:Nat): blw a a=true:=nk (Nat.and_self a)
theorem qha:∀w:Nat,w<9->∀k:Nat,k<2 ^ w->∀m∈jo w k,blw k m=true/\k<m:=by decide +kernel
theorem q9e(w:Nat)(rs:List Run)(L:Int){k:Nat}: k∈oft w rs L↔k<2 ^ w/\zh rs L k=true:=by
 unfold oft zh;rw [pz,q0e]
theorem qjr(rs:List Run)(A:List Nat)(hA:∀k∈A,k<256)(m:Nat)(hm:m<256): q8c (cD rs A) [qg m]=some (if m∈A then .int (cM rs m) else .non):=by
 show(jh ((qi 12 m).map D.int)).bind (fun k=>if k∈A.map (qi 12) then(A.map fun k=>D.int (cM rs k))[(A.map (qi 12)).idxOf k]? else some .non)=_;rw [vg,ma]
 by_cases h:m∈A
 ·rw [md (ng.mpr ⟨m,h,rfl⟩),md h,qde A hA m h,mv,mj (g1o h),g3d]
  rfl
 ·rw [mi (fun z=>by
   obtain⟨a,ha,e⟩:=ng.mp z;exact h (q2p a (hA a ha) m hm e ▸ ha)),mi h]
theorem qmo(w:Nat)(hw:w<=8)(rs:List Run)(A:List Nat)(hA:∀k∈A,k<256)(k:Nat)(hk:k∈A)(hk2:k<2 ^ w): xp [qg k,cD rs A,.int (w:Int)]=some (.bl ((jo w k).all fun m=> !(decide (m∈A)&&decide (cM rs m=cM rs k)))):=by
 have fe:=qea w k hw (hA k hk);have ix:=qdg rs A hA k hk;have c:=q4g (b:=bN 0) (e:=eOp q4t (q95 (eV 1) (qc (eV 0) qh)) (eOp q2y (eV 1) (eV 2))) (ρ :=[none,some (.fz (cD rs A)),some (.fz (qg k))]) qg (fun m=>.bl (!(decide (m∈A)&&decide (cM rs m=cM rs k)))) (jo w k) fun m hm=>by
  have gm:=qjr rs A hA m (gu (q2s w (by lia) k hk2 m hm) (k6 hw));refine⟨[some (.fz (qg m)),some (.fz (cD rs A)),some (.fz (qg k))],rfl,?_⟩;have n1:=qfe (cM rs m) (cM rs k);have n2:q4t .non (.int (cM rs k))=some (.bl true):=rfl
  by_cases h:m∈A
  ·rw [md h] at gm
   rw [nk h,g5e];simp! [q95,gm,ix,n1]
  ·rw [mi h] at gm
   rw [p9 h,g3e];simp! [q95,gm,ix,n2]
 have a:=q43 ((jo w k).map fun m=> !(decide (m∈A)&&decide (cM rs m=cM rs k)));rw [nv,g04] at a;have hl:(jo w k).length<=lim:=my (qjl w k) (my hw (by decide));have c':qw (bN 0) zf (eOp q4t (q95 (eV 1) (qc (eV 0) qh)) (eOp q2y (eV 1) (eV 2))) [none,some (.fz (cD rs A)),some (.fz (qg k))] ((jo w k).map qg)=some ((jo w k).map (D.bl ∘ fun m=> !(decide (m∈A)&&decide (cM rs m=cM rs k)))):=c
 (refine ze ?_;simp! [vy,fe,z9,hl,c',a])
 rfl
def clB(w:Nat)(rs:List Run)(L:Int): List Nat:=(oft w rs L).filter fun k=>(jo w k).all fun m=> !(decide (m∈oft w rs L)&&decide (cM rs m=cM rs k))
theorem q5r(w:Nat)(hw:w<=8)(rs:List Run)(h:zo rs)(L:Int): yn [z7 w rs,.int L]=some (.tup ((clB w rs L).map (pairD rs))):=by
 have oe:=qmk w hw rs L h;have ol:=qfj w hw rs L;have hA:∀k∈oft w rs L,k<256:=fun k hk=>q4f hw k (pz.mp hk).1;have dp:=qh9 rs (oft w rs L) (g0s _ (q6h w)) hA (by lia);have hl:(oft w rs L).length<=lim:=by show _<=1000000;lia
 have c:=q15 (b:=bN 0) (c:=bT (qj (qq 3 [] xp) (qc (eOp oIx (eV 0) (eC (.int 0))) (qc (eV 1) (qc (eOp oIx (eV 2) (eC (.int 0))) qh))))) (e:=eV 0) (ρ :=[none,some (.fz (cD rs (oft w rs L))),some (.fz (z7 w rs))]) (pairD rs) (fun k=>(jo w k).all fun m=> !(decide (m∈oft w rs L)&&decide (cM rs m=cM rs k))) (pairD rs) (oft w rs L) fun k hk=>by
  have ge:=qmo w hw rs (oft w rs L) hA k hk ((q0e w k).mp (pz.mp hk).1);refine⟨[some (.fz (pairD rs k)),some (.fz (cD rs (oft w rs L))),some (.fz (z7 w rs))],rfl,?_,fun _=>rfl⟩;simp! [ge]
 (refine ze ?_;simp! [q2n,qc7,qnb,oe,dp,z9,hl,c])
 rfl
theorem qdh(w:Nat)(hw:w<=8)(rs:List Run)(L:Int){k:Nat}: k∈clB w rs L↔k<2 ^ w/\zh rs L k=true/\∀m∈jo w k,cM rs m≠cM rs k:=by
 unfold clB;rw [pz,q9e,mr]
 constructor
 ·rintro⟨⟨a,b⟩,c⟩
  refine⟨a,b,fun m hm e=>?_⟩;have hb:zh rs L m=true:=by unfold zh at b ⊢;rw [e];exact b
  have:=c m hm;rw [nk ((q9e w rs L).mpr ⟨q2s w (by lia) k a m hm,hb⟩),nk e] at this;cases this
 ·rintro⟨a,b,c⟩
  refine⟨⟨a,b⟩,fun m hm=>?_⟩;rw [p9 (c m hm),g3k];rfl
theorem qmp(w:Nat)(hw:w<=8)(rs:List Run)(h:zo rs)(L:Int): ∀n k:Nat,2 ^ w<=k+n->k<2 ^ w->zh rs L k=true->∃u∈clB w rs L,blw k u=true/\cM rs u=cM rs k:=by
 intro n
 induction n with
 | zero=>intro k h1 h2;lia
 | succ n ih=>
  intro k h1 h2 h3
  by_cases hx:∃m∈jo w k,cM rs m=cM rs k
  ·obtain⟨m,hm,h4⟩:=hx
   obtain⟨f1,f2⟩:=qha w (by lia) k h2 m hm;obtain⟨u,hu,hb,he⟩:=ih m (by lia) (q2s w (by lia) k h2 m hm) (by unfold zh at h3 ⊢;rw [h4];exact h3);exact⟨u,hu,qjq f1 hb,he.trans h4⟩
  ·exact⟨k,(qdh w hw rs L).mpr ⟨h2,h3,fun m hm e=>hx ⟨m,hm,e⟩⟩,qmn k,rfl⟩
theorem qpk(a b:Nat)(ha:a<256)(hb:b<256): yg [qg a,qg b]=some (.bl (blw a b)):=by
 have c:=q4g (b:=bN 0) (e:=eOp (oIn false) (eV 0) (eV 1)) (ρ :=[none,some (.fz (qg b))]) D.int (fun x=>.bl (decide (x∈qi 12 b))) (qi 12 a) fun x _=>by
  have o:=qd7 x (qi 12 b);exact⟨[some (.fz (.int x)),some (.fz (qg b))],rfl,by simp! [o]⟩
 have al:=q43 ((qi 12 a).map fun x=>decide (x∈qi 12 b));rw [nv,g04] at al;have e:(qi 12 a).all (id ∘ fun x=>decide (x∈qi 12 b))=blw a b:=by
  rw [<- qac a ha b hb,g02,g13,g4c,mr]
  rfl
 rw [e] at al;have hl:(qi 12 a).length<=lim:=my (q05 12 a) (by decide);have c':qw (bN 0) zf (eOp (oIn false) (eV 0) (eV 1)) [none,some (.fz (qg b))] ((qi 12 a).map D.int)=some ((qi 12 a).map (D.bl ∘ fun x=>decide (x∈qi 12 b))):=c
 (refine ze ?_;simp! [ku,z9,hl,c',al])
theorem qee(w:Nat)(hw:w<=8)(rs:List Run)(h:zo rs)(L:Int)(k:Nat)(hk:k<2 ^ w): q0s [.tup ((clB w rs L).map (pairD rs)),qg k]=some (if zh rs L k=true then .int (cM rs k) else .non):=by
 have c256:∀u∈clB w rs L,u<256:=fun u hu=>gu ((qdh w hw rs L).mp hu).1 (k6 hw);have k256:k<256:=gu hk (k6 hw);have c:=q15 (b:=va 2 (zb (bN 0) (zb (bN 1) xv))) (c:=bT (qj (qq 2 [] yg) (qc (eV 2) (qc (eV 0) qh)))) (e:=eV 1) (ρ :=[none,none,some (.fz (qg k))]) (pairD rs) (blw k) (fun u=>.int (cM rs u)) (clB w rs L) fun u hu=>by
  have le:=qpk k u k256 (c256 u hu);exact⟨[some (.fz (qg u)),some (.fz (.int (cM rs u))),some (.fz (qg k))],rfl,by simp! [le],fun _=>rfl⟩
 have hl:(clB w rs L).length<=lim:=my (uf _ _) (my (qfj w hw rs L) (by decide));have e:((clB w rs L).filter (blw k)).map (fun u=>D.int (cM rs u))=(((clB w rs L).filter (blw k)).map (cM rs)).map D.int:=by rw [nv];rfl
 rw [e] at c;have mx:(((clB w rs L).filter (blw k)).map (cM rs)).max? = if zh rs L k=true then some (cM rs k) else none:=by
  by_cases ho:zh rs L k=true
  ·rw [md ho,g6n]
   obtain⟨u,hu,hb,he⟩:=qmp w hw rs h L (2 ^ w) k (by lia) hk ho;refine⟨ng.mpr ⟨u,pz.mpr ⟨hu,hb⟩,he⟩,fun x hx=>?_⟩;obtain⟨v,hv,rfl⟩:=ng.mp hx;exact qfk rs h (pz.mp hv).2
  ·rw [mi ho,List.max?_eq_none_iff,List.map_eq_nil_iff,g6h]
   intro u hu hb;have h1:=((qdh w hw rs L).mp hu).2.1;have h2:=qfk rs h hb;unfold zh at h1 ho;rw [ud] at h1 ho;lia
 have be:qgm List.max? [.lst ((((clB w rs L).filter (blw k)).map (cM rs)).map D.int)] .non=some (if zh rs L k=true then .int (cM rs k) else .non):=by
  show((jh ((((clB w rs L).filter (blw k)).map (cM rs)).map D.int)).bind fun ns=>some (match ns.max? with|some m=>D.int m|none=>.non))=_;rw [vg,ma,mx];cases zh rs L k <;> rfl
 (refine ze ?_;simp! [q0r,qgn,z9,hl,c,be])
end My
open PySem PyProof.Rows L2 DL
namespace My
open PySem PyProof.Rows L2 DL
theorem qjs:∀k:Nat,k<256->∀i:Nat,i<8->bit k i=false->(qi 12 (k+2 ^ i)).Perm (qi 12 k++[(i:Int)]):=by decide +kernel
theorem qjt(n k:Nat): (qi n k).Pairwise (· < ·):=by
 unfold qi;rw [g0b];refine g3v (fun h=>?_) (g0s _ g45);lia
theorem qhb(ns:List Int): q11 (ns.map D.int)=true:=by
 unfold q11;rw [m9,m9];refine⟨⟨?_,?_⟩,?_⟩
 ·rw [g04,mr];intro x _;rfl
 ·rw [g04,mr]
  intro x _;show(ns.map D.int).all _=true;rw [g04,mr];intro y _;rfl
 ·rw [g17]
  left
  rw [g04,mr];intro x _;rfl
theorem qdi(a b:Int): ltT (.int a) (.int b)=decide (a<b):=xj a b
theorem qju(ns ms:List Int)(hp:ms.Perm ns)(hr:ms.Pairwise (· < ·)): q3l [TI ns]=some (ms.map D.int):=by
 unfold q3l;dsimp only;rw [qhb,md rfl];have e:(ms.map fun x=>(D.int x,D.int x))=w8 ((ns.map D.int).map fun d=>(d,d)):=by
  refine q6v ?_ ?_ ?_
  ·rw [nv];exact hp.map _
  ·rw [g0b]
   refine g3v (fun {a b} h=>?_) hr;show ltT (.int b) (.int a)=false;rw [qdi];exact p9 (by lia)
  ·intro x hx y hy h1 h2
   rw [nv] at hx hy;obtain⟨a,_,rfl⟩:=ng.mp hx;obtain⟨b,_,rfl⟩:=ng.mp hy;have h1':decide (a<b)=false:=by rw [<- qdi];exact h1
   have h2':decide (b<a)=false:=by rw [<- qdi];exact h2
   have:a=b:=by have:=of_decide_eq_false h1';have:=of_decide_eq_false h2';lia
   rw [this]
 rw [<- e,nv]
 rfl
theorem q6m(rs:List Run)(A:List Nat): q3m (A.map (qi 12)) (A.map fun k=>.int (cM rs k))=A.map (pairD rs):=by
 induction A with
 | nil=>rfl
 | cons k A ih=>
  show D.tup [.tup ((qi 12 k).map D.int),.int (cM rs k)] :: q3m (A.map (qi 12)) (A.map fun k=>.int (cM rs k))=_;rw [ih];rfl
theorem q8n(rs:List Run)(l:List Nat): xc [.tup (l.map (pairD rs)),.tup (l.map (pairD rs))]=some (.bl true):=q7i 15 _ fun d hd=>by
 obtain⟨k,_,rfl⟩:=ng.mp hd;exact q7i 14 _ fun e he=>by
  rcases mm.mp he with rfl|he
  ·exact qph 12 _
  ·rw [n9.mp he];exact same_int 13 _
theorem qte(w:Nat)(hw:w<=8)(rs:List Run)(h:zo rs)(L:Int): ∃l,sD1 2 3 (xw (qj (qq 1 [] vn) (qc (eOp oIx (eV 0) (eC (.int 0))) qh))) (qj (qq 2 [] j7) (qc (eV 0) (qc (eV 3) qh))) [some (.fz (z7 w rs)),some (.fz (.int L)),none,none,none,none,none,none] =
  some (.nx,[some (.fz (z7 w rs)),some (.fz (.int L)),some (.fz (cD rs (marksOf w))),some (.fz (qg l)),none,none,none,none]):=by
 obtain⟨l,hlast⟩:∃l,(marksOf w).getLast? = some l:=by
  cases e:(marksOf w).getLast? with
  | some l=>exact⟨l,rfl⟩
  | none=>
   have:=List.getLast?_eq_none_iff.mp e;have h0:=q1g w;rw [this] at h0;have:=g4v w;simp at h0;lia
 refine⟨l,?_⟩;have ls:=qe9 w hw;have hit:xw (qj (qq 1 [] vn) (qc (eOp oIx (eV 0) (eC (.int 0))) qh)) [some (.fz (z7 w rs)),some (.fz (.int L)),none,none,none,none,none,none]=some ((marksOf w).map qg):=by simp! [ls]
 have hk:=q6l (marksOf w);have hn:((marksOf w).map (qi 12)).Nodup/\((marksOf w).map (qi 12)).length<=lim:=⟨q3a (q6h w) (q4f hw),by rw [mn,q1g];exact my (k6 hw) (by decide)⟩
 have v1:q42 (qj (qq 2 [] j7) (qc (eV 0) (qc (eV 3) qh))) [some (.fz (z7 w rs)),some (.fz (.int L)),none,none,none,none,none,none] 3 ((marksOf w).map qg)=some ((marksOf w).map fun k=>.int (cM rs k)):=qdf (fun k=>.int (cM rs k)) (marksOf w) fun k hk=>by
  have ce:=q5q w rs h k (q4f hw k hk);simp! [ce]
 have er:q70 [some (.fz (z7 w rs)),some (.fz (.int L)),none,none,none,none,none,none] 3 ((marksOf w).map qg)=[some (.fz (z7 w rs)),some (.fz (.int L)),none,some (.fz (qg l)),none,none,none,none]:=by
  unfold q70;rw [List.getLast?_map,hlast]
  rfl
 unfold sD1;rw [md ⟨rfl,by show 2<8;decide,by show 3<8;decide⟩];show(xw (qj (qq 1 [] vn) (qc (eOp oIx (eV 0) (eC (.int 0))) qh)) [some (.fz (z7 w rs)),some (.fz (.int L)),none,none,none,none,none,none]).bind _=_;rw [hit,ma,hk,ma,md hn];show(q42 (qj (qq 2 [] j7) (qc (eV 0) (qc (eV 3) qh))) [some (.fz (z7 w rs)),some (.fz (.int L)),none,none,none,none,none,none] 3 ((marksOf w).map qg)).map (fun v1=>(Fl.nx,(q70 [some (.fz (z7 w rs)),some (.fz (.int L)),none,none,none,none,none,none] 3 ((marksOf w).map qg)).set 2 _))=_;rw [v1,pb,er]
 rfl
theorem q4h(w:Nat)(hw:w<=8)(rs:List Run)(M:List Nat)(hMl:∀k,k∈M↔k<2 ^ w)(k:Nat)(hk:k∈M)(x0 x1:Option B)(ds:List D): ∀(n j:Nat) (acc:Int) (b7:Option B),j+n=w->∃(acc':Int) (b7':Option B),acc<=acc'/\(acc'=acc↔∀i,j<=i->i<w->bit k i=false->cM rs (k+2 ^ i)≠cM rs k) /\
  runFor (bN 7) zy (z5 (j:Int) n) [x0,x1,some (.fz (cD rs M)),some (.fz (qg k)),some (.ow ds),some (.fz (.int (cM rs k))),some (.fz (.int acc)),b7]=some (.nx,[x0,x1,some (.fz (cD rs M)),some (.fz (qg k)),some (.ow ds),some (.fz (.int (cM rs k))),some (.fz (.int acc')),b7'])
 | 0,j,acc,b7,hj=>⟨acc,b7,Int.le_refl _,⟨fun _ i h1 h2=>by lia,fun _=>rfl⟩,rfl⟩
 | n + 1,j,acc,b7,hj=>by
  have hk2:=(hMl k).mp hk;have k256:k<256:=gu hk2 (k6 hw);have hM:∀k∈M,k<256:=fun k h=>gu ((hMl k).mp h) (k6 hw);have j8:j<8:=by lia
  have o:=qfh (j:Int) (qi 12 k);rw [q9c k k256 j j8] at o;have t1:∀d:D,([d]:List D).length<=lim:=fun _=>by show 1<=1000000;decide
  have e0:bN 7 (.int (j:Int)) [x0,x1,some (.fz (cD rs M)),some (.fz (qg k)),some (.ow ds),some (.fz (.int (cM rs k))),some (.fz (.int acc)),b7]=some [x0,x1,some (.fz (cD rs M)),some (.fz (qg k)),some (.ow ds),some (.fz (.int (cM rs k))),some (.fz (.int acc)),some (.fz (.int (j:Int)))]:=rfl;have keep:zy [x0,x1,some (.fz (cD rs M)),some (.fz (qg k)),some (.ow ds),some (.fz (.int (cM rs k))),some (.fz (.int acc)),some (.fz (.int (j:Int)))]=some (.nx,[x0,x1,some (.fz (cD rs M)),some (.fz (qg k)),some (.ow ds),some (.fz (.int (cM rs k))),some (.fz (.int acc)),some (.fz (.int (j:Int)))])->(bit k j=false->cM rs (k+2 ^ j)≠cM rs k)->∃(acc':Int) (b7':Option B),acc<=acc'/\(acc'=acc↔∀i,j<=i->i<w->bit k i=false->cM rs (k+2 ^ i)≠cM rs k)/\runFor (bN 7) zy (z5 (j:Int) (n+1)) [x0,x1,some (.fz (cD rs M)),some (.fz (qg k)),some (.ow ds),some (.fz (.int (cM rs k))),some (.fz (.int acc)),b7]=some (.nx,[x0,x1,some (.fz (cD rs M)),some (.fz (qg k)),some (.ow ds),some (.fz (.int (cM rs k))),some (.fz (.int acc')),b7']):=fun body hnot=>by
   obtain⟨acc',b7',h1,h2,ih⟩:=q4h w hw rs M hMl k hk x0 x1 ds n (j+1) acc (some (.fz (.int (j:Int)))) (by lia);refine⟨acc',b7',h1,h2.trans ⟨fun z i a1 a2 a3=>?_,fun z i a1 a2 a3=>z i (by lia) a2 a3⟩,?_⟩
   ·by_cases e:i=j
    ·subst e;exact hnot a3
    ·exact z i (by lia) a2 a3
   ·rw [q13,je e0 body,show(j:Int)+1=((j+1:Nat):Int) by lia,ih]
  cases hb:bit k j with
  | true=>
   rw [hb] at o;exact keep (by simp! [zy,o]) fun z=>by rw [hb] at z;cases z
  | false=>
   rw [hb] at o;have p:=q5a ((qi 12 k).map D.int) [.int (j:Int)] (by rw [mn];have:=q05 12 k;simp;lia);have e:(qi 12 k).map D.int++[.int (j:Int)]=(qi 12 k++[(j:Int)]).map D.int:=by rw [uj];rfl
   rw [e] at p;have s:=qju (qi 12 k++[(j:Int)]) (qi 12 (k+2 ^ j)) (qjs k k256 j j8 hb) (qjt 12 _);have hm:k+2 ^ j∈M:=(hMl _).mpr (q2s w (by lia) k hk2 _ (by
    unfold jo;exact ng.mpr ⟨j,pz.mpr ⟨uc.mpr (by lia),by rw [hb];rfl⟩,rfl⟩))
   have ix:=qdg rs M hM (k+2 ^ j) hm;have eq:=q62 (cM rs (k+2 ^ j)) (cM rs k)
   by_cases c:cM rs (k+2 ^ j)=cM rs k
   ·rw [nk c] at eq
    have body:zy [x0,x1,some (.fz (cD rs M)),some (.fz (qg k)),some (.ow ds),some (.fz (.int (cM rs k))),some (.fz (.int acc)),some (.fz (.int (j:Int)))]=some (.nx,[x0,x1,some (.fz (cD rs M)),some (.fz (qg k)),some (.ow ds),some (.fz (.int (cM rs k))),some (.fz (.int (acc+1))),some (.fz (.int (j:Int)))]):=by
     generalize cM rs (k+2 ^ j)=c1 at ix eq;simp! [zy,o,t1,p,s,y6,ix,eq]
    obtain⟨acc',b7',h1,h2,ih⟩:=q4h w hw rs M hMl k hk x0 x1 ds n (j+1) (acc+1) (some (.fz (.int (j:Int)))) (by lia);refine⟨acc',b7',by lia,⟨fun z=>by lia,fun z=>absurd c (z j (gw _) (by lia) hb)⟩,?_⟩;rw [q13,je e0 body,show(j:Int)+1=((j+1:Nat):Int) by lia,ih]
   ·rw [p9 c] at eq
    refine keep ?_ fun _=>c;generalize cM rs (k+2 ^ j)=c1 at ix eq;simp! [zy,o,t1,p,s,y6,ix,eq]
def clC(w:Nat)(rs:List Run)(L:Int)(k:Nat): Bool:=zh rs L k&&(jo w k).all fun m=> !decide (cM rs m=cM rs k)
theorem qmq(w:Nat)(rs:List Run)(k:Nat): ((jo w k).all fun m=> !decide (cM rs m=cM rs k))=true↔∀i,0<=i->i<w->bit k i=false->cM rs (k+2 ^ i)≠cM rs k:=by
 unfold jo;rw [g04,mr]
 constructor
 ·intro h i _ hi hb e
  have:=h i (pz.mpr ⟨uc.mpr hi,by rw [hb];rfl⟩);have this:(!decide (cM rs (k+2 ^ i)=cM rs k))=true:=this;rw [nk e] at this;cases this
 ·intro h i hi
  obtain⟨h1,h2⟩:=pz.mp hi;show(!decide (cM rs (k+2 ^ i)=cM rs k))=true;rw [p9 (h i (um _) (uc.mp h1) (by simpa using h2))];rfl
theorem qef(w:Nat)(hw:w<=8)(rs:List Run)(L:Int)(M:List Nat)(hMl:∀k,k∈M↔k<2 ^ w)(k:Nat)(hk:k∈M)(a4:List Nat)(h4:a4.length<=1000)(b6 b7:Option B): ∃b6' b7',
  vp [some (.fz (z7 w rs)),some (.fz (.int L)),some (.fz (cD rs M)),some (.fz (qg k)),some (.ow (a4.map (pairD rs))),some (.fz (.int (cM rs k))),b6,b7]=some (.nx,[some (.fz (z7 w rs)),some (.fz (.int L)),some (.fz (cD rs M)),some (.fz (qg k)),some (.ow ((a4++if clC w rs L k=true then [k] else []).map (pairD rs))),some (.fz (.int (cM rs k))),b6',b7']):=by
 obtain⟨acc,b7',h1,h2,lp⟩:=q4h w hw rs M hMl k hk (some (.fz (z7 w rs))) (some (.fz (.int L))) (a4.map (pairD rs)) w 0 0 b7 (by lia);rw [show((0:Nat):Int)=0 from rfl] at lp;refine⟨some (.fz (.int acc)),b7',?_⟩;have r1:∀t:Rho,iR1 (qc (eOp oIx (eV 0) (eC (.int 0))) qh) (some (.fz (z7 w rs)) :: t)=some (z5 0 w):=fun t=>q1x _ _ (w:Int) (by simp! [p0]) (by lia) (by lia);have ge:oGe (.int (cM rs k)) (.int L)=some (.bl (zh rs L k)):=rfl;have z:decide (acc=0)=(jo w k).all fun m=> !decide (cM rs m=cM rs k):=by
  rw [g02,g13,qmq];exact h2
 have eq:=q62 acc 0;rw [z] at eq;have l2:∀a b:D,([a,b]:List D).length<=lim:=fun _ _=>by show 2<=1000000;decide
 have la:a4.length<lim:=by show _<1000000;lia
 unfold clC;generalize ((jo w k).all fun m=> !decide (cM rs m=cM rs k))=A1 at eq ⊢;generalize zh rs L k=A3 at ge ⊢;cases A3 <;> cases A1 <;> simp! [vp,ya,r1,lp,ge,eq,q25,q45,q46,la,l2,uj]
theorem q6n(w:Nat)(hw:w<=8)(rs:List Run)(L:Int)(M:List Nat)(hMl:∀k,k∈M↔k<2 ^ w): ∀(q a4:List Nat) (b3 b5 b6 b7:Option B),(∀k∈q,k∈M)->a4.length+q.length<=1000->∃b3' b5' b6' b7',
  runFor (va 2 (zb (bN 3) (zb (bN 5) xv))) vp (q.map (pairD rs)) [some (.fz (z7 w rs)),some (.fz (.int L)),some (.fz (cD rs M)),b3,some (.ow (a4.map (pairD rs))),b5,b6,b7]=some (.nx,[some (.fz (z7 w rs)),some (.fz (.int L)),some (.fz (cD rs M)),b3',some (.ow ((a4++q.filter (clC w rs L)).map (pairD rs))),b5',b6',b7'])
 | [],a4,b3,b5,b6,b7,_,_=>⟨b3,b5,b6,b7,by simp [runFor]⟩
 | k :: q,a4,b3,b5,b6,b7,hq,h4=>by
  rw [p8] at h4;obtain⟨c6,c7,body⟩:=qef w hw rs L M hMl k (hq k gq) a4 (by lia) b6 b7;have le:(if clC w rs L k=true then [k] else []).length<=1:=by cases clC w rs L k <;> simp
  obtain⟨b3',b5',b6',b7',ih⟩:=q6n w hw rs L M hMl q (a4++if clC w rs L k=true then [k] else []) (some (.fz (qg k))) (some (.fz (.int (cM rs k)))) c6 c7 (fun x hx=>hq x (gr _ hx)) (by rw [t5];lia);refine⟨b3',b5',b6',b7',?_⟩;have e0:va 2 (zb (bN 3) (zb (bN 5) xv)) (pairD rs k) [some (.fz (z7 w rs)),some (.fz (.int L)),some (.fz (cD rs M)),b3,some (.ow (a4.map (pairD rs))),b5,b6,b7]=some [some (.fz (z7 w rs)),some (.fz (.int L)),some (.fz (cD rs M)),some (.fz (qg k)),some (.ow (a4.map (pairD rs))),some (.fz (.int (cM rs k))),b6,b7]:=rfl;rw [gj,je e0 body,ih,ph];have ap:∀(a:List Nat) (c:Bool) (t:List Nat),(a++if c=true then [k] else [])++t=a++if c=true then k :: t else t:=fun a c t=>by cases c <;> simp
  rw [ap]
theorem q4n(w:Nat)(hw:w<=8)(rs:List Run)(h:zo rs)(L:Int): jl [z7 w rs,.int L]=some (.lst [cD rs (marksOf w),.tup ((clB w rs L).map (pairD rs))]):=by
 obtain⟨l,d1⟩:=qte w hw rs h L;have ml:(marksOf w).length<=256:=by rw [q1g];exact k6 hw
 obtain⟨b3,b5,b6,b7,lp⟩:=q6n w hw rs L (marksOf w) (fun k=>q0e w k) (marksOf w) [] (some (.fz (qg l))) none none none (fun _ h=>h) (by simp only [g31];lia);rw [g0v,g0x] at lp;have eu:(marksOf w).filter (clC w rs L)=clB w rs L:=by
  unfold clB oft;rw [g57];apply g3z;intro k hk;have hk':=(q0e w k).mp hk;unfold clC;rw [Bool.and_comm];show(_&&zh rs L k)=(_&&zh rs L k);cases ho:zh rs L k with
  | false=>rw [g3k,g3k]
  | true=>
   congr 1
   rw [g02,mr,mr]
   constructor <;> intro z m hm <;> have y:=z m hm
   ·cases e:decide (cM rs m=cM rs k) with
    | false=>rw [g3k];rfl
    | true=>rw [e] at y;cases y
   ·cases e:decide (cM rs m=cM rs k) with
    | false=>rfl
    | true=>
     have em:=g0j e;have hb:zh rs L m=true:=by unfold zh at ho ⊢;rw [em];exact ho
     have im:m∈List.filter (fun k=>decide (L<=cM rs k)) (marksOf w):=(q9e w rs L).mpr ⟨q2s w (by lia) k hk' m hm,hb⟩;rw [e,nk im] at y;cases y
 rw [eu] at lp;have it:q59 (eV 2) [some (.fz (z7 w rs)),some (.fz (.int L)),some (.fz (cD rs (marksOf w))),some (.fz (qg l)),some (.ow []),none,none,none]=some ((marksOf w).map (pairD rs)):=by
  show some (q3m ((marksOf w).map (qi 12)) ((marksOf w).map fun k=>.int (cM rs k)))=_;rw [q6m]
 have t0:([]:List D).length<=lim:=by decide
 have l2:∀a b:D,([a,b]:List D).length<=lim:=fun _ _=>by show 2<=1000000;decide
 generalize (clB w rs L).map (pairD rs)=U at lp ⊢
 (refine ze ?_;simp! [ko,d1,t0,ya,it,lp,l2])
end My
open PySem PyProof.Rows L2 DL
namespace My
open PySem PyProof.Rows L2 DL
theorem qaf(w:Nat)(hw:w<=8)(rs:List Run)(h:zo rs)(L:Int)(x0 x1 x3 x4 x9:Option B): ∀(q:List Nat) (b6 b7 b8:Option B),(∀k∈q,k<2 ^ w)->∃b6' b7' b8',
  runFor (va 2 (zb (bN 6) (zb (bN 7) xv))) q04 (q.map (pairD rs)) [x0,x1,some (.fz (.int L)),x3,x4,some (.fz (.tup ((clB w rs L).map (pairD rs)))),b6,b7,b8,x9]=some (.nx,[x0,x1,some (.fz (.int L)),x3,x4,some (.fz (.tup ((clB w rs L).map (pairD rs)))),b6',b7',b8',x9])
 | [],b6,b7,b8,_=>⟨b6,b7,b8,rfl⟩
 | k :: q,b6,b7,b8,hq=>by
  have cb:=qee w hw rs h L k (hq k gq);have ge:oGe (.int (cM rs k)) (.int L)=some (.bl (zh rs L k)):=rfl;have lt:oLt' (.int (cM rs k)) (.int L)=some (.bl (!zh rs L k)):=by
   rw [qff];unfold zh;rw [<- decide_not];congr 2;exact g4b.mpr (by lia)
  have sm:xc [.int (cM rs k),.int (cM rs k)]=some (.bl true):=same_int 15 _;have isn:oIs true .non .non=some (.bl false):=rfl;have e0:va 2 (zb (bN 6) (zb (bN 7) xv)) (pairD rs k) [x0,x1,some (.fz (.int L)),x3,x4,some (.fz (.tup ((clB w rs L).map (pairD rs)))),b6,b7,b8,x9]=some [x0,x1,some (.fz (.int L)),x3,x4,some (.fz (.tup ((clB w rs L).map (pairD rs)))),some (.fz (qg k)),some (.fz (.int (cM rs k))),b8,x9]:=rfl;have body:∃d,q04 [x0,x1,some (.fz (.int L)),x3,x4,some (.fz (.tup ((clB w rs L).map (pairD rs)))),some (.fz (qg k)),some (.fz (.int (cM rs k))),b8,x9]=some (.nx,[x0,x1,some (.fz (.int L)),x3,x4,some (.fz (.tup ((clB w rs L).map (pairD rs)))),some (.fz (qg k)),some (.fz (.int (cM rs k))),some (.fz d),x9]):=by
   generalize (clB w rs L).map (pairD rs)=U at cb ⊢;cases ho:zh rs L k with
   | true=>
    rw [ho] at cb ge lt;rw [md rfl] at cb;exact⟨.int (cM rs k),by simp! [q04,cb,lt,ge,sm]⟩
   | false=>
    rw [ho] at cb ge lt;rw [mi (by decide)] at cb;exact⟨.non,by simp! [q04,cb,lt,ge,isn]⟩
  obtain⟨d,body⟩:=body;obtain⟨b6',b7',b8',ih⟩:=qaf w hw rs h L x0 x1 x3 x4 x9 q (some (.fz (qg k))) (some (.fz (.int (cM rs k)))) (some (.fz d)) fun x hx=>hq x (gr _ hx);exact⟨b6',b7',b8',by rw [gj,je e0 body,ih]⟩
theorem qmr(ns:List Int)(hl:ns.length<=63): qh1 [.lst (ns.map .int)]=some (.bl true):=by
 obtain⟨w0,rs0,hp0,hw0,h0⟩:=q6k ns hl 6 (by decide);have sl20:oSl (.lst (ns.map D.int)) none (some 20)=some (.lst ((ns.take 20).map D.int)):=by
  show some (D.lst (DL.cutD (ns.map D.int) none (some ((20:Nat):Int))))=_;rw [q6b (α :=D), <- g6s]
 obtain⟨w1,rs1,hp1,hw1,h1⟩:=q6k (ns.take 20) (by rw [p6];lia) 8 (by decide);have fin:∀(w:Nat) (rs:List Run),w<=8->zo rs->∃(L:Int) (b6 b7 b8:Option B),xa [.lst (ns.map D.int),z7 w rs]=some (.int L)/\(∀L:Int,jl [z7 w rs,.int L]=some (.lst [cD rs (marksOf w),.tup ((clB w rs L).map (pairD rs))]))/\(∀L:Int,yn [z7 w rs,.int L]=some (.tup ((clB w rs L).map (pairD rs))))/\(∀L:Int,xc [.tup ((clB w rs L).map (pairD rs)),.tup ((clB w rs L).map (pairD rs))]=some (.bl true)) /\
   (∀L:Int,jl [z7 w (rs.drop 1),.int L]=some (.lst [cD (rs.drop 1) (marksOf w),.tup ((clB w (rs.drop 1) L).map (pairD (rs.drop 1)))]))/\(∀L:Int,yn [z7 w (rs.drop 1),.int L]=some (.tup ((clB w (rs.drop 1) L).map (pairD (rs.drop 1)))))/\(∀L:Int,xc [.tup ((clB w (rs.drop 1) L).map (pairD (rs.drop 1))),.tup ((clB w (rs.drop 1) L).map (pairD (rs.drop 1)))]=some (.bl true)) /\
   q59 (eV 3) [some (.fz (.lst (ns.map D.int))),some (.fz (z7 w rs)),some (.fz (.int L)),some (.fz (cD rs (marksOf w))),some (.fz (.tup ((clB w rs L).map (pairD rs)))),some (.fz (.tup ((clB w rs L).map (pairD rs)))),none,none,none,none]=some ((marksOf w).map (pairD rs)) /\
   runFor (va 2 (zb (bN 6) (zb (bN 7) xv))) q04 ((marksOf w).map (pairD rs)) [some (.fz (.lst (ns.map D.int))),some (.fz (z7 w rs)),some (.fz (.int L)),some (.fz (cD rs (marksOf w))),some (.fz (.tup ((clB w rs L).map (pairD rs)))),some (.fz (.tup ((clB w rs L).map (pairD rs)))),none,none,none,none]=some (.nx,[some (.fz (.lst (ns.map D.int))),some (.fz (z7 w rs)),some (.fz (.int L)),some (.fz (cD rs (marksOf w))),some (.fz (.tup ((clB w rs L).map (pairD rs)))),some (.fz (.tup ((clB w rs L).map (pairD rs)))),b6,b7,b8,none]):=fun w rs hw h=>by
  obtain⟨L,hL,L1⟩:=qdd ns w hw rs h;have hd:zo (rs.drop 1):=⟨by rw [g00];have:=h.1;lia,fun r hr=>h.2 r (g2o hr)⟩
  obtain⟨b6,b7,b8,lp⟩:=qaf w hw rs h L (some (.fz (.lst (ns.map D.int)))) (some (.fz (z7 w rs))) (some (.fz (cD rs (marksOf w)))) (some (.fz (.tup ((clB w rs L).map (pairD rs))))) none (marksOf w) none none none fun k hk=>(q0e w k).mp hk;refine⟨L,b6,b7,b8,hL,q4n w hw rs h,q5r w hw rs h,fun L=>q8n rs _,q4n w hw (rs.drop 1) hd,q5r w hw (rs.drop 1) hd,fun L=>q8n (rs.drop 1) _,?_,lp⟩;show some (q3m ((marksOf w).map (qi 12)) ((marksOf w).map fun k=>.int (cM rs k)))=_;rw [q6m]
 have sl1:∀rs:List Run,oSl (.tup (rs.map q06)) (some 1) none=some (.tup ((rs.drop 1).map q06)):=fun rs=>by
  show some (D.tup (DL.cutD (rs.map q06) (some ((1:Nat):Int)) none))=_;rw [qcp (α :=Int),g5f]
 have l2:∀a b:D,([a,b]:List D).length<=lim:=fun _ _=>by show 2<=1000000;decide
 have hp0:vm [.lst (ns.map D.int),.int 6]=some (z7 w0 rs0):=hp0;have hp1:vm [.lst ((ns.take 20).map D.int),.int 8]=some (z7 w1 rs1):=hp1;obtain⟨L0,c6,c7,c8,a1,a2,a3,a4,a5,a6,a7,a8,a9⟩:=fin w0 rs0 hw0 h0;have s0:=sl1 rs0
 by_cases hn:0<ns.length
 ·obtain⟨fst,r,e⟩:∃a r,ns=a :: r:=by
   cases ns with
   | nil=>simp at hn
   | cons a r=>exact⟨a,r,rfl⟩
  have i0:(ns.map D.int)[0]? = some (.int fst):=by rw [e];rfl
  have hn':(0:Int)<(ns.length:Int):=by lia
  by_cases c:fst / 7%16=9
  ·obtain⟨L1,d6,d7,d8,b1,b2,b3,b4,b5,b6,b7,b8,b9⟩:=fin w1 rs1 hw1 h1
   have s1:=sl1 rs1
   (refine ze ?_;simp! [q4e,hp0,hn',i0,c,sl20,hp1,b1,s1,l2,b2,q5u,q96,b3,b4,b5,b6,b7,ya,b8,b9])
  ·(refine ze ?_;simp! [q4e,hp0,hn',i0,c,a1,s0,l2,a2,q5u,q96,a3,a4,a5,a6,a7,ya,a8,a9])
 ·have hn':¬(0:Int)<(ns.length:Int):=by lia
  (refine ze ?_;simp! [q4e,hp0,hn',a1,s0,l2,a2,q5u,q96,a3,a4,a5,a6,a7,ya,a8,a9])
end My
namespace My
open PySem PySem.Spec PyProof.Rows L2 DL
open PySem.W (nsIn fnOf keepIn codeIn mg_of subIn mg_none_of findIn plainGet)
theorem ln1{s:Shared}{fd:FuncData}{ps:List Str}(h:∀a0,BindsTo s fd ⟨[a0],[]⟩ (ps.zip ([a0]++[]))): ∀us:List Value,(us++[]).length=1->BindsTo s fd ⟨us,[]⟩ (ps.zip (us++[]))
 | [a0],_=>h a0
theorem ln2{s:Shared}{fd:FuncData}{ps:List Str}(h:∀a0 a1,BindsTo s fd ⟨[a0,a1],[]⟩ (ps.zip ([a0,a1]++[]))): ∀us:List Value,(us++[]).length=2->BindsTo s fd ⟨us,[]⟩ (ps.zip (us++[]))
 | [a0,a1],_=>h a0 a1
theorem ln3{s:Shared}{fd:FuncData}{ps:List Str}(h:∀a0 a1 a2,BindsTo s fd ⟨[a0,a1,a2],[]⟩ (ps.zip ([a0,a1,a2]++[]))): ∀us:List Value,(us++[]).length=3->BindsTo s fd ⟨us,[]⟩ (ps.zip (us++[]))
 | [a0,a1,a2],_=>h a0 a1 a2
theorem all_mk{q:Program}{l:PySem.W.OpenLaw}{w:World}{K:Frag}{h:Heap}{mg:Str->Option Value}{fa:Addr}(X:K.In h)(G:h.Ns mainGlobals mg)(hfa:mg "law" = some (.ref fa))(hm:∀ns:List Int,ns.length<=63->qh1 [.lst (ns.map .int)]=some (.bl true))
  {C_Growing:Addr}
  (x_Growing:nsIn K mainGlobals "Growing" = some (some (.ref C_Growing)))
  (mk_Growing:PySem.W.makesIn K C_Growing=true)
  (in_Growing:findIn K (.ref C_Growing) "__init__" = some (some (.builtin "object.__init__")))
  (kp_Growing:keepIn K (.ref C_Growing)=true)
  (pg_Growing:plainGet K C_Growing Str.empty=true)
  (hd_Growing:PySem.W.hasDictIn K C_Growing=true)
  (po_Growing:PySem.W.plainOver K C_Growing=true)
  (sa_Growing:findIn K (.ref C_Growing) "__setattr__" = some (some (.builtin "object.__setattr__")))
  (cg_Growing:plainGet K C_Growing "__class__" = true)
  (cc_Growing:findIn K (.ref C_Growing) "__class__" = some (some (.builtin "object.__class__")))
  (cs_Growing:PySem.W.specialIn K (.builtin "object.__class__") "__get__" = some (some (.builtin "getset_descriptor.__get__")))
  (ct_Growing:PySem.W.takesIn K (.builtin "object.__class__")=some true)
  (cm_Growing:PySem.W.mroIn K C_Growing (.type "object")=some true)
  (ciint_Growing:subIn K (.ref C_Growing) (.type "int")=some false)
  (cibool_Growing:subIn K (.ref C_Growing) (.type "bool")=some false)
  (cituple_Growing:subIn K (.ref C_Growing) (.type "tuple")=some false)
  (cilist_Growing:subIn K (.ref C_Growing) (.type "list")=some false)
  (cistr_Growing:subIn K (.ref C_Growing) (.type "str")=some false)
  (cidict_Growing:subIn K (.ref C_Growing) (.type "dict")=some false)
  {fa_17:Addr} {fd_law_set:FuncData} (x_17:nsIn K mainGlobals "_law_set" = some (some (.ref fa_17))) (F_law_set:Fun2 K "_law_set" "_law_set" q0b .none fa_17 fd_law_set)
  {fa_14:Addr} {fd_law_power:FuncData} (x_14:nsIn K mainGlobals "_law_power" = some (some (.ref fa_14))) (F_law_power:Fun2 K "_law_power" "_law_power" yt .none fa_14 fd_law_power)
  {fa_15:Addr} {fd_law_run:FuncData} (x_15:nsIn K mainGlobals "_law_run" = some (some (.ref fa_15))) (F_law_run:Fun2 K "_law_run" "_law_run" q0c .none fa_15 fd_law_run)
  {fa_12:Addr} {fd_law_mixed:FuncData} (x_12:nsIn K mainGlobals "_law_mixed" = some (some (.ref fa_12))) (F_law_mixed:Fun2 K "_law_mixed" "_law_mixed" yu .none fa_12 fd_law_mixed)
  {fa_13:Addr} {fd_law_pile:FuncData} (x_13:nsIn K mainGlobals "_law_pile" = some (some (.ref fa_13))) (F_law_pile:Fun2 K "_law_pile" "_law_pile" wb .none fa_13 fd_law_pile)
  {fa_10:Addr} {fd_law_count:FuncData} (x_10:nsIn K mainGlobals "_law_count" = some (some (.ref fa_10))) (F_law_count:Fun2 K "_law_count" "_law_count" yx .none fa_10 fd_law_count)
  {fa_11:Addr} {fd_law_least:FuncData} (x_11:nsIn K mainGlobals "_law_least" = some (some (.ref fa_11))) (F_law_least:Fun2 K "_law_least" "_law_least" yy .none fa_11 fd_law_least)
  {fa_18:Addr} {od_18 an_18:Option Addr} {sl_18:Array (Option Value)} {oc_18 kV_18 dc_18 pm_18 ct_18:Value}
  {cL_law_sets TL_law_sets:Addr}
  (x_18:nsIn K mainGlobals "_law_sets" = some (some (.ref fa_18)))
  (l_18:K.lookup fa_18=some ⟨oc_18,od_18,.func (fnOf "_law_sets" "_law_sets" (vf xb) (qt xb) (qd xb) .none kV_18 dc_18 pm_18 an_18 (.ref cL_law_sets) ct_18),sl_18⟩)
  (q_18:codeIn K (.ref cL_law_sets) "_law_sets" = true) (k_18:keepIn K (.ref fa_18)=true)
  {oL_law_sets:Obj} (o_18:K.lookup cL_law_sets=some oL_law_sets) (p_18:tabOf oL_law_sets=some TL_law_sets) (hh_18:PySem.W.codeHdIn [(cL_law_sets,oL_law_sets)] cL_law_sets TL_law_sets=true) (nl_18:K.lookup TL_law_sets=none) (r_18:((recsOf q).find? (fun e=>e.name==("_law_sets" : Str))).isSome=true)
  {fa_9:Addr} {fd_law_closed:FuncData} (x_9:nsIn K mainGlobals "_law_closed" = some (some (.ref fa_9))) (F_law_closed:Fun2 K "_law_closed" "_law_closed" yc .none fa_9 fd_law_closed)
  {fa_3:Addr} {fd_at_least:FuncData} (x_3:nsIn K mainGlobals "at_least" = some (some (.ref fa_3))) (F_at_least:Fun2 K "at_least" "at_least" wd .none fa_3 fd_at_least)
  {fa_21:Addr} {fd_mark_of:FuncData} (x_21:nsIn K mainGlobals "mark_of" = some (some (.ref fa_21))) (F_mark_of:Fun2 K "mark_of" "mark_of" q0d .none fa_21 fd_mark_of)
  {fa_22:Addr} {fd_marked:FuncData} (x_22:nsIn K mainGlobals "marked" = some (some (.ref fa_22))) (F_marked:Fun2 K "marked" "marked" q0w .none fa_22 fd_marked)
  {fa_24:Addr} {fd_one_ware_more:FuncData} (x_24:nsIn K mainGlobals "one_ware_more" = some (some (.ref fa_24))) (F_one_ware_more:Fun2 K "one_ware_more" "one_ware_more" xk .none fa_24 fd_one_ware_more)
  {fa_23:Addr} {fd_one_ware_fewer:FuncData} (x_23:nsIn K mainGlobals "one_ware_fewer" = some (some (.ref fa_23))) (F_one_ware_fewer:Fun2 K "one_ware_fewer" "one_ware_fewer" jw .none fa_23 fd_one_ware_fewer)
  {fa_7:Addr} {fd_grown:FuncData} (x_7:nsIn K mainGlobals "grown" = some (some (.ref fa_7))) (F_grown:Fun2 K "grown" "grown" q1y .none fa_7 fd_grown)
  {fa_6:Addr} {fd_count_marked:FuncData} (x_6:nsIn K mainGlobals "count_marked" = some (some (.ref fa_6))) (F_count_marked:Fun2 K "count_marked" "count_marked" v7 .none fa_6 fd_count_marked)
  {fa_0:Addr} {od_0 an_0:Option Addr} {sl_0:Array (Option Value)} {oc_0 kV_0 dc_0 pm_0 cd_0 ct_0:Value}
  (x_0:findIn K (.ref C_Growing) "counted" = some (some (.ref fa_0))) (i_0:PySem.W.isFn K (.ref fa_0)=true)
  (l_0:K.lookup fa_0=some ⟨oc_0,od_0,.func (fnOf "counted" "Growing.counted" (vf zm) (qt zm) (qd zm) .none kV_0 dc_0 pm_0 an_0 cd_0 ct_0),sl_0⟩)
  (q_0:codeIn K cd_0 "Growing.counted" = true) (k_0:keepIn K (.ref fa_0)=true)
  {fa_1:Addr} {od_1 an_1:Option Addr} {sl_1:Array (Option Value)} {oc_1 kV_1 dc_1 pm_1 cd_1 ct_1:Value}
  (x_1:findIn K (.ref C_Growing) "often" = some (some (.ref fa_1))) (i_1:PySem.W.isFn K (.ref fa_1)=true)
  (l_1:K.lookup fa_1=some ⟨oc_1,od_1,.func (fnOf "often" "Growing.often" (vf j0) (qt j0) (qd j0) .none kV_1 dc_1 pm_1 an_1 cd_1 ct_1),sl_1⟩)
  (q_1:codeIn K cd_1 "Growing.often" = true) (k_1:keepIn K (.ref fa_1)=true)
  {fa_8:Addr} {fd_joined:FuncData} (x_8:nsIn K mainGlobals "joined" = some (some (.ref fa_8))) (F_joined:Fun2 K "joined" "joined" q0y .none fa_8 fd_joined)
  {fa_2:Addr} {fd_any_ware_more:FuncData} (x_2:nsIn K mainGlobals "any_ware_more" = some (some (.ref fa_2))) (F_any_ware_more:Fun2 K "any_ware_more" "any_ware_more" xn .none fa_2 fd_any_ware_more)
  {fa_20:Addr} {fd_loses_by_each:FuncData} (x_20:nsIn K mainGlobals "loses_by_each" = some (some (.ref fa_20))) (F_loses_by_each:Fun2 K "loses_by_each" "loses_by_each" xo .none fa_20 fd_loses_by_each)
  {fa_4:Addr} {fd_closed:FuncData} (x_4:nsIn K mainGlobals "closed" = some (some (.ref fa_4))) (F_closed:Fun2 K "closed" "closed" q10 .none fa_4 fd_closed)
  {fa_16:Addr} {fd_law_same:FuncData} (x_16:nsIn K mainGlobals "_law_same" = some (some (.ref fa_16))) (F_law_same:Fun2 K "_law_same" "_law_same" wg .none fa_16 fd_law_same)
  {fa_19:Addr} {fd_lies_below:FuncData} (x_19:nsIn K mainGlobals "lies_below" = some (some (.ref fa_19))) (F_lies_below:Fun2 K "lies_below" "lies_below" yf .none fa_19 fd_lies_below)
  {fa_5:Addr} {fd_count_by:FuncData} (x_5:nsIn K mainGlobals "count_by" = some (some (.ref fa_5))) (F_count_by:Fun2 K "count_by" "count_by" wj .none fa_5 fd_count_by)
  {fa_law:Addr} {fd_law:FuncData} (x_law:nsIn K mainGlobals "law" = some (some (.ref fa_law))) (F_law:Fun2 K "law" "law" q63 .none fa_law fd_law)
  (z_range:nsIn K mainGlobals "range" = some none)
  (z_tuple:nsIn K mainGlobals "tuple" = some none)
  (z_len:nsIn K mainGlobals "len" = some none)
  (z_max:nsIn K mainGlobals "max" = some none)
  (z_sorted:nsIn K mainGlobals "sorted" = some none)
  (z_sum:nsIn K mainGlobals "sum" = some none)
  (z_dict:nsIn K mainGlobals "dict" = some none)
  (z_all:nsIn K mainGlobals "all" = some none)
  (z_set:nsIn K mainGlobals "set" = some none)
  (z_isinstance:nsIn K mainGlobals "isinstance" = some none)
  (z_zip:nsIn K mainGlobals "zip" = some none)
  (z_int:nsIn K mainGlobals "int" = some none)
  (z_bool:nsIn K mainGlobals "bool" = some none)
  : ∃(L:Lam) (tabs:List (Addr×Addr)) (fd:FuncData),(∀p∈L.tab,p.1∈tabs.map (·.2))/\(∀p∈tabs,K.lookup p.2=none/\∃y:Str,((recsOf q).find? (fun e=>e.name==y)).isSome=true/\PySem.W.tabIn K y=some p)/\(∀(s:Shared) (v:Value),BindsTo s fd ⟨[v],[]⟩ [("_law_script",v)])/\∀base:Heap,K.In base->base.Ns mainGlobals mg->q1o mg base->FnOk l.prog w K mg base CX0 18 fa fd ["_law_script"] (qau K):=by
 letI L:Lam:=⟨[(TL_law_sets,"_law_sets.<locals>.<lambda>")]⟩
 have O_Growing:ClsOk K "Growing" C_Growing:=⟨x_Growing,mk_Growing,in_Growing,kp_Growing,⟨pg_Growing,hd_Growing,po_Growing,sa_Growing⟩,cg_Growing,hd_Growing,cc_Growing,cs_Growing,ct_Growing,cm_Growing,qom ciint_Growing cibool_Growing cituple_Growing cilist_Growing cistr_Growing cidict_Growing⟩
 have m_Growing:=mg_of X G x_Growing;have k_17:=F_law_set.kp;have k_14:=F_law_power.kp;have k_15:=F_law_run.kp;have k_12:=F_law_mixed.kp;have k_13:=F_law_pile.kp;have k_10:=F_law_count.kp;have k_11:=F_law_least.kp;have h_law_sets:=qdn o_18 hh_18;have t_law_sets:=qlc x_18 l_18 rfl o_18 p_18;have F_law_sets:=qon (st:=xb) l_18 q_18 h_law_sets k_18;have k_9:=F_law_closed.kp;have k_3:=F_at_least.kp;have k_21:=F_mark_of.kp;have k_22:=F_marked.kp;have k_24:=F_one_ware_more.kp;have k_23:=F_one_ware_fewer.kp;have k_7:=F_grown.kp;have k_6:=F_count_marked.kp;have F_Growing_counted:=q8v (st:=zm) l_0 q_0 k_0;have F_Growing_often:=q8v (st:=j0) l_1 q_1 k_1;have k_8:=F_joined.kp;have k_2:=F_any_ware_more.kp;have k_20:=F_loses_by_each.kp;have k_4:=F_closed.kp;have k_16:=F_law_same.kp;have k_19:=F_lies_below.kp;have k_5:=F_count_by.kp;have k_law:=F_law.kp;have n_range:=mg_none_of X G z_range;have n_tuple:=mg_none_of X G z_tuple;have n_len:=mg_none_of X G z_len;have n_max:=mg_none_of X G z_max;have n_sorted:=mg_none_of X G z_sorted;have n_sum:=mg_none_of X G z_sum;have n_dict:=mg_none_of X G z_dict;have n_all:=mg_none_of X G z_all;have n_set:=mg_none_of X G z_set;have n_isinstance:=mg_none_of X G z_isinstance;have n_zip:=mg_none_of X G z_zip;have n_int:=mg_none_of X G z_int;have n_bool:=mg_none_of X G z_bool;have hP_L:(TL_law_sets,("_law_sets.<locals>.<lambda>" : Str))∈Lam.tab:=n9.mpr rfl;have hU_L:∀p∈Lam.tab,p.1=TL_law_sets->p.2="_law_sets.<locals>.<lambda>" :=fun p hp _=>by rw [n9.mp hp]
 have e:=hfa.symm.trans (mg_of X G x_law);cases e;have b_17:Binds K _ ["_law_mark"] []:=F_law_set.bindsTo (P:=fun fd=>Binds K fd ["_law_mark"] []) fun _ _ _ _ _ _ s us hk hl=>ln1 (fun _=>.of_eq rfl) us hl;have b_14:Binds K _ ["_law_many"] []:=F_law_power.bindsTo (P:=fun fd=>Binds K fd ["_law_many"] []) fun _ _ _ _ _ _ s us hk hl=>ln1 (fun _=>.of_eq rfl) us hl;have b_15:Binds K _ ["_law_number","_law_wares","_law_most"] []:=F_law_run.bindsTo (P:=fun fd=>Binds K fd ["_law_number","_law_wares","_law_most"] []) fun _ _ _ _ _ _ s us hk hl=>ln3 (fun _ _ _=>.of_eq rfl) us hl;have b_12:Binds K _ ["_law_script","_law_k"] []:=F_law_mixed.bindsTo (P:=fun fd=>Binds K fd ["_law_script","_law_k"] []) fun _ _ _ _ _ _ s us hk hl=>ln2 (fun _ _=>.of_eq rfl) us hl;have b_13:Binds K _ ["_law_script","_law_most_wares"] []:=F_law_pile.bindsTo (P:=fun fd=>Binds K fd ["_law_script","_law_most_wares"] []) fun _ _ _ _ _ _ s us hk hl=>ln2 (fun _ _=>.of_eq rfl) us hl;have b_10:Binds K _ ["_law_pile_here","_law_some"] []:=F_law_count.bindsTo (P:=fun fd=>Binds K fd ["_law_pile_here","_law_some"] []) fun _ _ _ _ _ _ s us hk hl=>ln2 (fun _ _=>.of_eq rfl) us hl;have b_11:Binds K _ ["_law_script","_law_pile_here"] []:=F_law_least.bindsTo (P:=fun fd=>Binds K fd ["_law_script","_law_pile_here"] []) fun _ _ _ _ _ _ s us hk hl=>ln2 (fun _ _=>.of_eq rfl) us hl;have b_18:Binds K _ ["_law_wares"] []:=F_law_sets.bindsTo (P:=fun fd=>Binds K fd ["_law_wares"] []) fun _ _ _ _ _ _ s us hk hl=>ln1 (fun _=>.of_eq rfl) us hl;have b_9:Binds K _ ["_law_pile_here","_law_least_here"] []:=F_law_closed.bindsTo (P:=fun fd=>Binds K fd ["_law_pile_here","_law_least_here"] []) fun _ _ _ _ _ _ s us hk hl=>ln2 (fun _ _=>.of_eq rfl) us hl;have b_3:Binds K _ ["pairs","least"] []:=F_at_least.bindsTo (P:=fun fd=>Binds K fd ["pairs","least"] []) fun _ _ _ _ _ _ s us hk hl=>ln2 (fun _ _=>.of_eq rfl) us hl;have b_21:Binds K _ ["some"] []:=F_mark_of.bindsTo (P:=fun fd=>Binds K fd ["some"] []) fun _ _ _ _ _ _ s us hk hl=>ln1 (fun _=>.of_eq rfl) us hl;have b_22:Binds K _ ["pile"] []:=F_marked.bindsTo (P:=fun fd=>Binds K fd ["pile"] []) fun _ _ _ _ _ _ s us hk hl=>ln1 (fun _=>.of_eq rfl) us hl;have b_24:Binds K _ ["some","wares"] []:=F_one_ware_more.bindsTo (P:=fun fd=>Binds K fd ["some","wares"] []) fun _ _ _ _ _ _ s us hk hl=>ln2 (fun _ _=>.of_eq rfl) us hl;have b_23:Binds K _ ["some"] []:=F_one_ware_fewer.bindsTo (P:=fun fd=>Binds K fd ["some"] []) fun _ _ _ _ _ _ s us hk hl=>ln1 (fun _=>.of_eq rfl) us hl;have b_7:Binds K _ ["layer","wares"] []:=F_grown.bindsTo (P:=fun fd=>Binds K fd ["layer","wares"] []) fun _ _ _ _ _ _ s us hk hl=>ln2 (fun _ _=>.of_eq rfl) us hl;have b_6:Binds K _ ["marked_runs","some"] []:=F_count_marked.bindsTo (P:=fun fd=>Binds K fd ["marked_runs","some"] []) fun _ _ _ _ _ _ s us hk hl=>ln2 (fun _ _=>.of_eq rfl) us hl;have b_0:Binds K _ ["self","pile","least"] []:=F_Growing_counted.bindsTo (P:=fun fd=>Binds K fd ["self","pile","least"] []) fun _ _ _ _ _ _ s us hk hl=>ln3 (fun _ _ _=>.of_eq rfl) us hl;have b_1:Binds K _ ["self","pile","least"] []:=F_Growing_often.bindsTo (P:=fun fd=>Binds K fd ["self","pile","least"] []) fun _ _ _ _ _ _ s us hk hl=>ln3 (fun _ _ _=>.of_eq rfl) us hl;have b_8:Binds K _ ["one","other"] []:=F_joined.bindsTo (P:=fun fd=>Binds K fd ["one","other"] []) fun _ _ _ _ _ _ s us hk hl=>ln2 (fun _ _=>.of_eq rfl) us hl;have b_2:Binds K _ ["some","wares"] []:=F_any_ware_more.bindsTo (P:=fun fd=>Binds K fd ["some","wares"] []) fun _ _ _ _ _ _ s us hk hl=>ln2 (fun _ _=>.of_eq rfl) us hl;have b_20:Binds K _ ["some","counts","wares"] []:=F_loses_by_each.bindsTo (P:=fun fd=>Binds K fd ["some","counts","wares"] []) fun _ _ _ _ _ _ s us hk hl=>ln3 (fun _ _ _=>.of_eq rfl) us hl;have b_4:Binds K _ ["pile","least"] []:=F_closed.bindsTo (P:=fun fd=>Binds K fd ["pile","least"] []) fun _ _ _ _ _ _ s us hk hl=>ln2 (fun _ _=>.of_eq rfl) us hl;have b_16:Binds K _ ["_law_found","_law_due"] []:=F_law_same.bindsTo (P:=fun fd=>Binds K fd ["_law_found","_law_due"] []) fun _ _ _ _ _ _ s us hk hl=>ln2 (fun _ _=>.of_eq rfl) us hl;have b_19:Binds K _ ["one","other"] []:=F_lies_below.bindsTo (P:=fun fd=>Binds K fd ["one","other"] []) fun _ _ _ _ _ _ s us hk hl=>ln2 (fun _ _=>.of_eq rfl) us hl;have b_5:Binds K _ ["pairs","some"] []:=F_count_by.bindsTo (P:=fun fd=>Binds K fd ["pairs","some"] []) fun _ _ _ _ _ _ s us hk hl=>ln2 (fun _ _=>.of_eq rfl) us hl;refine⟨L,[(cL_law_sets,TL_law_sets)],_,fun p hp=>(by rw [n9.mp hp];exact n9.mpr rfl),fun p hp=>(by rw [n9.mp hp];exact⟨nl_18,_,r_18,t_law_sets⟩),F_law.bindsTo (P:=fun fd=>∀(s:Shared) (v:Value),BindsTo s fd ⟨[v],[]⟩ [("_law_script",v)]) (fun _ _ _ _ _ _ s v=>.of_eq rfl),fun base _ _ B_L=>?_⟩;have o_17:=qgr (P:=l.prog) (w:=w) (mg:=mg) (base:=base) F_law_set n_range n_tuple;have c_17:=Cal.mk o_17 (mg_of X G x_17) k_17;have o_14:=qcs (P:=l.prog) (w:=w) (mg:=mg) (base:=base) F_law_power;have c_14:=Cal.mk o_14 (mg_of X G x_14) k_14;have o_15:=qgu (P:=l.prog) (w:=w) (mg:=mg) (base:=base) F_law_run c_17 b_17 c_14 b_14;have c_15:=Cal.mk o_15 (mg_of X G x_15) k_15;have o_12:=qcu (P:=l.prog) (w:=w) (mg:=mg) (base:=base) F_law_mixed n_len;have c_12:=Cal.mk o_12 (mg_of X G x_12) k_12;have o_13:=qdv (P:=l.prog) (w:=w) (mg:=mg) (base:=base) F_law_pile c_15 b_15 c_12 b_12 n_range n_len n_tuple;have c_13:=Cal.mk o_13 (mg_of X G x_13) k_13;have o_10:=qcw (P:=l.prog) (w:=w) (mg:=mg) (base:=base) F_law_count n_len;have c_10:=Cal.mk o_10 (mg_of X G x_10) k_10;have o_11:=qcy (P:=l.prog) (w:=w) (mg:=mg) (base:=base) F_law_least c_10 b_10 c_17 b_17 c_14 b_14 n_max n_len;have c_11:=Cal.mk o_11 (mg_of X G x_11) k_11;have o_18:=qdy (P:=l.prog) (w:=w) (mg:=mg) (base:=base) c_17 b_17 c_14 b_14 n_sorted n_range n_len F_law_sets hP_L hU_L B_L;have c_18:=Cal.mk o_18 (mg_of X G x_18) k_18;have o_9:=qao (P:=l.prog) (w:=w) (mg:=mg) (base:=base) F_law_closed c_18 b_18 c_10 b_10 n_range n_tuple n_sorted;have c_9:=Cal.mk o_9 (mg_of X G x_9) k_9;have o_3:=qe1 (P:=l.prog) (w:=w) (mg:=mg) (base:=base) F_at_least n_tuple;have c_3:=Cal.mk o_3 (mg_of X G x_3) k_3;have o_21:=qgx (P:=l.prog) (w:=w) (mg:=mg) (base:=base) F_mark_of n_sum;have c_21:=Cal.mk o_21 (mg_of X G x_21) k_21;have o_22:=qjb (P:=l.prog) (w:=w) (mg:=mg) (base:=base) F_marked c_21 b_21;have c_22:=Cal.mk o_22 (mg_of X G x_22) k_22;have o_24:=q74 (P:=l.prog) (w:=w) (mg:=mg) (base:=base) F_one_ware_more n_range;have c_24:=Cal.mk o_24 (mg_of X G x_24) k_24;have o_23:=q67 (P:=l.prog) (w:=w) (mg:=mg) (base:=base) F_one_ware_fewer n_range n_len;have c_23:=Cal.mk o_23 (mg_of X G x_23) k_23;have o_7:=qm6 (P:=l.prog) (w:=w) (mg:=mg) (base:=base) F_grown c_24 b_24 c_23 b_23 n_dict n_all;have c_7:=Cal.mk o_7 (mg_of X G x_7) k_7;have o_6:=q8i (P:=l.prog) (w:=w) (mg:=mg) (base:=base) F_count_marked c_21 b_21 n_sum;have c_6:=Cal.mk o_6 (mg_of X G x_6) k_6;have o_0:=q5k (P:=l.prog) (w:=w) (mg:=mg) (base:=base) F_Growing_counted c_22 b_22 c_7 b_7 c_6 b_6 c_3 b_3 n_tuple;have c_0:CalM l.prog w K mg base "Growing" "counted" C_Growing _ _ _ _ _ _:=⟨o_0,⟨x_0,i_0,k_0⟩⟩
 have o_1:=q77 (P:=l.prog) (w:=w) (mg:=mg) (base:=base) F_Growing_often O_Growing c_3 b_3 c_0 b_0;have c_1:CalM l.prog w K mg base "Growing" "often" C_Growing _ _ _ _ _ _:=⟨o_1,⟨x_1,i_1,k_1⟩⟩
 have o_8:=qje (P:=l.prog) (w:=w) (mg:=mg) (base:=base) F_joined n_tuple n_sorted n_set;have c_8:=Cal.mk o_8 (mg_of X G x_8) k_8;have o_2:=q7b (P:=l.prog) (w:=w) (mg:=mg) (base:=base) F_any_ware_more c_8 b_8 n_range;have c_2:=Cal.mk o_2 (mg_of X G x_2) k_2;have o_20:=q7e (P:=l.prog) (w:=w) (mg:=mg) (base:=base) F_loses_by_each c_2 b_2 n_all;have c_20:=Cal.mk o_20 (mg_of X G x_20) k_20;have o_4:=qjg (P:=l.prog) (w:=w) (mg:=mg) (base:=base) F_closed O_Growing m_Growing c_1 b_1 c_20 b_20 n_dict n_tuple;have c_4:=Cal.mk o_4 (mg_of X G x_4) k_4;have o_16:=qe5 (P:=l.prog) (w:=w) (mg:=mg) (base:=base) F_law_same (mg_of X G x_16) k_16 b_16 n_isinstance n_tuple n_zip n_int n_bool n_len 16;have c_16:=Cal.mk o_16 (mg_of X G x_16) k_16;have o_19:=qas (P:=l.prog) (w:=w) (mg:=mg) (base:=base) F_lies_below n_all;have c_19:=Cal.mk o_19 (mg_of X G x_19) k_19;have o_5:=qe8 (P:=l.prog) (w:=w) (mg:=mg) (base:=base) F_count_by c_19 b_19 n_max;have c_5:=Cal.mk o_5 (mg_of X G x_5) k_5;exact qr6 (qs5 (P:=l.prog) (w:=w) (mg:=mg) (base:=base) F_law c_13 b_13 c_11 b_11 c_9 b_9 c_4 b_4 c_16 b_16 c_5 b_5 n_len) hm
end My
namespace PySem.W.Fast
theorem tw5728005778413210442 : True := trivial
theorem tw15291437984651781174 : True := trivial
theorem tw748564840853549083 : True := trivial
theorem tw3486587456724546792 : True := trivial
theorem tw11920736362537979511 : True := trivial
theorem tw3374642995549564603 : True := trivial
theorem tw9362006339203444855 : True := trivial
theorem tw8064504399849315970 : True := trivial
theorem tw8683806529699950842 : True := trivial
theorem tw5235006040324892325 : True := trivial
theorem tw16410875641883051354 : True := trivial
theorem tw16872432828660663735 : True := trivial
theorem tw6667518155783257854 : True := trivial
theorem tw3959609601345279980 : True := trivial
theorem tw15875573138107499952 : True := trivial
end PySem.W.Fast
open PySem PySem.W PyProof.Rows
local macro_rules | `(tactic| walk_at "F")=> `(tactic| (letI:DL.Lam:=⟨[]⟩;exact DL.q8v (by k_is) (by k_is) (by k_is)))
set_option maxHeartbeats 0 in
theorem PySem.Challenge.cw_oftentogether_k22_whole_closed_holds : PySem.Challenge.rw_oftentogether_k22_whole_closed.Holds := by
 w_on;o_law;k_head;(case hw=>w_witness2)
 k_fill
 refine DL.qoo (l:=PySem.Challenge.rw_oftentogether_k22_whole_closed) (k:=18) (x:="_law_script") rfl rfl ⟨rfl,by decide,by decide⟩ (fun w h Y=>by first|exact PySem.W.kIn_of Y|exact PySem.W.km_in_of Y) ?F
 case F=>
  intro w mg fa h KX G hmg;refine' My.all_mk KX G hmg My.qmr ?x_Growing ?mk_Growing ?in_Growing ?kp_Growing ?pg_Growing ?hd_Growing ?po_Growing ?sa_Growing ?cg_Growing ?cc_Growing ?cs_Growing ?ct_Growing ?cm_Growing ?ciint_Growing ?cibool_Growing ?cituple_Growing ?cilist_Growing ?cistr_Growing ?cidict_Growing ?x_17 ?F_law_set ?x_14 ?F_law_power ?x_15 ?F_law_run ?x_12 ?F_law_mixed ?x_13 ?F_law_pile ?x_10 ?F_law_count ?x_11 ?F_law_least ?x_18 ?l_18 ?q_18 ?k_18 ?o_18 ?p_18 ?hh_18 ?nl_18 ?r_18 ?x_9 ?F_law_closed ?x_3 ?F_at_least ?x_21 ?F_mark_of ?x_22 ?F_marked ?x_24 ?F_one_ware_more ?x_23 ?F_one_ware_fewer ?x_7 ?F_grown ?x_6 ?F_count_marked ?x_0 ?i_0 ?l_0 ?q_0 ?k_0 ?x_1 ?i_1 ?l_1 ?q_1 ?k_1 ?x_8 ?F_joined ?x_2 ?F_any_ware_more ?x_20 ?F_loses_by_each ?x_4 ?F_closed ?x_16 ?F_law_same ?x_19 ?F_lies_below ?x_5 ?F_count_by ?x_law ?F_law ?z_range ?z_tuple ?z_len ?z_max ?z_sorted ?z_sum ?z_dict ?z_all ?z_set ?z_isinstance ?z_zip ?z_int ?z_bool
  (case x_Growing=>k_is)
  (case mk_Growing=>k_is)
  (case in_Growing=>k_is)
  (case kp_Growing=>k_is)
  (case pg_Growing=>k_is)
  (case hd_Growing=>k_is)
  (case po_Growing=>k_is)
  (case sa_Growing=>k_is)
  (case cg_Growing=>k_is)
  (case cc_Growing=>k_is)
  (case cs_Growing=>k_is)
  (case ct_Growing=>k_is)
  (case cm_Growing=>k_is)
  (case ciint_Growing=>k_is)
  (case cibool_Growing=>k_is)
  (case cituple_Growing=>k_is)
  (case cilist_Growing=>k_is)
  (case cistr_Growing=>k_is)
  (case cidict_Growing=>k_is)
  (case x_17=>k_is)
  (case F_law_set=>walk_at "F")
  (case x_14=>k_is)
  (case F_law_power=>walk_at "F")
  (case x_15=>k_is)
  (case F_law_run=>walk_at "F")
  (case x_12=>k_is)
  (case F_law_mixed=>walk_at "F")
  (case x_13=>k_is)
  (case F_law_pile=>walk_at "F")
  (case x_10=>k_is)
  (case F_law_count=>walk_at "F")
  (case x_11=>k_is)
  (case F_law_least=>walk_at "F")
  (case x_18=>k_is)
  (case l_18=>k_is)
  (case q_18=>k_is)
  (case k_18=>k_is)
  (case o_18=>k_is)
  (case p_18=>first|rfl|decide +kernel)
  (case hh_18=>first|rfl|decide +kernel)
  (case nl_18=>first|kernel_rfl|rfl)
  (case r_18=>first|rfl|decide +kernel)
  (case x_9=>k_is)
  (case F_law_closed=>walk_at "F")
  (case x_3=>k_is)
  (case F_at_least=>walk_at "F")
  (case x_21=>k_is)
  (case F_mark_of=>walk_at "F")
  (case x_22=>k_is)
  (case F_marked=>walk_at "F")
  (case x_24=>k_is)
  (case F_one_ware_more=>walk_at "F")
  (case x_23=>k_is)
  (case F_one_ware_fewer=>walk_at "F")
  (case x_7=>k_is)
  (case F_grown=>walk_at "F")
  (case x_6=>k_is)
  (case F_count_marked=>walk_at "F")
  (case x_0=>k_is)
  (case i_0=>k_is)
  (case l_0=>k_is)
  (case q_0=>k_is)
  (case k_0=>k_is)
  (case x_1=>k_is)
  (case i_1=>k_is)
  (case l_1=>k_is)
  (case q_1=>k_is)
  (case k_1=>k_is)
  (case x_8=>k_is)
  (case F_joined=>walk_at "F")
  (case x_2=>k_is)
  (case F_any_ware_more=>walk_at "F")
  (case x_20=>k_is)
  (case F_loses_by_each=>walk_at "F")
  (case x_4=>k_is)
  (case F_closed=>walk_at "F")
  (case x_16=>k_is)
  (case F_law_same=>walk_at "F")
  (case x_19=>k_is)
  (case F_lies_below=>walk_at "F")
  (case x_5=>k_is)
  (case F_count_by=>walk_at "F")
  (case x_law=>k_is)
  (case F_law=>walk_at "F")
  (case z_range=>k_is)
  (case z_tuple=>k_is)
  (case z_len=>k_is)
  (case z_max=>k_is)
  (case z_sorted=>k_is)
  (case z_sum=>k_is)
  (case z_dict=>k_is)
  (case z_all=>k_is)
  (case z_set=>k_is)
  (case z_isinstance=>k_is)
  (case z_zip=>k_is)
  (case z_int=>k_is)
  (case z_bool=>k_is)
