import PyProof.Rows.All
import Wide.All
import OpenK.AllK
import Wide.FinOn
import Lean
import PyProof.EqAt
import PyProof.EqKinds
import PyProof.TupleCall
import PyProof.NeKinds
import PyProof.Rows.SortRuns
import PyProof.Rows.SortShell
import KE.KSortTup
import KE.KLam
import KE.KNestM
import PySem.SetOps
import PyProof.SetKind
import PyProof.DictKinds
import PyProof.DictStraight
import PyProof.FactsAll.set_0
import PyProof.FactsAll.set_1
import PyProof.FactsAll.set_2
import PyProof.FactsAll.set_3
import PyProof.Slots
import PyProof.Rows.SetFrom
import PyProof.TupleIter
import PyProof.Walks
import PyProof.CollectWalk
import PyProof.CollectIter
import PyProof.IsiH_list
import PyProof.AttrMiss
import KE.KDictOf
import KE.KDictList
import PyProof.DictRoadsH
import PyProof.AutoSeq1
import PyProof.TupleOfGen
import KE.KRevIter
import PyProof.ListNew
import PyProof.IsiH_tuple
import PyProof.DictItems
import KE.KPairComp
import PyProof.MinMaxWalk
import PyProof.SeqI3
import PyProof.Rows.CallKwBuiltin
import PySem.Challenge.RW_oftentogether_k23_greatest_and_smallest
set_option maxRecDepth 100000
set_option maxHeartbeats 4000000
set_option Elab.async false
set_option linter.all false
abbrev g0:=@PySem.wpAny_bind
abbrev g9:=@PySem.wpAny_pure
abbrev gc:=@PySem.Heap.get?_push_of_some
abbrev gd:=@Option.bind_eq_some_iff
abbrev gf:=@PySem.Heap.get?_push_size
abbrev gh:=@Bool.false_eq_true
abbrev gj:=@List.map_cons
abbrev gm:=@List.mem_cons_self
abbrev gq:=@List.mem_cons_of_mem
abbrev gr:=@List.size_toArray
abbrev gu:=@Nat.lt_of_lt_of_le
abbrev gv:=@PySem.Heap.lt_size
abbrev gw:=@Nat.le_refl
abbrev gz:=@Nat.ne_of_lt
abbrev m4:=@PyProof.Rows.wpS_bind
abbrev m5:=@List.getElem?_set_ne
abbrev m6:=@Bool.and_eq_true
abbrev m8:=@Option.map_eq_some_iff
abbrev m9:=@Option.bind_some
abbrev ma:=@List.getElem?_eq_getElem
abbrev md:=@Option.some.inj
abbrev mf:=@Bool.false_ne_true
abbrev mh:=@List.mem_cons
abbrev mi:=@if_pos
abbrev mj:=@List.length_map
abbrev mm:=@PyProof.Rows.wpS_pure
abbrev mn:=@if_neg
abbrev mq:=@Nat.le_trans
abbrev mr:=@List.all_eq_true
abbrev mv:=@List.getElem?_map
abbrev my:=@List.append_assoc
abbrev n8:=@List.getElem?_eq_some_iff
abbrev n9:=@List.mem_singleton
abbrev ng:=@Ne.symm
abbrev nh:=@PySem.wpAny_holding
abbrev ni:=@List.mem_map
abbrev nj:=@List.map_map
abbrev nk:=@List.mem_append_right
abbrev nt:=@Array.length_toList
abbrev nu:=@if_true
abbrev nv:=@decide_eq_true
abbrev ny:=@List.mem_append
abbrev nz:=@if_false
abbrev p0:=@List.length_take
abbrev p6:=@PySem.wpAny_call_entry
abbrev p7:=@List.length_cons
abbrev p8:=@List.filter_cons
abbrev p9:=@Option.map_some
abbrev pb:=@List.pairwise_append
abbrev pd:=@PySem.Around.under_plainId
abbrev pf:=@PySem.Heap.size_push
abbrev ph:=@List.take_append_drop
abbrev pj:=@PySem.wpAny_newObj_type
abbrev pk:=@List.length_append
abbrev pz:=@Array.toList_append
abbrev t5:=@PySem.wpAny_mono
abbrev t6:=@List.take_succ_eq_append_getElem
abbrev t7:=@PySem.Heap.size_update
abbrev t9:=@PySem.codeAny_builtin
abbrev td:=@List.drop_eq_getElem_cons
abbrev tf:=@PySem.Heap.get?_update_other
abbrev tm:=@decide_eq_false
abbrev tq:=@Nat.ne_of_gt
abbrev tu:=@List.lookup_cons
abbrev tw:=@Nat.not_lt_zero
abbrev tx:=@PySem.wpAny_ite_split
abbrev u6:=@PySem.Heap.get?_push_ne
abbrev u9:=@PySem.wpAny_callSpecial?_slot
abbrev uc:=@List.getElem?_append_left
abbrev ud:=@List.map_append
abbrev ue:=@Nat.lt_succ_self
abbrev uf:=@PySem.plainId_quiet
abbrev ug:=@Nat.zero_le
abbrev uh:=@List.mem_of_getElem?
abbrev ui:=@List.take_of_length_le
abbrev uj:=@List.mem_iff_getElem
abbrev uk:=@PySem.wpAny_setField_rec
abbrev um:=@PyProof.Rows.wpS_mono
abbrev uo:=@List.mem_range
abbrev uq:=@List.perm_append_comm
abbrev ur:=@List.length_filter_le
abbrev uw:=@PySem.wpAny_field
abbrev uy:=@List.getElem?_append_right
abbrev uz:=@List.length_drop
abbrev g00:=@PySem.wpAny_askSetting
abbrev g01:=@decide_eq_true_eq
abbrev g02:=@PySem.wpAny_rule
abbrev g03:=@PySem.wpAny_seqItems
abbrev g04:=@Bool.eq_iff_iff
abbrev g05:=@List.length_set
abbrev g06:=@List.not_mem_nil
abbrev g07:=@PyProof.Rows.wpS_forRange
abbrev g08:=@PySem.Heap.SameBut.update
abbrev g09:=@PySem.Heap.get?_update_ne
abbrev g0a:=@List.Perm.append_left
abbrev g0b:=@ite_congr
abbrev g0c:=@of_decide_eq_true
abbrev g0d:=@List.pairwise_map
abbrev g0e:=@PyProof.Rows.slot_tuple_getitem
abbrev g0f:=@congrArg
abbrev g0g:=@decide_eq_false_iff_not
abbrev g0h:=@List.mem_filter
abbrev g0i:=@List.all_map
abbrev g0j:=@PyProof.Rows.size_push'
abbrev g0k:=@Int.toNat_natCast
abbrev g0l:=@PySem.AutoSeq1.wpAny_loadPart'
abbrev g0m:=@Array.getElem?_toList
abbrev g0n:=@List.getD_eq_getElem?_getD
abbrev g0o:=@Nat.lt_succ_of_lt
abbrev g0p:=@List.nil_append
abbrev g0q:=@PySem.Heap.get?_update_self
abbrev g0r:=@PySem.F.slot_dict_itemiterator_next
abbrev g0s:=@Nat.lt_irrefl
abbrev g0t:=@PySem.wpAny_letGo
abbrev g0u:=@Array.toList_extract
abbrev g0v:=@List.Pairwise.filter
abbrev g0w:=@List.getElem?_replicate
abbrev g0x:=@PySem.wpAny_truthy_bool
abbrev g0y:=@Int.emod_nonneg
abbrev g0z:=@PySem.PassesOwn.never
abbrev g10:=@List.map_nil
abbrev g11:=@PySem.wpAny_attempt
abbrev g12:=@Bool.not_true
abbrev g13:=@Array.perm_iff_toList_perm
abbrev g14:=@PySem.wpAny_Call_Name_kw
abbrev g15:=@PySem.builtinLookup_eq_fast
abbrev g16:=@decide_eq_true_iff
abbrev g17:=@Nat.le_succ
abbrev g18:=@List.nodup_cons
abbrev g19:=@Option.isSome_iff_exists
abbrev g1a:=@PySem.wpAny_typeOf
abbrev g1b:=@Bool.or_eq_true
abbrev g1c:=@List.mem_of_mem_take
abbrev g1d:=@PyProof.Rows.get?_update_seq
abbrev g1e:=@PySem.wpAny_typeNameOfWhole_itemiter
abbrev g1f:=@Nat.le_of_succ_le
abbrev g1g:=@PySem.wpAny_pyIter_list
abbrev g1h:=@List.flatMap_cons
abbrev g1i:=@List.eq_nil_of_length_eq_zero
abbrev g1j:=@beq_eq_false_iff_ne
abbrev g1k:=@List.filterMap_cons
abbrev g1l:=@List.replicate_succ
abbrev g1m:=@List.mem_map_of_mem
abbrev g1n:=@PySem.wpAny_tryCatch
abbrev g1o:=@List.getElem?_set_self
abbrev g1p:=@PySem.wpAny_isOneOf_itemiter
abbrev g1q:=@PyProof.Rows.callWith_type1
abbrev g1r:=@List.pairwise_cons
abbrev g1s:=@PyProof.Rows.F.plain_set_update_loop
abbrev g1t:=@Int.emod_lt_of_pos
abbrev g1u:=@PySem.wpAny_passesOwn
abbrev g1v:=@PySem.wpAny_updateSeq
abbrev g1w:=@PySem.F.slot_tuple_iterator_next
abbrev g1x:=@PyProof.Rows.listUpdate_at
abbrev g1y:=@PySem.codeAny_call_builtin
abbrev g1z:=@Classical.byContradiction
abbrev g20:=@List.getElem?_take_of_lt
abbrev g21:=@or_false
abbrev g22:=@PySem.AutoSeq1.sub_tuple_tuple
abbrev g23:=@getElem?_pos
abbrev g24:=@Nat.le_add_right
abbrev g25:=@List.Pairwise.imp_of_mem
abbrev g26:=@List.getElem_mem
abbrev g27:=@PySem.F.called_set
abbrev g28:=@PySem.F.plain_max_loop
abbrev g29:=@PySem.F.plain_min_loop
abbrev g2a:=@PySem.mem_of_lookup
abbrev g2b:=@List.pairwise_singleton
abbrev g2c:=@List.forIn_cons
abbrev g2d:=@List.length_nil
abbrev g2e:=@PySem.typeLookup_type
abbrev g2f:=@PySem.sizeLine_eq
abbrev g2g:=@List.range_succ_eq_map
abbrev g2h:=@List.getElem_cons_succ
abbrev g2i:=@PySem.Heap.SameBut.refl
abbrev g2j:=@List.flatten_cons
abbrev g2k:=@Bool.not_eq_true'
abbrev g2l:=@PySem.wpAny_storeSet_of
abbrev g2m:=@List.filter_congr
abbrev g2n:=@List.cons.sizeOf_spec
abbrev g2o:=@Bool.not_false
abbrev g2p:=@PySem.isSubtype_type
abbrev g2q:=@List.mem_append_left
abbrev g2r:=@PySem.wpAny_isInstance
abbrev g2s:=@PySem.F.slot_tuple_mul
abbrev g2t:=@List.mem_of_mem_drop
abbrev g2u:=@List.nodup_range
abbrev g2v:=@decide_eq_decide
abbrev g2w:=@PySem.wpAny_of_eq
abbrev g2x:=@List.length_zipWith
abbrev g2y:=@Int.toNat_of_nonneg
abbrev g2z:=@List.map_congr_left
abbrev g30:=@List.append_nil
abbrev g31:=@List.of_mem_zip
abbrev g32:=@PySem.wpAny_loadPart'
abbrev g33:=@List.pairwise_iff_getElem
abbrev g34:=@List.length_zip
abbrev g35:=@PySem.F.slot_tuple_getattribute
abbrev g36:=@PySem.codeAny_mono
abbrev g37:=@PySem.F.args_tuple_add_2
abbrev g38:=@List.filterMap_map
abbrev g39:=@PySem.wpAny_pyIter_tuple
abbrev g3a:=@PySem.Obj.data_mapFields
abbrev g3b:=@Bool.not_eq_false'
abbrev g3c:=@List.Pairwise.drop
abbrev g3d:=@List.Pairwise.take
abbrev g3e:=@PyProof.Rows.F.entry_set_update_loop
abbrev g3f:=@PySem.F.slot_list_getattribute
abbrev g3g:=@List.filter_filter
abbrev g3h:=@PySem.wpAny_call
abbrev g3i:=@List.forIn_nil
abbrev g3j:=@PySem.wpAny_setField
abbrev g3k:=@PyProof.Rows.wpS_get
abbrev g3l:=@List.take_succ
abbrev g3m:=@PySem.F.entry_tuple_add
abbrev g3n:=@List.length_eq_zero_iff
abbrev g3o:=@List.eraseIdx_cons_succ
abbrev g3p:=@List.getElem?_cons_succ
abbrev g3q:=@List.getElem?_cons_zero
abbrev g3r:=@Option.some.injEq
abbrev g3s:=@bne_self_eq_false
abbrev g3t:=@List.Pairwise.imp
abbrev g3u:=@PySem.wpAny_setState_of
abbrev g3v:=@PySem.F.plain_list_iadd
abbrev g3w:=@PySem.W.cellsFrom_some
abbrev g3x:=@PySem.F.slot_tuple_add
abbrev g3y:=@List.pairwise_lt_range
abbrev g3z:=@List.all_cons
abbrev g40:=@PySem.wpAny_newList
abbrev g41:=@Bool.and_true
abbrev g42:=@Option.join_some
abbrev g43:=@List.cons_append
abbrev g44:=@List.length_singleton
abbrev g45:=@List.mem_iff_getElem?
abbrev g46:=@PySem.wpAny_notOrdered_dict
abbrev g47:=@PySem.F.args_dict_itemiterator_next_1
abbrev g48:=@PySem.wpAny_execs_nil
abbrev g49:=@beq_iff_eq
abbrev g4a:=@PySem.call_meets
abbrev g4b:=@PySem.wpAny_updateSeq_pair
abbrev g4c:=@PySem.F.slot_zip_next
abbrev g4d:=@PySem.wpAny_ite_false
abbrev g4e:=@PyProof.Rows.wpS_modify
abbrev g4f:=@Array.getElem_toList
abbrev g4g:=@Array.toList_reverse
abbrev g4h:=@PyProof.Rows.listItems_at
abbrev g4i:=@Nat.not_lt
abbrev g4j:=@PySem.intKind_is
abbrev g4k:=@PySem.F.entry_dict_itemiterator_next
abbrev g4l:=@Nat.two_pow_pos
abbrev g4m:=@Bool.false_and
abbrev g4n:=@List.drop_zero
abbrev g4o:=@PySem.F.args_tuple_iterator_next_1
abbrev g4p:=@PySem.wpAny_newTuple
abbrev g4q:=@List.Perm.refl
abbrev g4r:=@List.drop_drop
abbrev g4s:=@PySem.wpAny_fieldsOf
abbrev g4t:=@PyProof.Rows.seqEpoch_at
abbrev g4u:=@List.mem_filterMap
abbrev g4v:=@List.lookup_append
abbrev g4w:=@PySem.F.attrBase_ValueError
abbrev g4x:=@PySem.F.entry_tuple_iterator_next
abbrev g4y:=@PySem.F.args_tuple_mul_2
abbrev g4z:=@PySem.tupleKind_room_in1
abbrev g50:=@List.idxOf_lt_length_of_mem
abbrev g51:=@PySem.Paired.length
abbrev g52:=@PySem.mem_of_lookup
abbrev g53:=@PySem.wpAny_handled
abbrev g54:=@PySem.wpAny_onRaise
abbrev g55:=@Array.toList_setIfInBounds
abbrev g56:=@List.map_drop
abbrev g57:=@List.perm_ext_iff_of_nodup
abbrev g58:=@List.getElem?_set
abbrev g59:=@PySem.F.entry_tuple_mul
abbrev g5a:=@Function.comp_def
abbrev g5b:=@PySem.wpAny_pyIter_slot
abbrev g5c:=@PySem.atKey_none_of_get
abbrev g5d:=@PySem.wpAny_dictEntries
abbrev g5e:=@List.getElem_append_right
abbrev g5f:=@Array.getElem?_eq_getElem
abbrev g5g:=@List.findIdx?_eq_none_iff
abbrev g5h:=@List.getLast?_eq_getElem?
abbrev g5i:=@Nat.le_of_lt
abbrev g5j:=@List.getElem_inj
abbrev g5k:=@PySem.concat_meets
abbrev g5l:=@PySem.noFill_tuple_add
abbrev g5m:=@List.drop_length
abbrev g5n:=@List.take_length
abbrev g5o:=@Nat.min_self
abbrev g5p:=@List.zipIdx_cons
abbrev g5q:=@PySem.AutoSeq1.idx_int
abbrev g5r:=@List.getElem_append_left
abbrev g5s:=@List.map_snd_zip
abbrev g5t:=@Nat.succ_ne_self
abbrev g5u:=@Nat.succ_pos
abbrev g5v:=@Nat.min_eq_right
abbrev g5w:=@decide_false
abbrev g5x:=@PySem.F.plainAttrs_list
abbrev g5y:=@PySem.SeqAt.EqAt.same
abbrev g5z:=@PySem.pushCells_keeps
abbrev g60:=@PySem.W.kia_one
abbrev g61:=@List.foldl_cons
abbrev g62:=@PySem.wpAny_dictEpoch
abbrev g63:=@Nat.min_eq_left
abbrev g64:=@List.sum_replicate_nat
abbrev g65:=@List.drop_of_length_le
abbrev g66:=@List.getElem_cons_zero
abbrev g67:=@decide_true
abbrev g68:=@List.length_replicate
abbrev g69:=@not_or
abbrev g6a:=@List.getElem?_zipWith
abbrev g6b:=@Bool.and_eq_false_iff
abbrev g6c:=@List.getElem?_eq_none
abbrev g6d:=@List.max?_eq_some_iff
abbrev g6e:=@List.min?_eq_some_iff
abbrev g6f:=@Option.some_or
abbrev g6g:=@Array.ext'
abbrev g6h:=@Bool.false_or
abbrev g6i:=@Bool.true_and
abbrev g6j:=@List.zip_map'
abbrev g6k:=@List.map_take
abbrev g6l:=@Bool.and_self
abbrev g6m:=@List.sum_cons
abbrev g6n:=@Nat.le_of_eq
abbrev g6o:=@Nat.lt_or_ge
abbrev g6p:=@Int.zero_add
namespace L2
open PySem PySem.Spec PyProof.Rows
abbrev Key:=Sum Int Str
def qmq:Key->Value->Bool
 | .inl k,v=>Value.isInt k v
 | .inr x,v=>Value.isStrOf x v
def qt2(w:World): Key->Int
 | .inl k=>hashInt k
 | .inr x=>hashStr w x
theorem jz:∀ {k:Key} {v:Value},qmq k v=true->(∃i t,k=Sum.inl i/\v=Value.int i t)\/(∃x t,k=Sum.inr x/\v=Value.str x t)
 | .inl i,v,h=>by
  obtain⟨t,e⟩:=Value.isInt_shape (k:=i) (v:=v) h;exact .inl ⟨i,t,rfl,e⟩
 | .inr x,v,h=>by
  obtain⟨t,e⟩:=Value.isStrOf_shape (x:=x) (v:=v) h;exact .inr ⟨x,t,rfl,e⟩
theorem qpe(a b:Int): decide ((Sum.inl a:Key)=Sum.inl b)=(a==b):=by
 by_cases e:a=b
 ·subst e;simp
 ·have h:¬(Sum.inl a:Key)=Sum.inl b:=fun q=>e (Sum.inl.inj q)
  rw [tm h];exact(g1j.mpr e).symm
theorem qpf(a b:Str): decide ((Sum.inr a:Key)=Sum.inr b)=decide (a=b):=by
 by_cases e:a=b
 ·subst e;simp
 ·have h:¬(Sum.inr a:Key)=Sum.inr b:=fun q=>e (Sum.inr.inj q)
  rw [tm h,tm e]
theorem qpg(a:Int)(b:Str): decide ((Sum.inl a:Key)=Sum.inr b)=false:=tm (fun q=>nomatch q)
theorem qph(a:Str)(b:Int): decide ((Sum.inr a:Key)=Sum.inl b)=false:=tm (fun q=>nomatch q)
def mixKind(prog:Program)(w:World): PySem.KeyKind prog w Key where
 is:=qmq
 hash:=qt2 w
 inj:=fun v a b ha hb=>by
  rcases jz ha with⟨i,t,rfl,rfl⟩|⟨x,t,rfl,rfl⟩
  ·rcases jz hb with⟨j,u,rfl,e⟩|⟨y,u,rfl,e⟩
   ·injection e with e1 _;rw [e1]
   ·exact nomatch e
  ·rcases jz hb with⟨j,u,rfl,e⟩|⟨y,u,rfl,e⟩
   ·exact nomatch e
   ·injection e with e1 _;rw [e1]
 byValue:=fun k v h=>by
  rcases jz h with⟨i,t,rfl,rfl⟩|⟨x,t,rfl,rfl⟩ <;> rfl
 pyHash:=fun hv h=>by
  rcases jz hv with⟨i,t,rfl,rfl⟩|⟨x,t,rfl,rfl⟩
  ·exact wpAny_pyHash_int h
  ·exact wpAny_pyHash_str h
 eqBool:=fun hu hv h=>by
  rcases jz hu with⟨i,t,rfl,rfl⟩|⟨x,t,rfl,rfl⟩
  ·rcases jz hv with⟨j,u,rfl,rfl⟩|⟨y,u,rfl,rfl⟩
   ·rw [qpe] at h;exact wpAny_eqBool_int h
   ·rw [qpg] at h;exact SeqAt.EqAt.int_str i t y u _ _ _ _ h
  ·rcases jz hv with⟨j,u,rfl,rfl⟩|⟨y,u,rfl,rfl⟩
   ·rw [qph] at h;exact SeqAt.EqAt.str_int x t j u _ _ _ _ h
   ·rw [qpf] at h;exact wpAny_eqBool_str h
 «strs» :=fun k x t v h=>by
  rcases jz h with⟨i,u,rfl,e⟩|⟨y,u,rfl,e⟩
  ·exact nomatch e
  ·injection e with e1 _
   subst e1;cases v <;> rfl
inductive V where
 | non|bl (b:Bool)|int (i:Int)|str (x:Str)|byt (b:Array UInt8)|flt (b:UInt64)|ref (a:Addr)|ty (n:String)
 deriving DecidableEq
def RelV:V->Value->Prop
 | .non,u=>u=Value.none
 | .bl b,u=>u=Value.bool b
 | .int i,u=>∃t,u=Value.int i t
 | .str x,u=>∃t,u=Value.str x t
 | .byt b,u=>∃t,u=Value.bytes b t
 | .flt b,u=>∃t,u=Value.float b t
 | .ref a,u=>u=Value.ref a
 | .ty n,u=>u=Value.type n
abbrev Vals:List V->List Value->Prop:=Paired RelV
theorem Vals.length{xs:List V}{us:List Value}(r:Vals xs us): xs.length=us.length:=g51 r
theorem Vals.get:∀ {xs:List V} {us:List Value} {i:Nat} {x:V},Vals xs us->xs[i]? = some x->∃u,us[i]? = some u/\RelV x u
 | _,_,_,_,.nil,e=>by simp at e
 | _,_,0,_,.cons r _,e=>by simp at e;subst e;exact⟨_,rfl,r⟩
 | _,_,i+1,x,.cons _ t,e=>by
  obtain⟨u,h1,h2⟩:=Vals.get (i:=i) (x:=x) t (by simpa using e);exact⟨u,by simpa using h1,h2⟩
theorem Vals.append:∀ {xs ys:List V} {us ws:List Value},Vals xs us->Vals ys ws->Vals (xs++ys) (us++ws)
 | _,_,_,_,.nil,s=>s
 | _,_,_,_,.cons r t,s=>.cons r (Vals.append t s)
theorem Vals.take:∀ {xs:List V} {us:List Value} (n:Nat),Vals xs us->Vals (xs.take n) (us.take n)
 | _,_,0,_=>.nil
 | _,_,_+1,.nil=>.nil
 | _,_,n+1,.cons r t=>.cons r (Vals.take n t)
theorem Vals.drop:∀ {xs:List V} {us:List Value} (n:Nat),Vals xs us->Vals (xs.drop n) (us.drop n)
 | _,_,0,r=>r
 | _,_,_+1,.nil=>.nil
 | _,_,n+1,.cons _ t=>Vals.drop n t
def RelO:Option V->Option Value->Prop
 | some v,some u=>RelV v u
 | none,none=>True
 | _,_=>False
def KV{κ : Type}: List (κ × V)->List (κ × Value)->Prop:=Paired fun(p : κ × V) (q : κ × Value)=>p.1=q.1/\RelV p.2 q.2
def kV:Key->V
 | .inl i=>.int i
 | .inr x=>.str x
inductive HO where
 /-- a list -/
 | lst (xs:List V)
 /-- a tuple (never changes) -/
 | tup (xs:List V)
 /-- a dict whose keys are ints and texts; one whose keys are tuples of ints and texts (the empty one is both) -/
 | dK (kvs:List (Key×V))|dT (kvs:List (List Key×V))
 /-- a set of ints: its members, its size -/
 | set (S:Int->Bool) (n:Nat)
 /-- an instance of the class at C, its dict at dx, its attributes -/
 | ins (C dx:Addr) (fs:List (Str×V))
 /-- the dict of the instance at x -/
 | own (x:Addr)
 /-- the dict of an exception -/
 | xd (fs:List (Str×V))
 /-- a bound method, f of x -/
 | met (f x:Addr)
 /-- a range object lo, lo + 1, .. below hi -/
 | rng (lo hi:Int)
 /-- a thing that is known to the object (the script; a dict while a loop walks it): read, never written while it is so -/
 | frz (o:Obj) (u:HO)
 /-- a code object's table -/
 | tbl (ps:Array Value)
 /-- any other thing, by what is true of its one object (a def of one's own: SetO a S n := HO.ext fun h => ..) -/
 | ext (φ : Heap->Prop)
abbrev Hp:=Addr->Option HO
def upd(H:Hp)(a:Addr)(o:HO): Hp:=fun b=>if b=a then some o else H b
theorem qq{H:Hp}{a:Addr}{o:HO}: upd H a o a=some o:=by unfold upd;rw [mi rfl]
theorem qk{H:Hp}{a b:Addr}{o:HO}(h:b≠a): upd H a o b=H b:=by unfold upd;rw [mn h]
theorem jg{H:Hp}{a b:Addr}{o:HO}(h:H a=some o)(h':H b=none): a≠b:=by
 intro e;subst e;rw [h] at h';cases h'
def TupX(h:Heap)(a:Addr)(items:Array Value): Prop:=∃o,h.get? a=some o/\o.cls=.type "tuple" /\ o.dict=none/\∃n,o.data=.seq items n
theorem TupX.up{h:Heap}{a:Addr}{items:Array Value}(p:TupX h a items): IsTup h a items:=let⟨o,x,y,_,z⟩:=p; ⟨o,x,y,z⟩
theorem TupX.new(h:Heap)(items:Array Value): TupX (h.push {cls:=.type "tuple",data:=.seq items}) h.objs.size items:=⟨_,gf _ rfl,rfl,rfl,_,rfl⟩
section
variable(P:Program)(w:World)
def ObjOk(H:Hp)(h:Heap)(a:Addr): HO->Prop
 | .lst xs=>xs.length<=sizeLine/\∃(its:List Value) (n:Nat),Vals xs its/\h.get? a=some {cls:=.type "list",data:=.seq its.toArray n}
 | .tup xs=>xs.length<=sizeLine/\∃its:List Value,Vals xs its/\TupX h a its.toArray
 | .dK kvs=>kvs.length<=sizeLine/\(a==sysModules)=false/\∃vs,KV kvs vs/\h.DictOf (mixKind P w) a vs
 | .dT kvs=>kvs.length<=sizeLine/\(a==sysModules)=false/\∃xs:List (List Key×Addr×Value),
   Paired (fun(p:List Key×V) (q:List Key×Addr×Value)=>p.1=q.1/\H q.2.1=some (.tup (p.1.map kV))/\RelV p.2 q.2.2) kvs xs /\
   ∃o es ep,h.get? a=some o/\o.ExactDict/\o.data=.dict es ep/\es.toList=xs.map (entryOfKey (tupleKind (mixKind P w)))/\(xs.map (·.1)).Nodup
 | .set S n=>h.SetOf (intKind P w) a S n
 | .ins C dx fs=>H dx=some (.own a)/\fs.length<=1000/\dx≠a/\h.get? a=some (PySem.W.instObj C dx) /\
   ∃mA,h.Ns1 dx mA/\(∀f,RelO (fs.lookup f) (mA f))/\PySem.Within mA (fs.map (·.1))
 | .own _=>∃o,h.get? a=some o
 | .xd fs=>∃mA,h.Ns1 a mA/\∀f,RelO (fs.lookup f) (mA f)
 | .rng lo hi=>∃t u v,h.get? a=some {cls:=.type "range",data:=.fields #[.int lo t,.int hi u,.int 1 v]}
 | .frz o u=>h.get? a=some o/\ObjOk H h a u
 | .tbl ps=>h.get? a=some {cls:=.none,data:=.fields ps}
 | .met f x=>h.get? a=some (PySem.W.methodObj (.ref f) (.ref x))
 | .ext φ => φ h/\(∃o,h.get? a=some o)/\∀h1 h2:Heap, φ h1->(∀o,h1.get? a=some o->h2.get? a=some o) -> φ h2
def HOk(H:Hp)(h:Heap): Prop:=∀a o,H a=some o->ObjOk P w H h a o
end
section
variable{P:Program}{w:World}{H H':Hp}{h h':Heap}{a:Addr}{o:HO}
theorem ObjOk.lt(x:ObjOk P w H h a o): a<h.objs.size:=by
 cases o with
 | lst xs=>obtain⟨_,_,_,_,e⟩:=x;exact gv e
 | tup xs=>obtain⟨_,_,_,p⟩:=x;exact p.up.lt
 | dK kvs=>obtain⟨_,_,_,_,o,_,_,e,_⟩:=x;exact gv e
 | dT kvs=>obtain⟨_,_,_,_,o,_,_,e,_⟩:=x;exact gv e
 | set S n=>obtain⟨o,_,_,_,e,_⟩:=x;exact gv e
 | ins C dx fs=>obtain⟨_,_,_,e,_⟩:=x;exact gv e
 | own y=>obtain⟨_,e⟩:=x;exact gv e
 | xd fs=>obtain⟨_,⟨_,_,_,e,_⟩,_⟩:=x;exact gv e
 | rng lo hi=>obtain⟨_,_,_,e⟩:=x;exact gv e
 | frz ob u=>obtain⟨e,_⟩:=x;exact gv e
 | tbl ps=>exact gv (show h.get? a=some _ from x)
 | met f y=>exact gv (show h.get? a=some _ from x)
 | ext φ =>obtain⟨_,⟨_,e⟩,_⟩:=x;exact gv e
theorem Paired.mapP{α β : Type}{F G : α -> β -> Prop}: ∀ {l₁:List α} {l₂:List β},Paired F l₁ l₂->(∀a b,F a b->G a b)->Paired G l₁ l₂
 | _,_,.nil,_=>.nil
 | _,_,.cons r t,f=>.cons (f _ _ r) (Paired.mapP t f)
theorem ObjOk.stay(x:ObjOk P w H h a o)(k:∀b u,(b=a\/H b=some (.own a))->h.get? b=some u->h'.get? b=some u)
  (ho:∀b,H b=some (.own a)->H' b=some (.own a)) (ht:∀b xs,H b=some (.tup xs)->H' b=some (.tup xs)):ObjOk P w H' h' a o:=by
 induction o with
 | lst xs=>obtain⟨z,its,n,r,e⟩:=x;exact⟨z,its,n,r,k _ _ (.inl rfl) e⟩
 | tup xs=>obtain⟨z,its,r,ob,e,c⟩:=x;exact⟨z,its,r,ob,k _ _ (.inl rfl) e,c⟩
 | dK kvs=>obtain⟨z,y,vs,r,ob,es,ep,e,c⟩:=x;exact⟨z,y,vs,r,ob,es,ep,k _ _ (.inl rfl) e,c⟩
 | dT kvs=>
  obtain⟨z,y,xs,r,ob,es,ep,e,c⟩:=x;exact⟨z,y,xs,Paired.mapP r fun p q z=>⟨z.1,ht _ _ z.2.1,z.2.2⟩,ob,es,ep,k _ _ (.inl rfl) e,c⟩
 | set S n=>obtain⟨ob,es,ep,t,e,c⟩:=x;exact⟨ob,es,ep,t,k _ _ (.inl rfl) e,c⟩
 | ins C dx fs=>
  obtain⟨d,z,ne,e,mA,⟨od,es,ep,e2,c⟩,r⟩:=x;exact⟨ho _ d,z,ne,k _ _ (.inl rfl) e,mA,⟨od,es,ep,k _ _ (.inr d) e2,c⟩,r⟩
 | own y=>obtain⟨ob,e⟩:=x;exact⟨ob,k _ _ (.inl rfl) e⟩
 | xd fs=>obtain⟨mA,⟨od,es,ep,e,c⟩,r⟩:=x;exact⟨mA,⟨od,es,ep,k _ _ (.inl rfl) e,c⟩,r⟩
 | rng lo hi=>obtain⟨t,u,v,e⟩:=x;exact⟨t,u,v,k _ _ (.inl rfl) e⟩
 | frz ob u ih=>obtain⟨e,q⟩:=x;exact⟨k _ _ (.inl rfl) e,ih q⟩
 | tbl ps=>
  have e:h.get? a=some {cls:=.none,data:=.fields ps}:=x;show h'.get? a=some {cls:=.none,data:=.fields ps};exact k a _ (.inl rfl) e
 | met f y=>
  have e:h.get? a=some (PySem.W.methodObj (.ref f) (.ref y)):=x;show h'.get? a=some (PySem.W.methodObj (.ref f) (.ref y));exact k a _ (.inl rfl) e
 | ext φ =>obtain⟨p,⟨o,e⟩,st⟩:=x;exact⟨st _ _ p fun o q=>k _ _ (.inl rfl) q,⟨o,k _ _ (.inl rfl) e⟩,st⟩
theorem HOk.lt(x:HOk P w H h)(e:H a=some o): a<h.objs.size:=(x a o e).lt
theorem HOk.fresh(x:HOk P w H h)(e:h.objs.size<=a): H a=none:=by
 cases q:H a with
 | none=>rfl
 | some u=>exact absurd (gu (x.lt q) e) (g0s _)
theorem HOk.kept(x:HOk P w H h)(k:∀b u,h.get? b=some u->h'.get? b=some u): HOk P w H h':=fun a o e=>
 (x a o e).stay (fun b u _ q=>k b u q) (fun _ q=>q) fun _ _ q=>q
theorem HOk.laid(x:HOk P w H h)(k:∀b u,h.get? b=some u->h'.get? b=some u)(hp:h.objs.size<=a)(new:ObjOk P w (upd H a o) h' a o): HOk P w (upd H a o) h':=fun b u e=>by
 have hn:=x.fresh hp
 by_cases hb:b=a
 ·subst hb;rw [qq] at e;cases e;exact new
 ·rw [qk hb] at e
  exact(x b u e).stay (fun c v _ q=>k c v q) (fun c q=>by rw [qk (jg q hn)];exact q) fun c xs q=>by rw [qk (jg q hn)];exact q
end
def Rd(H:Hp)(a:Addr)(u:HO): Prop:=H a=some u\/∃o,H a=some (.frz o u)
theorem Rd.ok{P:Program}{w:World}{H:Hp}{h:Heap}{a:Addr}{u:HO}(r:Rd H a u)(x:HOk P w H h): ObjOk P w H h a u:=by
 rcases r with r|⟨o,r⟩
 ·exact x a u r
 ·obtain⟨_,q⟩:=x a _ r
  exact q
def Mut:Option HO->Prop
 | some (.lst _)=>True
 | some (.dK _)=>True
 | some (.dT _)=>True
 | some (.set _ _)=>True
 | some (.ins _ _ _)=>True
 | some (.ext _)=>True
 | _=>False
section
variable{P:Program}{w:World}{H:Hp}{h h':Heap}{x e:Addr}{o':HO}
theorem HOk.write(ok:HOk P w H h)(mu:Mut (H x))(he:e=x\/H e=some (.own x))(k:∀b u,b≠e->h.get? b=some u->h'.get? b=some u)(heo:∃u,h'.get? e=some u)
  (new:ObjOk P w (upd H x o') h' x o'):HOk P w (upd H x o') h':=fun b u q=>by
 have nown:∀c y,H c=some (.own y)->c≠x:=fun c y r z=>by subst z;rw [r] at mu;exact mu
 have ntup:∀c xs,H c=some (.tup xs)->c≠x:=fun c xs r z=>by subst z;rw [r] at mu;exact mu
 by_cases hb:b=x
 ·subst hb;rw [qq] at q;cases q;exact new
 ·rw [qk hb] at q
  by_cases hbe:b=e
  ·have q':H b=some (.own x):=by
    rcases he with z|z
    ·exact absurd (hbe.trans z) hb
    ·rw [hbe];exact z
   rw [q] at q';cases q';obtain⟨v,hv⟩:=heo;exact⟨v,by rw [hbe];exact hv⟩
  ·refine(ok b u q).stay (fun c v hc r=>k c v ?_ r) (fun c r=>by rw [qk (nown c b r)];exact r) fun c xs r=>by rw [qk (ntup c xs r)];exact r
   rcases hc with rfl|hc
   ·exact hbe
   ·rintro rfl
    rcases he with z|z
    ·exact nown c b hc z
    ·rw [hc] at z;cases z;exact hb rfl
end
structure Un(fs ex:List Addr)(H H':Hp)(h h':Heap): Prop where
 keep:∀b o,h.get? b=some o->H b=none->b∉fs->b∉ex->h'.get? b=some o
 slot:∀b o,h.get? b=some o->H b=none->b∈fs->b∉ex->∃sl,h'.get? b=some {o with slots:=sl}
 free:∀b o,h.get? b=some o->H b=none->b∉ex->H' b=none
 there:∀b o,h.get? b=some o->b∉ex->∃o',h'.get? b=some o'
 tups:∀b xs,H b=some (.tup xs)->H' b=some (.tup xs)
 frzs:∀b o u,H b=some (.frz o u)->H' b=some (.frz o u)
 tbls:∀b ps,H b=some (.tbl ps)->∃more,H' b=some (.tbl (ps++more))
section
variable{fs fs' ex ex':List Addr}{H H1 H2:Hp}{h h1 h2 h':Heap}{a x e:Addr}{o:HO}
theorem Un.any(u:Un fs ex H H1 h h1){b:Addr}{ob:Obj}(q:h.get? b=some ob)(n:H b=none)(hx:b∉ex): ∃sl,h1.get? b=some {ob with slots:=sl}:=by
 by_cases hb:b∈fs
 ·exact u.slot b ob q n hb hx
 ·exact⟨ob.slots,u.keep b ob q n hb hx⟩
theorem Un.trans(a:Un fs ex H H1 h h1)(b:Un fs ex H1 H2 h1 h2): Un fs ex H H2 h h2 where
 keep:=fun c ob q n hc hx=>b.keep c ob (a.keep c ob q n hc hx) (a.free c ob q n hx) hc hx
 slot:=fun c ob q n hc hx=>by
  obtain⟨sl,e1⟩:=a.slot c ob q n hc hx;obtain⟨sl',e2⟩:=b.slot c _ e1 (a.free c ob q n hx) hc hx;exact⟨sl',e2⟩
 free:=fun c ob q n hx=>by
  obtain⟨o',e1⟩:=a.there c ob q hx;exact b.free c o' e1 (a.free c ob q n hx) hx
 there:=fun c ob q hx=>by
  obtain⟨o',e1⟩:=a.there c ob q hx;exact b.there c o' e1 hx
 tups:=fun c xs q=>b.tups c xs (a.tups c xs q)
 frzs:=fun c ob xs q=>b.frzs c ob xs (a.frzs c ob xs q)
 tbls:=fun c ps q=>by
  obtain⟨m1,e1⟩:=a.tbls c ps q;obtain⟨m2,e2⟩:=b.tbls c _ e1;exact⟨m1++m2,by rw [e2,Array.append_assoc]⟩
theorem Un.kept(k:∀b u,h.get? b=some u->h'.get? b=some u): Un fs ex H H h h':=
 ⟨fun b ob q _ _ _=>k b ob q,fun b ob q _ _ _=>⟨ob.slots,k b ob q⟩,fun _ _ _ n _=>n,fun b ob q _=>⟨ob,k b ob q⟩,fun _ _ q=>q,fun _ _ _ q=>q,fun _ ps q=>⟨#[],by rw [q];simp⟩⟩
theorem Un.refl:Un fs ex H H h h:=Un.kept fun _ _ q=>q
theorem Un.laid(k:∀b u,h.get? b=some u->h'.get? b=some u)(hp:h.objs.size<=a)(hn:H a=none): Un fs ex H (upd H a o) h h' where
 keep:=fun b u q _ _ _=>k b u q
 slot:=fun b u q _ _ _=>⟨u.slots,k b u q⟩
 free:=fun b u q n _=>by rw [qk (gz (gu (gv q) hp))];exact n
 there:=fun b u q _=>⟨u,k b u q⟩
 tups:=fun b xs q=>by rw [qk (jg q hn)];exact q
 frzs:=fun b u xs q=>by rw [qk (jg q hn)];exact q
 tbls:=fun b ps q=>⟨#[],by rw [qk (jg q hn),q];simp⟩
theorem Un.write(mu:Mut (H x))(he:e=x\/H e=some (.own x))(k:∀b u,b≠e->h.get? b=some u->h'.get? b=some u)(heo:∃u,h'.get? e=some u): Un fs ex H (upd H x o) h h':=by
 have hx:∀b,H b=none->b≠x:=fun b n z=>by subst z;rw [n] at mu;exact mu
 have hb:∀b,H b=none->b≠e:=fun b n z=>by
  subst z;rcases he with r|r
  ·exact hx b n r
  ·rw [n] at r;cases r
 have hm:∀b u,H b=some u->¬Mut (some u)->b≠x:=fun b u q nm z=>by subst z;rw [q] at mu;exact nm mu
 refine⟨fun b u q n _ _=>k b u (hb b n) q,fun b u q n _ _=>⟨u.slots,k b u (hb b n) q⟩,fun b u q n _=>by rw [qk (hx b n)];exact n,fun b u q _=>?_,
  fun b xs q=>by rw [qk (hm b _ q fun z=>z)];exact q,fun b u xs q=>by rw [qk (hm b _ q fun z=>z)];exact q,fun b ps q=>⟨#[],by rw [qk (hm b _ q fun z=>z),q];simp⟩⟩
 by_cases hbe:b=e
 ·subst hbe;exact heo
 ·exact⟨u,k b u hbe q⟩
end
def trk(h:Heap)(H:Hp): List Addr:=(List.range h.objs.size).filter fun a=>(H a).isSome
def q2u(h:Heap)(H:Hp): Heap:=PySem.W.hideAll h (trk h H)
theorem qh9(h:Heap)(H:Hp): (q2u h H).objs.size=h.objs.size:=PySem.W.hideAll_size _ _
theorem qjy{h:Heap}{H:Hp}{b:Addr}{o:Obj}(e:h.get? b=some o)(n:H b=none): (q2u h H).get? b=some o:=
 PySem.W.hideAll_get _ e fun hm=>by
  have q:(H b).isSome=true:=(g0h.mp hm).2;rw [n] at q;simp at q
theorem qn7{h:Heap}{H:Hp}{b:Addr}{o:Obj}(e:(q2u h H).get? b=some o): h.get? b=some o/\H b=none:=by
 have e':h.get? b=some o:=PySem.W.of_hideAll (trk h H) e;refine⟨e',?_⟩;cases q:H b with
 | none=>rfl
 | some x=>
  have hm:b∈trk h H:=g0h.mpr ⟨uo.mpr (gv e'),by simp [q]⟩;have z:(q2u h H).get? b=none:=PySem.W.hideAll_none (trk h H) hm;rw [z] at e;cases e
def qn8(g h:Heap)(L:Addr): List (Addr×Obj):=(List.range h.objs.size).filterMap fun a=>if a=L\/(g.get? a).isSome=true then none else(h.get? a).map fun o=>(a,o)
def rest(g h:Heap)(L d:Addr): List (Addr×Obj):=(qn8 g h L).filter fun p=>decide (p.1≠d)
structure Mod(K:PySem.W.Frag)(mg:Str->Option Value)(base:Heap): Prop where
 kin:K.In base
 glob:base.Ns mainGlobals mg
 blt:∃mb,base.Ns builtinsNs mb/\∀x:Str,x≠"__name__" -> mb x=bootBuiltins x
 nolimit:base.NoLimit
structure Cx where
 prog:Program
 w:World
 K:PySem.W.Frag
 mg:Str->Option Value
 base:Heap
 A:Around
 N:List Str
 s₀:Shared
 H₀:Hp
 env:Env
 outer:List Env
 stack:List Env
 ex:List Addr
 fn:Str->Bool
 calm:Bool
 pn:List (Addr×Obj)
 xe:Value->Shared->Prop
def frs(l:List Env): List Addr:=l.filterMap (·.frame)
abbrev Cx.fs(X:Cx): List Addr:=frs X.outer
def Vis(sc:Scope)(x:Str): Prop:=sc.names.lookup x=some .local\/sc.names.lookup x=some .cell\/sc.names.lookup x=some .free
def Loc(sc:Scope)(x:Str): Prop:=sc.names.lookup x=some .local\/sc.names.lookup x=some .cell
def Look(env:Env)(h:Heap)(m:Str->Option Value)(x:Str)(u:Value): Prop:=
 (env.kindOf x=some .local/\m x=some u)\/((env.kindOf x=some .cell\/env.kindOf x=some .free)/\∃c,env.cells.lookup x=some c/\h.IsCell c (some u))
structure Cx.Ok(X:Cx): Prop where
 mod:Mod X.K X.mg X.base
 kind:X.env.scope.kind=.function
 glob:X.env.globals=mainGlobals
 blt:X.env.builtins=builtinsNs
 above:X.s₀.heap.objs.size<=X.env.locals
 inj:∀x y c,X.env.cells.lookup x=some c->X.env.cells.lookup y=some c->x=y
 has:∀x,(X.env.kindOf x=some .cell\/X.env.kindOf x=some .free)->∃c,X.env.cells.lookup x=some c
 cab:∀x c,X.fn x=true->X.env.cells.lookup x=some c->X.s₀.heap.objs.size<=c
 hd:X.calm=true->X.A.handled=none
 frames:X.A.frames=some X.stack
 stk:X.stack=X.outer\/(X.stack=X.env :: X.outer/\X.env.frame=some X.env.locals)
 exf:∀b∈X.ex,b≠X.env.locals/\∀x c,X.env.cells.lookup x=some c->c≠b
 bs:∀b o,X.base.get? b=some o->X.s₀.heap.get? b=some o/\X.H₀ b=none
 bsz:X.base.objs.size<=X.s₀.heap.objs.size
 noex:∀b o,X.base.get? b=some o->b∉X.ex
 exfs:∀b∈X.ex,b∉X.fs
 funs:X.s₀.heap.FunFrames X.base X.outer
 frf:∀b∈X.fs,X.H₀ b=none
structure Inv(X:Cx)(pins:List (Addr×Obj))(σ : List (Option V))(H:Hp)(s:Shared): Prop where
 ok:X.Ok
 os:s.os=X.s₀.os
 bare:AllBare s.gens
 base:Un X.fs X.ex X.H₀ H X.s₀.heap s.heap
 loc:∃m,s.heap.Ns X.env.locals m/\∀(i:Nat) (x:Str) (v:V),X.N[i]? = some x -> σ[i]? = some (some v)->Vis X.env.scope x->∃u,RelV v u/\Look X.env s.heap m x u
 cell:∀x c,X.env.cells.lookup x=some c->∃v,s.heap.IsCell c v
 free:H X.env.locals=none
 freeC:∀x c,X.env.cells.lookup x=some c->H c=none
 pin:∀p∈X.pn++pins,s.heap.get? p.1=some p.2/\H p.1=none/\p.1≠X.env.locals/\p.1∉X.fs/\∀v,p.2.data ≠ .cell v
 hok:HOk X.prog X.w H s.heap
 len : σ.length=X.N.length
section
variable{X:Cx}{pins:List (Addr×Obj)}{σ : List (Option V)}{H H':Hp}{s:Shared}{h':Heap}
theorem Cx.Ok.nofr(ok:X.Ok){b:Addr}{o:Obj}(e:X.base.get? b=some o): b∉X.fs:=fun hb=>by
 have:=(ok.funs.mem hb).1;rw [e] at this;cases this
theorem Inv.bs(I:Inv X pins σ H s): ∀b o,X.base.get? b=some o->s.heap.get? b=some o/\H b=none:=fun b o e=>
 ⟨I.base.keep b o (I.ok.bs b o e).1 (I.ok.bs b o e).2 (I.ok.nofr e) (I.ok.noex b o e),I.base.free b o (I.ok.bs b o e).1 (I.ok.bs b o e).2 (I.ok.noex b o e)⟩
theorem Inv.bk(I:Inv X pins σ H s): ∀b o,X.base.get? b=some o->s.heap.get? b=some o:=fun b o e=>(I.bs b o e).1
theorem Inv.mod(I:Inv X pins σ H s): Mod X.K X.mg X.base:=I.ok.mod
theorem Inv.kIn(I:Inv X pins σ H s): X.K.In s.heap:=I.ok.mod.kin.keeps I.bk
theorem Inv.lt(I:Inv X pins σ H s): X.env.locals<s.heap.objs.size:=let⟨_,hn,_⟩:=I.loc;hn.lt
theorem Inv.sz(I:Inv X pins σ H s): X.s₀.heap.objs.size<=s.heap.objs.size:=mq I.ok.above (g5i I.lt)
theorem Inv.nofs(I:Inv X pins σ H s){a:Addr}(h:s.heap.objs.size<=a): a∉X.fs:=fun hb=>by
 obtain⟨_,o,ho,_⟩:=I.ok.funs.mem hb;exact absurd (gu (gv ho) (mq I.sz h)) (g0s _)
theorem Inv.cne(I:Inv X pins σ H s): ∀x c,X.env.cells.lookup x=some c->c≠X.env.locals:=fun x c e z=>by
 obtain⟨v,o,ho,hd⟩:=I.cell x c e;obtain⟨m,⟨o',es,ep,ho',hd',_⟩,_⟩:=I.loc;rw [z,ho'] at ho;cases ho;rw [hd'] at hd;cases hd
theorem Inv.funs(I:Inv X pins σ H s): s.heap.FunFrames X.base X.outer:=by
 have all:∀(l:List Env),(∀b∈frs l,b∈X.fs)->X.s₀.heap.FunFrames X.base l->s.heap.FunFrames X.base l:=by
  intro l
  induction l with
  | nil=>intro _ _;trivial
  | cons env r ih=>
   intro hs hl;obtain⟨hk,⟨L,o,hf,hn,ho,hd⟩,hr⟩:=hl;have hL:L∈X.fs:=hs L (by unfold frs;rw [g1k,hf];exact gm);obtain⟨sl,e⟩:=I.base.slot L o ho (I.ok.frf L hL) hL fun z=>I.ok.exfs L z hL;exact⟨hk,⟨L,_,hf,hn,e,hd⟩,ih (fun b hb=>hs b (by unfold frs;rw [g1k,hf];exact gq _ hb)) hr⟩
 exact all X.outer (fun _ hb=>hb) I.ok.funs
theorem Inv.stack(I:Inv X pins σ H s): s.heap.FunFrames X.base X.stack:=by
 rcases I.ok.stk with e|⟨e,hf⟩
 ·rw [e];exact I.funs
 ·rw [e]
  obtain⟨m,hn,_⟩:=I.loc;refine .cons (by rw [I.ok.kind];decide) hf hn ?_ I.funs;exact Heap.get?_none_of_le (mq I.ok.bsz I.ok.above)
theorem Inv.stkSub(I:Inv X pins σ H s): ∀b∈frs X.stack,b∈X.env.locals :: X.fs:=fun b hb=>by
 rcases I.ok.stk with e|⟨e,hf⟩
 ·rw [e] at hb;exact gq _ hb
 ·rw [e] at hb
  unfold frs at hb;rw [g1k,hf] at hb;exact hb
theorem Inv.stkFree(I:Inv X pins σ H s): ∀b∈frs X.stack,H b=none:=fun b hb=>by
 rcases mh.mp (I.stkSub b hb) with e|hb
 ·rw [e];exact I.free
 ·obtain⟨_,o,ho,_⟩:=I.ok.funs.mem hb
  exact I.base.free b o ho (I.ok.frf b hb) fun z=>I.ok.exfs b z hb
theorem Inv.step{g':Array GenState}{t':Nat}{d':Drawn}{ch:List Addr}(I:Inv X pins σ H s)
  (hch:∀b∈ch,(b∈X.ex\/X.s₀.heap.objs.size<=b)/\b≠X.env.locals/\(∀x c,X.env.cells.lookup x=some c->c≠b)/\∀p∈X.pn++pins,p.1≠b)
  (keep:∀b o,b≠X.env.locals->b∉X.fs->b∉ch->s.heap.get? b=some o->H b=none->h'.get? b=some o)
  (slot:∀b o,b≠X.env.locals->b∈X.fs->b∉ch->s.heap.get? b=some o->H b=none->∃sl,h'.get? b=some {o with slots:=sl}) (free:∀b o,b∉ch->s.heap.get? b=some o->H b=none->H' b=none)
  (there:∀b o,b∉ch->s.heap.get? b=some o->∃o',h'.get? b=some o')
  (tups:∀b xs,H b=some (.tup xs)->H' b=some (.tup xs)) (frzs:∀b o u,H b=some (.frz o u)->H' b=some (.frz o u)) (tbls:∀b ps,H b=some (.tbl ps)->∃more,H' b=some (.tbl (ps++more)))
  (ns:∀m,s.heap.Ns X.env.locals m->h'.Ns X.env.locals m) (hok:HOk X.prog X.w H' h') (hg:AllBare g') :
  Inv X pins σ H' {s with heap:=h',gens:=g',drawn:=d',toks:=t'}:=by
 have neL:∀b o,X.s₀.heap.get? b=some o->b≠X.env.locals:=fun b o e=>gz (gu (gv e) I.ok.above);have neC:∀b o,X.s₀.heap.get? b=some o->b∉X.ex->b∉ch:=fun b o e hx hb=>by
  rcases(hch b hb).1 with z|z
  ·exact hx z
  ·exact absurd (gu (gv e) z) (g0s _)
 have cellK:∀x c,X.env.cells.lookup x=some c->∀v,s.heap.IsCell c v->h'.IsCell c v:=fun x c e v ⟨o,ho,hd⟩=>by
  have nch:c∉ch:=fun z=>(hch c z).2.2.1 x c e rfl
  by_cases hc:c∈X.fs
  ·obtain⟨sl,q⟩:=slot c o (I.cne x c e) hc nch ho (I.freeC x c e)
   exact⟨_,q,hd⟩
  ·exact⟨o,keep c o (I.cne x c e) hc nch ho (I.freeC x c e),hd⟩
 refine⟨I.ok,I.os,hg,⟨fun b o e n hb hx=>?_,fun b o e n hb hx=>?_,fun b o e n hx=>?_,fun b o e hx=>?_,fun b xs e=>tups b xs (I.base.tups b xs e),fun b o xs e=>frzs b o xs (I.base.frzs b o xs e),fun b ps e=>?_⟩,?_,fun x c e=>?_,?_,fun x c e=>?_,fun p hp=>?_,hok,I.len⟩
 ·exact keep b o (neL b o e) hb (neC b o e hx) (I.base.keep b o e n hb hx) (I.base.free b o e n hx)
 ·obtain⟨sl,e1⟩:=I.base.slot b o e n hb hx
  obtain⟨sl',e2⟩:=slot b _ (neL b o e) hb (neC b o e hx) e1 (I.base.free b o e n hx);exact⟨sl',e2⟩
 ·obtain⟨o',e1⟩:=I.base.there b o e hx
  exact free b o' (neC b o e hx) e1 (I.base.free b o e n hx)
 ·obtain⟨o',e1⟩:=I.base.there b o e hx
  exact there b o' (neC b o e hx) e1
 ·obtain⟨m1,e1⟩:=I.base.tbls b ps e
  obtain⟨m2,e2⟩:=tbls b _ e1;exact⟨m1++m2,by rw [e2,Array.append_assoc]⟩
 ·obtain⟨m,hn,hl⟩:=I.loc
  refine⟨m,ns m hn,fun i x v e1 e2 e3=>?_⟩;obtain⟨u,r,l⟩:=hl i x v e1 e2 e3;refine⟨u,r,?_⟩;rcases l with l|⟨k,c,e,z⟩
  ·exact .inl l
  ·exact .inr ⟨k,c,e,cellK x c e _ z⟩
 ·obtain⟨v,z⟩:=I.cell x c e
  exact⟨v,cellK x c e v z⟩
 ·obtain⟨m,⟨o,_,_,ho,_⟩,_⟩:=I.loc
  exact free _ o (fun z=>(hch _ z).2.1 rfl) ho I.free
 ·obtain⟨v,o,ho,hd⟩:=I.cell x c e
  exact free c o (fun z=>(hch c z).2.2.1 x c e rfl) ho (I.freeC x c e)
 ·obtain⟨e,n,ne,nf,d⟩:=I.pin p hp
  have nch:p.1∉ch:=fun z=>(hch p.1 z).2.2.2 p hp rfl;exact⟨keep p.1 p.2 ne nf nch e n,free p.1 p.2 nch e n,ne,nf,d⟩
theorem Inv.un{t':Nat}(I:Inv X pins σ H s)(u:Un X.fs [] H H' s.heap h')(hok:HOk X.prog X.w H' h'): Inv X pins σ H' {s with heap:=h',toks:=t'}:=by
 obtain⟨m,⟨o,es,ep,ho,r⟩,_⟩:=id I.loc;obtain⟨sl,hL⟩:=u.any ho I.free (by simp);exact I.step (g':=s.gens) (d':=s.drawn) (ch:=[]) (fun _ z=>nomatch z) (fun b o _ hb _ e n=>u.keep b o e n hb (by simp)) (fun b o _ hb _ e n=>u.slot b o e n hb (by simp)) (fun b o _ e n=>u.free b o e n (by simp)) (fun b o _ e=>u.there b o e (by simp)) u.tups u.frzs u.tbls (fun m' hm=>by
  obtain⟨o',es',ep',ho',r'⟩:=hm;rw [ho] at ho';cases ho';exact⟨_,es',ep',hL,r'⟩) hok I.bare
theorem Inv.call{g':Array GenState}{t':Nat}{d':Drawn}{ch:List Addr}(I:Inv X pins σ H s)(u:Un (frs X.stack) ch H H' s.heap h')(hok:HOk X.prog X.w H' h')(hg:AllBare g')
  (hch:∀b∈ch,(b∈X.ex\/X.s₀.heap.objs.size<=b)/\b≠X.env.locals/\(∀x c,X.env.cells.lookup x=some c->c≠b)/\∀p∈X.pn++pins,p.1≠b) :
  Inv X pins σ H' {s with heap:=h',gens:=g',drawn:=d',toks:=t'}:=by
 obtain⟨m,⟨o,es,ep,ho,r⟩,_⟩:=id I.loc;obtain⟨sl,hL⟩:=u.any ho I.free fun z=>(hch _ z).2.1 rfl;exact I.step (ch:=ch) hch (fun b o hL hb hc e n=>u.keep b o e n (fun z=>(mh.mp (I.stkSub b z)).elim hL hb) hc) (fun b o _ _ hc e n=>u.any e n hc) (fun b o hc e n=>u.free b o e n hc) (fun b o hc e=>u.there b o e hc) u.tups u.frzs u.tbls (fun m' hm=>by
  obtain⟨o',es',ep',ho',r'⟩:=hm;rw [ho] at ho';cases ho';exact⟨_,es',ep',hL,r'⟩) hok hg
theorem Inv.turned{t':Nat}{it:Addr}(I:Inv X pins σ H s)(k:∀b o,b≠it->s.heap.get? b=some o->h'.get? b=some o)(hn:H it=none)(hL:it≠X.env.locals)
  (h1:it∈X.ex\/X.s₀.heap.objs.size<=it) (h2:∀x c,X.env.cells.lookup x=some c->c≠it) (h3:∀p∈X.pn++pins,p.1≠it):Inv X pins σ H {s with heap:=h',toks:=t'}:=by
 have nit:∀b u,H b=some u->b≠it:=fun b u e z=>by rw [z,hn] at e;cases e
 refine I.step (g':=s.gens) (d':=s.drawn) (ch:=[it]) (fun b hb=>?_) (fun b o _ _ hc e _=>k b o (fun z=>hc (by simp [z])) e) (fun b o _ _ hc e _=>⟨o.slots,k b o (fun z=>hc (by simp [z])) e⟩) (fun _ _ _ _ n=>n)
  (fun b o hc e=>⟨o,k b o (fun z=>hc (by simp [z])) e⟩) (fun _ _ e=>e) (fun _ _ _ e=>e) (fun b ps e=>⟨#[],by rw [e];simp⟩) (fun m hm=>?_) (fun b u e=>?_) I.bare
 ·have e:b=it:=by simpa using hb
  subst e;exact⟨h1,hL,h2,h3⟩
 ·obtain⟨o,es,ep,ho,r⟩:=hm
  exact⟨o,es,ep,k _ o (ng hL) ho,r⟩
 ·refine(I.hok b u e).stay (fun c v hc q=>k c v ?_ q) (fun _ q=>q) fun _ _ q=>q
  rcases hc with z|z
  ·rw [z];exact nit b u e
  ·exact nit c _ z
theorem Inv.tok(I:Inv X pins σ H s)(t:Nat): Inv X pins σ H {s with toks:=t}:=I.un (h':=s.heap) (t':=t) Un.refl I.hok
theorem Inv.kept{t':Nat}(I:Inv X pins σ H s)(k:∀b u,s.heap.get? b=some u->h'.get? b=some u): Inv X pins σ H {s with heap:=h',toks:=t'}:=I.un (Un.kept k) (I.hok.kept k)
theorem Inv.laid{a:Addr}{o:HO}{t':Nat}(I:Inv X pins σ H s)(k:∀b u,s.heap.get? b=some u->h'.get? b=some u)(hp:s.heap.objs.size<=a)(new:ObjOk X.prog X.w (upd H a o) h' a o):
  Inv X pins σ (upd H a o) {s with heap:=h',toks:=t'}:=I.un (Un.laid k hp (I.hok.fresh hp)) (I.hok.laid k hp new)
theorem Inv.write{x e:Addr}{o:HO}{t':Nat}(I:Inv X pins σ H s)(mu:Mut (H x))(he:e=x\/H e=some (.own x))(k:∀b u,b≠e->s.heap.get? b=some u->h'.get? b=some u)(heo:∃u,h'.get? e=some u)
  (new:ObjOk X.prog X.w (upd H x o) h' x o):Inv X pins σ (upd H x o) {s with heap:=h',toks:=t'}:=I.un (Un.write mu he k heo) (I.hok.write mu he k heo new)
theorem Inv.pins_of{pins':List (Addr×Obj)}(I:Inv X pins σ H s)(h:∀p∈pins',s.heap.get? p.1=some p.2/\H p.1=none/\p.1≠X.env.locals/\p.1∉X.fs/\∀v,p.2.data ≠ .cell v): Inv X pins' σ H s:=
 ⟨I.ok,I.os,I.bare,I.base,I.loc,I.cell,I.free,I.freeC,fun p hp=>(ny.mp hp).elim (fun z=>I.pin p (g2q _ z)) (h p),I.hok,I.len⟩
theorem qao{N:List Str}(hN:N.Nodup){i j:Nat}{x:Str}(a:N[i]? = some x)(b:N[j]? = some x): i=j:=by
 obtain⟨h1,e1⟩:=n8.mp a;obtain⟨h2,e2⟩:=n8.mp b;exact(g5j hN).mp (e1.trans e2.symm)
theorem qha{M:Model}{A:Around}{E:Value->Shared->Prop}{i:Nat}{x:Str}{v:V}{u:Value}{Q:Unit->Shared->Prop}(I:Inv X pins σ H s)(hN:X.N.Nodup)(hi:X.N[i]? = some x)(hx:Loc X.env.scope x)(r:RelV v u)
  (h:∀s',Inv X pins (σ.set i (some v)) H s'->(∃a,Heap.SameBut a s.heap s'.heap/\(a=X.env.locals\/X.env.cells.lookup x=some a))->Q () s') (hf:X.fn x=true\/X.env.scope.names.lookup x=some .local:=by first|exact .inl rfl|exact .inr rfl|assumption):wpAny M A (storeName X.env x u) Q E s:=by
 obtain⟨m,hn,hl⟩:=id I.loc;have hcls:(X.env.scope.kind == .class || (X.env.scope.kind == .module&&X.env.locals != X.env.globals))=false:=by rw [I.ok.kind];rfl
 have hiσ : i < σ.length:=by rw [I.len];exact(n8.mp hi).1
 have cne:=I.cne;have tracked:∀ {a:Addr} {h':Heap},(∃o,s.heap.get? a=some o/\H a=none)->Heap.SameBut a s.heap h'->HOk X.prog X.w H h':=fun {a h'} ha hs b ob e=>by
  obtain⟨_,_,hfree⟩:=ha;refine(I.hok b ob e).stay (fun c w' hc q=>(hs.2 c ?_).trans q) (fun _ q=>q) fun _ _ q=>q
  rintro rfl
  rcases hc with rfl|hc
  ·rw [hfree] at e;cases e
  ·rw [hfree] at hc;cases hc
 rcases hx with hk|hk
 ·refine wpAny_storeName_local hk hn (fun h' hn' hs=>?_) hcls
  obtain⟨oL,_,_,hoL,_⟩:=id hn;refine h _ ⟨I.ok,I.os,I.bare,⟨fun b o e n hb hx=>?_,fun b o e n hb hx=>?_,I.base.free,fun b o e hx=>?_,I.base.tups,I.base.frzs,I.base.tbls⟩,⟨_,hn',fun j y v' e1 e2 e3=>?_⟩,fun y c e=>?_,I.free,I.freeC,fun p hp=>?_,tracked ⟨oL,hoL,I.free⟩ hs,by simpa using I.len⟩ ⟨_,hs,.inl rfl⟩
  ·exact(hs.2 b (gz (gu (gv e) I.ok.above))).trans (I.base.keep b o e n hb hx)
  ·obtain⟨sl,e1⟩:=I.base.slot b o e n hb hx
   exact⟨sl,(hs.2 b (gz (gu (gv e) I.ok.above))).trans e1⟩
  ·obtain⟨o',e1⟩:=I.base.there b o e hx
   exact⟨o',(hs.2 b (gz (gu (gv e) I.ok.above))).trans e1⟩
  ·by_cases hj:j=i
   ·subst hj
    rw [hi] at e1;cases e1;rw [g1o hiσ] at e2;cases e2;exact⟨u,r,.inl ⟨hk,by simp⟩⟩
   ·rw [m5 (ng hj)] at e2
    obtain⟨u',r',q⟩:=hl j y v' e1 e2 e3;refine⟨u',r',?_⟩;rcases q with⟨k,e⟩|⟨k,c,e,z⟩
    ·refine .inl ⟨k,?_⟩
     have:y≠x:=fun e=>hj (qao hN e1 (e ▸ hi));simp [this,e]
    ·exact .inr ⟨k,c,e,z.sameBut hs (cne y c e)⟩
  ·obtain⟨w',z⟩:=I.cell y c e
   exact⟨w',z.sameBut hs (cne y c e)⟩
  ·obtain⟨e,n,ne,nf,d⟩:=I.pin p hp
   exact⟨(hs.2 p.1 ne).trans e,n,ne,nf,d⟩
 ·have hfn:X.fn x=true:=by
   rcases hf with z|z
   ·exact z
   ·rw [z] at hk;cases hk
  obtain⟨c,hc⟩:=I.ok.has x (.inl hk);obtain⟨w',z⟩:=I.cell x c hc;refine wpAny_storeName_cell I.ok.kind hk hc z (fun h' hc' hs=>?_);obtain⟨oc,hoc,hocd⟩:=id z;refine h {s with heap:=h'} ⟨I.ok,I.os,I.bare,⟨fun b o e n hb hx=>?_,fun b o e n hb hx=>?_,I.base.free,fun b o e hx=>?_,I.base.tups,I.base.frzs,I.base.tbls⟩,⟨m,hn.sameBut hs (ng (cne x c hc)),fun j y v' e1 e2 e3=>?_⟩,fun y c' e=>?_,I.free,I.freeC,fun p hp=>?_,tracked ⟨oc,hoc,I.freeC x c hc⟩ hs,by simpa using I.len⟩ ⟨c,hs,.inr hc⟩
  ·exact(hs.2 b (gz (gu (gv e) (I.ok.cab x c hfn hc)))).trans (I.base.keep b o e n hb hx)
  ·obtain⟨sl,e1⟩:=I.base.slot b o e n hb hx
   exact⟨sl,(hs.2 b (gz (gu (gv e) (I.ok.cab x c hfn hc)))).trans e1⟩
  ·obtain⟨o',e1⟩:=I.base.there b o e hx
   exact⟨o',(hs.2 b (gz (gu (gv e) (I.ok.cab x c hfn hc)))).trans e1⟩
  ·by_cases hj:j=i
   ·subst hj
    rw [hi] at e1;cases e1;rw [g1o hiσ] at e2;cases e2;exact⟨u,r,.inr ⟨.inl hk,c,hc,hc'⟩⟩
   ·rw [m5 (ng hj)] at e2
    obtain⟨u',r',q⟩:=hl j y v' e1 e2 e3;refine⟨u',r',?_⟩;rcases q with q|⟨k,c',e,z'⟩
    ·exact .inl q
    ·refine .inr ⟨k,c',e,z'.sameBut hs ?_⟩
     rintro rfl
     exact hj (qao hN e1 (I.ok.inj _ _ _ e hc ▸ hi))
  ·by_cases hcc:c'=c
   ·subst hcc;exact⟨_,hc'⟩
   ·obtain⟨w2,z2⟩:=I.cell y c' e
    exact⟨w2,z2.sameBut hs hcc⟩
  ·obtain⟨e,n,ne,nf,d⟩:=I.pin p hp
   refine⟨(hs.2 p.1 ?_).trans e,n,ne,nf,d⟩;intro q;rw [q,hoc] at e;have q':oc=p.2:=md e;exact d w' (by rw [<- q'];exact hocd)
theorem q69{M:Model}{A:Around}{E:Value->Shared->Prop}{i:Nat}{x:Str}{v:V}{u:Value}{Q:Unit->Shared->Prop}(I:Inv X pins σ H s)(hN:X.N.Nodup)(hi:X.N[i]? = some x)(hx:Loc X.env.scope x)(r:RelV v u)
  (h:∀s',Inv X pins (σ.set i (some v)) H s'->Q () s') (hf:X.fn x=true\/X.env.scope.names.lookup x=some .local:=by first|exact .inl rfl|exact .inr rfl|assumption):wpAny M A (storeName X.env x u) Q E s:=
 qha I hN hi hx r (fun s' I' _=>h s' I') hf
theorem Inv.call'{s':Shared}{ch:List Addr}(I:Inv X pins σ H s)(ho:s'.os=s.os)(u:Un (frs X.stack) ch H H' s.heap s'.heap)(hok:HOk X.prog X.w H' s'.heap)(hg:AllBare s'.gens)
  (hch:∀b∈ch,(b∈X.ex\/X.s₀.heap.objs.size<=b)/\b≠X.env.locals/\(∀x c,X.env.cells.lookup x=some c->c≠b)/\∀p∈X.pn++pins,p.1≠b):Inv X pins σ H' s':=by
 obtain⟨h',g',d',t',o'⟩:=s';have e:o'=s.os:=ho;subst e;exact I.call (g':=g') (t':=t') (d':=d') u hok hg hch
end
abbrev XK:=Value->Option Addr->Hp->Prop
abbrev St:=List (Option V)
abbrev VK:=V->Hp->Prop
abbrev TE:=St->Hp->VK->Prop
abbrev TT:=St->Hp->(Bool->Hp->Prop)->Prop
abbrev TA:=St->Hp->(List V->Hp->Prop)->Prop
structure Ends where
 nx:St->Hp->Prop
 rt:VK
 bk:St->Hp->Prop:=fun _ _=>False
 ct:St->Hp->Prop:=fun _ _=>False
abbrev TS:=Ends->St->Hp->Prop
def EP(X:Cx)(pins:List (Addr×Obj))(σ : St)(Q:VK)(u:Value)(s':Shared): Prop:=∃v H',Inv X pins σ H' s'/\RelV v u/\Q v H'
def TP(X:Cx)(pins:List (Addr×Obj))(σ : St)(Q:Bool->Hp->Prop)(b:Bool)(s':Shared): Prop:=∃H',Inv X pins σ H' s'/\Q b H'
def AP(X:Cx)(pins:List (Addr×Obj))(σ : St)(Q:List V->Hp->Prop)(us:List Value)(s':Shared): Prop:=∃vs H',Inv X pins σ H' s'/\Vals vs us/\Q vs H'
def SP(X:Cx)(pins:List (Addr×Obj))(D:Ends)(f:Flow)(s':Shared): Prop:=
 match f with
 | .next=>∃ σ' H',Inv X pins σ' H' s'/\D.nx σ' H'
 | .brk=>∃ σ' H',Inv X pins σ' H' s'/\D.bk σ' H'
 | .cont=>∃ σ' H',Inv X pins σ' H' s'/\D.ct σ' H'
 | .ret u=>∃v σ' H',Inv X pins σ' H' s'/\RelV v u/\D.rt v H'
def PE(X:Cx)(e:Expr)(t:TE): Prop:=
 ∀(pins:List (Addr×Obj)) (s:Shared) (σ : St) (H:Hp) (Q:VK),Inv X pins σ H s->t σ H Q->wpAny (model X.prog X.w) X.A (eval e X.env) (EP X pins σ Q) X.xe s
def PT(X:Cx)(e:Expr)(t:TT): Prop:=
 ∀(pins:List (Addr×Obj)) (s:Shared) (σ : St) (H:Hp) (Q:Bool->Hp->Prop),Inv X pins σ H s->t σ H Q->wpAny (model X.prog X.w) X.A (isTrue e X.env (eval e X.env)) (TP X pins σ Q) X.xe s
def PW(X:Cx)(e:Expr)(t:TT): Prop:=
 ∀(whole:Sem Value) (pins:List (Addr×Obj)) (s:Shared) (σ : St) (H:Hp) (Q:Bool->Hp->Prop),Inv X pins σ H s->t σ H Q->wpAny (model X.prog X.w) X.A (isTrue e X.env whole) (TP X pins σ Q) X.xe s
theorem PW.pt{X:Cx}{e:Expr}{t:TT}(h:PW X e t): PT X e t:=h _
def PA(X:Cx)(es:List Expr)(t:TA): Prop:=
 ∀(pos:Pos) (pins:List (Addr×Obj)) (s:Shared) (σ : St) (H:Hp) (Q:List V->Hp->Prop),Inv X pins σ H s->t σ H Q->wpAny (model X.prog X.w) X.A (spliced (backTo pos (starEach es X.env))) (AP X pins σ Q) X.xe s
def PS(X:Cx)(st:Stmt)(t:TS): Prop:=
 ∀(pins:List (Addr×Obj)) (s:Shared) (σ : St) (H:Hp) (D:Ends),Inv X pins σ H s->t D σ H->wpAny (model X.prog X.w) X.A (exec st X.env) (SP X pins D) X.xe s
def PSs(X:Cx)(st:List Stmt)(t:TS): Prop:=
 ∀(pins:List (Addr×Obj)) (s:Shared) (σ : St) (H:Hp) (D:Ends),Inv X pins σ H s->t D σ H->wpAny (model X.prog X.w) X.A (execs st X.env) (SP X pins D) X.xe s
theorem thn{α : Type}{t:Sem α}{Q Q' : α -> Shared->Prop}{M:Model}{A:Around}{E:Value->Shared->Prop}{s:Shared}(h:wpAny M A t Q E s)(hQ:∀a s,Q a s->Q' a s): wpAny M A t Q' E s:=t5 h hQ fun _ _ x=>x
section
variable{X:Cx}
theorem bin{a b:Expr}{ta tb:TE}(ha:PE X a ta)(hb:PE X b tb){pins:List (Addr×Obj)}{s:Shared}{σ : St}{H:Hp}{R:V->V->Hp->Prop}(I:Inv X pins σ H s)(h:ta σ H fun x H1=>tb σ H1 fun y H2=>R x y H2)
  {α : Type} {Q : α -> Shared->Prop} {f:Value->Value->Sem α}
  (hf:∀v u s2 x y H2,Inv X pins σ H2 s2->RelV x v->RelV y u->R x y H2->wpAny (model X.prog X.w) X.A (f v u) Q X.xe s2) :
  wpAny (model X.prog X.w) X.A (eval a X.env) (fun v s₁=>wpAny (model X.prog X.w) X.A (eval b X.env) (fun u s₂=>wpAny (model X.prog X.w) X.A (f v u) Q X.xe s₂) X.xe s₁) X.xe s:=by
 refine thn (ha pins s σ H _ I h) fun v s1 ⟨x,H1,I1,r1,q1⟩=>?_;refine thn (hb pins s1 σ H1 _ I1 q1) fun u s2 ⟨y,H2,I2,r2,q2⟩=>?_;exact hf v u s2 x y H2 I2 r1 r2 q2
def q6a(i:Nat): TE:=fun σ H Q=>∃v, σ[i]? = some (some v)/\Q v H
def tC(v:V): TE:=fun _ H Q=>Q v H
theorem qpi{i:Nat}{x:Str}{pos:Pos}(hN:X.N[i]? = some x)(hv:Vis X.env.scope x)(hd:(x==("__debug__" : Str))=false:=by decide)(hcd:(x==("__classdict__" : Str))=false:=by decide): PE X (.Name x pos) (q6a i):=by
 intro pins s σ H Q I h;obtain⟨v,e,h⟩:=h;obtain⟨m,hn,hl⟩:=I.loc;obtain⟨u,r,l⟩:=hl i x v hN e hv;have fin:EP X pins σ Q u s:=⟨v,H,I,r,h⟩
 rcases l with⟨hk,hm⟩|⟨hk,c,hc,hcell⟩
 ·exact wpAny_Name (wpAny_loadName_local I.ok.kind hk hn hm fin) hd
 ·rcases hk with hk|hk
  ·exact wpAny_Name (wpAny_loadName_cell I.ok.kind hk hc hcell fin) hd
  ·exact wpAny_Name (wpAny_loadName_free I.ok.kind hk hc hcell fin hcd) hd
theorem qpj{i j pos}: PE X (.Constant (.int i) j pos) (tC (.int i)):=fun _ _ _ H _ I h=>wpAny_Constant_int ⟨.int i,H,I.tok _,⟨_,rfl⟩,h⟩
theorem qrw{b j pos}: PE X (.Constant (.bool b) j pos) (tC (.bl b)):=fun _ _ _ H _ I h=>Constant_bool ⟨.bl b,H,I,rfl,h⟩
def Gl(X:Cx)(x:Str): Prop:=X.env.kindOf x=some .globalImplicit
theorem qe7{E:Value->Shared->Prop}{pins:List (Addr×Obj)}{s:Shared}{σ : St}{H:Hp}{x:Str}{u:Value}{pos:Pos}{Q:Value->Shared->Prop}(I:Inv X pins σ H s)(hg:Gl X x)(hm:X.mg x=some u)(h:Q u s)
  (hd:(x==("__debug__" : Str))=false:=by decide):wpAny (model X.prog X.w) X.A (eval (.Name x pos) X.env) Q E s:=
 Calls.Name_function_global I.ok.kind hg (Calls.loadGlobal_global (by rw [I.ok.glob];exact I.mod.glob.keeps I.bk) hm h) hd
theorem q05{E:Value->Shared->Prop}{pins:List (Addr×Obj)}{s:Shared}{σ : St}{H:Hp}{x:Str}{u:Value}{pos:Pos}{Q:Value->Shared->Prop}(I:Inv X pins σ H s)(hg:Gl X x)(hm:X.mg x=none)(hv:bootBuiltins x=some u)(h:Q u s)
  (hn:x≠"__name__" :=by decide) (hd:(x==("__debug__" : Str))=false:=by decide):wpAny (model X.prog X.w) X.A (eval (.Name x pos) X.env) Q E s:=by
 obtain⟨mb,h1,h2⟩:=I.mod.blt;exact Calls.Name_function_global I.ok.kind hg (Calls.loadGlobal_builtin (by rw [I.ok.glob];exact I.mod.glob.keeps I.bk) hm (by rw [I.ok.blt];exact h1.keeps I.bk) ((h2 x hn).trans hv) h) hd
theorem qn9{x:Str}{v:V}{u:Value}{pos:Pos}(hg:Gl X x)(hm:X.mg x=none)(hv:bootBuiltins x=some u)(r:RelV v u)(hn:x≠"__name__" :=by decide)(hd:(x==("__debug__" : Str))=false:=by decide): PE X (.Name x pos) (tC v):=
 fun _ _ _ H _ I h=>q05 I hg hm hv ⟨v,H,I,r,h⟩ hn hd
variable{a b:Expr}{ta tb:TE}{pos:Pos}
theorem qap(b:Expr){op:CmpOp}(h:op ≠ .In)(h2:op ≠ .NotIn): behindInMarks op b=false:=by
 have e1:(op==CmpOp.In)=false:=by cases op <;> first|rfl|exact absurd rfl h
 have e2:(op==CmpOp.NotIn)=false:=by cases op <;> first|rfl|exact absurd rfl h2
 cases b <;> simp [behindInMarks,e1,e2]
variable{tA tB':TT}{rest:List Expr}
def qt3(t u:TT): TT:=fun σ H Q=>t σ H fun c H1=>if c=true then u σ H1 Q else Q false H1
def tOr(t u:TT): TT:=fun σ H Q=>t σ H fun c H1=>if c=true then Q true H1 else u σ H1 Q
def qt4(t:TT): TT:=fun σ H Q=>t σ H fun c H1=>Q (!c) H1
theorem qna(ha:PT X a tA): PW X (.BoolOp .And [a] pos) tA:=by
 intro wh pins s σ H Q I h;refine isTrue_and (thn (ha pins s σ H Q I h) fun c s1 e=>?_);cases c with
 | true=>exact isTrue_and_nil e
 | false=>exact e
theorem qpk(ha:PT X a tA): PW X (.BoolOp .Or [a] pos) tA:=by
 intro wh pins s σ H Q I h;refine isTrue_or (thn (ha pins s σ H Q I h) fun c s1 e=>?_);cases c with
 | false=>exact isTrue_or_nil e
 | true=>exact e
theorem qpl(ha:PT X a tA)(hb:PW X (.BoolOp .And (b :: rest) pos) tB'): PW X (.BoolOp .And (a :: b :: rest) pos) (qt3 tA tB'):=by
 intro wh pins s σ H Q I h;refine isTrue_and (thn (ha pins s σ H _ I h) fun c s1 ⟨H1,I1,q1⟩=>?_);cases c with
 | true=>exact hb wh pins s1 σ H1 Q I1 q1
 | false=>exact⟨H1,I1,q1⟩
theorem qrx(ha:PT X a tA)(hb:PW X (.BoolOp .Or (b :: rest) pos) tB'): PW X (.BoolOp .Or (a :: b :: rest) pos) (tOr tA tB'):=by
 intro wh pins s σ H Q I h;refine isTrue_or (thn (ha pins s σ H _ I h) fun c s1 ⟨H1,I1,q1⟩=>?_);cases c with
 | true=>exact⟨H1,I1,q1⟩
 | false=>exact hb wh pins s1 σ H1 Q I1 q1
theorem qpm(ha:PT X a tA): PT X (.UnaryOp .Not a pos) (qt4 tA):=by
 intro pins s σ H Q I h;exact isTrue_not (ha pins s σ H (fun c H1=>Q (!c) H1) I h)
def qry(ta tb:TE): TE:=fun σ H Q=>ta σ H fun x H1=>∃c,x=.bl c/\if c=true then tb σ H1 Q else Q (.bl false) H1
def qrz(ta:TE): TE:=fun σ H Q=>ta σ H fun x H1=>∃c,x=.bl c/\Q (.bl (!c)) H1
theorem qpn{op}{t:TE}(h:PE X a t): PE X (.BoolOp op [a] pos) t:=fun pins s σ H Q I hw=>BoolOp_one (h pins s σ H Q I hw)
theorem qpo(ha:PE X a ta)(hb:PE X (.BoolOp .And (b :: rest) pos) tb): PE X (.BoolOp .And (a :: b :: rest) pos) (qry ta tb):=by
 intro pins s σ H Q I h;refine BoolOp_and (thn (ha pins s σ H _ I h) fun v s1 ⟨x,H1,I1,r1,q1⟩=>?_);obtain⟨c,rfl,q1⟩:=q1;cases r1;refine g0x ?_;cases c with
 | true=>exact hb pins s1 σ H1 Q I1 q1
 | false=>exact⟨.bl false,H1,I1,rfl,q1⟩
theorem qpp(ha:PE X a ta): PE X (.UnaryOp .Not a pos) (qrz ta):=by
 intro pins s σ H Q I h;refine UnaryOp_ (thn (ha pins s σ H _ I h) fun v s1 ⟨x,H1,I1,r1,q1⟩=>?_);obtain⟨c,rfl,q1⟩:=q1;cases r1;exact not_of (g0x ⟨.bl (!c),H1,I1,rfl,q1⟩)
def tIf(t:TT)(ta tb:TE): TE:=fun σ H Q=>t σ H fun c H1=>if c=true then ta σ H1 Q else tb σ H1 Q
theorem qjz{c:Expr}(hc:PT X c tA)(ha:PE X a ta)(hb:PE X b tb): PE X (.IfExp c a b pos) (tIf tA ta tb):=by
 intro pins s σ H Q I h;refine wpAny_IfExp (thn (hc pins s σ H _ I h) fun d s1 ⟨H1,I1,q1⟩=>?_);cases d with
 | true=>exact ha pins s1 σ H1 Q I1 q1
 | false=>exact hb pins s1 σ H1 Q I1 q1
end
def SqL(K:PySem.W.Frag)(H:Hp)(a:Addr)(xs:List V): Prop:=
 Rd H a (.lst xs) \/
  ∃(o:Obj) (its:Array Value) (n:Nat),K.lookup a=some o/\o.cls=.type "list" /\ o.dict=none/\o.data=.seq its n/\its.size<=sizeLine/\Vals xs its.toList
def SqT(K:PySem.W.Frag)(H:Hp)(a:Addr)(xs:List V): Prop:=
 Rd H a (.tup xs) \/
  ∃(o:Obj) (its:Array Value) (n:Nat),K.lookup a=some o/\o.cls=.type "tuple" /\ o.dict=none/\o.data=.seq its n/\its.size<=sizeLine/\Vals xs its.toList
def qt5:Value->Option V
 | .none=>some .non
 | .bool b=>some (.bl b)
 | .int i _=>some (.int i)
 | .str x _=>some (.str x)
 | .bytes b _=>some (.byt b)
 | .float b _=>some (.flt b)
 | .ref a=>some (.ref a)
 | .type n=>some (.ty n)
 | _=>none
theorem RelV.abs{x:V}{u:Value}(r:RelV x u): qt5 u=some x:=by
 cases x with
 | non=>cases r;rfl
 | bl _=>cases r;rfl
 | int _=>obtain⟨t,rfl⟩:=r;rfl
 | str _=>obtain⟨t,rfl⟩:=r;rfl
 | byt _=>obtain⟨t,rfl⟩:=r;rfl
 | flt _=>obtain⟨t,rfl⟩:=r;rfl
 | ref _=>cases r;rfl
 | ty _=>cases r;rfl
theorem RelV.inj{x y:V}{u:Value}(r:RelV x u)(q:RelV y u): x=y:=md (r.abs.symm.trans q.abs)
theorem Vals.inj:∀ {xs ys:List V} {us:List Value},Vals xs us->Vals ys us->xs=ys
 | _,_,_,.nil,.nil=>rfl
 | _,_,_,.cons r t,.cons r' t'=>by rw [r.inj r',Vals.inj t t']
section
variable{X:Cx}{pins:List (Addr×Obj)}{σ : St}{H:Hp}{s:Shared}{a:Addr}{xs ys:List V}
theorem SqL.of{K:PySem.W.Frag}(h:H a=some (.lst xs)): SqL K H a xs:=.inl (.inl h)
theorem SqT.of{K:PySem.W.Frag}(h:H a=some (.tup xs)): SqT K H a xs:=.inl (.inl h)
theorem Inv.list(I:Inv X pins σ H s)(h:SqL X.K H a xs): ∃its:List Value,Vals xs its/\PlainL s.heap a its.toArray/\xs.length<=sizeLine:=by
 rcases h with h|⟨o,its,n,hk,hc,hd,hs,hz,r⟩
 ·obtain⟨z,its,n,r,e⟩:=h.ok I.hok
  exact⟨its,r,⟨_,n,e,rfl,rfl,rfl⟩,z⟩
 ·refine⟨its.toList,r,⟨o,n,I.kIn a o hk,hc,hd,by simpa using hs⟩,?_⟩
  have e:=r.length;simp only [nt] at e;omega
theorem Inv.tupleX(I:Inv X pins σ H s)(h:SqT X.K H a xs): ∃its:List Value,Vals xs its/\TupX s.heap a its.toArray/\xs.length<=sizeLine:=by
 rcases h with h|⟨o,its,n,hk,hc,hd,hs,hz,r⟩
 ·obtain⟨z,its,r,p⟩:=h.ok I.hok
  exact⟨its,r,p,z⟩
 ·refine⟨its.toList,r,⟨o,I.kIn a o hk,hc,hd,n,by simpa using hs⟩,?_⟩
  have e:=r.length;simp only [nt] at e;omega
theorem Inv.tuple(I:Inv X pins σ H s)(h:SqT X.K H a xs): ∃its:List Value,Vals xs its/\IsTup s.heap a its.toArray/\xs.length<=sizeLine:=let⟨its,r,p,z⟩:=I.tupleX h; ⟨its,r,p.up,z⟩
theorem Inv.list_inj(I:Inv X pins σ H s)(h:SqL X.K H a xs)(h':SqL X.K H a ys): xs=ys:=by
 obtain⟨its,r,⟨o,n,e,_,_,d⟩,_⟩:=I.list h;obtain⟨its',r',⟨o',n',e',_,_,d'⟩,_⟩:=I.list h';rw [e] at e';cases e';rw [d] at d';injection d' with d1 _
 have:its=its':=by simpa using g0f Array.toList d1
 subst this;exact r.inj r'
theorem Inv.tuple_inj(I:Inv X pins σ H s)(h:SqT X.K H a xs)(h':SqT X.K H a ys): xs=ys:=by
 obtain⟨its,r,⟨o,e,_,n,d⟩,_⟩:=I.tuple h;obtain⟨its',r',⟨o',e',_,n',d'⟩,_⟩:=I.tuple h';rw [e] at e';cases e';rw [d] at d';injection d' with d1 _
 have:its=its':=by simpa using g0f Array.toList d1
 subst this;exact r.inj r'
end
abbrev Cx.wish(X:Cx)(E:Value->Shared->Prop): Cx:={X with xe:=E}
abbrev Cx.nox(X:Cx): Cx:=X.wish fun _ _=>False
theorem Cx.Ok.wish{X:Cx}(ok:X.Ok)(E:Value->Shared->Prop): (X.wish E).Ok:=
 ⟨ok.mod,ok.kind,ok.glob,ok.blt,ok.above,ok.inj,ok.has,ok.cab,ok.hd,ok.frames,ok.stk,ok.exf,ok.bs,ok.bsz,ok.noex,ok.exfs,ok.funs,ok.frf⟩
theorem Cx.Ok.unwish{X:Cx}{E:Value->Shared->Prop}(ok:(X.wish E).Ok): X.Ok:=
 ⟨ok.mod,ok.kind,ok.glob,ok.blt,ok.above,ok.inj,ok.has,ok.cab,ok.hd,ok.frames,ok.stk,ok.exf,ok.bs,ok.bsz,ok.noex,ok.exfs,ok.funs,ok.frf⟩
section
variable{X:Cx}{pins:List (Addr×Obj)}{σ : St}{H:Hp}{s:Shared}{E:Value->Shared->Prop}
theorem Inv.wish(I:Inv X pins σ H s)(E:Value->Shared->Prop): Inv (X.wish E) pins σ H s:=⟨I.ok.wish E,I.os,I.bare,I.base,I.loc,I.cell,I.free,I.freeC,I.pin,I.hok,I.len⟩
theorem Inv.unwish(I:Inv (X.wish E) pins σ H s): Inv X pins σ H s:=⟨I.ok.unwish,I.os,I.bare,I.base,I.loc,I.cell,I.free,I.freeC,I.pin,I.hok,I.len⟩
theorem SP.unwish{D:Ends}{f:Flow}{s':Shared}(h:SP (X.wish E) pins D f s'): SP X pins D f s':=by
 cases f with
 | next=>obtain⟨σ',H',I,q⟩:=h;exact⟨σ',H',I.unwish,q⟩
 | brk=>obtain⟨σ',H',I,q⟩:=h;exact⟨σ',H',I.unwish,q⟩
 | cont=>obtain⟨σ',H',I,q⟩:=h;exact⟨σ',H',I.unwish,q⟩
 | ret u=>obtain⟨v, σ',H',I,r,q⟩:=h;exact⟨v, σ',H',I.unwish,r,q⟩
theorem PE.nox{e:Expr}{t:TE}(h:PE X.nox e t): PE X e t:=fun pins s σ H Q I hw=>
 t5 (h pins s σ H Q (I.wish _) hw) (fun _ _ ⟨v,H',I',r,q⟩=>⟨v,H',I'.unwish,r,q⟩) fun _ _ z=>False.elim z
theorem PSs.nox{st:List Stmt}{t:TS}(h:PSs X.nox st t): PSs X st t:=fun pins s σ H D I hw=>
 t5 (h pins s σ H D (I.wish _) hw) (fun _ _ q=>q.unwish) fun _ _ z=>False.elim z
end
section
variable{X:Cx}{st:Stmt}{rest:List Stmt}{t u:TS}{e:Expr}{te:TE}{pos:Pos}
def tNext:TS:=fun D σ H=>D.nx σ H
def qt6(t u:TS): TS:=fun D σ H=>t {D with nx:=u D} σ H
theorem qnb:PSs X [] tNext:=fun _ _ σ H _ I h=>g48 ⟨σ,H,I,h⟩
theorem q6b(h1:PS X st t)(h2:PSs X rest u): PSs X (st :: rest) (qt6 t u):=by
 intro pins s σ H D I h;refine wpAny_execs_cons (thn (h1 pins s σ H {D with nx:=u D} I h) fun f s1 q=>?_);cases f with
 | next=>
  obtain⟨σ',H',I',q⟩:=q;exact h2 pins s1 σ' H' D I' q
 | ret v=>exact q
 | brk=>exact q
 | cont=>exact q
theorem qe8(h1:PS X st t): PSs X [st] t:=by
 intro pins s σ H D I h;refine wpAny_execs_cons (thn (h1 pins s σ H D I h) fun f s1 q=>?_);cases f with
 | next=>exact g48 q
 | ret v=>exact q
 | brk=>exact q
 | cont=>exact q
theorem Inv.quiet{pins:List (Addr×Obj)}{σ : St}{H:Hp}{s:Shared}(I:Inv X pins σ H s): interactive X.env=false:=by simp [interactive,I.ok.kind]
def qs0(te:TE): TS:=fun D σ H=>te σ H fun _ H1=>D.nx σ H1
theorem qe9(he:PE X e te)(hs:swapsWith e none pos.line X.env=pure false:=by rfl): PS X (.Expr e pos) (qs0 te):=by
 intro pins s σ H D I h;exact wpAny_Expr_any (thn (he pins s σ H _ I h) fun v s1 ⟨x,H1,I1,r1,q1⟩=>⟨σ,H1,I1,q1⟩) I.quiet hs
def qt7(te:TE): TS:=fun D σ H=>te σ H D.rt
theorem qpq(he:PE X e te): PS X (.Return (some e) pos) (qt7 te):=by
 intro pins s σ H D I h;exact wpAny_Return_some (thn (he pins s σ H _ I h) fun v s1 ⟨x,H1,I1,r1,q1⟩=>⟨x, σ,H1,I1,r1,q1⟩)
def qt8(c:TT)(t u:TS): TS:=fun D σ H=>c σ H fun b H1=>if b=true then t D σ H1 else u D σ H1
theorem qs1{c:Expr}{a b:List Stmt}{tc:TT}(hc:PT X c tc)(ha:PSs X a t)(hb:PSs X b u): PS X (.If c a b pos) (qt8 tc t u):=by
 intro pins s σ H D I h;refine wpAny_If (thn (hc pins s σ H _ I h) fun d s1 ⟨H1,I1,q1⟩=>?_);cases d with
 | true=>exact ha pins s1 σ H1 D I1 q1
 | false=>exact hb pins s1 σ H1 D I1 q1
end
abbrev TG:=V->St->Hp->(St->Hp->Prop)->Prop
abbrev TGs:=List V->St->Hp->(St->Hp->Prop)->Prop
def PG(X:Cx)(target:Expr)(t:TG): Prop:=
 ∀(pins:List (Addr×Obj)) (s:Shared) (σ : St) (H:Hp) (v:V) (u:Value) (Q:St->Hp->Prop),Inv X pins σ H s->RelV v u->t v σ H Q ->
  wpAny (model X.prog X.w) X.A (assign target X.env u) (fun _ s'=>∃ σ' H',Inv X pins σ' H' s'/\Q σ' H') X.xe s
def PGs(X:Cx)(ts:List Expr)(t:TGs): Prop:=
 ∀(pins:List (Addr×Obj)) (s:Shared) (σ : St) (H:Hp) (vs:List V) (us:List Value) (Q:St->Hp->Prop),Inv X pins σ H s->Vals vs us->t vs σ H Q ->
  wpAny (model X.prog X.w) X.A (assignInOrder ((assignEach ts X.env).map (·.2)) us) (fun _ s'=>∃ σ' H',Inv X pins σ' H' s'/\Q σ' H') X.xe s
abbrev TSet:=V->V->V->Hp->(Hp->Prop)->Prop
def qpr(X:Cx)(t:TSet): Prop:=
 ∀(pins:List (Addr×Obj)) (s:Shared) (σ : St) (H:Hp) (o i v:V) (ov iv u:Value) (Q:Hp->Prop),Inv X pins σ H s->RelV o ov->RelV i iv->RelV v u->t o i v H Q ->
  wpAny (model X.prog X.w) X.A (setItem ov iv u) (fun _ s'=>∃H',Inv X pins σ H' s'/\Q H') X.xe s
section
variable{X:Cx}{pos:Pos}
def q2n(i:Nat): TG:=fun v σ H Q=>Q (σ.set i (some v)) H
theorem qea{i:Nat}{x:Str}(hN:X.N.Nodup)(hi:X.N[i]? = some x)(hx:Loc X.env.scope x)(hf:X.fn x=true\/X.env.scope.names.lookup x=some .local:=by first|exact .inl rfl|exact .inr rfl|assumption): PG X (.Name x pos) (q2n i):=by
 intro pins s σ H v u Q I r h;exact wpAny_assign_Name (q69 I hN hi hx r (fun s' I'=>⟨_,H,I',h⟩) hf)
def gNil:TGs:=fun vs σ H Q=>vs=[]/\Q σ H
def qs2(t:TG)(u:TGs): TGs:=fun vs σ H Q=>∃v r,vs=v :: r/\t v σ H fun σ' H'=>u r σ' H' Q
theorem qnc:PGs X [] gNil:=by
 intro pins s σ H vs us Q I r h;obtain⟨e,h⟩:=h;subst e;cases r;exact assignInOrder_nil ⟨σ,H,I,h⟩
theorem qk0{e:Expr}{es:List Expr}{t:TG}{u:TGs}(h1:PG X e t)(h2:PGs X es u)
  (hs:(assignEach (e :: es) X.env).map (·.2)=assign e X.env :: (assignEach es X.env).map (·.2):=by rfl):PGs X (e :: es) (qs2 t u):=by
 intro pins s σ H vs us Q I r h;obtain⟨v,vr,e1,h⟩:=h;subst e1;cases r with
 | cons r rr=>
  rw [hs];refine assignInOrder_cons (thn (h1 pins s σ H _ _ _ I r h) fun _ s1 ⟨σ1,H1,I1,q1⟩=>?_);exact h2 pins s1 σ1 H1 _ _ Q I1 rr q1
def qt9(K:PySem.W.Frag)(n:Nat)(t:TGs): TG:=fun v σ H Q=>∃a xs,v=.ref a/\SqT K H a xs/\xs.length=n/\t xs σ H Q
theorem qps{es:List Expr}{k:Nat}{t:TGs}{n:Nat}(hc:X.calm=true)(h:PGs X es t)
  (hn:(assignEach es X.env).length=n:=by rfl) (hst:(assignEach es X.env).findIdx? (·.1)=none:=by rfl):PG X (.Tuple es k pos) (qt9 X.K n t):=by
 intro pins s σ H v u Q I r hw;obtain⟨a,xs,e1,hq,hl,hw⟩:=hw;subst e1;cases r;obtain⟨its,rv,ht,hz⟩:=I.tuple hq;refine assign_Tuple_tuple (I.ok.hd hc) ht (by simp [hn, <- hl,rv.length]) hst fun h' hx=>?_;have I1:Inv X pins σ H {s with heap:=h'}:=I.kept (t':=s.toks) fun b o e=>hx b o (gz (gv e)) e;exact h pins _ σ H xs _ Q I1 (by simpa using rv) hw
def qpt(to ti:TE)(t:TSet): TG:=fun v σ H Q=>to σ H fun o H1=>ti σ H1 fun i H2=>t o i v H2 fun H3=>Q σ H3
theorem qpu{o i:Expr}{to ti:TE}{t:TSet}(ho:PE X o to)(hi:PE X i ti)(hs:qpr X t)
  (ha:∀v,assign (.Subscript o i pos) X.env v=(do
   let ov <- holding [v] (eval o X.env)
   let iv <- holding [v,ov] (eval i X.env)
   standAt pos
   holding [v,ov,iv] (setItem ov iv v)
   release [v,ov,iv] []):=by intro _;rfl):PG X (.Subscript o i pos) (qpt to ti t):=by
 intro pins s σ H v u Q I r h;rw [ha];refine g0 (nh (thn (ho pins s σ H _ I h) fun ov s1 ⟨x,H1,I1,r1,q1⟩=>?_));refine g0 (nh (thn (hi pins s1 σ H1 _ I1 q1) fun iv s2 ⟨y,H2,I2,r2,q2⟩=>?_));refine g0 (wpAny_standAt (g0 (nh (thn (hs pins s2 σ H2 x y v ov iv u _ I2 r1 r2 r q2) fun _ s3 ⟨H3,I3,q3⟩=>?_))));exact wpAny_release ⟨σ,H3,I3,q3⟩
def qaq(te:TE)(g:TG): TS:=fun D σ H=>te σ H fun x H1=>g x σ H1 D.nx
theorem qpv{tg e:Expr}{te:TE}{g:TG}(he:PE X e te)(hg:PG X tg g)(hs:swapsWithSole [tg] e pos.line X.env=pure false:=by rfl)(hw:swappedStores [tg] e X.env=pure none:=by rfl)
  (h1:(assignEach [tg] X.env).map (·.2)=[assign tg X.env]:=by rfl):PS X (.Assign [tg] e pos) (qaq te g):=by
 intro pins s σ H D I h;refine wpAny_Assign_stores (thn (he pins s σ H _ I h) fun v s1 ⟨x,H1,I1,r1,q1⟩=>?_) hs hw;rw [h1];exact thn (hg pins s1 σ H1 x v _ I1 r1 q1) fun _ s2 q=>q
theorem qar{i:Nat}{x:Str}{e:Expr}{te:TE}{pos':Pos}(hN:X.N.Nodup)(hi:X.N[i]? = some x)(hx:Loc X.env.scope x)(he:PE X e te)(hs:swapsWith e (some (.Name x pos')) pos.line X.env=pure false:=by rfl)(hf:X.fn x=true\/X.env.scope.names.lookup x=some .local:=by first|exact .inl rfl|exact .inr rfl|assumption):
  PS X (.Assign [.Name x pos'] e pos) (qaq te (q2n i)):=by
 intro pins s σ H D I h;refine wpAny_Assign_Name (thn (he pins s σ H _ I h) fun v s1 ⟨y,H1,I1,r1,q1⟩=>?_) hs;exact q69 I1 hN hi hx r1 (fun s2 I2=>⟨_,H1,I2,q1⟩) hf
end
section
variable{X:Cx}{pos:Pos}
def qpw(c:TT)(tb:TS): TS:=fun D σ H=>∃W:Nat->St->Hp->Prop,(∃m,W m σ H)/\∀m σ H,W m σ H ->
 c σ H fun b H1=>if b=true then ∃N:St->Hp->Prop,(∀ σ' H',N σ' H'->∃m',m'<m/\W m' σ' H')/\tb {D with nx:=N,ct:=N,bk:=D.nx} σ H1 else D.nx σ H1
theorem qk1{c:Expr}{body:List Stmt}{tc:TT}{tb:TS}(hp:PassesOwn (model X.prog X.w) X.A X.env X.xe)(hc:PT X c tc)(hb:PSs X body tb): PS X (.While c body [] pos) (qpw tc tb):=by
 intro pins s σ H D I h;obtain⟨W,⟨m0,w0⟩,turn⟩:=h;refine wpAny_While (codeAny_whileLoop (fun n s'=>∃ σ' H',Inv X pins σ' H' s'/\W n σ' H') ?_ m0 ⟨σ,H,I,w0⟩)
 rintro n s1 ⟨σ1,H1,I1,w1⟩
 refine g1u hp (thn (hc pins s1 σ1 H1 _ I1 (turn n σ1 H1 w1)) fun b s2 ⟨H2,I2,q2⟩=>?_);cases b with
 | true=>
  obtain⟨N,hN,q2⟩:=q2;rw [mi rfl];refine g1u hp (thn (hb pins s2 σ1 H2 _ I2 q2) fun f s3 q3=>?_);cases f with
  | next=>
   obtain⟨σ3,H3,I3,n3⟩:=q3;obtain⟨m',hm,w3⟩:=hN σ3 H3 n3;exact⟨m',hm, σ3,H3,I3,w3⟩
  | cont=>
   obtain⟨σ3,H3,I3,n3⟩:=q3;obtain⟨m',hm,w3⟩:=hN σ3 H3 n3;exact⟨m',hm, σ3,H3,I3,w3⟩
  | brk=>exact q3
  | ret v=>exact q3
 | false=>
  rw [mn mf];exact g48 ⟨σ1,H2,I2,q2⟩
end
structure It where
 go:Nat->Hp->Prop
 yld:Nat->Hp->V->Hp->Prop
 stop:Nat->Hp->Prop
def wb(X:Cx)(pins:List (Addr×Obj))(H:Hp)(b:Addr): Prop:=
 H b=none/\b≠X.env.locals/\b∉X.fs/\(b∈X.ex\/X.s₀.heap.objs.size<=b)/\(∀x c,X.env.cells.lookup x=some c->c≠b)/\∀p∈X.pn++pins,p.1≠b
theorem Inv.fpOk{X:Cx}{pins:List (Addr×Obj)}{σ : St}{H H':Hp}{s:Shared}{b:Addr}(I:Inv X pins σ H s)(hb:s.heap.objs.size<=b)(hn:H' b=none): wb X pins H' b:=by
 refine⟨hn,tq (gu I.lt hb),I.nofs hb,.inr (mq I.sz hb),fun x c e z=>?_,fun p hp z=>?_⟩
 ·obtain⟨v,q⟩:=I.cell x c e
  exact absurd (gu q.lt (by rw [z];exact hb)) (g0s _)
 ·exact absurd (gu (gv (I.pin p hp).1) (by rw [z];exact hb)) (g0s _)
structure Turn(P:Program)(w:World)(K:PySem.W.Frag)(tg:Expr)(J:It)(fp:List Addr)(it:Addr)(tn:Nat->Heap->Prop): Prop where
 mem:it∈fp
 obj:∀i h,tn i h->∀b∈fp,∃o,h.get? b=some o/\∀v,o.data ≠ .cell v
 keep:∀i h h',tn i h->(∀b∈fp,∀o,h.get? b=some o->h'.get? b=some o)->tn i h'
 item:∀(X:Cx),X.prog=P->X.w=w->X.K=K->X.calm=true->∀(i:Nat) (pins:List (Addr×Obj)) (s:Shared) (σ : St) (H:Hp) (E:Value->Shared->Prop),Inv X pins σ H s->(∀b∈fp,wb X pins H b)->tn i s.heap->J.go i H ->
  wpAny (model P w) X.A (pyNext (.ref it)) (fun r s1=>∃u,r=some u /\
   wpAny (model P w) X.A (letOwnedTupleGo tg (.ref it) u) (fun _ s2=>∃x H',Inv X pins σ H' s2/\RelV x u/\J.yld i H x H'/\tn (i+1) s2.heap/\∀b∈fp,H' b=none) E s1) E s
 done:∀(X:Cx),X.prog=P->X.w=w->X.K=K->X.calm=true->∀(i:Nat) (pins:List (Addr×Obj)) (s:Shared) (σ : St) (H:Hp) (E:Value->Shared->Prop),Inv X pins σ H s->(∀b∈fp,wb X pins H b)->tn i s.heap->J.stop i H ->
  wpAny (model P w) X.A (pyNext (.ref it)) (fun r s1=>r=none/\Inv X pins σ H s1) E s
 self:∀(A:Around) (i:Nat) (s:Shared) (Q:Value->Shared->Prop) (E:Value->Shared->Prop),tn i s.heap->Q (.ref it) s->wpAny (model P w) A (pyIter (.ref it)) Q E s
abbrev TI:=St->Hp->(It->Hp->Prop)->Prop
def PIE(X:Cx)(pins:List (Addr×Obj))(σ : St)(tg:Expr)(R:It->Hp->Prop)(itv:Value)(s2:Shared): Prop:=
 ∃(it:Addr) (fp:List Addr) (tn:Nat->Heap->Prop) (J:It) (H':Hp),itv=.ref it/\Inv X pins σ H' s2/\Turn X.prog X.w X.K tg J fp it tn/\tn 0 s2.heap/\(∀b∈fp,wb X pins H' b)/\R J H'
def PI(X:Cx)(tg iter:Expr)(wi:TI): Prop:=
 ∀(pins:List (Addr×Obj)) (s:Shared) (σ : St) (H:Hp) (R:It->Hp->Prop),Inv X pins σ H s->wi σ H R ->
  wpAny (model X.prog X.w) X.A (eval iter X.env) (fun v s1=>wpAny (model X.prog X.w) X.A (pyIter v) (PIE X pins σ tg R) X.xe s1) X.xe s
theorem qfc{M:Model}{A:Around}{E:Value->Shared->Prop}{s:Shared}{tg:Expr}{it:Addr}{u:Value}{o:Obj}{n:String}{vs:Array Value}{Q:Unit->Shared->Prop}(ho:s.heap.get? it=some o)(hc:o.cls=.type n)(hd:o.data=.fields vs)
  (hn:["enumerate","zip","dict_itemiterator","dict_reverseitemiterator","odict_iterator","itertools.zip_longest","itertools.pairwise"].contains n=false) (hQ:Q () s):wpAny M A (letOwnedTupleGo tg (.ref it) u) Q E s:=by
 unfold letOwnedTupleGo;cases tg <;> first
  | exact g9 hQ
  | (cases u <;> first
    | exact g9 hQ
    | (refine g0 (wpAny_load ho ?_);rw [hc,hd];show wpAny M A (if(["enumerate","zip","dict_itemiterator","dict_reverseitemiterator","odict_iterator","itertools.zip_longest","itertools.pairwise"].contains n&&vs[0]? == some (rawInt _))=true then _ else _) Q E s;rw [mn (by intro h;rw [hn,g4m] at h;cases h)];exact g9 hQ))
def Itl(K:PySem.W.Frag)(a:Addr): It:=
 ⟨fun i H=>∃xs x,SqL K H a xs/\xs[i]? = some x,fun i H x H'=>H'=H/\∀xs,SqL K H a xs->xs[i]? = some x,fun i H=>∃xs,SqL K H a xs/\xs.length<=i⟩
def Itt(K:PySem.W.Frag)(a:Addr): It:=
 ⟨fun i H=>∃xs x,SqT K H a xs/\xs[i]? = some x,fun i H x H'=>H'=H/\∀xs,SqT K H a xs->xs[i]? = some x,fun i H=>∃xs,SqT K H a xs/\xs.length<=i⟩
def Itr(lo:Int)(n:Nat): It:=⟨fun i _=>i<n,fun i H x H'=>H'=H/\x=.int (lo+i),fun i _=>n<=i⟩
theorem qhb{P:Program}{w:World}{K:PySem.W.Frag}{tg:Expr}(a it:Addr): Turn P w K tg (Itl K a) [it] it (fun i h=>h.IsListIter it a i) where
 mem:=by simp
 obj:=fun i h st b hb=>by
  have e:b=it:=by simpa using hb
  subst e;obtain⟨o,e,c,d⟩:=st;exact⟨o,e,fun v z=>by rw [d] at z;cases z⟩
 keep:=fun i h h' st k=>st.at fun o e=>k it (by simp) o e
 item:=by
  intro X hP hw hK hc i pins s σ H E I hf st hg;subst hP hw hK;obtain⟨xs,x,hq,hx⟩:=hg;obtain⟨its,rv,p,hz⟩:=I.list hq;obtain⟨u,hu,ru⟩:=rv.get hx;obtain⟨f0,f1,f2,f3,f4,f5⟩:=hf it (by simp);refine wpAny_pyNext_list_item st p.isList (x:=u) (by simpa using hu) fun h' st' sb=>?_;have I1:Inv X pins σ H {s with heap:=h'}:=I.turned (t':=s.toks) (fun b o hb e=>(sb.2 b hb).trans e) f0 f1 f3 f4 f5;obtain⟨o,e,c,d⟩:=id st';exact⟨u,rfl,qfc (s:={s with heap:=h'}) e c d (by decide) ⟨x,H,I1,ru,⟨rfl,fun ys hy=>by rw [I.list_inj hy hq];exact hx⟩,st',fun b hb=>(hf b hb).1⟩⟩
 done:=by
  intro X hP hw hK hc i pins s σ H E I hf st hg;subst hP hw hK;obtain⟨xs,hq,hx⟩:=hg;obtain⟨its,rv,p,hz⟩:=I.list hq;obtain⟨f0,f1,f2,f3,f4,f5⟩:=hf it (by simp);have hl:=rv.length;exact wpAny_pyNext_list_end (I.ok.hd hc) st p.isList (by simp;omega) fun h' eb=>⟨rfl,I.turned (t':=s.toks) (fun b o hb e=>eb b o hb e) f0 f1 f3 f4 f5⟩
 self:=fun _ _ _ _ _ st h=>wpAny_pyIter_listiter st h
theorem qfd{P:Program}{w:World}{K:PySem.W.Frag}{tg:Expr}(a it:Addr): Turn P w K tg (Itt K a) [it] it (fun i h=>h.IsTupleIter it a i) where
 mem:=by simp
 obj:=fun i h st b hb=>by
  have e:b=it:=by simpa using hb
  subst e;obtain⟨o,e,c,d⟩:=st;exact⟨o,e,fun v z=>by rw [d] at z;cases z⟩
 keep:=fun i h h' st k=>st.at fun o e=>k it (by simp) o e
 item:=by
  intro X hP hw hK hc i pins s σ H E I hf st hg;subst hP hw hK;obtain⟨xs,x,hq,hx⟩:=hg;obtain⟨its,rv,p,hz⟩:=I.tuple hq;obtain⟨u,hu,ru⟩:=rv.get hx;obtain⟨f0,f1,f2,f3,f4,f5⟩:=hf it (by simp);refine wpAny_pyNext_tuple_item st (show s.heap.IsTuple a its.toArray from p) (x:=u) (by simpa using hu) fun h' st' sb=>?_;have I1:Inv X pins σ H {s with heap:=h'}:=I.turned (t':=s.toks) (fun b o hb e=>(sb.2 b hb).trans e) f0 f1 f3 f4 f5;obtain⟨o,e,c,d⟩:=id st';exact⟨u,rfl,qfc (s:={s with heap:=h'}) e c d (by decide) ⟨x,H,I1,ru,⟨rfl,fun ys hy=>by rw [I.tuple_inj hy hq];exact hx⟩,st',fun b hb=>(hf b hb).1⟩⟩
 done:=by
  intro X hP hw hK hc i pins s σ H E I hf st hg;subst hP hw hK;obtain⟨xs,hq,hx⟩:=hg;obtain⟨its,rv,p,hz⟩:=I.tuple hq;obtain⟨f0,f1,f2,f3,f4,f5⟩:=hf it (by simp);have hl:=rv.length;exact wpAny_pyNext_tuple_end (I.ok.hd hc) st (show s.heap.IsTuple a its.toArray from p) (by simp;omega) fun h' eb=>⟨rfl,I.turned (t':=s.toks) (fun b o hb e=>eb b o hb e) f0 f1 f3 f4 f5⟩
 self:=fun _ _ _ _ _ st h=>wpAny_pyIter_tupleiter st h
theorem qfe{P:Program}{w:World}{K:PySem.W.Frag}{tg:Expr}(it:Addr)(lo:Int)(n:Nat): Turn P w K tg (Itr lo n) [it] it (fun i h=>IsRangeIter h it (lo+(i:Nat)*1) ((n:Int)-(i:Nat)) 1) where
 mem:=by simp
 obj:=fun i h st b hb=>by
  have e:b=it:=by simpa using hb
  subst e;exact⟨_,st,fun v z=>by
   have z':Data.fields _=Data.cell v:=z;cases z'⟩
 keep:=fun i h h' st k=>k it (by simp) _ st
 item:=by
  intro X hP hw hK hc i pins s σ H E I hf st hg;subst hP hw hK;obtain⟨f0,f1,f2,f3,f4,f5⟩:=hf it (by simp);have W:=Walks.range (prog:=X.prog) (w:=X.w) (I.ok.hd hc) it lo 1 n;refine W.item i s _ _ hg st fun v h' tk hv st' kk=>?_;obtain⟨t,rfl⟩:=hv;have I1:Inv X pins σ H {s with heap:=h',toks:=tk}:=I.turned (fun b o hb e=>kk b o (by simpa using hb) e) f0 f1 f3 f4 f5;refine⟨_,rfl,qfc (s:={s with heap:=h',toks:=tk}) (n:="range_iterator") st' rfl rfl (by decide) ⟨.int (lo+i),H,I1,⟨t,?_⟩,⟨rfl,rfl⟩,st',fun b hb=>(hf b hb).1⟩⟩;rw [Int.mul_one]
 done:=by
  intro X hP hw hK hc i pins s σ H E I hf st hg;subst hP hw hK;obtain⟨f0,f1,f2,f3,f4,f5⟩:=hf it (by simp);exact wpAny_pyNext_range_end (I.ok.hd hc) st (by have:n<=i:=hg;omega) fun h' eb=>⟨rfl,I.turned (t':=s.toks) (fun b o hb e=>eb b o hb e) f0 f1 f3 f4 f5⟩
 self:=fun _ _ _ _ _ st h=>wpAny_pyIter_rangeiter st h
section
variable{X:Cx}{tg:Expr}
theorem qas{pins:List (Addr×Obj)}{σ : St}{H:Hp}{s:Shared}{R:It->Hp->Prop}{E:Value->Shared->Prop}{lo hi:Int}{t u v:Tok}{tk:Nat}(I:Inv X pins σ H s)(h1 : -(2 ^ 62)<=lo)(h2:lo<2 ^ 62)(h3 : -(2 ^ 62)<=hi)(h4:hi<2 ^ 62)
  (q:R (Itr lo (hi-lo).toNat) H):wpAny (model X.prog X.w) X.A (pyIter (.ref s.heap.objs.size)) (PIE X pins σ tg R) E {s with heap:=s.heap.push {cls:=.type "range",data:=.fields #[.int lo t,.int hi u,.int 1 v]},toks:=tk}:=by
 refine wpAny_pyIter_range (IsRange.new ..) (small_one h1 h2 h3 h4) ?_;have I1:Inv X pins σ H {s with heap:=s.heap.push {cls:=.type "range",data:=.fields #[.int lo t,.int hi u,.int 1 v]},toks:=tk}:=I.kept fun b o e=>gc _ e;refine⟨(s.heap.push {cls:=.type "range",data:=.fields #[.int lo t,.int hi u,.int 1 v]}).objs.size,[(s.heap.push {cls:=.type "range",data:=.fields #[.int lo t,.int hi u,.int 1 v]}).objs.size],_,_,H,rfl,
  I1.kept (t':=tk) fun b o e=>gc _ e,qfe _ lo (hi-lo).toNat,?_,fun b hb=>?_,q⟩
 ·have e1:lo+((0:Nat):Int)*1=lo:=by simp
  have e2:(((hi-lo).toNat:Nat):Int)-((0:Nat):Int)=Builtin.Range.rangeSize lo hi 1:=by rw [rangeSize_one];split <;> omega
  show IsRangeIter _ _ (lo+((0:Nat):Int)*1) ((((hi-lo).toNat:Nat):Int)-((0:Nat):Int)) 1;rw [e1,e2];exact gf _ rfl
 ·have e:b=(s.heap.push {cls:=.type "range",data:=.fields #[.int lo t,.int hi u,.int 1 v]}).objs.size:=by simpa using hb
  subst e;exact I1.fpOk (gw _) (I1.hok.fresh (gw _))
def qs3(ta:TA): TI:=fun σ H R=>ta σ H fun vs H1=>∃j:Int,vs=[.int j] /\ -(2 ^ 62)<=j/\j<2 ^ 62/\R (Itr 0 j.toNat) H1
def qs4(ta:TA): TI:=fun σ H R=>ta σ H fun vs H1=>∃i j:Int,vs=[.int i,.int j]/\(-(2 ^ 62)<=i/\i<2 ^ 62 /\ -(2 ^ 62)<=j/\j<2 ^ 62)/\R (Itr i (j-i).toNat) H1
theorem qhc{a:Expr}{ta:TA}{p pos:Pos}(hg:Gl X "range")(hm:X.mg "range" = none)(ha:PA X [a] ta)(hs:starEach [a] X.env=[(false,eval a X.env)]:=by rfl): PI X tg (.Call (.Name "range" p) [a] [] pos) (qs3 ta):=by
 intro pins s σ H R I h;refine Call_ (q05 I hg hm boot_range (g1q (thn (ha pos pins s σ H _ I h) fun us s1 ⟨vs,H1,I1,r1,q1⟩=>?_) hs rfl));obtain⟨j,e,q1,q2,q⟩:=q1;subst e;cases r1 with
 | cons r rr=>
  cases rr;obtain⟨t,rfl⟩:=r;exact call_range_1 (qas I1 (by omega) (by omega) q1 q2 (by simpa using q))
theorem qhd{a b:Expr}{ta:TA}{p pos:Pos}(hg:Gl X "range")(hm:X.mg "range" = none)(ha:PA X [a,b] ta)(hs:starEach [a,b] X.env=[(false,eval a X.env),(false,eval b X.env)]:=by rfl)(hs2:starEach [b] X.env=[(false,eval b X.env)]:=by rfl):
  PI X tg (.Call (.Name "range" p) [a,b] [] pos) (qs4 ta):=by
 intro pins s σ H R I h;refine Call_ (q05 I hg hm boot_range (g1q (thn (ha pos pins s σ H _ I h) fun us s1 ⟨vs,H1,I1,r1,q1⟩=>?_) (by rw [hs,hs2]) (by rw [hs2];rfl)));obtain⟨i,j,e,⟨q1,q2,q3,q4⟩,q⟩:=q1;subst e;cases r1 with
 | cons r rr=>
  cases rr with
  | cons r' rr=>
   cases rr;obtain⟨t,rfl⟩:=r;obtain⟨t',rfl⟩:=r';exact call_range_2 (qas I1 q1 q2 q3 q4 q)
def qta(wi:TI)(g:TG)(tb:TS): TS:=fun D σ H=>wi σ H fun J H1=>∃W:Nat->Nat->St->Hp->Prop,(∃m,W 0 m σ H1)/\∀i m σ H,W i m σ H ->
 (J.stop i H/\D.nx σ H)\/(J.go i H/\∃N:St->Hp->Prop,(∀ σ' H',N σ' H'->∃m',m'<m/\W (i+1) m' σ' H')/\∀x H',J.yld i H x H'->g x σ H' fun σ2 H2=>tb {D with nx:=N,ct:=N,bk:=D.nx} σ2 H2)
def q38(fp:List Addr)(h:Heap): List (Addr×Obj):=fp.filterMap fun b=>(h.get? b).map fun o=>(b,o)
theorem q1l{fp:List Addr}{h:Heap}{b:Addr}{o:Obj}(hb:b∈fp)(e:h.get? b=some o): (b,o)∈q38 fp h:=g4u.mpr ⟨b,hb,by rw [e];rfl⟩
theorem qhe{fp:List Addr}{h:Heap}{p:Addr×Obj}(hp:p∈q38 fp h): p.1∈fp/\h.get? p.1=some p.2:=by
 obtain⟨b,hb,e⟩:=g4u.mp hp;cases q:h.get? b with
 | none=>rw [q] at e;cases e
 | some o=>
  rw [q] at e;have e':(b,o)=p:=md e;subst e';exact⟨hb,q⟩
theorem Inv.pinned{pins:List (Addr×Obj)}{σ : St}{H:Hp}{s:Shared}{fp:List Addr}(I:Inv X pins σ H s)(hf:∀b∈fp,wb X pins H b)(ho:∀b∈fp,∃o,s.heap.get? b=some o/\∀v,o.data ≠ .cell v): Inv X (pins++q38 fp s.heap) σ H s:=
 I.pins_of fun p hp=>(ny.mp hp).elim (fun z=>I.pin p (nk _ z)) fun z=>by
  obtain⟨hb,e⟩:=qhe z;obtain⟨f0,f1,f2,_⟩:=hf p.1 hb;obtain⟨o,e',d⟩:=ho p.1 hb;rw [e] at e';cases e';exact⟨e,f0,f1,f2,d⟩
theorem Inv.unpinned{pins pl:List (Addr×Obj)}{σ : St}{H:Hp}{s:Shared}(I:Inv X (pins++pl) σ H s): Inv X pins σ H s:=I.pins_of fun p hp=>I.pin p (nk _ (g2q _ hp))
theorem qhf{iter:Expr}{body:List Stmt}{wi:TI}{g:TG}{tb:TS}{pos:Pos}(hp:PassesOwn (model X.prog X.w) X.A X.env X.xe)(hc:X.calm=true)(hi:PI X tg iter wi)(hg:PG X tg g)(hb:PSs X body tb)
  (hs:∀x,foldedSetIterable iter X.env x=pure x:=by intro _;rfl):PS X (.For tg iter body [] pos) (qta wi g tb):=by
 intro pins s σ H D I h;refine wpAny_For (thn (hi pins s σ H _ I h) fun v s1 h1=>thn h1 fun itv s2 h2=>?_) hs;obtain⟨it,fp,tn,J,H2,e,I2,T,st2,f2,W,⟨m0,w0⟩,turn⟩:=h2;subst e
 -- what stays true of the iterator's objects through the loop
 have stat:∀ {H':Hp},(∀b∈fp,H' b=none)->∀b∈fp,wb X pins H' b:=fun hn b hb=>⟨hn b hb,(f2 b hb).2⟩
 refine codeAny_forLoop_any (fun n s'=>∃i σ' H',Inv X pins σ' H' s'/\tn i s'.heap/\(∀b∈fp,H' b=none)/\W i n σ' H') ?_ m0 ⟨0, σ,H2,I2,st2,fun b hb=>(f2 b hb).1,w0⟩
 rintro n s3 ⟨i, σ3,H3,I3,st3,fr3,w3⟩
 rcases turn i n σ3 H3 w3 with⟨stop,qn⟩|⟨go,N,hN,step⟩
 ·refine g1u hp (thn (T.done X rfl rfl rfl hc i pins s3 σ3 H3 X.xe I3 (stat fr3) st3 stop) fun r s4 ⟨hr,I4⟩=>?_)
  subst hr;exact g48 ⟨σ3,H3,I4,qn⟩
 ·refine g1u hp (thn (T.item X rfl rfl rfl hc i pins s3 σ3 H3 X.xe I3 (stat fr3) st3 go) fun r s4 ⟨u,hr,h4⟩=>?_)
  subst hr;refine g1u hp (thn h4 fun _ s5 ⟨x,H5,I5,r5,y5,st5,fr5⟩=>?_);have I5':=I5.pinned (stat fr5) (T.obj _ _ st5);refine g1u hp (thn (hg _ s5 σ3 H5 x u _ I5' r5 (step x H5 y5)) fun _ s6 ⟨σ6,H6,I6,q6⟩=>?_);refine g1u hp (thn (hb _ s6 σ6 H6 _ I6 q6) fun f s7 q7=>?_);have again:∀ {σ7:St} {H7:Hp},Inv X (pins++q38 fp s5.heap) σ7 H7 s7->N σ7 H7->∃m,m<n/\∃i σ' H',Inv X pins σ' H' s7/\tn i s7.heap/\(∀b∈fp,H' b=none)/\W i m σ' H':=fun {σ7 H7} I7 n7=>by
   obtain⟨m',hm,w7⟩:=hN σ7 H7 n7;refine⟨m',hm,i+1, σ7,H7,I7.unpinned,T.keep _ _ _ st5 fun b hb o e=>(I7.pin (b,o) (nk _ (nk _ (q1l hb e)))).1,fun b hb=>?_,w7⟩;obtain⟨o,e,d⟩:=T.obj _ _ st5 b hb;exact(I7.pin (b,o) (nk _ (nk _ (q1l hb e)))).2.1
  cases f with
  | next=>obtain⟨σ7,H7,I7,n7⟩:=q7;exact again I7 n7
  | cont=>obtain⟨σ7,H7,I7,n7⟩:=q7;exact again I7 n7
  | brk=>obtain⟨σ7,H7,I7,q7⟩:=q7;exact⟨σ7,H7,I7.unpinned,q7⟩
  | ret v=>obtain⟨x7, σ7,H7,I7,r7,q7⟩:=q7;exact⟨x7, σ7,H7,I7.unpinned,r7,q7⟩
end
abbrev R2:=V->V->Hp->VK->Prop
def OpR(X:Cx)(f:Value->Value->Sem Value)(r:R2): Prop:=
 ∀(pins:List (Addr×Obj)) (s:Shared) (σ : St) (H:Hp) (x y:V) (v u:Value) (Q:VK),Inv X pins σ H s->RelV x v->RelV y u->r x y H Q ->
  wpAny (model X.prog X.w) X.A (f v u) (EP X pins σ Q) X.xe s
def jt(X:Cx)(f:Value)(r:List V->Hp->VK->Prop): Prop:=
 ∀(pins:List (Addr×Obj)) (s:Shared) (σ : St) (H:Hp) (xs:List V) (us:List Value) (Q:VK),Inv X pins σ H s->Vals xs us->r xs H Q ->
  wpAny (model X.prog X.w) X.A (call f us) (EP X pins σ Q) X.xe s
def qtb(X:Cx)(r:V->Hp->(Bool->Hp->Prop)->Prop): Prop:=
 ∀(pins:List (Addr×Obj)) (s:Shared) (σ : St) (H:Hp) (x:V) (v:Value) (Q:Bool->Hp->Prop),Inv X pins σ H s->RelV x v->r x H Q ->
  wpAny (model X.prog X.w) X.A (truthy v) (TP X pins σ Q) X.xe s
def tOp(r:R2)(ta tb:TE): TE:=fun σ H Q=>ta σ H fun x H1=>tb σ H1 fun y H2=>r x y H2 Q
def rI(C:Int->Int->Prop)(g:Int->Int->V): R2:=fun x y H Q=>∃i j,x=.int i/\y=.int j/\C i j/\Q (g i j) H
def rI0(g:Int->Int->V): R2:=fun x y H Q=>∃i j,x=.int i/\y=.int j/\Q (g i j) H
section
variable{X:Cx}{a b c:Expr}{ta tb tc:TE}{pos:Pos}
theorem qk2(ha:PE X a ta)(hb:PE X b tb){pins:List (Addr×Obj)}{s:Shared}{σ : St}{H:Hp}{R:V->V->Hp->Prop}(I:Inv X pins σ H s)
  (h:ta σ H fun x H1=>tb σ H1 fun y H2=>R x y H2) {Q:Value->Shared->Prop} {f:Value->Value->Sem Value}
  (hf:∀v u s2 x y H2,Inv X pins σ H2 s2->RelV x v->RelV y u->R x y H2->wpAny (model X.prog X.w) X.A (f v u) Q X.xe s2) :
  wpAny (model X.prog X.w) X.A (eval a X.env) (fun v s₁=>wpAny (model X.prog X.w) X.A (eval b X.env) (fun u s₂=>wpAny (model X.prog X.w) X.A (f v u) Q X.xe s₂) X.xe s₁) X.xe s:=by
 refine thn (ha pins s σ H _ I h) fun v s1 ⟨x,H1,I1,r1,q1⟩=>?_;refine thn (hb pins s1 σ H1 _ I1 q1) fun u s2 ⟨y,H2,I2,r2,q2⟩=>?_;exact hf v u s2 x y H2 I2 r1 r2 q2
theorem qmr{op:Operator}{r:R2}(ho:OpR X (binaryOp op) r)(ha:PE X a ta)(hb:PE X b tb): PE X (.BinOp a op b pos) (tOp r ta tb):=by
 intro pins s σ H Q I h;exact wpAny_BinOp (qk2 ha hb I h fun v u s2 x y H2 I2 rx ry q=>ho pins s2 σ H2 x y v u Q I2 rx ry q)
theorem opI{f:Value->Value->Sem Value}{C:Int->Int->Prop}{g:Int->Int->Int}
  (rule:∀(i j:Int) (t u:Tok) (s:Shared) (Q:Value->Shared->Prop) (E:Value->Shared->Prop),C i j->Q (.int (g i j) s.toks) {s with toks:=s.toks+1}->wpAny (model X.prog X.w) X.A (f (.int i t) (.int j u)) Q E s) :
  OpR X f (rI C fun i j=>.int (g i j)):=by
 intro pins s σ H x y v u Q I rx ry h;obtain⟨i,j,rfl,rfl,hc,q⟩:=h;obtain⟨t,rfl⟩:=rx;obtain⟨t',rfl⟩:=ry;exact rule i j t t' s _ _ hc ⟨.int (g i j),H,I.tok _,⟨_,rfl⟩,q⟩
theorem qk3{f:Value->Value->Sem Value}{g:Int->Int->Int}
  (rule:∀(i j:Int) (t u:Tok) (s:Shared) (Q:Value->Shared->Prop) (E:Value->Shared->Prop),Q (.int (g i j) s.toks) {s with toks:=s.toks+1}->wpAny (model X.prog X.w) X.A (f (.int i t) (.int j u)) Q E s) :
  OpR X f (rI0 fun i j=>.int (g i j)):=by
 intro pins s σ H x y v u Q I rx ry h;obtain⟨i,j,rfl,rfl,q⟩:=h;obtain⟨t,rfl⟩:=rx;obtain⟨t',rfl⟩:=ry;exact rule i j t t' s _ _ ⟨.int (g i j),H,I.tok _,⟨_,rfl⟩,q⟩
theorem qk4{f:Value->Value->Sem Value}{g:Int->Int->Bool}
  (rule:∀(i j:Int) (t u:Tok) (s:Shared) (Q:Value->Shared->Prop) (E:Value->Shared->Prop),Q (.bool (g i j)) s->wpAny (model X.prog X.w) X.A (f (.int i t) (.int j u)) Q E s) :
  OpR X f (rI0 fun i j=>.bl (g i j)):=by
 intro pins s σ H x y v u Q I rx ry h;obtain⟨i,j,rfl,rfl,q⟩:=h;obtain⟨t,rfl⟩:=rx;obtain⟨t',rfl⟩:=ry;exact rule i j t t' s _ _ ⟨.bl (g i j),H,I,rfl,q⟩
def qtc(i j:Int): Prop:=0<j/\j<1073741824
def qpx(i j:Int): Prop:=0<=j/\j<=1000000/\i.natAbs<2 ^ 64
def CMul(i j:Int): Prop:=(-(2 ^ 64)<i/\i<2 ^ 64)\/(-(2 ^ 64)<j/\j<2 ^ 64)
theorem CMul.ok{i j:Int}(h:CMul i j): IntMulOk i j:=by
 rcases h with⟨h1,h2⟩|⟨h1,h2⟩
 ·exact .of_left (intBits_le_64 h1 h2)
 ·exact .of_right (intBits_le_64 h1 h2)
theorem qpy:OpR X (binaryOp .Add) (rI0 fun i j=>.int (i+j)):=qk3 fun _ _ _ _ _ _ _ q=>add_int q
theorem qpz:OpR X (binaryOp .Sub) (rI0 fun i j=>.int (i-j)):=qk3 fun _ _ _ _ _ _ _ q=>sub_int q
theorem qq0:OpR X (binaryOp .Mult) (rI CMul fun i j=>.int (i*j)):=opI fun _ _ _ _ _ _ _ hc q=>mul_int q hc.ok
theorem qnd:OpR X (binaryOp .FloorDiv) (rI qtc fun i j=>.int (i / j)):=opI fun i j _ _ _ _ _ hc q=>by
 have h1:(0:Int)<j:=hc.1;have h2:j<1073741824:=hc.2;exact floordiv_int (by omega) (by rw [Int.fdiv_eq_ediv_of_nonneg i (by omega)];exact q) (.inl (PyProof.noPylong_small (by omega)))
theorem qq1:OpR X (binaryOp .Mod) (rI (fun _ j=>0<j) fun i j=>.int (i%j)):=opI fun i j _ _ _ _ _ hc q=>by
 have h1:(0:Int)<j:=hc;exact mod_int' (by omega) (by rw [Int.fmod_eq_emod_of_nonneg i (by omega)];exact q)
theorem qq2:OpR X (binaryOp .Pow) (rI qpx fun i j=>.int (i ^ j.toNat)):=opI fun _ _ _ _ _ _ _ hc q=>pow_int_small hc.1 hc.2.1 hc.2.2 q
theorem qq3:OpR X (binaryOp .LShift) (rI qpx fun i j=>.int (i*2 ^ j.toNat)):=opI fun _ _ _ _ _ _ _ hc q=>lshift_int_small hc.1 hc.2.1 hc.2.2 q
theorem qq4:OpR X (binaryOp .BitAnd) (rI0 fun i j=>.int (Builtin.bitAnd i j)):=qk3 fun _ _ _ _ _ _ _ q=>and_int q
end
def q8b:V->V->Bool
 | .non,.non=>true | .non,.int _=>true | .int _,.non=>true | .non,.bl _=>true | .bl _,.non=>true | .non,.str _=>true | .str _,.non=>true
 | .int _,.int _=>true | .bl _,.bl _=>true | .str _,.str _=>true | .byt _,.byt _=>true
 | .int _,.str _=>true | .str _,.int _=>true | .bl _,.str _=>true | .str _,.bl _=>true
 | _,_=>false
def rEq:R2:=fun x y H Q=>q8b x y=true/\Q (.bl (decide (x=y))) H
def rNe:R2:=fun x y H Q=>q8b x y=true/\Q (.bl (!decide (x=y))) H
theorem qeb{i j:Int}: decide (V.int i=V.int j)=(i==j):=by
 rw [g04];simp
theorem qhg{i j:Bool}: decide (V.bl i=V.bl j)=(i==j):=by
 rw [g04];simp
theorem qec{i j:Str}: decide (V.str i=V.str j)=(i==j):=by
 rw [g04];simp
theorem qed{i j:Array UInt8}: decide (V.byt i=V.byt j)=(i.toList==j.toList):=by
 rw [g04];cases i;cases j;simp
section
variable{X:Cx}{a b c:Expr}{ta tb tc:TE}{pos:Pos}
theorem zh{pins:List (Addr×Obj)}{σ : St}{H:Hp}{s:Shared}{Q:VK}{k k':Bool}(I:Inv X pins σ H s)(q:Q (.bl k) H)(e:k=k'): EP X pins σ Q (.bool k') s:=by
 subst e;exact⟨.bl k,H,I,rfl,q⟩
theorem qs5:OpR X (compareOp .Eq) rEq:=by
 intro pins s σ H x y v u Q I rx ry h;obtain⟨hs,q⟩:=h;cases x with
 | non=>
  cases rx;cases y with
  | non=>cases ry;exact PySem.EqNone.eq_none_none (zh I q (by simp))
  | bl j=>cases ry;exact PySem.EqNone.eq_none_bool (zh I q (by simp))
  | int j=>obtain⟨t',rfl⟩:=ry;exact PySem.EqNone.eq_none_int (zh I q (by simp))
  | str j=>obtain⟨t',rfl⟩:=ry;exact PySem.EqNone.eq_none_str (zh I q (by simp))
  | _=>exact absurd (show false=true from hs) mf
 | bl i=>
  cases rx;cases y with
  | non=>cases ry;exact PySem.EqNone.eq_bool_none (zh I q (by simp))
  | bl j=>cases ry;exact eq_bool (zh I q qhg)
  | str j=>obtain⟨t',rfl⟩:=ry;exact PySem.EqMixed.eq_bool_str (zh I q (by simp))
  | _=>exact absurd (show false=true from hs) mf
 | int i=>
  obtain⟨t,rfl⟩:=rx;cases y with
  | non=>cases ry;exact PySem.EqNone.eq_int_none (zh I q (by simp))
  | int j=>obtain⟨t',rfl⟩:=ry;exact eq_int (zh I q qeb)
  | str j=>obtain⟨t',rfl⟩:=ry;exact PySem.EqMixed.eq_int_str (zh I q (by simp))
  | _=>exact absurd (show false=true from hs) mf
 | str i=>
  obtain⟨t,rfl⟩:=rx;cases y with
  | non=>cases ry;exact PySem.EqNone.eq_str_none (zh I q (by simp))
  | bl j=>cases ry;exact PySem.EqMixed.eq_str_bool (zh I q (by simp))
  | int j=>obtain⟨t',rfl⟩:=ry;exact PySem.EqMixed.eq_str_int (zh I q (by simp))
  | str j=>obtain⟨t',rfl⟩:=ry;exact eq_str (zh I q qec)
  | _=>exact absurd (show false=true from hs) mf
 | byt i=>
  obtain⟨t,rfl⟩:=rx;cases y with
  | byt j=>obtain⟨t',rfl⟩:=ry;exact PySem.W.eq_bytes (zh I q qed)
  | _=>exact absurd (show false=true from hs) mf
 | _=>cases y <;> exact absurd (show false=true from hs) mf
theorem qs6:OpR X (compareOp .NotEq) rNe:=by
 intro pins s σ H x y v u Q I rx ry h;obtain⟨hs,q⟩:=h;cases x with
 | non=>
  cases rx;cases y with
  | non=>cases ry;exact PySem.EqNone.ne_none_none (zh I q (by simp))
  | bl j=>cases ry;exact PySem.EqNone.ne_none_bool (zh I q (by simp))
  | int j=>obtain⟨t',rfl⟩:=ry;exact PySem.EqNone.ne_none_int (zh I q (by simp))
  | str j=>obtain⟨t',rfl⟩:=ry;exact PySem.EqNone.ne_none_str (zh I q (by simp))
  | _=>exact absurd (show false=true from hs) mf
 | bl i=>
  cases rx;cases y with
  | non=>cases ry;exact PySem.EqNone.ne_bool_none (zh I q (by simp))
  | bl j=>cases ry;exact ne_bool (zh I q (g0f not qhg))
  | str j=>obtain⟨t',rfl⟩:=ry;exact PySem.EqMixed.ne_bool_str (zh I q (by simp))
  | _=>exact absurd (show false=true from hs) mf
 | int i=>
  obtain⟨t,rfl⟩:=rx;cases y with
  | non=>cases ry;exact PySem.EqNone.ne_int_none (zh I q (by simp))
  | int j=>obtain⟨t',rfl⟩:=ry;exact ne_int (zh I q (g0f not qeb))
  | str j=>obtain⟨t',rfl⟩:=ry;exact PySem.EqMixed.ne_int_str (zh I q (by simp))
  | _=>exact absurd (show false=true from hs) mf
 | str i=>
  obtain⟨t,rfl⟩:=rx;cases y with
  | non=>cases ry;exact PySem.EqNone.ne_str_none (zh I q (by simp))
  | bl j=>cases ry;exact PySem.EqMixed.ne_str_bool (zh I q (by simp))
  | int j=>obtain⟨t',rfl⟩:=ry;exact PySem.EqMixed.ne_str_int (zh I q (by simp))
  | str j=>obtain⟨t',rfl⟩:=ry;exact ne_str (zh I q (g0f not qec))
  | _=>exact absurd (show false=true from hs) mf
 | byt i=>
  obtain⟨t,rfl⟩:=rx;cases y with
  | byt j=>obtain⟨t',rfl⟩:=ry;exact PySem.W.ne_bytes (zh I q (g0f not qed))
  | _=>exact absurd (show false=true from hs) mf
 | _=>cases y <;> exact absurd (show false=true from hs) mf
theorem qs7:OpR X (compareOp .Lt) (rI0 fun i j=>.bl (decide (i<j))):=qk4 fun _ _ _ _ _ _ _ q=>lt_int q
theorem qs8:OpR X (compareOp .Gt) (rI0 fun i j=>.bl (decide (j<i))):=qk4 fun _ _ _ _ _ _ _ q=>gt_int q
theorem qs9:OpR X (compareOp .GtE) (rI0 fun i j=>.bl (decide (j<=i))):=qk4 fun _ _ _ _ _ _ _ q=>ge_int q
theorem qne{op:CmpOp}{r:R2}(ho:OpR X (compareOp op) r)(ha:PE X a ta)(hb:PE X b tb)(hm:behindInMarks op b=false): PE X (.Compare a [op] [b] pos) (tOp r ta tb):=by
 intro pins s σ H Q I h;exact wpAny_Compare1 (qk2 ha hb I h fun v u s2 x y H2 I2 rx ry q=>ho pins s2 σ H2 x y v u Q I2 rx ry q) hm
def qsa(t:TE): TT:=fun σ H Q=>t σ H fun x H'=>∃k,x=.bl k/\Q k H'
theorem qnf{op:CmpOp}{r:R2}(ho:OpR X (compareOp op) r)(ha:PE X a ta)(hb:PE X b tb)(hm:behindInMarks op b=false): PT X (.Compare a [op] [b] pos) (qsa (tOp r ta tb)):=by
 intro pins s σ H Q I h;refine wpAny_isTrue_Compare1 (thn (ha pins s σ H _ I h) fun v s1 ⟨x,H1,I1,r1,q1⟩=>thn (hb pins s1 σ H1 _ I1 q1) fun u s2 ⟨y,H2,I2,r2,q2⟩=>
  thn (ho pins s2 σ H2 x y v u _ I2 r1 r2 q2) fun c s3 ⟨z,H3,I3,r3,k,e,q3⟩=>?_) hm
 subst e;cases r3;exact g0x ⟨H3,I3,q3⟩
def qk5(K:PySem.W.Frag)(x:V)(H:Hp)(k:Bool): Prop:=
 match x with
 | .non=>k=false
 | .bl b=>k=b
 | .int i=>k=(i != 0)
 | .str y=>y.length<=sizeLine/\k=((y.length:Int) != 0)
 | .byt y=>y.size<=sizeLine/\k=((y.size:Int) != 0)
 | .ref p=>(∃xs,SqL K H p xs/\k = !xs.isEmpty)\/(∃xs,SqT K H p xs/\k = !xs.isEmpty)\/∃kvs,H p=some (.dK kvs)/\k = !kvs.isEmpty
 | _=>False
theorem qff{κ : Type}{kvs:List (κ × V)}{vs:List (κ × Value)}(r:KV kvs vs): (!vs.isEmpty) = !kvs.isEmpty:=by
 cases r <;> rfl
theorem q78{xs:List V}{its:List Value}(r:Vals xs its): (!its.toArray.isEmpty) = !xs.isEmpty:=by
 cases r <;> simp
theorem q4h:(sizeLine:Nat)<2 ^ 63:=by rw [g2f];decide
theorem qq5:qtb X (fun x H Q=>∃k,qk5 X.K x H k/\Q k H):=by
 intro pins s σ H x v Q I rx h;obtain⟨k,e,q⟩:=h;have hl:=q4h;have hs:sizeLine=16777216:=g2f;cases x with
 | non=>
  cases rx;have e':k=false:=e;subst e';exact truthy_none ⟨H,I,q⟩
 | bl b=>
  cases rx;have e':k=b:=e;subst e';exact g0x ⟨H,I,q⟩
 | int i=>
  obtain⟨t,rfl⟩:=rx;have e':k=(i != 0):=e;subst e';exact PySem.P.truthy_int ⟨H,I,q⟩
 | str y=>
  obtain⟨t,rfl⟩:=rx;obtain⟨hy,e'⟩:y.length<=sizeLine/\k=((y.length:Int) != 0):=e;subst e';exact PySem.P.truthy_str (by omega) ⟨H,I.tok _,q⟩
 | byt y=>
  obtain⟨t,rfl⟩:=rx;obtain⟨hy,e'⟩:y.size<=sizeLine/\k=((y.size:Int) != 0):=e;subst e';exact PySem.W.truthy_bytes (by omega) ⟨H,I.tok _,q⟩
 | ref p=>
  cases rx;have e':(∃xs,SqL X.K H p xs/\k = !xs.isEmpty)\/(∃xs,SqT X.K H p xs/\k = !xs.isEmpty)\/∃kvs,H p=some (.dK kvs)/\k = !kvs.isEmpty:=e;rcases e' with⟨xs,hx,e'⟩|⟨xs,hx,e'⟩|⟨kvs,hx,e'⟩
  ·subst e'
   obtain⟨its,r,pl,hz⟩:=I.list hx;have hlen:=r.length;exact wpAny_truthy_list pl.isList (by simp only [gr];omega) ⟨H,I.tok _,by rw [q78 r];exact q⟩
  ·subst e'
   obtain⟨its,r,pl,hz⟩:=I.tuple hx;have hlen:=r.length;exact truthy_tuple pl (by simp only [gr];omega) ⟨H,I.tok _,by rw [q78 r];exact q⟩
  ·subst e'
   obtain⟨hz,hS,vs,r,m⟩:kvs.length<=sizeLine/\(p==sysModules)=false/\∃vs,KV kvs vs/\s.heap.DictOf (mixKind X.prog X.w) p vs:=I.hok p _ hx;have hlen:kvs.length=vs.length:=g51 r;exact wpAny_truthy_dict hS m (by omega) ⟨H,I.tok _,by rw [qff r];exact q⟩
 | _=>exact(show False from e).elim
theorem qk6(ha:PE X a ta)(he:∀whole,isTrue a X.env whole=(do let v <- whole;standAt a.pos;holding [v] (truthy v))):
  PT X a (fun σ H Q=>ta σ H fun x H'=>∃k,qk5 X.K x H' k/\Q k H'):=by
 intro pins s σ H Q I h;exact isTrue_plain (thn (ha pins s σ H _ I h) fun v s1 ⟨x,H1,I1,r1,q1⟩=>qq5 pins s1 σ H1 x v Q I1 r1 q1) (he _)
theorem vals1{x:V}{us:List Value}(r:Vals [x] us): ∃u,us=[u]/\RelV x u:=by
 cases r with
 | cons r1 r2=>cases r2;exact⟨_,rfl,r1⟩
theorem vals2{x y:V}{us:List Value}(r:Vals [x,y] us): ∃u w',us=[u,w']/\RelV x u/\RelV y w':=by
 cases r with
 | cons r1 r2=>
  cases r2 with
  | cons r3 r4=>cases r4;exact⟨_,_,rfl,r1,r3⟩
theorem qhh(hc:X.calm=true): jt X (.builtin "max") (fun xs H Q=>∃i j,xs=[.int i,.int j]/\Q (.int (if j>i then j else i)) H):=by
 intro pins s σ H xs us Q I r h;obtain⟨i,j,rfl,q⟩:=h;obtain⟨u,w',rfl,⟨t,rfl⟩,⟨t',rfl⟩⟩:=vals2 r;refine max_two_ints (I.ok.hd hc) fun h' tk k=>⟨_,H,I.kept k,?_,q⟩
 by_cases hj:j>i
 ·rw [mi hj,mi hj];exact⟨_,rfl⟩
 ·rw [mn hj,mn hj];exact⟨_,rfl⟩
def qtd(K:PySem.W.Frag)(x:V)(H:Hp)(n:Nat): Prop:=
 match x with
 | .str y=>y.length<=sizeLine/\n=y.length
 | .byt y=>y.size<=sizeLine/\n=y.size
 | .ref p=>(∃xs,SqL K H p xs/\n=xs.length)\/∃xs,SqT K H p xs/\n=xs.length
 | _=>False
theorem qk7:jt X (.builtin "len") (fun xs H Q=>∃x n,xs=[x]/\qtd X.K x H n/\Q (.int n) H):=by
 intro pins s σ H xs us Q I r h;obtain⟨x,n,rfl,e,q⟩:=h;obtain⟨u,rfl,rx⟩:=vals1 r;have hl:=q4h;have hs:sizeLine=16777216:=g2f;cases x with
 | str y=>
  obtain⟨t,rfl⟩:=rx;obtain⟨hy,e'⟩:y.length<=sizeLine/\n=y.length:=e;subst e';exact len_str (by omega) ⟨.int _,H,I.tok _,⟨_,rfl⟩,q⟩
 | byt y=>
  obtain⟨t,rfl⟩:=rx;obtain⟨hy,e'⟩:y.size<=sizeLine/\n=y.size:=e;subst e';exact PySem.W.len_bytes (by omega) ⟨.int _,H,I.tok _,⟨_,rfl⟩,q⟩
 | ref p=>
  cases rx;have e':(∃xs,SqL X.K H p xs/\n=xs.length)\/∃xs,SqT X.K H p xs/\n=xs.length:=e;rcases e' with⟨xs,hx,e'⟩|⟨xs,hx,e'⟩
  ·subst e'
   obtain⟨its,r',pl,hz⟩:=I.list hx;have hlen:=r'.length;exact Calls.call_len_list pl.isList (by simp only [gr];omega) ⟨.int xs.length,H,I.tok _,⟨_,by simp only [gr];rw [hlen]⟩,q⟩
  ·subst e'
   obtain⟨its,r',pl,hz⟩:=I.tuple hx;have hlen:=r'.length;exact len_tuple pl (by simp only [gr];omega) ⟨.int xs.length,H,I.tok _,⟨_,by simp only [gr];rw [hlen]⟩,q⟩
 | _=>exact(show False from e).elim
end
structure ObjM(h:Heap)(x dx C:Addr)(mA:Str->Option Value): Prop where
 obj:h.get? x=some (PySem.W.instObj C dx)
 ns:h.Ns1 dx mA
 ne:dx≠x
theorem qhi{h:Heap}{dx:Addr}{mA:Str->Option Value}(n:h.Ns1 dx mA): ∃od,h.get? dx=some od/\∀name,PySem.W.lookIn name od=some (mA name):=by
 obtain⟨o,es,ep,ho,hd,hk,_,hm⟩:=n;refine⟨o,ho,fun name=>?_⟩;have e:=hm name;unfold nsFind findBy at e;rw [<- Array.find?_toList] at e;unfold PySem.W.lookIn;rw [hd];dsimp only
 split
 ·rename_i y q
  rw [q] at e;exact g0f some e
 ·rename_i q
  rw [q] at e;have a:es.toList.any (·.refKey)=false:=by
   rw [List.any_eq_false];intro y hy;obtain⟨z,t,hkey⟩:=hk y (Array.mem_toList_iff.mp hy);simp [DictEntry.refKey,hkey]
  have a':¬es.toList.any (·.refKey)=true:=by rw [a];exact mf
  rw [mn a'];exact g0f some e
theorem ObjM.look{h:Heap}{x dx C:Addr}{mA:Str->Option Value}(I:ObjM h x dx C mA): ∃od,PySem.W.InstAt h x (PySem.W.instObj C dx) C (some od)/\∀name,PySem.W.lookIn name od=some (mA name):=
 let⟨od,ho,hl⟩:=qhi I.ns
 ⟨od,⟨I.obj,rfl,rfl,ho⟩,hl⟩
section
variable{prog:Program}{w:World}{A:Around}{E:Value->Shared->Prop}{s:Shared}{K:PySem.W.Frag}{x dx C f:Addr}{mA:Str->Option Value}{name:Str}{v:Value}
theorem qk8{pl:Sem Bool}{Q:Value×List Value->Shared->Prop}(X:K.In s.heap)(I:ObjM s.heap x dx C mA)(hg:PySem.W.plainGet K C name=true)
  (hf:PySem.W.findIn K (.ref C) name=some (some (.ref f))) (ht:PySem.W.isFn K (.ref f)=true) (hv:mA name=none) (h:Q (.ref f,[.ref x]) s) :
  wpAny (model prog w) A (getMethod (.ref x) name pl) Q E s:=by
 obtain⟨od,J,hl⟩:=I.look;exact PySem.W.method_fn X J (PySem.W.plainGet_of hg).1 (PySem.W.plainGet_of hg).2 hf (g49.mp ht) (by show(PySem.W.lookIn name od).map (·.isSome)=some false;rw [hl,hv];rfl) h
end
theorem RelO.none_of{o:Option Value}(r:RelO none o): o=none:=by
 cases o with
 | none=>rfl
 | some u=>exact(show False from r).elim
section
variable{P:Program}{w:World}{H H':Hp}{h h':Heap}{a C dx:Addr}{fs fs':List (Str×V)}
theorem qee(hok:HOk P w H h)(e:H a=some (.ins C dx fs)): ∃mA,ObjM h a dx C mA/\(∀f,RelO (fs.lookup f) (mA f))/\PySem.Within mA (fs.map (·.1))/\fs.length<=1000/\H dx=some (.own a):=by
 obtain⟨d,z,ne,ob,mA,n,r,q⟩:=(show ObjOk P w H h a (.ins C dx fs) from hok a _ e)
 exact⟨mA,⟨ob,n,ne⟩,r,q,z,d⟩
end
structure Cls(K:PySem.W.Frag)(C:Addr): Prop where
 pg:PySem.W.plainGet K C Str.empty=true
 hd:PySem.W.hasDictIn K C=true
 po:PySem.W.plainOver K C=true
 sa:PySem.W.findIn K (.ref C) "__setattr__" = some (some (.builtin "object.__setattr__"))
theorem Cls.get{K:PySem.W.Frag}{C:Addr}(c:Cls K C)(f:Str): PySem.W.plainGet K C f=true:=c.pg
structure Meth(K:PySem.W.Frag)(C:Addr)(m:Str)(f:Addr): Prop where
 at_:PySem.W.findIn K (.ref C) m=some (some (.ref f))
 fn:PySem.W.isFn K (.ref f)=true
 kp:PySem.W.keepIn K (.ref f)=true
section
variable{X:Cx}{pins:List (Addr×Obj)}{σ : St}{H:Hp}{s:Shared}{a C dx:Addr}{fs:List (Str×V)}{f:Str}{v:V}{A:Around}{E:Value->Shared->Prop}
theorem qfg{m:Str}{g:Addr}{pl:Sem Bool}{Q:Value×List Value->Shared->Prop}(I:Inv X pins σ H s)(e:H a=some (.ins C dx fs))(c:Cls X.K C)(k:Meth X.K C m g)(l:fs.lookup m=none)
  (h:Q (.ref g,[.ref a]) s):wpAny (model X.prog X.w) A (getMethod (.ref a) m pl) Q E s:=by
 obtain⟨mA,O,r,_,_,_⟩:=qee I.hok e;have hn:mA m=none:=RelO.none_of (by rw [<- l];exact r m);exact qk8 I.kIn O (c.get m) k.at_ k.fn hn h
theorem Inv.made(I:Inv X pins σ H s): Inv X pins σ (upd (upd H s.heap.objs.size (.own (s.heap.objs.size+1))) (s.heap.objs.size+1) (.ins C s.heap.objs.size []))
  {s with heap:=(s.heap.push PySem.W.emptyDict).push (PySem.W.instObj C s.heap.objs.size)}:=by
 have e1:(s.heap.push PySem.W.emptyDict).get? s.heap.objs.size=some PySem.W.emptyDict:=gf s.heap rfl;have e2:((s.heap.push PySem.W.emptyDict).push (PySem.W.instObj C s.heap.objs.size)).get? (s.heap.objs.size+1)=some (PySem.W.instObj C s.heap.objs.size):=by
  have:=gf (s.heap.push PySem.W.emptyDict) (o:=PySem.W.instObj C s.heap.objs.size) rfl;rwa [pf] at this
 have e3:(s.heap.push PySem.W.emptyDict).Ns s.heap.objs.size (fun _=>none):=⟨PySem.W.emptyDict, #[],_,e1,rfl,(fun e he=>absurd he (by simp)),fun _=>rfl⟩
 have I1:=I.laid (a:=s.heap.objs.size) (o:=.own (s.heap.objs.size+1)) (h':=s.heap.push PySem.W.emptyDict) (t':=s.toks) (fun b u q=>gc _ q) (gw _) ⟨_,e1⟩;refine I1.laid (a:=s.heap.objs.size+1) (o:=.ins C s.heap.objs.size []) (t':=s.toks) (fun b u q=>gc _ q) (g6n (pf _ _)) ?_;have ne:s.heap.objs.size≠s.heap.objs.size+1:=gz (ue _);refine⟨by rw [qk ne,qq],ug _,ne,e2,fun _=>none,(Heap.Ns1.of_empty e3).at fun o q=>gc _ q,fun _=>True.intro,fun y hy=>absurd rfl hy⟩
end
section
variable{X:Cx}{o e value:Expr}{f:Str}{pos pos' tpos:Pos}{ta tv:TE}
end
section
variable{X:Cx}{pins:List (Addr×Obj)}{σ : St}{H:Hp}{s:Shared}{A:Around}{E:Value->Shared->Prop}{Q:Value->Shared->Prop}{c:Value}{b:Bool}
end
structure Room(k:Nat)(A:Around): Prop where
 hd:A.handled=none
 dp:A.depth+3*k+5<recursionLimit
 un:A.units+16*k+200<cLine
theorem Room.mono{j k:Nat}{A:Around}(r:Room k A)(h:j<=k): Room j A:=⟨r.hd,by have:=r.dp;omega,by have:=r.un;omega⟩
theorem Room.deeper{k:Nat}{A:Around}(r:Room (k+1) A)(env:Env): Room k (A.deeper env):=
 ⟨r.hd,by have:=r.dp;show A.depth+1+3*k+5<_;omega,by have:=r.un;show A.units+3+16*k+200<_;omega⟩
theorem Room.in1{k:Nat}{A:Around}(r:Room (k+1) A): Room k A.in1:=
 ⟨r.hd,by have:=r.dp;show A.depth+3*k+5<_;omega,by have:=r.un;show A.units+1+16*k+200<_;omega⟩
theorem Room.depth{k:Nat}{A:Around}(r:Room k A): A.depth<recursionLimit:=by have:=r.dp;omega
theorem Room.units{k:Nat}{A:Around}(r:Room k A): A.units+64<cLine:=by have:=r.un;omega
def tNil:TA:=fun _ H Q=>Q [] H
def qsb(ta:TE)(tr:TA): TA:=fun σ H Q=>ta σ H fun x H1=>tr σ H1 fun xs H2=>Q (x :: xs) H2
section
variable{X:Cx}{e:Expr}{es:List Expr}{te:TE}{t:TA}{pos:Pos}
theorem q1y:PA X [] tNil:=fun _ _ _ _ H Q I h=>Calls.spliced_nil ⟨[],H,I,.nil,h⟩
theorem wy(ha:PE X e te)(hr:PA X es t)(hs:starEach (e :: es) X.env=(false,eval e X.env) :: starEach es X.env:=by rfl): PA X (e :: es) (qsb te t):=by
 intro pos pins s σ H Q I h;rw [hs];show wpAny _ _ (spliced ((false,eval e X.env) :: backTo pos (starEach es X.env))) _ _ s;refine Calls.spliced_cons (thn (ha pins s σ H _ I h) fun u s1 ⟨x,H1,I1,r1,q1⟩=>?_);exact thn (hr pos pins s1 σ H1 _ I1 q1) fun us s2 ⟨xs,H2,I2,r2,q2⟩=>⟨x :: xs,H2,I2,.cons r1 r2,q2⟩
def qte(t:TA): TE:=fun σ H Q=>t σ H fun xs H1=>xs.length<=sizeLine/\∀p,H1 p=none->Q (.ref p) (upd H1 p (.tup xs))
def qtf(t:TA): TE:=fun σ H Q=>t σ H fun xs H1=>xs.length<=sizeLine/\∀p,H1 p=none->Q (.ref p) (upd H1 p (.lst xs))
theorem qq6{x1}(h:PA X es t): PE X (.Tuple es x1 pos) (qte t):=by
 intro pins s σ H Q I hq;refine wpAny_Tuple_spliced (thn (h pos pins s σ H _ I hq) fun us s1 ⟨xs,H1,I1,r,z,q⟩=>⟨by rw [<- r.length];exact z,?_⟩);have hf:H1 s1.heap.objs.size=none:=I1.hok.fresh (gw _);refine⟨.ref s1.heap.objs.size,upd H1 s1.heap.objs.size (.tup xs),I1.laid (t':=s1.toks) (fun b u e=>gc _ e) (gw _) ?_,rfl,q _ hf⟩;exact⟨z,us,r,⟨_,gf _ rfl,rfl,rfl,_,rfl⟩⟩
theorem qq7(h:PA X es t): PE X (.List es pos) (qtf t):=by
 intro pins s σ H Q I hq;refine wpAny_List_spliced (thn (h pos pins s σ H _ I hq) fun us s1 ⟨xs,H1,I1,r,z,q⟩=>⟨by rw [<- r.length];exact z,?_⟩);have hf:H1 s1.heap.objs.size=none:=I1.hok.fresh (gw _);refine⟨.ref s1.heap.objs.size,upd H1 s1.heap.objs.size (.lst xs),I1.laid (t':=s1.toks) (fun b u e=>gc _ e) (gw _) ?_,rfl,q _ hf⟩;exact⟨z,us,0,r,gf _ rfl⟩
end
abbrev Sp:=List V->Hp->VK->XK->Prop
abbrev CXT:=List Env->Hp->Shared->XK->Value->Shared->Prop
structure Env0(P:Program)(w:World)(K:PySem.W.Frag)(mg:Str->Option Value)(base:Heap)(A:Around)(outer:List Env)(s:Shared)(H:Hp): Prop where
 frames:A.frames=some outer
 mod:Mod K mg base
 bs:∀b o,base.get? b=some o->s.heap.get? b=some o/\H b=none
 bsz:base.objs.size<=s.heap.objs.size
 funs:s.heap.FunFrames base outer
 frf:∀b∈frs outer,H b=none
 hok:HOk P w H s.heap
 bare:AllBare s.gens
def CE(outer:List Env)(P:Program)(w:World)(H:Hp)(s:Shared)(Q:VK)(u:Value)(s':Shared): Prop:=
 ∃v H',s'.os=s.os/\AllBare s'.gens/\Un (frs outer) [] H H' s.heap s'.heap/\HOk P w H' s'.heap/\RelV v u/\Q v H'
def CR(CX:CXT)(outer:List Env)(P:Program)(w:World)(H:Hp)(s:Shared)(Q:VK)(E:XK)(r:Result)(s':Shared): Prop:=
 match r with
 | .ok (.ret u)=>CE outer P w H s Q u s'
 | .ok _=>False
 | .error e=>CX outer H s E e s'
structure FnOk(P:Program)(w:World)(K:PySem.W.Frag)(mg:Str->Option Value)(base:Heap)(CX:CXT)(k:Nat)(f:Addr)(fd:FuncData)(ps:List Str)(sp:Sp): Prop where
 len:∀vs H Q E,sp vs H Q E->vs.length=ps.length
 run:∀(A:Around) (outer:List Env) (s:Shared) (H:Hp) (args:Args) (us:List Value) (vs:List V) (Q:VK) (E:XK),Room k A->Env0 P w K mg base A outer s H->BindsTo s fd args (ps.zip us)->Vals vs us->sp vs H Q E ->
  codeAny (model P w) A (.call (.ref f) args) (CR CX outer P w H s Q E) s
theorem FnOk.imp{P:Program}{w:World}{K:PySem.W.Frag}{mg:Str->Option Value}{base:Heap}{CX:CXT}{k:Nat}{f:Addr}{fd:FuncData}{ps:List Str}{sp sp':Sp}(F:FnOk P w K mg base CX k f fd ps sp)
  (h:∀vs H Q E,sp' vs H Q E->sp vs H Q E):FnOk P w K mg base CX k f fd ps sp':=
 ⟨fun vs H Q E q=>F.len vs H Q E (h _ _ _ _ q),fun A outer s H args us vs Q E hr he hb hv hs=>F.run A outer s H args us vs Q E hr he hb hv (h _ _ _ _ hs)⟩
section
variable{X:Cx}{pins:List (Addr×Obj)}{σ : St}{H:Hp}{s s':Shared}
theorem Inv.env0(I:Inv X pins σ H s): Env0 X.prog X.w X.K X.mg X.base X.A X.stack s H:=
 ⟨I.ok.frames,I.ok.mod,I.bs,mq I.ok.bsz I.sz,I.stack,I.stkFree,I.hok,I.bare⟩
theorem Inv.after{Q:VK}{u:Value}(I:Inv X pins σ H s)(h:CE X.stack X.prog X.w H s Q u s'): EP X pins σ Q u s':=by
 obtain⟨v,H',os,bare,un,hok,r,q⟩:=h;obtain⟨hh,g,d,t,os'⟩:=s';obtain rfl:os'=s.os:=os;exact⟨v,H',I.call (h':=hh) (g':=g) (d':=d) (t':=t) (ch:=[]) un hok bare (fun b z=>absurd z (by simp)),r,q⟩
end
def qsc(sp:Sp)(dvs:List V)(E:XK)(t:TA): TE:=fun σ H Q=>t σ H fun vs H1=>sp (vs++dvs) H1 Q E
def qsd(C:Addr)(m:Str)(sp:Sp)(dvs:List V)(E:XK)(ta:TE)(t:TA): TE:=fun σ H Q=>ta σ H fun x H1=>∃a dx fs,x=.ref a/\H1 a=some (.ins C dx fs)/\fs.lookup m=none /\
 t σ H1 fun vs H2=>sp (x :: (vs++dvs)) H2 Q E
def Binds(K:PySem.W.Frag)(fd:FuncData)(ps:List Str)(ds:List Value): Prop:=
 ∀(s:Shared) (us:List Value),K.In s.heap->(us++ds).length=ps.length->BindsTo s fd ⟨us,[]⟩ (ps.zip (us++ds))
theorem Binds.all{K:PySem.W.Frag}{fd:FuncData}{ps:List Str}(h:∀us:List Value,us.length=ps.length->bindArgs fd ⟨us,[]⟩=pure (ps.zip us)): Binds K fd ps []:=fun s us _ hl=>by
 rw [g30] at hl ⊢;exact .of_eq (h us hl)
def q79(CX:CXT)(X:Cx)(E:XK): Prop:=∀(pins:List (Addr×Obj)) (σ : St) (H:Hp) (s:Shared) (e:Value) (s':Shared),Inv X pins σ H s->CX X.stack H s E e s'->X.xe e s'
section
variable{X:Cx}{CX:CXT}{k:Nat}{f C:Addr}{fd:FuncData}{ps:List Str}{sp:Sp}{dvs:List V}{ds:List Value}{E:XK}{x m:Str}{p pos apos:Pos}{e o:Expr}{es:List Expr}{ta:TE}{t:TA}
theorem qhj{pins:List (Addr×Obj)}{σ : St}{H:Hp}{s:Shared}{Q:VK}{us:List Value}{vs:List V}(F:FnOk X.prog X.w X.K X.mg X.base CX k f fd ps sp)(hr:Room k X.A)(hb:Binds X.K fd ps ds)(hd:Vals dvs ds)(hx:q79 CX X E)
  (I:Inv X pins σ H s) (r:Vals vs us) (h:sp (vs++dvs) H Q E):wpAny (model X.prog X.w) X.A (call (.ref f) us) (EP X pins σ Q) X.xe s:=by
 have r2:Vals (vs++dvs) (us++ds):=r.append hd;have hl:(us++ds).length=ps.length:=by rw [<- r2.length];exact F.len _ _ _ _ h
 refine g3h (g36 (F.run X.A X.stack s H ⟨us,[]⟩ (us++ds) (vs++dvs) Q E hr I.env0 (hb s us I.kIn hl) r2 h) fun r s' hq=>?_);cases r with
 | error e=>exact hx pins σ H s e s' I hq
 | ok fl=>
  cases fl with
  | ret u=>exact I.after hq
  | next=>exact False.elim hq
  | brk=>exact False.elim hq
  | cont=>exact False.elim hq
theorem qng(F:FnOk X.prog X.w X.K X.mg X.base CX k f fd ps sp)(hr:Room k X.A)(hg:Gl X x)(hm:X.mg x=some (.ref f))(hk:PySem.W.keepIn X.K (.ref f)=true)(hb:Binds X.K fd ps ds)(hd:Vals dvs ds)(hx:q79 CX X E)
  (ha:PA X (e :: es) t) (hdb:(x==("__debug__" : Str))=false:=by decide) (he:starEach (e :: es) X.env=(false,eval e X.env) :: starEach es X.env:=by rfl) (hpl:(backTo pos (starEach es X.env)).any (·.1)=false:=by rfl) :
  PE X (.Call (.Name x p) (e :: es) [] pos) (qsc sp dvs E t):=by
 intro pins s σ H Q I h;refine g14 (qe7 I hg hm ?_ hdb);refine PySem.W.callWith_K (h₀:=X.base) I.ok.mod.kin hk (thn (ha pos pins s σ H _ I h) fun us s1 ⟨vs,H1,I1,r,q⟩=>⟨I1.kIn,?_⟩) he hpl;exact qhj F hr hb hd hx I1 r q
theorem qnh{pl:Sem Bool}(he:PE X o ta)(c:Cls X.K C)(hm:Meth X.K C m f)(F:FnOk X.prog X.w X.K X.mg X.base CX k f fd ps sp)(hr:Room k X.A)(hb:Binds X.K fd ps ds)(hd:Vals dvs ds)(hx:q79 CX X E)(ha:PA X (e :: es) t)
  (hst:starEach (e :: es) X.env=(false,eval e X.env) :: starEach es X.env:=by rfl) (hpl:(backTo pos (starEach es X.env)).any (·.1)=false:=by rfl)
  (ht:eval (.Call (.Attribute o m apos) (e :: es) [] pos) X.env=(do
   let ov <- eval o X.env
   standAt apos.atName
   let(f,first) <- holding [ov] (getMethod ov m pl)
   callWith pos f first (backTo pos (starEach (e :: es) X.env)) (backToKw pos (keywordEach [] X.env))):=by rfl) :
  PE X (.Call (.Attribute o m apos) (e :: es) [] pos) (qsd C m sp dvs E ta t):=by
 intro pins s σ H Q I h;refine PySem.W.methodCall_KW (pl:=pl) (thn (he pins s σ H _ I h) fun u s1 ⟨x,H1,I1,rx,a,dx,fs,ex,ea,l,q⟩=>?_) ht;subst ex;obtain rfl:u=Value.ref a:=rx;refine qfg I1 ea c hm l ?_;refine PySem.W.callWith_K (first:=[.ref a]) (h₀:=X.base) I.ok.mod.kin hm.kp (thn (ha pos pins s1 σ H1 _ I1 q) fun us s2 ⟨vs,H2,I2,r,q2⟩=>⟨I2.kIn,?_⟩) hst hpl;exact qhj (us:=.ref a :: us) (vs:=.ref a :: vs) F hr hb hd hx I2 (.cons rfl r) q2
end
section
variable{X:Cx}{CX:CXT}{k:Nat}{f C:Addr}{fd:FuncData}{ps ks:List Str}{sp:Sp}{E:XK}{x m:Str}{p pos apos kpos:Pos}{e o:Expr}{es:List Expr}{kws:List Keyword}{te ta:TE}{t tk:TA}{nm:Option Str}
variable{g:List Value->List Value->List Value}{gV:List V->List V->List V}
end
structure FnScope(N P:List Str)(sc:Scope): Prop where
 kind:sc.kind=.function
 co:sc.isCoroutine=false
 gen:sc.isGenerator=false
 nd:N.Nodup
 pre:N.take P.length=P
 par:∀x∈P,sc.names.lookup x=some .local\/sc.names.lookup x=some .cell
 nofree:∀y∈sc.names,y.2 ≠ .free
theorem q96{kindOf:Str->Option NameKind}{x:Str}: ∀ {binds:List (Str×Value)} {m:Str->Option Value},(∀v,(x,v)∉binds)->bindL kindOf binds m x=m x
 | [],_,_=>rfl
 | (n,v) :: r,m,h=>by
  unfold bindL;rw [q96 fun w hw=>h w (gq _ hw)]
  split
  ·have:x≠n:=by rintro rfl;exact h v gm
   simp [this]
  ·rfl
theorem q97{kindOf:Str->Option NameKind}{x:Str}: ∀ {binds:List (Str×Value)} {m:Str->Option Value},(∀v,(x,v)∉binds)->bindC kindOf binds m x=m x
 | [],_,_=>rfl
 | (n,v) :: r,m,h=>by
  unfold bindC;rw [q97 fun w hw=>h w (gq _ hw)]
  split
  ·rfl
  ·have:x≠n:=by rintro rfl;exact h v gm
   simp [this]
theorem q98{kindOf:Str->Option NameKind}{x:Str}{v:Value}: ∀ {P:List Str} {vs:List Value} {i:Nat} {m:Str->Option Value},P.Nodup->P[i]? = some x->vs[i]? = some v->kindOf x=some .local ->
  bindL kindOf (P.zip vs) m x=some v
 | [],_,_,_,_,h,_,_=>by simp at h
 | _ :: _,[],_,_,_,_,h,_=>by simp at h
 | p :: P,w :: vs,0,m,nd,h1,h2,hk=>by
  simp at h1 h2;subst h1;subst h2;show bindL kindOf ((p,w) :: P.zip vs) m p=_;unfold bindL;rw [q96 fun v hv=>(g18.mp nd).1 (g31 hv).1,mi hk];simp
 | p :: P,w :: vs,i+1,m,nd,h1,h2,hk=>by
  show bindL kindOf ((p,w) :: P.zip vs) m x=_;unfold bindL;exact q98 (i:=i) (g18.mp nd).2 (by simpa using h1) (by simpa using h2) hk
theorem q99{kindOf:Str->Option NameKind}{x:Str}{v:Value}: ∀ {P:List Str} {vs:List Value} {i:Nat} {m:Str->Option Value},P.Nodup->P[i]? = some x->vs[i]? = some v->kindOf x≠some .local ->
  bindC kindOf (P.zip vs) m x=some v
 | [],_,_,_,_,h,_,_=>by simp at h
 | _ :: _,[],_,_,_,_,h,_=>by simp at h
 | p :: P,w :: vs,0,m,nd,h1,h2,hk=>by
  simp at h1 h2;subst h1;subst h2;show bindC kindOf ((p,w) :: P.zip vs) m p=_;unfold bindC;rw [q97 fun v hv=>(g18.mp nd).1 (g31 hv).1,mn hk];simp
 | p :: P,w :: vs,i+1,m,nd,h1,h2,hk=>by
  show bindC kindOf ((p,w) :: P.zip vs) m x=_;unfold bindC;exact q99 (i:=i) (g18.mp nd).2 (by simpa using h1) (by simpa using h2) hk
def start(N:List Str)(vs:List V): St:=vs.map some++List.replicate (N.length-vs.length) none
def zo(CX:CXT)(P:Program)(w:World)(K:PySem.W.Frag)(mg:Str->Option Value)(base:Heap)(N:List Str)(qual:Str)(scope:Scope)(f:Addr)(cd:Value)(A:Around)(outer:List Env)(s:Shared)(H:Hp)(E:XK): Cx where
 prog:=P
 w:=w
 K:=K
 mg:=mg
 base:=base
 A:=A.deeper (envOfC qual scope s.heap.objs.size f cd)
 N:=N
 s₀:=s
 H₀:=H
 env:=envOfC qual scope s.heap.objs.size f cd
 outer:=outer
 stack:=envOfC qual scope s.heap.objs.size f cd :: outer
 ex:=[]
 calm:=true
 fn:=fun _=>true
 pn:=[]
 xe:=fun e s'=>wpAny (model P w) (A.deeper (envOfC qual scope s.heap.objs.size f cd)) (leaving (envOfC qual scope s.heap.objs.size f cd) e) (fun _ s''=>CX outer H s E e s'') (fun e' s''=>CX outer H s E e' s'') s'
theorem qat{sc:Scope}{n:Nat}{x:Str}(h:sc.names.lookup x=some .cell): ∃c,(cellsFrom n sc.names []).lookup x=some c:=by
 have q:=g3w sc.names n [] (.inl h);exact g19.mp q
theorem q9a{CX:CXT}{P:Program}{w:World}{K:PySem.W.Frag}{mg:Str->Option Value}{base:Heap}{N ps:List Str}{qual:Str}{scope:Scope}{f:Addr}{cd:Value}{A:Around}{outer:List Env}{s s1:Shared}{H:Hp}{E:XK}{us:List Value}{vs:List V}
  (S:FnScope N ps scope) (hd:A.handled=none) (e0:Env0 P w K mg base A outer s H) (hl:vs.length=ps.length) (r:Vals vs us)
  (x:InCallC s s.heap.objs.size (bindL (envOfC qual scope s.heap.objs.size f cd).kindOf (ps.zip us) fun _=>none) (cellsFrom (s.heap.objs.size+1) scope.names []) (bindC (envOfC qual scope s.heap.objs.size f cd).kindOf (ps.zip us) fun _=>none) s1) :
  Inv (zo CX P w K mg base N qual scope f cd A outer s H E) [] (start N vs) H s1:=by
 have hpl:ps.length<=N.length:=by have:=g0f List.length S.pre;rw [p0] at this;omega
 obtain⟨h1,tk,rfl,hk⟩:=x.done;have noA:∀b:Addr,b∉(zo CX P w K mg base N qual scope f cd A outer s H E).ex:=fun b z=>absurd (show b∈([]:List Addr) from z) (by simp);refine⟨⟨e0.mod,S.kind,rfl,rfl,gw _,fun y z c h1 h2=>?_,fun y hy=>?_,fun y c _ h=>?_,fun _=>hd,Around.frames_deeper e0.frames,.inr ⟨rfl,rfl⟩,fun b z=>absurd z (noA b),e0.bs,e0.bsz,fun b _ _=>noA b,fun b z=>absurd z (noA b),e0.funs,e0.frf⟩,
  rfl,e0.bare,Un.kept hk,⟨_,x.toInCall.ns,fun i y v h1 h2 h3=>?_⟩,fun y c h=>⟨_,x.cell y c h⟩,e0.hok.fresh (gw _),fun y c h=>?_,fun p hp=>absurd (show p∈([]:List (Addr×Obj)) from hp) (by simp),e0.hok.kept hk,?_⟩
 ·exact name_of_addr x.apart (g2a h1) (g2a h2)
 ·have hy:scope.names.lookup y=some .cell\/scope.names.lookup y=some .free:=hy
  rcases hy with hy|hy
  ·exact qat hy
  ·exact absurd rfl (S.nofree _ (g2a hy))
 ·exact g5i (x.above y c (g2a h))
 ·have hi:i<vs.length:=by
   unfold start at h2
   by_cases hi:i<vs.length
   ·exact hi
   ·rw [uy (by simpa using hi)] at h2
    rw [g0w] at h2
    split at h2 <;> cases h2
  have ha:vs[i]? = some v:=by
   unfold start at h2;rw [uc (by simpa using hi),mv] at h2;cases e:vs[i]? with
   | none=>rw [e] at h2;cases h2
   | some a=>rw [e] at h2;cases h2;rfl
  obtain⟨u,hu,rv⟩:=r.get ha;have hp:ps[i]? = some y:=by
   rw [<- S.pre,g20 (by omega)];exact h1
  have ndP:ps.Nodup:=by rw [<- S.pre];exact S.nd.sublist (List.take_sublist _ _)
  refine⟨u,rv,?_⟩;rcases S.par y (uh hp) with k|k
  ·exact .inl ⟨k,q98 ndP hp hu k⟩
  ·obtain⟨c,e⟩:=qat (n:=s.heap.objs.size+1) k
   refine .inr ⟨.inl k,c,e,?_⟩;have q:=x.cell y c e;rw [q99 ndP hp hu (by show scope.names.lookup y≠_;rw [k];decide)] at q;exact q
 ·exact e0.hok.fresh (g5i (x.above y c (g2a h)))
 ·unfold start
  show _=N.length;rw [pk,mj,g68];omega
theorem qse{CX:CXT}{P:Program}{w:World}{K:PySem.W.Frag}{mg:Str->Option Value}{base:Heap}{k:Nat}{f:Addr}{name qual:Str}{params:Arguments}{body:List Stmt}{scope:Scope}{dV kV doc pm cdv ct oc:Value}{an od:Option Addr}
  {osl:Array (Option Value)} {N ps:List Str} {sp:Sp} (lk:K.lookup f=some ⟨oc,od,.func (PySem.W.fnOf name qual params body scope dV kV doc pm an cdv ct),osl⟩) (hcd:PySem.W.codeIn K cdv qual=true) (S:FnScope N ps scope)
  (len:∀vs H Q E,sp vs H Q E->vs.length=ps.length)
  (hbody:∀(A:Around) (outer:List Env) (s:Shared) (H:Hp) (vs:List V) (Q:VK) (E:XK),Room k (A.deeper (envOfC qual scope s.heap.objs.size f cdv))->sp vs H Q E ->
   ∃t,PSs (zo CX P w K mg base N qual scope f cdv A outer s H E) body t/\t {nx:=fun _ H'=>Q .non H',rt:=Q} (start N vs) H) :
  FnOk P w K mg base CX (k+1) f (PySem.W.fnOf name qual params body scope dV kV doc pm an cdv ct) ps sp:=by
 refine⟨len,fun A outer s H args us vs Q E hr e0 hb r hsp=>?_⟩;have hl:=len _ _ _ _ hsp;have KX:K.In s.heap:=e0.mod.kin.keeps fun b o e=>(e0.bs b o e).1;have lim:s.heap.NoLimit:=e0.mod.nolimit.keeps fun b o e=>(e0.bs b o e).1;have hkind:∀y∈ps.zip us,scope.names.lookup y.1=some .local\/(scope.names.lookup y.1=some .cell/\((cellsFrom (s.heap.objs.size+1) scope.names []).lookup y.1).isSome=true):=fun⟨n,v⟩ hy=>by
  rcases S.par n (g31 hy).1 with q|q
  ·exact .inl q
  ·exact .inr ⟨q,g3w _ _ _ (.inl q)⟩
 refine codeAny_call_function hr.depth (KX _ _ lk) rfl S.co S.gen rfl (PySem.W.codeRec_of KX hcd) (hb _ _ _ _ ?_);refine wpAny_newFunctionEnv_cells S.kind hkind fun env he s1 x=>?_;subst he;refine⟨lim.keeps x.toInCall.keep,codeAny_func ?_⟩;obtain⟨t,ht,hq⟩:=hbody A outer s H vs Q E (hr.deeper _) hsp;have I:Inv (zo CX P w K mg base N qual scope f cdv A outer s H E) [] (start N vs) H s1:=q9a S hr.hd e0 hl r x;refine t5 (ht [] s1 (start N vs) H _ I hq) (fun fl s' hs=>?_) fun e s' hs=>hs;have fin:∀ {σ':St} {H':Hp} {v:V} {u:Value},Inv (zo CX P w K mg base N qual scope f cdv A outer s H E) [] σ' H' s'->RelV v u->Q v H'->CE outer P w H s Q u s':=
  fun {σ' H' v u} J rv q=>⟨v,H',J.os,J.bare,J.base,J.hok,rv,q⟩
 cases fl with
 | ret u=>
  obtain⟨v, σ',H',J,rv,q⟩:=hs;exact fin J rv q
 | next=>
  obtain⟨σ',H',J,q⟩:=hs;exact fin (v:=V.non) (u:=Value.none) J rfl q
 | brk=>
  obtain⟨_,_,_,q⟩:=hs;exact False.elim q
 | cont=>
  obtain⟨_,_,_,q⟩:=hs;exact False.elim q
section
variable{X:Cx}{x:Str}{p pos:Pos}{e:Expr}{es:List Expr}{t:TA}{id T:String}{r:List V->Hp->VK->Prop}
def tCB(r:List V->Hp->VK->Prop)(t:TA): TE:=fun σ H Q=>t σ H fun vs H1=>r vs H1 Q
theorem q3l(hc:jt X (.builtin id) r)(hg:Gl X x)(hm:X.mg x=none)(hv:bootBuiltins x=some (.builtin id))(ha:PA X (e :: es) t)(hn:x≠"__name__" :=by decide)(hdb:(x==("__debug__" : Str))=false:=by decide)
  (he:starEach (e :: es) X.env=(false,eval e X.env) :: starEach es X.env:=by rfl) (hpl:(backTo pos (starEach es X.env)).any (·.1)=false:=by rfl):PE X (.Call (.Name x p) (e :: es) [] pos) (tCB r t):=by
 intro pins s σ H Q I h;refine g14 (q05 I hg hm hv ?_ hn hdb);exact PyProof.Rows.callWith_builtin1 (thn (ha pos pins s σ H _ I h) fun us s1 ⟨vs,H1,I1,r1,q1⟩=>hc pins s1 σ H1 vs us Q I1 r1 q1) he hpl
theorem q4i(hc:jt X (.type T) r)(hg:Gl X x)(hm:X.mg x=none)(hv:bootBuiltins x=some (.type T))(ha:PA X (e :: es) t)(hn:x≠"__name__" :=by decide)(hdb:(x==("__debug__" : Str))=false:=by decide)
  (he:starEach (e :: es) X.env=(false,eval e X.env) :: starEach es X.env:=by rfl) (hpl:(backTo pos (starEach es X.env)).any (·.1)=false:=by rfl):PE X (.Call (.Name x p) (e :: es) [] pos) (tCB r t):=by
 intro pins s σ H Q I h;refine g14 (q05 I hg hm hv ?_ hn hdb);exact g1q (thn (ha pos pins s σ H _ I h) fun us s1 ⟨vs,H1,I1,r1,q1⟩=>hc pins s1 σ H1 vs us Q I1 r1 q1) he hpl
end
end L2
namespace HT
open PySem PyProof.Rows
section
open PySem.SeqAt
open PySem.AutoSeq1 (wpAny_loadPart')
open PySem.MeetsSeq PySem.MeetsSeq2 PySem.MeetsSeq3
end
section
variable{prog:Program}{w:World}{A:Around}{E:Value->Shared->Prop}{s:Shared}
theorem cat_tup{t b:Addr}{vs ws:List Value}{Q:Value->Shared->Prop}(ht:IsTup s.heap t vs.toArray)(hb:IsTup s.heap b ws.toArray)(hv:vs≠[])
  (h1:ws=[]->Q (.ref t) s) (h2:ws≠[]->Q (.ref s.heap.objs.size) {s with heap:=s.heap.push {cls:=.type "tuple",data:=.seq (vs++ws).toArray} })
  (hsz:vs.length+ws.length<=sizeLine):wpAny (model prog w) A (binaryOp .Add (.ref t) (.ref b)) Q E s:=by
 obtain⟨⟨cls,dd,data,sl⟩,ho,hc,n,hd⟩:=id ht;obtain⟨⟨cls2,dd2,data2,sl2⟩,ho2,hc2,n2,hd2⟩:=id hb;simp only at hc hd hc2 hd2;subst hc hd hc2 hd2;have e:vs.toArray++ws.toArray=(vs++ws).toArray:=by simp
 by_cases hw:ws=[]
 ·exact g5k ⟨_,ho,rfl⟩ ⟨_,ho2,rfl⟩ g5l seq_tuple_add g3x g3m (g37 _ _)
   (tuple_addW1 t b vs.toArray ws.toArray n n2 dd dd2 sl sl2 (by simpa using hv) (by simp [hw])) ⟨ho,ho2,h1 hw⟩
 ·refine g5k ⟨_,ho,rfl⟩ ⟨_,ho2,rfl⟩ g5l seq_tuple_add g3x g3m (g37 _ _)
   (tuple_addW2 t b vs.toArray ws.toArray n n2 dd dd2 sl sl2 (by simpa using hv) (by simpa using hw) (by rw [gr,gr];exact hsz)) ⟨ho,ho2,?_⟩
  rw [e];exact h2 hw
def sIx(n d:Nat): Option Int->Nat
 | none=>d
 | some v=>if v<0 then(v+(n:Int)).toNat else min v.toNat n
theorem sIx_none(n d:Nat): sIx n d none=d:=rfl
theorem sIx_nat(n d k:Nat): sIx n d (some (k:Int))=min k n:=by
 show(if(k:Int)<0 then((k:Int)+(n:Int)).toNat else min (k:Int).toNat n)=min k n;rw [mn (by omega),g0k]
theorem qq8(n d:Nat)(hd:d<=n)(o:Option Int): sIx n d o<=n:=by
 cases o with
 | none=>exact hd
 | some v=>
  show(if v<0 then(v+(n:Int)).toNat else min v.toNat n)<=n
  by_cases hv:v<0
  ·rw [mi hv];omega
  ·rw [mn hv];exact Nat.min_le_right _ _
theorem qef(v:Int)(n d:Nat): (if v<0 then max (v+(n:Int)) 0 else min v (n:Int))=((sIx n d (some v):Nat):Int):=by
 show(if v<0 then max (v+(n:Int)) 0 else min v (n:Int))=(((if v<0 then(v+(n:Int)).toNat else min v.toNat n):Nat):Int)
 by_cases hv:v<0
 ·simp only [mi hv];omega
 ·simp only [mn hv];omega
theorem qfh(lo hi:Option Int)(n:Nat): Builtin.Slice.sliceAdjust lo hi 1 (n:Int)=(((sIx n 0 lo:Nat):Int),((sIx n n hi:Nat):Int)):=by
 have h1:¬((1:Int)<0):=by omega
 unfold Builtin.Slice.sliceAdjust;simp only [h1,nz];refine Prod.ext ?_ ?_
 ·cases lo with
  | none=>rfl
  | some v=>exact qef v n 0
 ·cases hi with
  | none=>rfl
  | some v=>exact qef v n n
theorem qfi(i j:Nat): Builtin.Slice.slicePlaces (i:Int) (j:Int) 1=j-i:=by
 unfold Builtin.Slice.slicePlaces;have h1:(1:Int)>0:=by omega
 simp only [h1,nu,Int.ediv_one]
 split <;> omega
theorem q7a{v:Value}{o:Option Int}{Q:Option Int->Shared->Prop}(p:IsPart v o)(h:Q o s): wpAny (model prog w) A (Builtin.Slice.slicePartIndex v) Q E s:=by
 cases p with
 | none=>exact slicePart_none h
 | int i t=>exact slicePart_int h
theorem sliceApplied_gen{sl:Addr}{vl vu:Value}{lo hi:Option Int}{n:Nat}{Q:Int×Int×Nat->Shared->Prop}(hs:s.heap.IsSliceOf sl vl vu .none)(pl:IsPart vl lo)(pu:IsPart vu hi)
  (h:Q (((sIx n 0 lo:Nat):Int),1,sIx n n hi-sIx n 0 lo) s):wpAny (model prog w) A (Builtin.Slice.sliceApplied (.ref sl) (pure (n:Int))) Q E s:=by
 obtain⟨os,hos,hcs,hds⟩:=id hs;unfold Builtin.Slice.sliceApplied Builtin.Slice.sliceFields;refine g0 (g0 (uw hos hds (x:=vl) rfl (g0 (uw hos hds (x:=vu) rfl (g0 (uw hos hds (x:=.none) rfl (g9 ?_)))))));refine g0 (slicePart_none ?_);show wpAny _ _ (if((1:Int)==0)=true then _ else _) _ _ s;rw [mn (by decide)];refine g0 (q7a pl (g0 (q7a pu (g0 (g9 ?_)))));show wpAny _ _ (match Builtin.Slice.sliceAdjust lo hi 1 (n:Int) with|(lo,hi)=>pure (lo,(1:Int),Builtin.Slice.slicePlaces lo hi 1)) _ _ s;rw [qfh lo hi n];show wpAny _ _ (pure (((sIx n 0 lo:Nat):Int),(1:Int),Builtin.Slice.slicePlaces ((sIx n 0 lo:Nat):Int) ((sIx n n hi:Nat):Int) 1)) _ _ s;rw [qfi];exact g9 h
theorem qk9(xs:Array Value)(i k:Nat): ((List.range k).filterMap fun(m:Nat)=>xs[((i:Int)+(m:Int)*1).toNat]?).toArray=((xs.toList.drop i).take k).toArray:=by
 have e:(fun(m:Nat)=>xs[((i:Int)+(m:Int)*1).toNat]?)=fun m=>xs[i+m]? :=by
  funext m
  have:((i:Int)+(m:Int)*1).toNat=i+m:=by omega
  rw [this]
 rw [e];have:=pick_run xs i k;rw [g38] at this;have e2:((fun x=>xs[x]?) ∘ fun x=>i+x)=fun m=>xs[i+m]? :=rfl;rw [e2] at this;rw [this]
theorem getItem_tuple_cut{t sl:Addr}{items:Array Value}{vl vu:Value}{lo hi:Option Int}{Q:Value->Shared->Prop}(ht:IsTup s.heap t items)(hs:s.heap.IsSliceOf sl vl vu .none)(pl:IsPart vl lo)(pu:IsPart vu hi)
  (hw:¬(sIx items.size 0 lo=0/\sIx items.size items.size hi=items.size))
  (h:Q (.ref s.heap.objs.size) {s with heap:=s.heap.push {cls:=.type "tuple",data:=.seq ((items.toList.drop (sIx items.size 0 lo)).take (sIx items.size items.size hi-sIx items.size 0 lo)).toArray} })
  (hsz:items.size<=sizeLine):wpAny (model prog w) A (getItem (.ref t) (.ref sl)) Q E s:=by
 have htake:sizeOk (.seq ((items.toList.drop (sIx items.size 0 lo)).take (sIx items.size items.size hi-sIx items.size 0 lo)).toArray):=by
  show((items.toList.drop (sIx items.size 0 lo)).take (sIx items.size items.size hi-sIx items.size 0 lo)).toArray.size<=sizeLine;rw [gr,p0,uz,nt];omega
 have hj:sIx items.size items.size hi<=items.size:=qq8 _ _ (gw _) hi;obtain⟨os,hos,hcs,hds⟩:=id hs;have hTs:s.TypeIs (.ref sl) "slice" :=⟨os,hos,hcs⟩
 unfold getItem
 try with_reducible refine nh ?_
 first|refine g0 (g9 ?_)|skip
 refine g0 (wpAny_sequenceKey ht.typeIs (by decide) ?_);refine g0 (u9 (name:=Str.ofString "__getitem__") ht.typeIs g0e
  (p6 g0e ht.typeIs entry_tuple_getitem ?_ (args_tuple_getitem _ _)))
 show wpAny _ _ (Builtin.Tuple.tupleItemsOf (.ref t) >>= _) _ _ s;refine g0 (tupleItemsOf_ ht ?_);refine g0 (g1a hTs ?_);rw [mi (by decide)];refine g0 (sliceApplied_gen hs pl pu ?_);have hno:¬((((sIx items.size 0 lo:Nat):Int)==0&&(1:Int)==1&&(sIx items.size items.size hi-sIx items.size 0 lo)==items.size)=true):=by
  intro q;rw [m6,m6] at q;have q1:((sIx items.size 0 lo:Nat):Int)=0:=eq_of_beq q.1.1;have q2:sIx items.size items.size hi-sIx items.size 0 lo=items.size:=eq_of_beq q.2;exact hw ⟨by omega,by omega⟩
 show wpAny _ _ (if(((sIx items.size 0 lo:Nat):Int)==0&&(1:Int)==1&&(sIx items.size items.size hi-sIx items.size 0 lo)==items.size)=true then _ else _) _ _ s;rw [mn hno,qk9]
 first
  | exact g0 (m:=Builtin.Tuple.tupleExact _) (pj (g9 ⟨_,rfl,g9 h⟩) htake)
  | exact g0 (m:=Builtin.Tuple.tupleExact _) (pj (g0 (g9 (g9 ⟨_,rfl,g9 h⟩))) htake)
  | exact g0 (g0 (m:=Builtin.Tuple.tupleExact _) (pj (g9 (g9 ⟨_,rfl,g9 h⟩)) htake))
  | exact g0 (g0 (m:=Builtin.Tuple.tupleExact _) (pj (g9 ⟨_,rfl,g9 h⟩) htake))
end
end HT
namespace L2
open PySem PySem.Spec PyProof.Rows
abbrev TO:=St->Hp->(Option Int->Hp->Prop)->Prop
def PO(X:Cx)(e:Option Expr)(t:TO): Prop:=
 ∀(pins:List (Addr×Obj)) (s:Shared) (σ : St) (H:Hp) (Q:Option Int->Hp->Prop),Inv X pins σ H s->t σ H Q ->
  wpAny (model X.prog X.w) X.A (evalPart e X.env) (fun u s'=>∃o H',Inv X pins σ H' s'/\IsPart u o/\Q o H') X.xe s
def tNoPart:TO:=fun _ H Q=>Q none H
def qsf(t:TE): TO:=fun σ H Q=>t σ H fun x H1=>∃i,x=.int i/\Q (some i) H1
theorem intsAre_of{ns:List Int}: ∀ {us:List Value},Vals (ns.map V.int) us->IntsAre us ns:=by
 induction ns with
 | nil=>intro us r;rw [g10] at r;cases r;exact .nil
 | cons n ns ih=>
  intro us r;rw [gj] at r;cases r with
  | cons r1 r2=>
   obtain⟨t,e⟩:=r1;subst e;exact .cons n t (ih r2)
section
variable{X:Cx}{e:Expr}{te:TE}{lo hi:Option Expr}{tl th:TO}{pos p2:Pos}
theorem qni:PO X none tNoPart:=by
 intro pins s σ H Q I h;rw [evalPart_none];exact g9 ⟨none,H,I,.none,h⟩
theorem qnj(h:PE X e te): PO X (some e) (qsf te):=by
 intro pins s σ H Q I hw;rw [evalPart_some];refine thn (h pins s σ H _ I hw) fun u s1 ⟨x,H1,I1,r1,q1⟩=>?_;obtain⟨i,rfl,q⟩:=q1;obtain⟨t,rfl⟩:=r1;exact⟨some i,H1,I1,.int i t,q⟩
def SlR(X:Cx)(r:V->Option Int->Option Int->Hp->VK->Prop): Prop:=
 ∀(pins:List (Addr×Obj)) (s:Shared) (σ : St) (H:Hp) (x:V) (v vl vu:Value) (lo hi:Option Int) (sl:Addr) (Q:VK),Inv X pins σ H s->RelV x v->s.heap.IsSliceOf sl vl vu .none->IsPart vl lo->IsPart vu hi->r x lo hi H Q ->
  ∃T id,typeLookup (.type T) "__getitem__" = pure (some (.builtin id))/\s.TypeIs v T/\wpAny (model X.prog X.w) X.A (getItem v (.ref sl)) (EP X pins σ Q) X.xe s
theorem SlR.or{r r':V->Option Int->Option Int->Hp->VK->Prop}(h:SlR X r)(h':SlR X r'): SlR X (fun x lo hi H Q=>r x lo hi H Q\/r' x lo hi H Q):=by
 intro pins s σ H x v vl vu lo hi sl Q I rx hs pl pu q;rcases q with q|q
 ·exact h pins s σ H x v vl vu lo hi sl Q I rx hs pl pu q
 ·exact h' pins s σ H x v vl vu lo hi sl Q I rx hs pl pu q
def tSl(r:V->Option Int->Option Int->Hp->VK->Prop)(te:TE)(tl th:TO): TE:=fun σ H Q=>te σ H fun x H1=>tl σ H1 fun l H2=>th σ H2 fun u H3=>r x l u H3 Q
theorem qka{r:V->Option Int->Option Int->Hp->VK->Prop}(hr:SlR X r)(he:PE X e te)(hl:PO X lo tl)(hu:PO X hi th): PE X (.Subscript e (.Slice lo hi none p2) pos) (tSl r te tl th):=by
 intro pins s σ H Q I h;refine Subscript_ (thn (he pins s σ H _ I h) fun v s1 ⟨x,H1,I1,r1,q1⟩=>?_);refine wpAny_Slice (thn (hl pins s1 σ H1 _ I1 q1) fun vl s2 ⟨l,H2,I2,pl,q2⟩=>thn (hu pins s2 σ H2 _ I2 q2) fun vu s3 ⟨u,H3,I3,pu,q3⟩=>?_);rw [evalPart_none];refine g9 ?_;have I4:Inv X pins σ H3 {s3 with heap:=s3.heap.push {cls:=.type "slice",data:=.fields #[vl,vu,.none]} }:=I3.kept (t':=s3.toks) fun b ob q=>gc _ q;obtain⟨T,id,hT,ht,hg⟩:=hr pins {s3 with heap:=s3.heap.push {cls:=.type "slice",data:=.fields #[vl,vu,.none]} } σ H3 x v vl vu l u s3.heap.objs.size Q I4 r1 (Heap.IsSliceOf.new ..) pl pu q3;show wpAny (model X.prog X.w) X.A (subscriptTail e (.Slice lo hi none p2) v (.ref s3.heap.objs.size)) (EP X pins σ Q) X.xe {s3 with heap:=s3.heap.push {cls:=.type "slice",data:=.fields #[vl,vu,.none]} };exact tail_any (ops:=[.ref s3.heap.objs.size,v]) ht hT hg (by with_unfolding_all rfl)
def q1b(xs:List V)(lo hi:Option Int): List V:=(xs.drop (HT.sIx xs.length 0 lo)).take (HT.sIx xs.length xs.length hi-HT.sIx xs.length 0 lo)
theorem q5t(xs:List V)(lo hi:Option Int): (q1b xs lo hi).length<=xs.length:=by
 unfold q1b;rw [p0,uz];omega
def qtg(K:PySem.W.Frag): V->Option Int->Option Int->Hp->VK->Prop:=fun x lo hi H Q=>∃a xs,x=.ref a/\SqT K H a xs /\
 ¬(HT.sIx xs.length 0 lo=0/\HT.sIx xs.length xs.length hi=xs.length)/\∀p,H p=none->Q (.ref p) (upd H p (.tup (q1b xs lo hi)))
theorem sl_tup:SlR X (qtg X.K):=by
 intro pins s σ H x v vl vu lo hi sl Q I rx hs pl pu h;obtain⟨a,xs,rfl,hx,hw,q⟩:=h;cases rx;obtain⟨its,r,ht,hz⟩:=I.tuple hx;have hlen:its.toArray.size=xs.length:=by rw [gr];exact r.length.symm
 refine⟨"tuple",_,g0e.lookup,ht.typeIs,?_⟩;refine HT.getItem_tuple_cut ht hs pl pu (by rw [hlen];exact hw) ?_ (by rw [hlen];exact hz);rw [hlen];refine⟨.ref s.heap.objs.size,_,I.laid (t':=s.toks) (o:=.tup (q1b xs lo hi)) (fun b ob q=>gc _ q) (gw _) ?_,rfl,q _ (I.hok.fresh (gw _))⟩;exact⟨mq (q5t xs lo hi) hz,_,(r.drop (HT.sIx xs.length 0 lo)).take (HT.sIx xs.length xs.length hi-HT.sIx xs.length 0 lo),TupX.new _ _⟩
def qsg(K:PySem.W.Frag): R2:=fun x y H Q=>∃a b xs ys,x=.ref a/\y=.ref b/\SqT K H a xs/\SqT K H b ys/\xs≠[]/\xs.length+ys.length<=sizeLine /\
 (ys=[]->Q (.ref a) H)/\(ys≠[]->∀p,H p=none->Q (.ref p) (upd H p (.tup (xs++ys))))
theorem Vals.nil_iff{xs:List V}{us:List Value}(r:Vals xs us): us=[]↔xs=[]:=by
 cases r with
 | nil=>simp
 | cons _ _=>simp
theorem qnk:OpR X (binaryOp .Add) (qsg X.K):=by
 intro pins s σ H x y v u Q I rx ry h;obtain⟨a,b,xs,ys,rfl,rfl,ha,hb,hx,hz,q1,q2⟩:=h;cases rx;cases ry;obtain⟨its,r1,p1,_⟩:=I.tuple ha;obtain⟨its2,r2,p2,_⟩:=I.tuple hb;refine HT.cat_tup p1 p2 (fun z=>hx (r1.nil_iff.mp z)) (fun z=>⟨.ref a,H,I,rfl,q1 (r2.nil_iff.mp z)⟩) (fun z=>?_) (by rw [<- r1.length, <- r2.length];exact hz);refine⟨.ref s.heap.objs.size,_,I.laid (t':=s.toks) (o:=.tup (xs++ys)) (fun b ob q=>gc _ q) (gw _) ?_,rfl,q2 (fun w=>z (r2.nil_iff.mpr w)) _ (I.hok.fresh (gw _))⟩;exact⟨by rw [pk];exact hz,_,r1.append r2,TupX.new _ _⟩
end
def ixN(n:Nat)(i:Int): Option Nat:=if 0<=i then(if i<n then some i.toNat else none) else if -(n:Int)<=i then some (i+n).toNat else none
def atI{α : Type}(xs:List α)(i:Int): Option α :=(ixN xs.length i).bind fun j=>xs[j]?
theorem qnl{n:Nat}{i:Int}{j:Nat}(h:ixN n i=some j): seqIndex? i n=some j/\j<n /\ -(n:Int)<=i/\i<n:=by
 unfold ixN at h
 by_cases h0:0<=i
 ·rw [mi h0] at h
  by_cases h1:i<n
  ·rw [mi h1] at h
   have e:i.toNat=j:=md h;exact⟨by rw [seqIndex_of h0 h1,e],by omega,by omega,h1⟩
  ·rw [mn h1] at h;cases h
 ·rw [mn h0] at h
  by_cases h1 : -(n:Int)<=i
  ·rw [mi h1] at h
   have e:(i+n).toNat=j:=md h;exact⟨by rw [seqIndex_neg (by omega) h1,e],by omega,h1,by omega⟩
  ·rw [mn h1] at h;cases h
theorem q8c{α : Type}{xs:List α}{i:Int}{v : α}(h:atI xs i=some v): ∃j,seqIndex? i xs.length=some j/\xs[j]? = some v/\j<xs.length /\ -(xs.length:Int)<=i/\i<xs.length:=by
 unfold atI at h;cases e:ixN xs.length i with
 | none=>rw [e] at h;cases h
 | some j=>
  rw [e] at h;obtain⟨h1,h2,h3,h4⟩:=qnl e;exact⟨j,h1,h,h2,h3,h4⟩
def q8d(b:Expr): Prop:=∀o i,subscripted b false o i=operate [o,i] (getItem o i)
def IxR(X:Cx)(r:R2): Prop:=
 ∀(value slice:Expr) (pins:List (Addr×Obj)) (s:Shared) (σ : St) (H:Hp) (x y:V) (v u:Value) (Q:VK),Inv X pins σ H s->RelV x v->RelV y u->r x y H Q ->
  subscripted slice false v u=operate [v,u] (getItem v u)->wpAny (model X.prog X.w) X.A (subscriptTail value slice v u) (EP X pins σ Q) X.xe s
def MtR(X:Cx)(id:String)(r:V->List V->Hp->VK->Prop): Prop:=
 ∀(pins:List (Addr×Obj)) (s:Shared) (σ : St) (H:Hp) (x:V) (xs:List V) (v:Value) (us:List Value) (Q:VK),Inv X pins σ H s->RelV x v->Vals xs us->r x xs H Q ->
  wpAny (model X.prog X.w) X.A (call (.builtin id) (v :: us)) (EP X pins σ Q) X.xe s
section
variable{X:Cx}{a b:Expr}{ta tb:TE}{pos:Pos}
theorem IxR.or{r r':R2}(h:IxR X r)(h':IxR X r'): IxR X (fun x y H Q=>r x y H Q\/r' x y H Q):=by
 intro value slice pins s σ H x y v u Q I rx ry q hs;rcases q with q|q
 ·exact h value slice pins s σ H x y v u Q I rx ry q hs
 ·exact h' value slice pins s σ H x y v u Q I rx ry q hs
theorem qms{r:R2}(hr:IxR X r)(ha:PE X a ta)(hb:PE X b tb)(hs:q8d b): PE X (.Subscript a b pos) (tOp r ta tb):=by
 intro pins s σ H Q I h;exact Subscript_ (qk2 ha hb I h fun v u s2 x y H2 I2 rx ry q=>hr a b pins s2 σ H2 x y v u Q I2 rx ry q (hs _ _))
def qq9(K:PySem.W.Frag): R2:=fun x y H Q=>∃p xs i v,x=.ref p/\y=.int i/\SqL K H p xs/\atI xs i=some v/\Q v H
def qqa(K:PySem.W.Frag): R2:=fun x y H Q=>∃p xs i v,x=.ref p/\y=.int i/\SqT K H p xs/\atI xs i=some v/\Q v H
def rIxS:R2:=fun x y H Q=>∃z i c,x=.str z/\y=.int i/\z.length<=sizeLine/\atI z.cps.toList i=some c/\Q (.str ⟨#[c]⟩) H
theorem ix_list:IxR X (qq9 X.K):=by
 intro value slice pins s σ H x y v u Q I rx ry h hs;obtain⟨p,xs,i,z,rfl,rfl,hq,he,q⟩:=h;cases rx;obtain⟨t,rfl⟩:=ry;obtain⟨its,r,pl,hz⟩:=I.list hq;obtain⟨j,h1,h2,h3,h4,h5⟩:=q8c he;obtain⟨w,ew,rw'⟩:=r.get h2;have hl:=r.length;have hn:=q4h;have fin:EP X pins σ Q w s:=⟨z,H,I,rw',q⟩
 by_cases h0:0<=i
 ·have hj:i.toNat=j:=by
   rw [seqIndex_of h0 h5] at h1;exact md h1
  exact item_listR pl.isList h0 (by omega) (by rw [hj];simpa using ew) fin hs
 ·have hj:(i+(its.toArray.size:Int)).toNat=j:=by
   rw [seqIndex_neg (by omega) h4] at h1;rw [gr, <- hl];exact md h1
  exact subscriptTail_builtinR (x:=w) pl.isList.typeIs slot_list_getitem.lookup
   (wpAny_getItem_list_neg (Q:=fun r s'=>r=w/\EP X pins σ Q r s') pl.isList (by omega) (by rw [gr] <;> omega) (by omega) (by rw [hj];simpa using ew) ⟨rfl,fin⟩) hs
theorem ix_tup:IxR X (qqa X.K):=by
 intro value slice pins s σ H x y v u Q I rx ry h hs;obtain⟨p,xs,i,z,rfl,rfl,hq,he,q⟩:=h;cases rx;obtain⟨t,rfl⟩:=ry;obtain⟨its,r,pl,hz⟩:=I.tuple hq;obtain⟨j,h1,h2,h3,h4,h5⟩:=q8c he;obtain⟨w,ew,rw'⟩:=r.get h2;have hl:=r.length;have hn:=q4h;have fin:EP X pins σ Q w s:=⟨z,H,I,rw',q⟩
 exact subscriptTail_builtinR (x:=w) pl.typeIs slot_tuple_getitem.lookup
  (getItem_tuple (j:=j) (Q:=fun r s'=>r=w/\EP X pins σ Q r s') pl (by omega) (by omega) (by rw [gr, <- hl];exact h1) (by simpa using ew) ⟨rfl,fin⟩) hs
theorem qqb:IxR X rIxS:=by
 intro value slice pins s σ H x y v u Q I rx ry h hs;obtain⟨z,i,c,rfl,rfl,hz,he,q⟩:=h;obtain⟨t,rfl⟩:=rx;obtain⟨t',rfl⟩:=ry;obtain⟨j,h1,h2,h3,h4,h5⟩:=q8c he;have hl:z.cps.toList.length=z.length:=by simp [Str.length]
 rw [hl] at h1 h4 h5;have hn:=q4h;exact tail_any (typeIs_str s z t) slot_str_getitem.lookup (getItem_str (c:=c) (by
  have e1:decide (i < -(2 ^ 63:Int))=false:=tm (by omega);have e2:decide (i>=2 ^ 63)=false:=tm (by omega);rw [e1,e2,Bool.or_false]) (by rw [h1];simpa using h2) ⟨.str ⟨#[c]⟩,H,I.tok _,⟨_,rfl⟩,q⟩) hs
def rIx(K:PySem.W.Frag): R2:=fun x y H Q=>qq9 K x y H Q\/qqa K x y H Q\/rIxS x y H Q
theorem qqc:IxR X (rIx X.K):=ix_list.or (ix_tup.or qqb)
theorem qau(lo hi:Option Int)(n:Nat): (sliceBounds lo hi none n).1=((HT.sIx n 0 lo:Nat):Int)/\(sliceBounds lo hi none n).2.1=((HT.sIx n n hi:Nat):Int)/\(sliceBounds lo hi none n).2.2=1:=by
 refine⟨?_,?_,rfl⟩
 ·cases lo with
  | none=>simp [sliceBounds,HT.sIx]
  | some i=>
   simp only [sliceBounds,HT.sIx,Option.getD_none,show(1:Int)>0 by decide,nu]
   by_cases h:i<0
   ·simp only [h,nu] <;> omega
   ·simp only [h,nz] <;> omega
 ·cases hi with
  | none=>simp [sliceBounds,HT.sIx]
  | some i=>
   simp only [sliceBounds,HT.sIx,Option.getD_none,show(1:Int)>0 by decide,nu]
   by_cases h:i<0
   ·simp only [h,nu] <;> omega
   ·simp only [h,nz] <;> omega
theorem qaa(its:List Value)(lo hi:Option Int): slicePick its.toArray lo hi none=((its.drop (HT.sIx its.length 0 lo)).take (HT.sIx its.length its.length hi-HT.sIx its.length 0 lo)).toArray:=by
 obtain⟨h1,h2,h3⟩:=qau lo hi its.toArray.size;unfold slicePick;rw [h1,h2,h3];simp only [sliceRange_one,pick_run,gr] <;> rfl
def qth(K:PySem.W.Frag): V->Option Int->Option Int->Hp->VK->Prop:=fun x lo hi H Q=>∃a xs,x=.ref a/\SqL K H a xs/\∀p,H p=none->Q (.ref p) (upd H p (.lst (q1b xs lo hi)))
theorem sl_list:SlR X (qth X.K):=by
 intro pins s σ H x v vl vu lo hi sl Q I rx hs pl pu h;obtain⟨a,xs,rfl,hx,q⟩:=h;cases rx;obtain⟨its,r,ht,hz⟩:=I.list hx;have hlen:=r.length;refine⟨"list",_,slot_list_getitem.lookup,ht.isList.typeIs,?_⟩;refine wpAny_getItem_list_slice ht.isList hs pl pu .none (by simp) ?_ (by rw [gr] <;> omega);rw [qaa, <- hlen];refine⟨.ref s.heap.objs.size,_,I.laid (t':=s.toks) (o:=.lst (q1b xs lo hi)) (fun b ob q=>gc _ q) (gw _) ?_,rfl,q _ (I.hok.fresh (gw _))⟩;exact⟨mq (q5t xs lo hi) hz,_,0,(r.drop (HT.sIx xs.length 0 lo)).take (HT.sIx xs.length xs.length hi-HT.sIx xs.length 0 lo),gf _ rfl⟩
def wo:V->Bool
 | .non=>true
 | .bl _=>true
 | .int _=>true
 | .str _=>true
 | _=>false
def eqV:V->V->Bool
 | .non,.non=>true
 | .bl a,.bl b=>a==b
 | .bl a,.int b=>(if a then 1 else 0)==b
 | .int a,.bl b=>a==(if b then 1 else 0)
 | .int a,.int b=>a==b
 | .str a,.str b=>a==b
 | _,_=>false
theorem qhk{A:Around}{s:Shared}{y x:V}{u v:Value}(ry:RelV y u)(rx:RelV x v)(fy:wo y=true)(fx:wo x=true): SeqAt.EqAt A s u v (eqV y x):=by
 cases y with
 | non=>
  cases ry;cases x with
  | non=>cases rx;exact g5y _
  | bl b=>cases rx;exact SeqAt.EqAt.none_bool b
  | int b=>obtain⟨t,rfl⟩:=rx;exact SeqAt.EqAt.none_int b t
  | str b=>obtain⟨t,rfl⟩:=rx;exact SeqAt.EqAt.none_str b t
  | _=>exact absurd (show false=true from fx) mf
 | bl a=>
  cases ry;cases x with
  | non=>cases rx;exact SeqAt.EqAt.bool_none a
  | bl b=>cases rx;exact SeqAt.EqAt.bool_bool a b
  | int b=>obtain⟨t,rfl⟩:=rx;exact SeqAt.EqAt.bool_int a b t
  | str b=>obtain⟨t,rfl⟩:=rx;exact SeqAt.EqAt.bool_str a b t
  | _=>exact absurd (show false=true from fx) mf
 | int a=>
  obtain⟨t',rfl⟩:=ry;cases x with
  | non=>cases rx;exact SeqAt.EqAt.int_none a t'
  | bl b=>cases rx;exact SeqAt.EqAt.int_bool a t' b
  | int b=>obtain⟨t,rfl⟩:=rx;exact SeqAt.EqAt.int_int a t' b t
  | str b=>obtain⟨t,rfl⟩:=rx;exact SeqAt.EqAt.int_str a t' b t
  | _=>exact absurd (show false=true from fx) mf
 | str a=>
  obtain⟨t',rfl⟩:=ry;cases x with
  | non=>cases rx;exact SeqAt.EqAt.str_none a t'
  | bl b=>cases rx;exact SeqAt.EqAt.str_bool a t' b
  | int b=>obtain⟨t,rfl⟩:=rx;exact SeqAt.EqAt.str_int a t' b t
  | str b=>obtain⟨t,rfl⟩:=rx;exact SeqAt.EqAt.str_str a t' b t
  | _=>exact absurd (show false=true from fx) mf
 | _=>exact absurd (show false=true from fy) mf
def eqU(x:V)(u:Value): Bool:=match u with
 | .none=>eqV .non x
 | .bool b=>eqV (.bl b) x
 | .int i _=>eqV (.int i) x
 | .str z _=>eqV (.str z) x
 | _=>false
theorem qhl{x y:V}{u:Value}(r:RelV y u)(f:wo y=true): eqU x u=eqV y x:=by
 cases y with
 | non=>cases r;rfl
 | bl b=>cases r;rfl
 | int i=>obtain⟨t,rfl⟩:=r;rfl
 | str z=>obtain⟨t,rfl⟩:=r;rfl
 | _=>exact absurd (show false=true from f) mf
theorem q39{x:V}: ∀ {xs:List V} {us:List Value},Vals xs us->xs.all wo=true->us.any (eqU x)=xs.any fun y=>eqV y x
 | _,_,.nil,_=>rfl
 | y :: xs,u :: us,.cons r t,f=>by
  rw [g3z,m6] at f;rw [List.any_cons,List.any_cons,qhl r f.1,q39 t f.2]
theorem q1z{A:Around}{s:Shared}{x:V}{v:Value}(rx:RelV x v)(fx:wo x=true): ∀ {xs:List V} {us:List Value},Vals xs us->xs.all wo=true->∀u∈us,SeqAt.EqAt A s u v (eqU x u)
 | _,_,.nil,_=>fun u hu=>by cases hu
 | y :: xs,u :: us,.cons r t,f=>fun u' hu=>by
  rw [g3z,m6] at f;rcases mh.mp hu with rfl|hu
  ·rw [qhl r f.1];exact qhk r rx f.1 fx
  ·exact q1z rx fx t f.2 u' hu
def inV(x:V)(xs:List V): Bool:=xs.any fun y=>eqV y x
def rIn(K:PySem.W.Frag)(neg:Bool): R2:=fun x y H Q=>∃p xs,y=.ref p/\(SqL K H p xs\/SqT K H p xs)/\wo x=true/\xs.all wo=true/\Q (.bl (if neg then !inV x xs else inV x xs)) H
theorem qhm:OpR X (compareOp .In) (rIn X.K false):=by
 intro pins s σ H x y v u Q I rx ry h;obtain⟨p,xs,rfl,hq,fx,fs,q⟩:=h;cases ry;rcases hq with hq|hq
 ·obtain⟨its,r,pl,hz⟩:=I.list hq
  refine SeqAt.in_listAt (eqU x) pl.isList (fun w hw=>q1z rx fx r fs w (by simpa using hw)) ⟨.bl _,H,I,rfl,?_⟩;rw [show its.toArray.any (eqU x)=its.any (eqU x) by simp,q39 r fs];exact q
 ·obtain⟨its,r,pl,hz⟩:=I.tuple hq
  refine SeqAt.in_tupleAt (eqU x) pl (fun w hw=>q1z rx fx r fs w (by simpa using hw)) ⟨.bl _,H,I,rfl,?_⟩;rw [show its.toArray.any (eqU x)=its.any (eqU x) by simp,q39 r fs];exact q
theorem qav:OpR X (compareOp .NotIn) (rIn X.K true):=by
 intro pins s σ H x y v u Q I rx ry h;obtain⟨p,xs,rfl,hq,fx,fs,q⟩:=h;cases ry;rcases hq with hq|hq
 ·obtain⟨its,r,pl,hz⟩:=I.list hq
  refine SeqAt.notIn_listAt (eqU x) pl.isList (fun w hw=>q1z rx fx r fs w (by simpa using hw)) ⟨.bl _,H,I,rfl,?_⟩;rw [show its.toArray.any (eqU x)=its.any (eqU x) by simp,q39 r fs];exact q
 ·obtain⟨its,r,pl,hz⟩:=I.tuple hq
  refine SeqAt.notIn_tupleAt (eqU x) pl (fun w hw=>q1z rx fx r fs w (by simpa using hw)) ⟨.bl _,H,I,rfl,?_⟩;rw [show its.toArray.any (eqU x)=its.any (eqU x) by simp,q39 r fs];exact q
theorem qab:jt X (.type "tuple") (fun xs H Q=>∃p ys,xs=[.ref p]/\((SqL X.K H p ys/\∀l,H l=none->Q (.ref l) (upd H l (.tup ys)))\/(SqT X.K H p ys/\Q (.ref p) H))):=by
 intro pins s σ H xs us Q I r h;obtain⟨p,ys,rfl,h⟩:=h;obtain⟨u,rfl,rx⟩:=vals1 r;cases rx;rcases h with⟨hq,q⟩|⟨hq,q⟩
 ·obtain⟨its,r',pl,hz⟩:=I.list hq
  have hlen:=r'.length;refine call_tuple_list pl.isList (fun h' kp=>?_) (by simp only [gr] <;> omega);have I1:Inv X pins σ H {s with heap:=h'}:=I.kept (t':=s.toks) kp;have I2:Inv X pins σ (upd H h'.objs.size (.tup ys)) {s with heap:=h'.push {cls:=.type "tuple",data:=.seq its.toArray} }:=
   I1.laid (t':=s.toks) (fun b o e=>gc _ e) (gw _) (show ObjOk X.prog X.w _ _ _ (.tup ys) from⟨hz,its,r',TupX.new _ _⟩)
  exact⟨.ref h'.objs.size,_,I2,rfl,q _ (I1.hok.fresh (gw _))⟩
 ·obtain⟨its,r',pl,hz⟩:=I.tuple hq
  exact call_tuple_same pl ⟨.ref p,H,I,rfl,q⟩
def tyV(K:PySem.W.Frag)(T:String)(x:V)(H:Hp): Prop:=match x with
 | .str _=>T="str"
 | .int _=>T="int"
 | .ref p=>(T="list" /\ ∃xs,SqL K H p xs)\/(T="tuple" /\ ∃o,K.lookup p=some o/\o.cls=.type "tuple" /\ o.dict=none) \/
   (T="dict" /\ ((∃kvs,H p=some (.dK kvs))\/∃kvs,H p=some (.dT kvs)))\/(T="set" /\ ∃S n,H p=some (.set S n))
 | _=>False
theorem qqd{pins:List (Addr×Obj)}{σ : St}{H:Hp}{s:Shared}{T:String}{x:V}{v:Value}(I:Inv X pins σ H s)(r:RelV x v)(ty:tyV X.K T x H):
  s.TypeIs v T/\∀a,v=.ref a->∃ob,s.heap.get? a=some ob/\ob.dict=none:=by
 cases x with
 | str z=>
  obtain⟨t,rfl⟩:=r;cases(show T="str" from ty);exact⟨typeIs_str s z t,fun _ e=>nomatch e⟩
 | int i=>
  obtain⟨t,rfl⟩:=r;cases(show T="int" from ty);exact⟨typeIs_int s i t,fun _ e=>nomatch e⟩
 | ref p=>
  cases r;rcases ty with⟨rfl,xs,hq⟩|⟨rfl,o,hk,hc,hd⟩|⟨rfl,hk⟩|⟨rfl,S,n,hk⟩
  ·obtain⟨its,_,pl,_⟩:=I.list hq
   refine⟨pl.isList.typeIs,fun a e=>?_⟩;cases e;obtain⟨o,n,e,c,hd,_⟩:=pl;exact⟨o,e,hd⟩
  ·refine⟨⟨o,I.kIn p o hk,hc⟩,fun a e=>?_⟩
   cases e;exact⟨o,I.kIn _ o hk,hd⟩
  ·have z:∃o,s.heap.get? p=some o/\o.ExactDict:=by
    rcases hk with⟨kvs,hk⟩|⟨kvs,hk⟩
    ·obtain⟨_,_,_,_,o,_,_,e,ex,_⟩:=I.hok p _ hk
     exact⟨o,e,ex⟩
    ·obtain⟨_,_,_,_,o,_,_,e,ex,_⟩:=I.hok p _ hk
     exact⟨o,e,ex⟩
   obtain⟨o,e,ex⟩:=z;refine⟨⟨o,e,ex.1⟩,fun a e2=>?_⟩;cases e2;exact⟨o,e,ex.2.1⟩
  ·obtain⟨o,_,_,_,e,ex,_⟩:=I.hok p _ hk
   refine⟨⟨o,e,ex.1⟩,fun a e2=>?_⟩;cases e2;exact⟨o,e,ex.2.1⟩
 | _=>exact False.elim ty
def tBM(K:PySem.W.Frag)(T:String)(r:V->List V->Hp->VK->Prop)(to:TE)(t:TA): TE:=fun σ H Q=>to σ H fun x H1=>tyV K T x H1/\t σ H1 fun xs H2=>r x xs H2 Q
variable{o e:Expr}{es:List Expr}{to:TE}{t:TA}{name:Str}{apos cpos:Pos}{T id:String}{r:V->List V->Hp->VK->Prop}
theorem qmt(pa:PlainAttrs T)(slot:Slot T name id)(hty:typeOf (.builtin id)=pure (.type "method_descriptor"))(hm:MtR X id r)(ho:PE X o to)(ha:PA X (e :: es) t)
  (hbase:attributeBase o name X.env (eval o X.env)=eval o X.env:=by rfl)
  (hfew:((backTo cpos (starEach (e :: es) X.env)).all (fun x=> !x.1)&&(backToKw cpos (keywordEach [] X.env)).all (fun x=>x.1.isSome)
   && decide ((e :: es).length+([]:List Keyword).length+(if([]:List Keyword).isEmpty then 0 else 1)<30))=true:=by rfl)
  (hline:(apos.endLine==cpos.line)=true:=by rfl) (hs:starEach (e :: es) X.env=(false,eval e X.env) :: starEach es X.env:=by rfl) (hplain:(backTo cpos (starEach es X.env)).any (·.1)=false:=by rfl) :
  PE X (.Call (.Attribute o name apos) (e :: es) [] cpos) (tBM X.K T r to t):=by
 intro pins s σ H Q I h;refine wpAny_Call_method_late hbase hfew hline rfl (thn (ho pins s σ H _ I h) fun v s1 ⟨x,H1,I1,r1,ty,q1⟩=>?_);obtain⟨h1,h2⟩:=qqd I1 r1 ty;refine⟨T,id,pa,slot,hty,h1,h2,?_⟩;have hA:=ha cpos pins s1 σ H1 _ I1 q1;rw [hs] at hA ⊢;refine Calls.callWith_builtin (by show(false || (backTo cpos (starEach es X.env)).any (·.1))=false;rw [hplain] <;> rfl) (Calls.evalArgs_plain ?_);exact thn hA fun us s2 ⟨vs,H2,I2,r2,q2⟩=>hm pins s2 σ H2 x vs v us Q I2 r1 r2 q2
end
def MtM(X:Cx)(id:String)(r:V->List V->Hp->VK->Prop): Prop:=
 ∀(pins:List (Addr×Obj)) (s:Shared) (σ : St) (H:Hp) (x:V) (xs:List V) (v:Value) (us:List Value) (Q:VK),Inv X pins σ H s->RelV x v->Vals xs us->r x xs H Q ->
  wpAny (model X.prog X.w) X.A (call (.builtin id) (v :: us)) (EP X pins σ Q) X.xe s
theorem Vals.one:∀ {x:V} {us:List Value},Vals [x] us->∃u,us=[u]/\RelV x u
 | _,_,.cons r .nil=>⟨_,rfl,r⟩
theorem Vals.two:∀ {x y:V} {us:List Value},Vals [x,y] us->∃u v,us=[u,v]/\RelV x u/\RelV y v
 | _,_,_,.cons r (.cons q .nil)=>⟨_,_,rfl,r,q⟩
section
variable{X:Cx}{pins:List (Addr×Obj)}{σ : St}{H:Hp}{s:Shared}{l b:Addr}{xs ys zs:List V}
theorem Inv.lset{its its':List Value}{n:Nat}{f:Array Value->Array Value}{t':Nat}(I:Inv X pins σ H s)(hH:H l=some (.lst xs))
  (e:s.heap.get? l=some {cls:=.type "list",data:=.seq its.toArray n}) (hf:f its.toArray=its'.toArray) (hv:Vals ys its') (hz:ys.length<=sizeLine) :
  Inv X pins σ (upd H l (.lst ys)) {s with heap:=s.heap.update l (Obj.mapSeq f),toks:=t'}:=by
 have q:=PySem.IsL.update e f;rw [hf] at q;refine I.write (x:=l) (e:=l) (by rw [hH];exact trivial) (.inl rfl) (fun b' u hb hu=>(tf s.heap (Obj.mapSeq f) (ng hb)).trans hu) ⟨_,q⟩ ?_;exact⟨hz,its',_,hv,q⟩
theorem Inv.lnew{its:List Value}{t':Nat}(I:Inv X pins σ H s)(hv:Vals ys its)(hz:ys.length<=sizeLine):
  Inv X pins σ (upd H s.heap.objs.size (.lst ys)) {s with heap:=s.heap.push {cls:=.type "list",data:=.seq its.toArray},toks:=t'}:=
 I.laid (fun _ _ q=>gc _ q) (gw _) ⟨hz,its,0,hv,gf _ rfl⟩
theorem Inv.fresh(I:Inv X pins σ H s): H s.heap.objs.size=none:=I.hok.fresh (gw _)
theorem Inv.lstM(I:Inv X pins σ H s)(hH:H l=some (.lst xs)): xs.length<=sizeLine/\∃(its:List Value) (n:Nat),Vals xs its/\xs.length=its.length/\s.heap.get? l=some {cls:=.type "list",data:=.seq its.toArray n}:=by
 obtain⟨z,its,n,r,e⟩:=I.hok l _ hH;exact⟨z,its,n,r,r.length,e⟩
theorem qkb{n:Nat}(h:n<=sizeLine): Builtin.List.listTooLong n=false:=by
 unfold Builtin.List.listTooLong;exact tm (by omega)
end
section
variable{X:Cx}
def rAppend:V->List V->Hp->VK->Prop:=fun x vs H Q=>∃l xs y,x=.ref l/\vs=[y]/\H l=some (.lst xs)/\xs.length<sizeLine/\Q .non (upd H l (.lst (xs++[y])))
theorem q9b:MtM X "list.append" rAppend:=by
 intro pins s σ H x vs v us Q I rx rv h;obtain⟨l,xs,y,rfl,rfl,hH,hz,q⟩:=h;cases rx;obtain⟨u,rfl,ru⟩:=rv.one;obtain⟨z,its,n,r,hl,e⟩:=I.lstM hH;refine g4a F.slot_list_append ⟨_,e,rfl⟩ F.entry_list_append (F.args_list_append_2 _ _) (PySem.list_append l its.toArray n u (by rw [gr];omega)) ⟨e,?_⟩;refine⟨.non,_,I.lset (its':=its++[u]) hH e (by simp) (r.append (.cons ru .nil)) ?_,rfl,q⟩;rw [pk,g44];omega
end
section
variable{prog:Program}{w:World}{A:Around}{E:Value->Shared->Prop}{s:Shared}
end
section
variable{X:Cx}
end
end L2
namespace Att
open PySem PySem.W PySem.Calls PyProof.Rows
theorem q7b{P:Params}{h:Heap}: ∀(ns:List Int) (vs:List Value),WellAll P h vs (ns.map WData.int)->IntsAre vs ns:=by
 intro ns
 induction ns with
 | nil=>
  intro vs w;rw [g10] at w;cases w;exact .nil
 | cons n ns ih=>
  intro vs w;rw [gj] at w;cases w with
  | cons a b=>
   cases a;exact .cons _ _ (ih _ b)
theorem qhn{l:OpenLaw}{n:Nat}(hn:l.most=some n){P:Params}{h:Heap}{args:List WData}{vals:List Value}
  (hpre:l.row.toRowW.claim.pre args=true) (hwl:WellAll P h vals args) :
  ∃a vs ns,vals=[Value.ref a]/\args=[WData.list (ns.map WData.int)]/\h.get? a=some {cls:=.type "list",data:=.seq vs.toArray}/\IntsAre vs ns/\ns.length<=n:=by
 have hsh:WShape.hasAll [] args [.list .int]=true:=(pre_splitW hpre).1;have hc:l.pre.holds [] {args:=args}=true:=(pre_splitW hpre).2;obtain⟨d,r,rfl,h1,h2⟩:=hasAllW_cons hsh;obtain rfl:=hasAllW_nil h2;obtain⟨xs,rfl,h3⟩:=hasW_list h1;obtain⟨ns,rfl⟩:=items_int h3;have hlen:ns.length<=n:=by
  unfold OpenLaw.pre at hc;have h4:(WTm.not (.lt (.lit (.int (n:Int))) (.len (.arg 0)))).holds [] {args:=[.list (ns.map .int)]}=true:=by
   have h4:=(holds_andW hc).1;rw [hn] at h4;exact h4
  have h5:=condW_of h4 (w_not (w_lt w_lit (w_len_list (w_arg rfl))));rw [mj] at h5;refine Nat.le_of_not_lt fun q=>?_;have q':(n:Int)<((ns.length:Nat):Int):=by omega
  first
   | (rw [nv q'] at h5;exact absurd h5 (by decide))
   | (simp at h5;omega)
 cases hwl with
 | cons w1 w2=>
  cases w2;cases w1 with
  | list ho hall=>exact⟨_,_,ns,rfl,rfl,ho,q7b ns _ hall,hlen⟩
theorem qho(l:OpenLaw)(args:List WData): l.row.toRowW.claim.post args (.bool true) args=true:=
 postW_of (r:=l.row.toRowW) (X:=(true==true))
  (show WShape.has [] (.bool true) .bool=true by first|rfl|decide|simp [WShape.has,WShape.arms,WShape.armsAll])
  (show(WTm.eq .res (.lit (.bool true))).value [] {args:=args,res:=some (.bool true),after:=args}=some (.bool (true==true)) from w_eq_bool (w_res rfl) w_lit) rfl
theorem attach_call{l:OpenLaw}{n:Nat}{q:Program}{loose:List Str}{XP:(Str->Option Value)->Heap->Prop}{YP:World->Heap->Prop}{d:DefRec}
  (hn:l.most=some n) (hdf:d.params.defaults=[])
  (call:∀(w:World) (s₀ s₁:Shared) (mg mb:Str->Option Value) (fa:Addr) (o:Obj) (pm cd doc:Value) (a:Addr) (vs:List Value) (ns:List Int),
   Ground q loose [] XP w s₀ mg mb s₁.heap->YP w s₁.heap ->
   s₁.heap.get? fa=some o->o.data=.func (docDef d.name d.params d.body d.scope pm cd doc)->s₁.heap.CodeRec cd d.name->mg d.name=some (.ref fa) ->
   s₁.heap.get? a=some {cls:=.type "list",data:=.seq vs.toArray}->IntsAre vs ns->ns.length<=n->s₁.gens = #[] ->
   codeAny (model l.prog w) callerA (.call (.ref fa) ⟨[.ref a],[]⟩) (fun r s'=>r=.ok (.ret (.bool true))/\OldK s₁.heap s'.heap/\s'.os=s₁.os/\AllBare s'.gens) s₁) :
  WalkO q loose XP YP l.row.toRowW d [] (fun f vs=>PySem.call f vs):=by
 intro w s₀ s₁ mg mb G Y fa o pm cd doc dV kV ho hd hcd hD hmg hg args vals as hpre hlay hrd hwl hlo;obtain rfl:dV=.none:=Dflts.none hD hdf;obtain rfl:kV=.none:=Dflts.noKw hD;obtain⟨a,vs,ns,rfl,rfl,hobj,hints,hlen⟩:=qhn hn hpre hwl;refine enter_call (g36 (call w s₀ s₁ mg mb fa o pm cd doc a vs ns G Y ho (fd_plain hd) hcd hmg hobj hints hlen hg) fun r s' hq=>?_);obtain⟨rfl,h2,h3,h4⟩:=hq;exact⟨.inl ⟨.bool true,.bool true,[],rfl,fun _=>rfl,.bool true,qho l _,fun _=>⟨List.Pairwise.nil,fun _ hm=>(nomatch hm)⟩⟩,h2,h3,h4⟩
section
variable{prog:Program}{w:World}{A:Around}{E:Value->Shared->Prop}{s:Shared}{K:Frag}
end
end Att
namespace L2
open PySem PySem.Spec PyProof.Rows
theorem q10:∀ {vs:List Value} {ns:List Int},IntsAre vs ns->Vals (ns.map V.int) vs
 | _,_,.nil=>.nil
 | _,_,.cons n t h=>.cons ⟨t,rfl⟩ (q10 h)
def v5(s:Stmt): Arguments:=match s with
 | .FunctionDef _ a _ _ _ _ _ _ _ _=>a
 | _=>{posonlyargs:=[],args:=[],vararg:=none,kwonlyargs:=[],kw_defaults:=[],kwarg:=none,defaults:=[]}
def qt(s:Stmt): List Stmt:=match s with
 | .FunctionDef _ _ b _ _ _ _ _ _ _=>b
 | _=>[]
def qc(s:Stmt): Scope:=match s with
 | .FunctionDef _ _ _ _ _ _ sc _ _ _=>sc
 | _=>{kind:=.function,names:=[],isGenerator:=false,isCoroutine:=false}
abbrev CX0:CXT:=fun _ _ _ _ _ _=>False
abbrev E0:XK:=fun _ _ _=>False
theorem qmu{X:Cx}: q79 CX0 X E0:=fun _ _ _ _ _ _ _ h=>h.elim
structure Fun(K:PySem.W.Frag)(x qual:Str)(st:Stmt)(f:Addr)(fd:FuncData): Prop where
 ex:∃(oc:Value) (od:Option Addr) (kV doc pm:Value) (an:Option Addr) (cdv ct:Value) (osl:Array (Option Value)),
  fd=PySem.W.fnOf x qual (v5 st) (qt st) (qc st) .none kV doc pm an cdv ct/\K.lookup f=some ⟨oc,od,.func fd,osl⟩/\PySem.W.codeIn K cdv qual=true
 kp:PySem.W.keepIn K (.ref f)=true
section
variable{P:Program}{w:World}{K:PySem.W.Frag}{mg:Str->Option Value}{base:Heap}
end
section
variable{X:Cx}
theorem pv(i:Nat){x:Str}{pos:Pos}(hN:X.N[i]? = some x:=by rfl)(hv:Vis X.env.scope x:=by first|exact Or.inl rfl|exact Or.inr (Or.inl rfl)|exact Or.inr (Or.inr rfl))(hd:(x==("__debug__" : Str))=false:=by decide)
  (hcd:(x==("__classdict__" : Str))=false:=by decide):PE X (.Name x pos) (q6a i):=qpi hN hv hd hcd
end
theorem qti{A B:Prop}(h:B): if false=true then A else B:=by
 rw [mn mf];exact h
theorem qtj{A B:Prop}(h:A): if true=true then A else B:=by
 rw [mi rfl];exact h
def Same(H H':Hp): Prop:=∀b o,H b=some o->H' b=some o
theorem Same.refl(H:Hp): Same H H:=fun _ _ h=>h
theorem Same.trans{H H1 H2:Hp}(a:Same H H1)(b:Same H1 H2): Same H H2:=fun c o h=>b c o (a c o h)
theorem Same.free{H H':Hp}(e:Same H H'){l:Addr}(h:H' l=Option.none): H l=Option.none:=by
 cases q:H l with
 | none=>rfl
 | some o=>
  rw [e l o q] at h;cases h
theorem Same.seq{K:PySem.W.Frag}{H H':Hp}{a:Addr}{xs:List V}(e:Same H H')(h:SqL K H a xs): SqL K H' a xs:=by
 rcases h with(h|⟨o,h⟩)|h
 ·exact .inl (.inl (e _ _ h))
 ·exact .inl (.inr ⟨o,e _ _ h⟩)
 ·exact .inr h
theorem q20(env:Env): ∀(names:List (Str×NameKind)) (acc:List (Str×Addr)),
  (∀y∈names,y.2=.free->∃c,env.cells.lookup y.1=some c)->(∀x c,acc.lookup x=some c->env.cells.lookup x=some c) ->
  ∃ cl,(forIn names acc (fun(x:Str×NameKind) (r:List (Str×Addr))=>(do
    if x.2==NameKind.free then do
     let a <- cellOf env x.1
     pure (ForInStep.yield ((x.1,a) :: r))
    else pure (ForInStep.yield r):Sem (ForInStep (List (Str×Addr))))):Sem (List (Str×Addr)))=pure cl /\
   (∀x c,cl.lookup x=some c->env.cells.lookup x=some c)/\(∀x c,acc.lookup x=some c->∃d,cl.lookup x=some d)/\(∀y∈names,y.2=.free->∃c,cl.lookup y.1=some c)
 | [],acc,_,h2=>⟨acc,rfl,h2,fun x c h=>⟨c,h⟩,fun y hy=>by cases hy⟩
 | (n,k) :: r,acc,h1,h2=>by
  by_cases hk:k=NameKind.free
  ·subst hk
   obtain⟨c,hc⟩:=h1 (n,.free) gm rfl;have h2':∀x d,((n,c) :: acc).lookup x=some d->env.cells.lookup x=some d:=fun x d e=>by
    rw [tu] at e
    split at e
    ·rename_i q
     have q':x=n:=by simpa using q
     subst q';cases e;exact hc
    ·exact h2 x d e
   obtain⟨cl,e,a1,a2,a3⟩:=q20 env r ((n,c) :: acc) (fun y hy=>h1 y (gq _ hy)) h2';refine⟨cl,?_,a1,fun x d e2=>?_,fun y hy hf=>?_⟩
   ·rw [g2c]
    simp only [beq_self_eq_true,nu];have hco:cellOf env n=pure c:=by unfold cellOf;rw [hc]
    rw [hco];exact e
   ·by_cases q:x=n
    ·subst q
     exact a2 x c (by rw [tu];simp)
    ·exact a2 x d (by rw [tu,show(x==n)=false by simpa using q];exact e2)
   ·rcases mh.mp hy with rfl|hy
    ·exact a2 n c (by rw [tu];simp)
    ·exact a3 y hy hf
  ·obtain⟨cl,e,a1,a2,a3⟩:=q20 env r acc (fun y hy=>h1 y (gq _ hy)) h2
   refine⟨cl,?_,a1,a2,fun y hy hf=>?_⟩
   ·rw [g2c]
    have hb:(k==NameKind.free)=false:=by simpa using hk
    simp only [hb,gh,nz];exact e
   ·rcases mh.mp hy with rfl|hy
    ·exact absurd hf hk
    ·exact a3 y hy hf
theorem q7c{scope:Scope}{env:Env}(h:∀y∈scope.names,y.2=.free->∃c,env.cells.lookup y.1=some c):
  ∃cl,closureFor scope env=pure cl/\(∀x c,cl.lookup x=some c->env.cells.lookup x=some c)/\(∀y∈scope.names,y.2=.free->∃c,cl.lookup y.1=some c):=by
 obtain⟨cl,e,a1,_,a3⟩:=q20 env scope.names [] h (fun x c q=>by cases q);refine⟨cl,?_,a1,a3⟩;unfold closureFor;exact(g0f (fun m=>m >>= fun r=>(pure r:Sem (List (Str×Addr)))) e).trans rfl
abbrev qhp(ifs:List Expr)(env:Env): Sem Bool:=
 forIn ifs true fun c r=>if r=true then do let ok <- isTrue c env (eval c env);pure (ForInStep.yield ok) else pure (ForInStep.yield r)
def q1c(X:Cx)(ifs:List Expr)(t:TT): Prop:=
 ∀(pins:List (Addr×Obj)) (s:Shared) (σ : St) (H:Hp) (Q:Bool->Hp->Prop),Inv X pins σ H s->t σ H Q->wpAny (model X.prog X.w) X.A (qhp ifs X.env) (TP X pins σ Q) X.xe s
def tTrue:TT:=fun _ H Q=>Q true H
theorem qkc{X:Cx}: q1c X [] tTrue:=fun pins s σ H Q I h=>wpAny_tests_nil ⟨H,I,h⟩
theorem qkd{X:Cx}{c:Expr}{t:TT}(h:PT X c t): q1c X [c] t:=fun pins s σ H Q I hq=>wpAny_tests_one (h pins s σ H Q I hq)
section
variable{prog:Program}{w:World}{A:Around}{R:Result->Shared->Prop}{s:Shared}
theorem qda{elt target iter:Expr}{ifs:List Expr}{scope:Scope}{pos:Pos}{it acc:Value}{env:Env}(I:Nat->Shared->Prop)
  (turn:∀n s,I n s->wpAny (model prog w) A (pyNext it) (fun r s₁=>match r with
   | none=>R (.ok .next) s₁
   | some v=>wpAny (model prog w) A (letOwnedTupleGo target it v) (fun _ s'=>wpAny (model prog w) A (assign target env v) (fun _ s₂=>
     wpAny (model prog w) A (qhp ifs env) (fun ok s₃=>
      if ok=true then wpAny (model prog w) A (eval elt env) (fun x s₄=>
       wpAny (model prog w) A (call (.builtin "list.append") [acc,x]) (fun _ s₅=>∃m,m<n/\I m s₅) (fun _ _=>False) s₄) (fun _ _=>False) s₃
      else ∃m,m<n/\I m s₃) (fun _ _=>False) s₂) (fun _ _=>False) s') (fun _ _=>False) s₁) (fun _ _=>False) s)
  (n:Nat) (h:I n s) :
  codeAny (model prog w) A (.compLoop (.ListComp elt [⟨target,iter,ifs,0⟩] scope pos) 0 it acc env) R s:=by
 refine codeAny_loop rfl I (fun n s hI=>?_) n h;show wpAny _ A ((compTurn (.ListComp elt [⟨target,iter,ifs,0⟩] scope pos) 0 it acc env).onRaise (fun x=>do noteFrame x env;theTreesLotGoes x)) _ _ s;refine wpAny_noted ?_;rw [compTurn_list];refine g0 (wpAny_standAt (g0 (t5 (turn n s hI) (fun r s₁ h₁=>?_) fun _ _ h'=>h'.elim)));cases r with
 | none=>exact g9 h₁
 | some v=>
  refine g0 (t5 h₁ (fun _ s' h'=>?_) fun _ _ h'=>h'.elim);refine g0 (t5 h' (fun _ s₂ h₂=>g0 (t5 h₂ (fun ok s₃ h₃=>?_) fun _ _ h'=>h'.elim)) fun _ _ h'=>h'.elim);cases ok with
  | false=>exact g9 ⟨rfl,h₃⟩
  | true=>
   exact g0 (g0 (t5 h₃ (fun x s₄ h₄=>g0 (t5 h₄ (fun _ s₅ h₅=>g9 (g9 ⟨rfl,h₅⟩)) fun _ _ h'=>h'.elim)) fun _ _ h'=>h'.elim))
end
def q8e(cap:List (Option Nat))(σ : St): St:=cap.map fun o=>o.bind fun j=>(σ[j]?).join
theorem lookup_mem{α β : Type}[BEq α][LawfulBEq α]{l:List (α × β)}{a : α}{b : β}(h:l.lookup a=some b): (a,b)∈l:=by
 induction l with
 | nil=>cases h
 | cons p r ih=>
  obtain⟨x,y⟩:=p;rw [tu] at h
  split at h
  ·rename_i q
   have q':a=x:=by simpa using q
   subst q';cases h;exact gm
  ·exact gq _ (ih h)
theorem q21{env:Env}: ∀ {names:List (Str×NameKind)} {x:Str} {k:NameKind},(names.map fun(n,k)=>if(k==NameKind.free&&env.scope.kind == .function&&env.kindOf n==some .cell) then(n,NameKind.cell) else(n,k)).lookup x=some k ->
  (names.lookup x=some k)\/(k=.cell/\names.lookup x=some .free)
 | [],_,_,h=>by cases h
 | (n,k0) :: r,x,k,h=>by
  have ih:=@q21 env r x k;have h':List.lookup x ((if(k0==NameKind.free&&env.scope.kind == .function&&env.kindOf n==some .cell)=true then(n,NameKind.cell) else(n,k0)) :: _)=some k:=h
  by_cases hc:(k0==NameKind.free&&env.scope.kind == .function&&env.kindOf n==some .cell)=true
  ·rw [mi hc,tu] at h'
   have hf:k0=.free:=by
    simp only [m6,g49] at hc;exact hc.1.1
   cases q:x==n with
   | true=>rw [q] at h';cases h';exact .inr ⟨rfl,by rw [tu,q,hf]⟩
   | false=>rw [q] at h';rw [tu,q];exact ih h'
  ·rw [mn hc,tu] at h'
   cases q:x==n with
   | true=>rw [q] at h';rw [tu,q];exact .inl h'
   | false=>rw [q] at h';rw [tu,q];exact ih h'
theorem q4j{env:Env}: ∀ {names:List (Str×NameKind)} {x:Str},names.lookup x=some .free ->
  (names.map fun(n,k)=>if(k==NameKind.free&&env.scope.kind == .function&&env.kindOf n==some .cell) then(n,NameKind.cell) else(n,k)).lookup x=some .cell \/
  (names.map fun(n,k)=>if(k==NameKind.free&&env.scope.kind == .function&&env.kindOf n==some .cell) then(n,NameKind.cell) else(n,k)).lookup x=some .free
 | [],_,h=>by cases h
 | (n,k0) :: r,x,h=>by
  have ih:=@q4j env r x;show List.lookup x ((if(k0==NameKind.free&&env.scope.kind == .function&&env.kindOf n==some .cell)=true then(n,NameKind.cell) else(n,k0)) :: _)=_\/List.lookup x ((if(k0==NameKind.free&&env.scope.kind == .function&&env.kindOf n==some .cell)=true then(n,NameKind.cell) else(n,k0)) :: _)=_;rw [tu] at h
  by_cases hc:(k0==NameKind.free&&env.scope.kind == .function&&env.kindOf n==some .cell)=true
  ·rw [mi hc,tu]
   cases q:x==n with
   | true=>exact .inl rfl
   | false=>rw [q] at h;exact ih h
  ·rw [mn hc,tu]
   cases q:x==n with
   | true=>rw [q] at h;exact .inr h
   | false=>rw [q] at h;exact ih h
section
variable{X:Cx}{pins:List (Addr×Obj)}{σ : St}{H:Hp}{s:Shared}{N':List Str}{scope:Scope}{cap:List (Option Nat)}{cl:List (Str×Addr)}{fp:List Addr}
end
def qqe(J:It)(cap:List (Option Nat))(g:TG)(tc:TT)(te:TE)(σ : St)(H1:Hp)(p:Addr)(K:Hp->Prop): Prop:=
 ∃ W:Nat->Nat->St->Hp->Prop,(∃m,W 0 m (q8e cap σ) (upd H1 p (.lst [])))/\∀i m σ' H',W i m σ' H' ->
  (J.stop i H'/\K H')\/(J.go i H'/\∀x H'',J.yld i H' x H''->g x σ' H'' fun σ2 H2=>tc σ2 H2 fun b H3=>
   if b=true then te σ2 H3 fun y H4=>∃xs,H4 p=some (.lst xs)/\xs.length<sizeLine/\∃m',m'<m/\W (i+1) m' σ2 (upd H4 p (.lst (xs++[y])))
   else ∃m',m'<m/\W (i+1) m' σ2 H3)
def qfj(wi:TI)(cap:List (Option Nat))(g:TG)(tc:TT)(te:TE): TE:=fun σ H Q=>wi σ H fun J H1=>∀p,H1 p=none->qqe J cap g tc te σ H1 p (Q (.ref p))
section
variable{X:Cx}{N':List Str}{scope:Scope}{cap:List (Option Nat)}{tg iter elt:Expr}{ifs:List Expr}{wi:TI}{g:TG}{tc:TT}{te:TE}{pos:Pos}
end
section
variable{X:Cx}{N':List Str}{scope:Scope}{cap:List (Option Nat)}{tg iter elt:Expr}{ifs:List Expr}{wi:TI}{g:TG}{tc:TT}{te:TE}{pos:Pos}
end
section
variable{M:Model}{A:Around}{E:Value->Shared->Prop}{s:Shared}
theorem q4k:∀(names:List (Str×NameKind)) (n:Nat) (acc:List (Str×Addr)),cellsFrom n names acc=cellsFrom n names []++acc
 | [],_,_=>rfl
 | (x,k) :: r,n,acc=>by
  unfold cellsFrom
  split
  ·rw [q4k r (n+1) ((x,n) :: acc),q4k r (n+1) [(x,n)],my];rfl
  ·exact q4k r n acc
theorem qaw:∀ {names:List (Str×NameKind)} {n:Nat} {acc:List (Str×Addr)} {x:Str} {c:Addr},(x,c)∈cellsFrom n names acc->(x,c)∈acc\/(x,NameKind.cell)∈names
 | [],_,_,_,_,h=>.inl h
 | (y,k) :: r,n,acc,x,c,h=>by
  unfold cellsFrom at h
  split at h
  ·rename_i hk
   have hk:k=.cell:=by simpa using hk
   subst hk;rcases qaw h with h|h
   ·rcases mh.mp h with e|h
    ·cases e;exact .inr gm
    ·exact .inl h
   ·exact .inr (gq _ h)
  ·rcases qaw h with h|h
   ·exact .inl h
   ·exact .inr (gq _ h)
theorem qke{l:List (Str×Addr)}{x:Str}{c:Addr}(h:(x,c)∈l): ∃d,l.lookup x=some d:=by
 induction l with
 | nil=>cases h
 | cons p r ih=>
  obtain⟨y,d⟩:=p;rw [tu];cases q:x==y with
  | true=>exact⟨d,rfl⟩
  | false=>
   rcases mh.mp h with e|h
   ·cases e;simp at q
   ·exact ih h
theorem qax:∀ {names:List (Str×NameKind)} {n:Nat} {acc:List (Str×Addr)} {x:Str},(x,NameKind.cell)∈names->∃c,(x,c)∈cellsFrom n names acc
 | [],_,_,_,h=>by cases h
 | (y,k) :: r,n,acc,x,h=>by
  unfold cellsFrom;rcases mh.mp h with e|h
  ·cases e
   rw [mi (show(NameKind.cell==NameKind.cell)=true from rfl),q4k];exact⟨n,nk _ gm⟩
  ·split
   ·exact qax h
   ·exact qax h
theorem qhq{scope:Scope}{globals:Addr}{cl:List (Str×Addr)}{qual:Str}{outer:Env}{Q:Env->Shared->Prop}
  (hQ:Q {scope,locals:=s.heap.objs.size,globals,cells:=cellsFrom (s.heap.objs.size+1) scope.names []++cl,qual,func:=none,code:=outer.code,frame:=outer.frame,builtins:=outer.builtins} {s with heap:=pushCells (s.heap.push {cls:=.type "dict",data:=.dict #[]}) scope.names}) :
  wpAny M A (newFunctionEnv scope globals cl [] qual none .none (some outer)) Q E s:=by
 simp only [newFunctionEnv,Option.isSome_some,nu];refine g0 (wpAny_alloc ?_);refine g0 (wpAny_layCells _ (fun name kind cells=>by cases hkc:kind==NameKind.cell <;> simp [hkc]) _ _ _ _ ?_);rw [show({s with heap:=s.heap.push {cls:=.type "dict",data:=.dict #[]} }:Shared).heap.objs.size=s.heap.objs.size+1 from pf ..,q4k];rw [g3i];exact g0 (g9 (g9 hQ))
end
abbrev j4(X:Cx)(N':List Str)(scope:Scope)(cl:List (Str×Addr))(C:Addr)(s₀:Shared)(H₀:Hp)(fp:List Addr): Cx:=
 {X with N:=N',env:=compEnvC scope cl C X.env,s₀:=s₀,H₀:=H₀,outer:=X.stack,ex:=fp,fn:=fun x=>scope.names.lookup x==some .cell,pn:=[],xe:=fun _ _=>False}
structure CapOkC(X:Cx)(N':List Str)(scope:Scope)(cap:List (Option Nat)): Prop where
 kind:scope.kind=.function
 cells:∀y∈scope.names,y.2=.cell->scope.names.lookup y.1=some .cell
 names:∀y∈scope.names,y.2=.local->scope.names.lookup y.1=some .local
 frees:∀y∈scope.names,y.2=.free->X.env.kindOf y.1=some .cell\/X.env.kindOf y.1=some .free
 len:cap.length=N'.length
 cap:∀(i j:Nat),cap[i]? = some (some j)->∃x,N'[i]? = some x/\X.N[j]? = some x/\scope.names.lookup x=some .free
section
variable{X:Cx}{pins:List (Addr×Obj)}{σ : St}{H:Hp}{s:Shared}{N':List Str}{scope:Scope}{cap:List (Option Nat)}{cl:List (Str×Addr)}{fp:List Addr}
theorem qhr(I:Inv X pins σ H s)(co:CapOkC X N' scope cap)(h1:∀x c,cl.lookup x=some c->X.env.cells.lookup x=some c)(h2:∀y∈scope.names,y.2=.free->∃c,cl.lookup y.1=some c)
  (hf:∀b∈fp,wb X pins H b) (ho:∀b∈fp,∃o,s.heap.get? b=some o) {t':Nat} :
  Inv (j4 X N' scope (cellsFrom (s.heap.objs.size+1) scope.names []++cl) s.heap.objs.size s H fp) [] (q8e cap σ) H {s with heap:=pushCells (s.heap.push {cls:=.type "dict",data:=.dict #[]}) scope.names,toks:=t'}:=by
 have flt:∀b∈fp,b<s.heap.objs.size:=fun b hb=>let⟨o,e⟩:=ho b hb;gv e
 have okc:=cellsFrom_ok scope.names (s.heap.push {cls:=.type "dict",data:=.dict #[]}) (s.heap.objs.size+1) [] ⟨fun _ _ hm=>(nomatch hm),List.Pairwise.nil⟩ (by rw [pf];exact gw _);rw [pf] at okc;have hk:∀b o,s.heap.get? b=some o->(pushCells (s.heap.push {cls:=.type "dict",data:=.dict #[]}) scope.names).get? b=some o:=fun b o e=>g5z _ _ b o (gc _ e);have hn:(pushCells (s.heap.push {cls:=.type "dict",data:=.dict #[]}) scope.names).Ns s.heap.objs.size (fun _=>none):=(Heap.Ns.new s.heap (.type "dict")).keeps (g5z _ _);generalize hnw:cellsFrom (s.heap.objs.size+1) scope.names []=nw at okc;have newc:∀ {x c},nw.lookup x=some c->(x,NameKind.cell)∈scope.names/\s.heap.objs.size+1<=c:=fun {x c} e=>by
  have m:=g52 e;have m2:=m;rw [<- hnw] at m2;rcases qaw m2 with z|z
  ·cases z
  ·exact⟨z,(okc.empty x c m).2⟩
 have hasN:∀ {x},(x,NameKind.cell)∈scope.names->∃c,nw.lookup x=some c:=fun {x} e=>by
  obtain⟨c,hc⟩:=qax (n:=s.heap.objs.size+1) (acc:=[]) e;rw [hnw] at hc;exact qke hc
 have old:∀ {x c},cl.lookup x=some c->c<s.heap.objs.size:=fun {x c} e=>let⟨v,q⟩:=I.cell x c (h1 x c e);q.lt
 have cases2:∀ {x c},(nw++cl).lookup x=some c->nw.lookup x=some c\/(nw.lookup x=none/\cl.lookup x=some c):=fun {x c} e=>by
  rw [g4v] at e;cases q:nw.lookup x with
  | some d=>rw [q] at e;exact .inl e
  | none=>rw [q] at e;exact .inr ⟨rfl,e⟩
 refine⟨⟨I.ok.mod,co.kind,I.ok.glob,I.ok.blt,gw _,fun x y c e1 e2=>?_,fun x hx=>?_,fun x c z e=>?_,I.ok.hd,I.ok.frames,.inl rfl,fun b hb=>?_,I.bs,mq I.ok.bsz I.sz,fun b o e hb=>?_,fun b hb z=>?_,I.stack,I.stkFree⟩,
  rfl,I.bare,Un.kept hk,⟨_,hn,fun i x v e1 e2 e3=>?_⟩,fun x c e=>?_,I.hok.fresh (gw _),fun x c e=>?_,fun p hp=>(nomatch hp),I.hok.kept hk,?_⟩
 ·rcases cases2 e1 with a|⟨_,a⟩ <;> rcases cases2 e2 with b|⟨_,b⟩
  ·exact name_of_addr okc.apart (g52 a) (g52 b)
  ·exact absurd (gu (old b) (g1f (newc a).2)) (g0s _)
  ·exact absurd (gu (old a) (g1f (newc b).2)) (g0s _)
  ·exact I.ok.inj x y c (h1 x c a) (h1 y c b)
 ·have hx':(relabel scope X.env).names.lookup x=some .cell\/(relabel scope X.env).names.lookup x=some .free:=hx
  have key:(scope.names.lookup x=some .cell)\/(scope.names.lookup x=some .free):=by
   rcases hx' with q|q
   ·rcases q21 q with z|⟨_,z⟩
    ·exact .inl z
    ·exact .inr z
   ·rcases q21 q with z|⟨z,_⟩
    ·exact .inr z
    ·cases z
  show ∃c,(nw++cl).lookup x=some c;rw [g4v];rcases key with z|z
  ·obtain⟨c,hc⟩:=hasN (lookup_mem z)
   exact⟨c,by rw [hc];rfl⟩
  ·obtain⟨c,hc⟩:=h2 (x,.free) (lookup_mem z) rfl
   cases q:nw.lookup x with
   | some d=>exact⟨d,rfl⟩
   | none=>exact⟨c,hc⟩
 ·have z':scope.names.lookup x=some .cell:=by simpa using z
  obtain⟨d,hd⟩:=hasN (lookup_mem z');rcases cases2 e with a|⟨a,_⟩
  ·exact g1f (newc a).2
  ·rw [hd] at a;cases a
 ·obtain⟨f0,f1,f2,f3,f4,f5⟩:=hf b hb
  refine⟨gz (flt b hb),fun x c e=>?_⟩;rcases cases2 e with a|⟨_,a⟩
  ·exact tq (gu (flt b hb) (g1f (newc a).2))
  ·exact f4 x c (h1 x c a)
 ·obtain⟨f0,f1,f2,f3,f4,f5⟩:=hf b hb
  rcases f3 with z|z
  ·exact I.ok.noex b o e z
  ·exact absurd (gu (gv e) (mq I.ok.bsz z)) (g0s _)
 ·obtain⟨f0,f1,f2,f3,f4,f5⟩:=hf b hb
  rcases mh.mp (I.stkSub b z) with q|q
  ·exact f1 q
  ·exact f2 q
 ·have e2':(cap.map fun o=>o.bind fun j=>(σ[j]?).join)[i]? = some (some v):=e2
  rw [mv] at e2';cases q:cap[i]? with
  | none=>rw [q] at e2';cases e2'
  | some o=>
   rw [q] at e2';cases o with
   | none=>cases e2'
   | some j=>
    obtain⟨y,a1,a2,a3⟩:=co.cap i j q;have e1':N'[i]? = some x:=e1;rw [a1] at e1';obtain rfl:y=x:=md e1';have ej:(σ[j]?).join=some v:=by
     have:=e2';simp only [p9,m9,g3r] at this;exact this
    have ej' : σ[j]? = some (some v):=by
     cases z : σ[j]? with
     | none=>rw [z] at ej;cases ej
     | some u=>rw [z] at ej;simp only [g42] at ej;rw [ej]
    have kd:=co.frees (y,.free) (lookup_mem a3) rfl;obtain⟨m0,hn0,hl0⟩:=I.loc;have vis:Vis X.env.scope y:=by
     rcases kd with k|k
     ·exact .inr (.inl k)
     ·exact .inr (.inr k)
    obtain⟨u,ru,lk⟩:=hl0 j y v a2 ej' vis;refine⟨u,ru,.inr ⟨q4j a3,?_⟩⟩;obtain⟨c,hc⟩:=h2 (y,.free) (lookup_mem a3) rfl;have nn:nw.lookup y=none:=by
     cases q:nw.lookup y with
     | none=>rfl
     | some d=>
      have:=co.cells (y,.cell) (newc q).1 rfl;rw [a3] at this;cases this
    rcases lk with⟨k,_⟩|⟨_,c',hc',z⟩
    ·rcases kd with k'|k'
     ·rw [k] at k';cases k'
     ·rw [k] at k';cases k'
    ·have:=h1 _ _ hc
     rw [hc'] at this;obtain rfl:c'=c:=md this;obtain⟨o,eo,ed⟩:=z;exact⟨c',by show(nw++cl).lookup y=_;rw [g4v,nn];exact hc,o,hk _ _ eo,ed⟩
 ·rcases cases2 e with a|⟨_,a⟩
  ·exact⟨none,(okc.empty x c (g52 a)).1⟩
  ·obtain⟨v,o,eo,ed⟩:=I.cell x c (h1 x c a)
   exact⟨v,o,hk _ _ eo,ed⟩
 ·rcases cases2 e with a|⟨_,a⟩
  ·exact I.hok.fresh (g1f (newc a).2)
  ·exact I.freeC x c (h1 x c a)
 ·show(cap.map _).length=N'.length
  rw [mj];exact co.len
theorem qdb{N':List Str}{C:Addr}{H':Hp}{s':Shared}{σ':St}{h':Heap}(I:Inv X pins σ H s)(hf:∀b∈fp,wb X pins H b)(J:Inv (j4 X N' scope cl C s H fp) [] σ' H' s')(hs:Heap.SameBut C s'.heap h'):
  Inv X pins σ H' {s' with heap:=h'}:=by
 have hC:s.heap.objs.size<=C:=J.ok.above;have kp:∀b o,b≠C->s'.heap.get? b=some o->h'.get? b=some o:=fun b o hb e=>(hs.2 b hb).trans e;have hC0:H' C=none:=J.free;have un:Un (frs X.stack) fp H H' s.heap h':=by
  have u:Un (frs X.stack) fp H H' s.heap s'.heap:=J.base;have neC:∀b o,s.heap.get? b=some o->b≠C:=fun b o e=>gz (gu (gv e) hC);exact⟨fun b o e n h1 h2=>kp b o (neC b o e) (u.keep b o e n h1 h2),fun b o e n h1 h2=>let⟨sl,q⟩:=u.slot b o e n h1 h2; ⟨sl,kp b _ (neC b o e) q⟩,u.free,fun b o e h=>let⟨o',q⟩:=u.there b o e h; ⟨o',kp b o' (neC b o e) q⟩,u.tups,u.frzs,u.tbls⟩
 have hok:HOk X.prog X.w H' h':=fun b u e=>by
  refine(J.hok b u e).stay (fun c v hc q=>kp c v ?_ q) (fun _ q=>q) fun _ _ q=>q;rcases hc with z|z
  ·rw [z];intro z2;rw [z2,hC0] at e;cases e
  ·intro z2;rw [z2,hC0] at z;cases z
 exact I.call' (s':={s' with heap:=h'}) (ch:=fp) J.os un hok J.bare fun b hb=>by
  obtain⟨f0,f1,f2,f3,f4,f5⟩:=hf b hb;exact⟨f3,f1,f4,f5⟩
end
section
variable{X:Cx}{N':List Str}{scope:Scope}{cap:List (Option Nat)}{tg iter elt:Expr}{ifs:List Expr}{wi:TI}{g:TG}{tc:TT}{te:TE}{pos:Pos}
theorem q7d{cl:List (Str×Addr)}{pins:List (Addr×Obj)}{s:Shared}{σ : St}{H:Hp}{it:Addr}{fp:List Addr}{tn:Nat->Heap->Prop}{J:It}{E:Value->Shared->Prop}{K:Addr->Hp->Prop}
  {RR:Value->Addr->Result->Shared->Prop} (hc:X.calm=true) (co:CapOkC X N' scope cap)
  (h1:∀x c,cl.lookup x=some c->X.env.cells.lookup x=some c) (h2:∀y∈scope.names,y.2=.free->∃c,cl.lookup y.1=some c)
  (hg:∀cl C s₀ H₀ fp,PG (j4 X N' scope cl C s₀ H₀ fp) tg g) (hcs:∀cl C s₀ H₀ fp,q1c (j4 X N' scope cl C s₀ H₀ fp) ifs tc) (he:∀cl C s₀ H₀ fp,PE (j4 X N' scope cl C s₀ H₀ fp) elt te)
  (I:Inv X pins σ H s) (T:Turn X.prog X.w X.K tg J fp it tn) (st:tn 0 s.heap) (hf:∀b∈fp,wb X pins H b) (h:∀p,H p=none->qqe J cap g tc te σ H p (K p))
  (hRR:∀(D C:Addr) (s':Shared) (H':Hp),s.heap.objs.size<=C->(∃m,s'.heap.Ns C m)->(∀h',Heap.SameBut C s'.heap h'->Inv X pins σ H' {s' with heap:=h'})->H' C=none->K D H'->RR (.ref D) C (.ok .next) s') :
  wpAny (model X.prog X.w) X.A (newList []) (fun acc s₃=>wpAny (model X.prog X.w) X.A (newFunctionEnv scope X.env.globals cl [] X.env.qual none .none (some X.env)) (fun cenv s₄=>
   codeAny (model X.prog X.w) X.A (.compStart (.ListComp elt [⟨tg,iter,ifs,0⟩] scope pos) 0 (.ref it) acc {cenv with scope:=relabel scope X.env}) (RR acc cenv.locals) s₄) E s₃) E s:=by
 refine pj (qhq ?_);have hD:H s.heap.objs.size=none:=I.fresh;have I3:Inv X pins σ (upd H s.heap.objs.size (.lst [])) {s with heap:=s.heap.push {cls:=.type "list",dict:=none,data:=.seq ([]:List Value).toArray} }:=I.lnew (ys:=[]) (its:=[]) (t':=s.toks) .nil (ug _);obtain⟨W,⟨m0,w0⟩,turn⟩:=h s.heap.objs.size hD;have fobj:∀b∈fp,∃o,s.heap.get? b=some o:=fun b hb=>let⟨o,e,_⟩:=T.obj 0 _ st b hb; ⟨o,e⟩
 generalize e3:({s with heap:=s.heap.push {cls:=.type "list",dict:=none,data:=.seq ([]:List Value).toArray} }:Shared)=s3 at I3;have es3:s3.heap=s.heap.push {cls:=.type "list",dict:=none,data:=.seq ([]:List Value).toArray}:=by rw [<- e3]
 have eC:(s.heap.push {cls:=.type "list",dict:=none,data:=.seq ([]:List Value).toArray}).objs.size=s3.heap.objs.size:=by rw [es3]
 have hf3:∀b∈fp,wb X pins (upd H s.heap.objs.size (.lst [])) b:=fun b hb=>by
  obtain⟨f0,f1⟩:=hf b hb;obtain⟨o,e⟩:=fobj b hb;exact⟨by rw [qk (gz (gv e))];exact f0,f1⟩
 generalize ehh:pushCells (s3.heap.push {cls:=.type "dict",data:=.dict #[]}) scope.names=hh;have ehh3:hh=pushCells (s3.heap.push {cls:=.type "dict",data:=.dict #[]}) scope.names:=ehh.symm;have kp:∀b o,s3.heap.get? b=some o->hh.get? b=some o:=fun b o e=>by rw [ehh3];exact g5z _ _ b o (gc _ e)
 have hle:s.heap.objs.size<=s3.heap.objs.size:=by rw [es3,pf];exact g17 _
 have s3e:∀t:Nat,({s with heap:=hh,toks:=t}:Shared) = {s3 with heap:=hh,toks:=t}:=fun t=>by rw [<- e3]
 have I4:Inv (j4 X N' scope (cellsFrom (s3.heap.objs.size+1) scope.names []++cl) s3.heap.objs.size s3 (upd H s.heap.objs.size (.lst [])) fp) [] (q8e cap σ) (upd H s.heap.objs.size (.lst [])) {s3 with heap:=hh,toks:=s.toks}:=by
  rw [ehh3];exact qhr I3 co h1 h2 hf3 (fun b hb=>let⟨o,e⟩:=fobj b hb; ⟨o,by rw [es3];exact gc _ e⟩)
 have st4:tn 0 hh:=T.keep 0 _ _ st fun b hb o e=>kp b o (by rw [es3];exact gc _ e);have etk:s3.toks=s.toks:=by rw [<- e3]
 show codeAny (model X.prog X.w) X.A (.compStart (.ListComp elt [⟨tg,iter,ifs,0⟩] scope pos) 0 (.ref it) (.ref s.heap.objs.size) (compEnvC scope (cellsFrom (s3.heap.objs.size+1) scope.names []++cl) s3.heap.objs.size X.env)) (RR (.ref s.heap.objs.size) s3.heap.objs.size)
  {s3 with heap:=hh,toks:=s3.toks}
 rw [etk];generalize eX:j4 X N' scope (cellsFrom (s3.heap.objs.size+1) scope.names []++cl) s3.heap.objs.size s3 (upd H s.heap.objs.size (.lst [])) fp=X' at I4;have hg':PG X' tg g:=by rw [<- eX];exact hg _ _ _ _ _
 have hcs':q1c X' ifs tc:=by rw [<- eX];exact hcs _ _ _ _ _
 have he':PE X' elt te:=by rw [<- eX];exact he _ _ _ _ _
 have eenv:X'.env=compEnvC scope (cellsFrom (s3.heap.objs.size+1) scope.names []++cl) s3.heap.objs.size X.env:=by rw [<- eX]
 have exe:X'.xe=fun _ _=>False:=by rw [<- eX]
 have eex:X'.ex=fp:=by rw [<- eX]
 have eprog:X'.prog=X.prog:=by rw [<- eX]
 have ew:X'.w=X.w:=by rw [<- eX]
 have eK:X'.K=X.K:=by rw [<- eX]
 have eA:X'.A=X.A:=by rw [<- eX]
 have ecalm:X'.calm=true:=by rw [<- eX];exact hc
 have epn:X'.pn=[]:=by rw [<- eX]
 have eloc:X'.env.locals=s3.heap.objs.size:=by rw [eenv];rfl
 have ok':=I4.ok;have stat:∀ {H':Hp},(∀b∈fp,H' b=none)->∀b∈fp,wb X' [] H' b:=fun hn b hb=>by
  have hbx:b∈X'.ex:=by rw [eex];exact hb
  exact⟨hn b hb,(ok'.exf b hbx).1,ok'.exfs b hbx,.inl hbx,(ok'.exf b hbx).2,fun p hp=>by rw [epn] at hp;cases hp⟩
 have back:∀ {σ':St} {H':Hp} {s':Shared},Inv X' [] σ' H' s'->K s.heap.objs.size H'->RR (.ref s.heap.objs.size) s3.heap.objs.size (.ok .next) s':=fun {σ' H' s'} J' k=>by
  refine hRR _ _ _ H' hle ?_ (fun h' hs'=>?_) ?_ k
  ·obtain⟨m,hm,_⟩:=J'.loc
   exact⟨m,by rw [<- eloc];exact hm⟩
  ·rw [<- eX] at J'
   exact qdb I3 hf3 J' hs'
  ·rw [<- eloc];exact J'.free
 have loop:codeAny (model X.prog X.w) X.A (.compLoop (.ListComp elt [⟨tg,iter,ifs,0⟩] scope pos) 0 (.ref it) (.ref s.heap.objs.size) (compEnvC scope (cellsFrom (s3.heap.objs.size+1) scope.names []++cl) s3.heap.objs.size X.env)) (RR (.ref s.heap.objs.size) s3.heap.objs.size)
   {s3 with heap:=hh,toks:=s.toks}:=by
  refine qda (fun n s'=>∃i σ' H',Inv X' [] σ' H' s'/\tn i s'.heap/\(∀b∈fp,H' b=none)/\W i n σ' H') ?_ m0 ⟨0,_,_,I4,st4,fun b hb=>(hf3 b hb).1,w0⟩
  rintro n s5 ⟨i, σ5,H5,I5,st5,fr5,w5⟩
  rw [<- eenv];rcases turn i n σ5 H5 w5 with⟨stop,qn⟩|⟨go,step⟩
  ·have:=T.done X' eprog ew eK ecalm i [] s5 σ5 H5 (fun _ _=>False) I5 (stat fr5) st5 stop
   rw [eA] at this;refine thn this fun r s6 ⟨hr,I6⟩=>?_;subst hr;exact back I6 qn
  ·have:=T.item X' eprog ew eK ecalm i [] s5 σ5 H5 (fun _ _=>False) I5 (stat fr5) st5 go
   rw [eA] at this;refine thn this fun r s6 ⟨u,hr,h6⟩=>?_;subst hr;refine thn h6 fun _ s7 ⟨x,H7,I7,r7,y7,st7,fr7⟩=>?_;have I7':=I7.pinned (stat fr7) (T.obj _ _ st7);have hg2:=hg' _ s7 σ5 H7 x u _ I7' r7 (step x H7 y7);rw [exe,eprog,ew,eA] at hg2;refine thn hg2 fun _ s8 ⟨σ8,H8,I8,q8⟩=>?_;have hc2:=hcs' _ s8 σ8 H8 _ I8 q8;rw [exe,eprog,ew,eA] at hc2;refine thn hc2 fun ok s9 ⟨H9,I9,q9⟩=>?_;have again:∀ {H':Hp} {s':Shared} {m':Nat},Inv X' ([]++q38 fp s7.heap) σ8 H' s'->m'<n->W (i+1) m' σ8 H'->∃m,m<n/\∃i σ' H',Inv X' [] σ' H' s'/\tn i s'.heap/\(∀b∈fp,H' b=none)/\W i m σ' H':=fun {H' s' m'} J' hm w'=>by
    refine⟨m',hm,i+1, σ8,H',J'.unpinned,T.keep _ _ _ st7 fun b hb o e=>(J'.pin (b,o) (nk _ (nk _ (q1l hb e)))).1,fun b hb=>?_,w'⟩;obtain⟨o,e,d⟩:=T.obj _ _ st7 b hb;exact(J'.pin (b,o) (nk _ (nk _ (q1l hb e)))).2.1
   cases ok with
   | false=>
    rw [mn mf] at q9 ⊢;obtain⟨m',hm,w'⟩:=q9;exact again I9 hm w'
   | true=>
    rw [mi rfl] at q9 ⊢;have he2:=he' _ s9 σ8 H9 _ I9 q9;rw [exe,eprog,ew,eA] at he2;refine thn he2 fun y s10 ⟨yv,H10,I10,r10,xs,hp,hz,m',hm,w'⟩=>?_;have ha2:=q9b (X:=X') ([]++q38 fp s7.heap) s10 σ8 H10 (.ref s.heap.objs.size) [yv] (.ref s.heap.objs.size) [y] (fun _ H'=>H'=upd H10 s.heap.objs.size (.lst (xs++[yv]))) I10 rfl (.cons r10 .nil) ⟨_,xs,yv,rfl,rfl,hp,hz,rfl⟩;rw [exe,eprog,ew,eA] at ha2;refine thn ha2 fun _ s11 ⟨_,H11,I11,_,e11⟩=>?_;subst e11;exact again I11 hm w'
 exact codeAny_compStart_list loop (T.self _ 0 _ _ _ st4 loop)
theorem qkf(hc:X.calm=true)(co:CapOkC X N' scope cap)(hi:PI X tg iter wi)
  (hg:∀cl C s₀ H₀ fp,PG (j4 X N' scope cl C s₀ H₀ fp) tg g) (hcs:∀cl C s₀ H₀ fp,q1c (j4 X N' scope cl C s₀ H₀ fp) ifs tc) (he:∀cl C s₀ H₀ fp,PE (j4 X N' scope cl C s₀ H₀ fp) elt te)
  (hs:∀x,foldedSetIterable iter X.env x=pure x:=by intro _;rfl):PE X (.ListComp elt [⟨tg,iter,ifs,0⟩] scope pos) (qfj wi cap g tc te):=by
 intro pins s σ H Q I h;obtain⟨cl,ecl,c1,c2⟩:=q7c (scope:=scope) (env:=X.env) fun y hy hf=>I.ok.has y.1 (co.frees y hy hf);rw [eval_ListComp];refine wpAny_comprehension_free (use:=none) rfl hs ecl co.kind co.names (t5 (hi pins s σ H _ I h) (fun v s1 h1=>t5 h1 (fun itv s2 h2=>?_) fun _ _ e=>e) fun _ _ e=>e);obtain⟨it,fp,tn,J,H2,rfl,I2,T,st2,f2,h2⟩:=h2;refine q7d (K:=fun p=>Q (.ref p)) (RR:=fun acc C=>compPost (model X.prog X.w) X.A X.xe none (EP X pins σ Q) acc C) hc co c1 c2 hg hcs he I2 T st2 f2 h2 ?_;intro D C s' H' hle ⟨m,hm⟩ hI hC q;exact⟨m,hm,fun h' hs'=>⟨.ref D,H',hI h' hs',rfl,q⟩⟩
end
section
variable{X:Cx}{N':List Str}{scope:Scope}{cap:List (Option Nat)}{tg iter elt:Expr}{ifs:List Expr}{wi:TI}{g:TG}{tc:TT}{te:TE}{pos:Pos}
theorem qdc{i:Nat}{x:Str}{px pe:Pos}(hc:X.calm=true)(hN:X.N.Nodup)(hx0:X.N[i]? = some x)(hx:X.env.scope.names.lookup x=some .local)(co:CapOkC X N' scope cap)(hi:PI X tg iter wi)
  (hg:∀cl C s₀ H₀ fp,PG (j4 X N' scope cl C s₀ H₀ fp) tg g) (hcs:∀cl C s₀ H₀ fp,q1c (j4 X N' scope cl C s₀ H₀ fp) ifs tc) (he:∀cl C s₀ H₀ fp,PE (j4 X N' scope cl C s₀ H₀ fp) elt te)
  (hsw:swapsWith (.ListComp elt [⟨tg,iter,ifs,0⟩] scope pe) (some (.Name x px)) pos.line X.env=pure true:=by rfl)
  (hs:∀x,foldedSetIterable iter X.env x=pure x:=by intro _;rfl):PS X (.Assign [.Name x px] (.ListComp elt [⟨tg,iter,ifs,0⟩] scope pe) pos) (qaq (qfj wi cap g tc te) (q2n i)):=by
 intro pins s σ H D I h;obtain⟨cl,ecl,c1,c2⟩:=q7c (scope:=scope) (env:=X.env) fun y hy hf=>I.ok.has y.1 (co.frees y hy hf);rw [exec_Assign_Name_used _ _ _ _ hsw];refine g0 (wpAny_standAt (g0 ?_));show wpAny _ X.A (do let _ <- comprehension (.ListComp elt [⟨tg,iter,ifs,0⟩] scope pe) scope X.env _ (newList []) false (eval iter X.env) (some (assign (.Name x px) X.env))) _ _ s;refine g0 (t5 (wpAny_comprehension_free (use:=some (assign (.Name x px) X.env)) (Q:=fun _ s'=>SP X pins D .next s') rfl hs ecl co.kind co.names
  (t5 (hi pins s σ H _ I h) (fun v s1 h1=>t5 h1 (fun itv s2 h2=>?_) fun _ _ e=>e) fun _ _ e=>e)) (fun _ s' hq=>g9 (g9 hq)) fun _ _ e=>e)
 obtain⟨it,fp,tn,J,H2,rfl,I2,T,st2,f2,h2⟩:=h2;refine q7d (K:=fun p H'=>q2n i (.ref p) σ H' D.nx) (RR:=fun acc C=>compPost (model X.prog X.w) X.A X.xe (some (assign (.Name x px) X.env)) (fun _ s'=>SP X pins D .next s') acc C) hc co c1 c2 hg hcs he I2 T st2 f2 h2 ?_;intro Da C s' H' hle ⟨m,hm⟩ hI hC q;have I':Inv X pins σ H' s':=hI s'.heap (g2i ..);obtain⟨o,es,ep,ho,hd,hk⟩:=id hm;have hCL:C≠X.env.locals:=tq (gu I2.lt hle);have hCf:C∉X.fs:=I2.nofs hle;have I'':Inv X (pins++[(C,o)]) σ H' s':=I'.pins_of fun p hp=>(ny.mp hp).elim (fun z=>I'.pin p (nk _ z)) fun z=>by
  obtain rfl:p=(C,o):=by simpa using z
  exact⟨ho,hC,hCL,hCf,fun v z=>by rw [hd] at z;cases z⟩
 show wpAny (model X.prog X.w) X.A (assign (.Name x px) X.env (.ref Da)) _ _ _;refine wpAny_assign_Name (q69 I'' hN hx0 (.inl hx) (v:=.ref Da) rfl (fun s'' J=>?_) (.inr hx));have hC2:s''.heap.get? C=some o:=(J.pin (C,o) (nk _ (nk _ gm))).1;refine⟨m,⟨o,es,ep,hC2,hd,hk⟩,fun h' hs'=>?_⟩;have J2:Inv X pins (σ.set i (some (.ref Da))) H' {s'' with heap:=h'}:=J.unpinned.turned (t':=s''.toks) (it:=C) (fun b ob hb e=>(hs'.2 b hb).trans e) hC hCL
  (.inr (mq I2.sz hle)) (fun y c e z=>by
   obtain⟨v,q2⟩:=I2.cell y c e;exact absurd (gu q2.lt (by rw [z];exact hle)) (g0s _)) fun p hp z=>by
   exact absurd (gu (gv (I2.pin p hp).1) (by rw [z];exact hle)) (g0s _)
 exact⟨_,H',J2,q⟩
end
end L2
namespace DL
open PySem PySem.Spec PyProof.Rows L2
structure ExcC(K:PySem.W.Frag)(D:Addr): Prop where
 ga:PySem.W.findIn K (.ref D) "__getattribute__" = some (some (.builtin "BaseException.__getattribute__"))
 gk:PySem.W.findIn K (.ref D) "__getattr__" = some none
 cc:PySem.W.findIn K (.ref D) "__class__" = some (some (.builtin "object.__class__"))
 cs:PySem.W.specialIn K (.builtin "object.__class__") "__get__" = some (some (.builtin "getset_descriptor.__get__"))
 ct:PySem.W.takesIn K (.builtin "object.__class__")=some true
 cm:PySem.W.mroIn K D (.type "object")=some true
 cb:PySem.W.mroIn K D (.type "BaseException")=some true
section
variable{prog:Program}{w:World}{A:Around}{E:Value->Shared->Prop}{K:PySem.W.Frag}{s:Shared}{x D:Addr}{ox:Obj}
open PySem.W in
theorem qeg(c:ExcC K D): (clsIn K D).isSome=true:=by
 have:=c.cm;unfold mroIn at this;cases q:clsIn K D with
 | none=>rw [q] at this;cases this
 | some cd=>rfl
def XE(a C:Addr)(h:Heap): Prop:=∃o vs,h.get? a=some o/\o.cls=.ref C/\o.data=.fields vs
open PySem.W in
theorem q3a{M:Model}{a C:Addr}{h:Heap}(e:XE a C h): Looks M h (typeOf (.ref a)) (.ref C):=by
 obtain⟨o,vs,e1,e2,e3⟩:=e;exact e2 ▸ (Looks.ld e1).andThen .now
open PySem.W Builtin.ObjectAttr in
theorem qnm{M:Model}{h:Heap}(c:ExcC K D)(X:K.In h): Looks M h (find (.ref x) (.ref D) "__class__") (.bind (.builtin "getset_descriptor.__get__") (.builtin "object.__class__")):=by
 refine(looks_findIn (M:=M) X c.cc).andThen ((looks_specialIn (M:=M) X c.cs).andThen ?_);exact(show Looks M h (dataDescriptor? (some (.builtin "object.__class__")) (some (.builtin "getset_descriptor.__get__"))) (some (.builtin "getset_descriptor.__get__",.builtin "object.__class__")) from(looks_takesIn (M:=M) X c.ct).andThen .now).andThen (Looks.tag .now)
open PySem.W Builtin Builtin.ObjectAttr Builtin.Getset_descriptor in
theorem qqf{tp:Value}{R:Result->Shared->Prop}(c:ExcC K D)(X:K.In s.heap)(I:XE x D s.heap)(h:R (.ok (.ret (.ref D))) s):
  codeAny (model prog w) A (.call (.builtin "getset_descriptor.__get__") ⟨[.builtin "object.__class__",.ref x,tp],[]⟩) R s:=by
 obtain⟨hh,g,dr,t,os⟩:=s;have L0:=q3a (M:=model prog w) I;have L1:=looks_mroIn (M:=model prog w) X c.cm;refine g1y KF.slot_gs.plain KF.entry_gs (KF.slot_gs.check _ _ _ _ _ _ _ _ KF.type_class (KF.args_gs _ _ _) ?_);unfold Builtin.«getset_descriptor.__get__» descrGet;rw [dga_obj];refine g0 (g9 ?_);unfold descrGetter descrCheckInstance descrNameAndClass isInstance;simp only [KF.owner_class]
 repeat lk
 refine⟨Code.quiet_builtin _ (by decide +kernel),t9 KF.entry_class ?_⟩;unfold Builtin.«object.__class__» shownTypeOf
 repeat lk
 exact h
open PySem.W in
theorem qkg{tk:Tok}{Q:Fin->Shared->Prop}(c:ExcC K D)(X:K.In s.heap)(I:XE x D s.heap)(hq:Q (.done (.ret (.ref D))) s):
  wpAny (model prog w) A (Builtin.«object.__getattribute__» ⟨[.ref x,.str "__class__" tk],[]⟩) Q E s:=by
 obtain⟨hh,g,dr,t,os⟩:=s;have L0:=q3a (M:=model prog w) I;have L1:=qnm (x:=x) (M:=model prog w) c X;unfold Builtin.«object.__getattribute__»;refine g0 (g9 (g0 (g9 (g0 (L0.at (g0 (L1.at ?_)))))));show wpAny _ _ (Builtin.ObjectAttr.bindTo _ _ _ _) _ _ _;unfold Builtin.ObjectAttr.bindTo;refine g0 (nh (g3h (qqf c X I ?_)));exact g9 hq
open PySem.W in
theorem qkh{M:Model}{nameV:Value}{Q:Unit->Shared->Prop}(c:ExcC K D)(X:K.In s.heap)(I:XE x D s.heap)(hq:Q () s): wpAny M A (checkBuiltinCall "BaseException.__getattribute__" ⟨[.ref x,nameV],[]⟩) Q E s:=by
 obtain⟨hh,g,dr,t,os⟩:=s;have L0:=q3a (M:=M) I;have L1:=looks_mroIn (M:=M) X c.cb;have hk:builtinKind "BaseException.__getattribute__" = some .slot:=by decide +kernel
 have hsplit:splitId "BaseException.__getattribute__" = some ("BaseException","__getattribute__"):=by decide +kernel
 have ha:=F.args_bexc_ga (.ref x) nameV;simp only [checkBuiltinCall,hk,hsplit];refine g0 ?_;unfold isInstance;refine g0 (L0.at (L1.at ?_))
 repeat (first|wp_step)
 exact hq
open PySem.W in
theorem qki{Q:Option Value->Shared->Prop}(c:ExcC K D)(X:K.In s.heap)(I:XE x D s.heap)(h:Q (some (.ref D)) {s with toks:=s.toks+1}): wpAny (model prog w) A (getAttr? (.ref x) "__class__") Q E s:=by
 obtain⟨hh,g,dr,t,os⟩:=s;have L0:=q3a (M:=model prog w) I;have L1:=looks_findIn (M:=model prog w) X c.ga;have L2:=looks_findIn (M:=model prog w) X c.gk;have f3:=g4w.ga.bind (.ref x);unfold getAttr? getAttrBy? getAttrBy;refine g0 (wpAny_mkText (g0 (g11 (nh (g0 (L0.at (g0 (L1.at ?_))))))));show wpAny _ _ (getAttrByItsOwn _ _ _ _ _ _) _ _ _;unfold getAttrByItsOwn hookBefore;rw [mi (show onTheHeap (Value.ref D)=true from rfl)];refine g0 (L2.at ?_);refine g0 (g11 (nh ?_));unfold callGetattribute boundAndCalled;rw [mn (by decide)];rw [f3];refine g0 (g9 ?_);refine g3h (g1y g4w.ga.plain F.entry_bexc_ga (qkh c X I (qkg c X I ?_)));dsimp only;exact handed_on rfl (g9 h)
theorem qkj(c:ExcC K D): PySem.W.KitX K (.ref x) (.ref D) (XE x D) where
 ty:=fun M h _ e=>q3a e
 it:=fun _ _ X _=>by
  obtain⟨cdD,hcD⟩:=g19.mp (qeg c);unfold PySem.W.clsIn at hcD
  split at hcD
  ·rename_i c' d' cd' sl' ho
   intro A' Q' E' s' k q;unfold isType loadHead;exact g0 (wpAny_loadPart (k _ _ (X _ _ ho)) (g9 q))
  ·cases hcD
 ne:=fun h tp dd its n sl X htp=>by
  obtain⟨cdD,hcD⟩:=g19.mp (qeg c);refine Bool.eq_false_iff.mpr fun q=>?_;have e:D=tp:=Value.ref.inj (g49.mp q);subst e;unfold PySem.W.clsIn at hcD
  split at hcD
  ·rename_i c' d' cd' sl' ho
   have z:=(X _ _ ho).symm.trans htp;cases z
  ·cases hcD
 ca:=fun X e k=>qki c X e k
end
def qqg(K:PySem.W.Frag)(C:Addr): Prop:=ExcC K C/\∀T:String,T∈["int","bool","tuple","list","str","dict"]->PySem.W.kitOne K (.ref C) (.type T)=some false
inductive D where
 | non
 | bl (b:Bool)
 | int (i:Int)
 | str (x:Str)
 | tup (ds:List D)
 | lst (ds:List D)
 | dct (ks:List Key) (vs:List D)
 | dtt (ks:List (List Int)) (vs:List D)
 | obj (x:Str)
 | exc (x:Str)
abbrev Frag:=PySem.W.Frag
abbrev St:=L2.St
def qkk(K:Frag)(C:Addr): Prop:=PySem.W.plainGet K C "__class__" = true/\PySem.W.hasDictIn K C=true/\PySem.W.findIn K (.ref C) "__class__" = some (some (.builtin "object.__class__")) /\
 PySem.W.specialIn K (.builtin "object.__class__") "__get__" = some (some (.builtin "getset_descriptor.__get__"))/\PySem.W.takesIn K (.builtin "object.__class__")=some true/\PySem.W.mroIn K C (.type "object")=some true /\
 ∀T:String,T∈["int","bool","tuple","list","str","dict"]->PySem.W.kitOne K (.ref C) (.type T)=some false
def qkl(x:List Int×Addr×Value): DictEntry:=⟨reduceHash (Builtin.Tuple.tupleHashOf (x.1.map hashInt)),.ref x.2.1,x.2.2⟩
def DE(a:Addr)(xs:List (List Int×Addr×Value))(ep:Nat)(h:Heap): Prop:=∃o es,h.get? a=some o/\o.ExactDict/\o.data=.dict es ep/\es.toList=xs.map qkl
mutual
/-- v stands for the datum in the heap H -/
def Rep(K:Frag)(H:Hp): D->V->Prop
 | .non,v=>v=.non
 | .bl b,v=>v=.bl b
 | .int i,v=>v=.int i
 | .str x,v=>v=.str x
 | .tup ds,v=>∃a xs,v=.ref a/\SqT K H a xs/\RepL K H ds xs
 | .lst ds,v=>∃a xs,v=.ref a/\SqL K H a xs/\RepL K H ds xs
 | .dct ks vs,v=>∃a xs,v=.ref a/\H a=some (.dK (ks.zip xs))/\ks.length=xs.length/\RepL K H vs xs
 | .dtt ks vs,v=>∃a xs ys ep,v=.ref a/\H a=some (.ext (DE a xs ep))/\xs.map (·.1)=ks/\ks.Nodup/\xs.length<=sizeLine/\(a==sysModules)=false/\(∀x∈xs,SqT K H x.2.1 (x.1.map V.int))/\Vals ys (xs.map fun x=>x.2.2)/\RepL K H vs ys
 | .obj x,v=>∃a dx C,v=.ref a/\H a=some (.ins C dx [])/\PySem.W.nsIn K mainGlobals x=some (some (.ref C))/\qkk K C
 | .exc x,v=>∃a C,v=.ref a/\H a=some (.ext (XE a C))/\PySem.W.nsIn K mainGlobals x=some (some (.ref C))/\qqg K C
def RepL(K:Frag)(H:Hp): List D->List V->Prop
 | [],xs=>xs=[]
 | d :: ds,xs=>∃x r,xs=x :: r/\Rep K H d x/\RepL K H ds r
end
theorem qj{K:Frag}{H H':Hp}{a:Addr}{xs:List V}(e:Same H H')(h:SqT K H a xs): SqT K H' a xs:=by
 rcases h with(h|⟨o,h⟩)|h
 ·exact .inl (.inl (e _ _ h))
 ·exact .inl (.inr ⟨o,e _ _ h⟩)
 ·exact .inr h
mutual
theorem Rep.mono{K:Frag}{H H':Hp}(e:Same H H'): ∀ {d:D} {v:V},Rep K H d v->Rep K H' d v
 | .non,v,h=>by simpa only [Rep] using h
 | .bl b,v,h=>by simpa only [Rep] using h
 | .int i,v,h=>by simpa only [Rep] using h
 | .str x,v,h=>by simpa only [Rep] using h
 | .tup ds,v,h=>by
  simp only [Rep] at h ⊢;obtain⟨a,xs,e1,e2,e3⟩:=h;exact⟨a,xs,e1,qj e e2,RepL.mono e e3⟩
 | .lst ds,v,h=>by
  simp only [Rep] at h ⊢;obtain⟨a,xs,e1,e2,e3⟩:=h;exact⟨a,xs,e1,e.seq e2,RepL.mono e e3⟩
 | .dct ks vs,v,h=>by
  simp only [Rep] at h ⊢;obtain⟨a,xs,e1,e2,e3,e4⟩:=h;exact⟨a,xs,e1,e _ _ e2,e3,RepL.mono e e4⟩
 | .dtt ks vs,v,h=>by
  simp only [Rep] at h ⊢;obtain⟨a,xs,ys,ep,e1,e2,e3,e4,e5,e6,e7,e8,e9⟩:=h;exact⟨a,xs,ys,ep,e1,e _ _ e2,e3,e4,e5,e6,fun x hx=>qj e (e7 x hx),e8,RepL.mono e e9⟩
 | .obj x,v,h=>by
  simp only [Rep] at h ⊢;obtain⟨a,dx,C,e1,e2,e3⟩:=h;exact⟨a,dx,C,e1,e _ _ e2,e3⟩
 | .exc x,v,h=>by
  simp only [Rep] at h ⊢;obtain⟨a,C,e1,e2,e3⟩:=h;exact⟨a,C,e1,e _ _ e2,e3⟩
theorem RepL.mono{K:Frag}{H H':Hp}(e:Same H H'): ∀ {ds:List D} {xs:List V},RepL K H ds xs->RepL K H' ds xs
 | [],xs,h=>by simpa only [RepL] using h
 | d :: ds,xs,h=>by
  simp only [RepL] at h ⊢;obtain⟨x,r,e1,e2,e3⟩:=h;exact⟨x,r,e1,Rep.mono e e2,RepL.mono e e3⟩
end
section
variable{K:Frag}{H:Hp}
theorem RepL.nil:RepL K H [] []:=by simp only [RepL]
theorem RepL.cons{d:D}{ds:List D}{x:V}{xs:List V}(h:Rep K H d x)(t:RepL K H ds xs): RepL K H (d :: ds) (x :: xs):=by
 simp only [RepL];exact⟨x,xs,rfl,h,t⟩
theorem RepL.nil_inv{xs:List V}(h:RepL K H [] xs): xs=[]:=by simpa only [RepL] using h
theorem RepL.cons_inv{d:D}{ds:List D}{xs:List V}(h:RepL K H (d :: ds) xs): ∃x r,xs=x :: r/\Rep K H d x/\RepL K H ds r:=by simpa only [RepL] using h
theorem RepL.length:∀ {ds:List D} {xs:List V},RepL K H ds xs->ds.length=xs.length
 | [],xs,h=>by rw [h.nil_inv];rfl
 | d :: ds,xs,h=>by
  obtain⟨x,r,rfl,_,t⟩:=h.cons_inv;simp [RepL.length t]
theorem RepL.append:∀ {ds es:List D} {xs ys:List V},RepL K H ds xs->RepL K H es ys->RepL K H (ds++es) (xs++ys)
 | [],es,xs,ys,h,t=>by rw [h.nil_inv];exact t
 | d :: ds,es,xs,ys,h,t=>by
  obtain⟨x,r,rfl,h1,h2⟩:=h.cons_inv;exact .cons h1 (RepL.append h2 t)
theorem RepL.get:∀ {ds:List D} {xs:List V} {i:Nat} {d:D},RepL K H ds xs->ds[i]? = some d->∃x,xs[i]? = some x/\Rep K H d x
 | [],xs,i,d,h,e=>by simp at e
 | d :: ds,xs,0,d',h,e=>by
  obtain⟨x,r,rfl,h1,h2⟩:=h.cons_inv;simp at e;subst e;exact⟨x,rfl,h1⟩
 | d :: ds,xs,i+1,d',h,e=>by
  obtain⟨x,r,rfl,h1,h2⟩:=h.cons_inv;obtain⟨y,e1,e2⟩:=RepL.get (i:=i) h2 (by simpa using e);exact⟨y,by simpa using e1,e2⟩
theorem RepL.take:∀ {ds:List D} {xs:List V} (n:Nat),RepL K H ds xs->RepL K H (ds.take n) (xs.take n)
 | _,_,0,_=>by simp only [List.take_zero];exact .nil
 | [],xs,n+1,h=>by rw [h.nil_inv];exact .nil
 | d :: ds,xs,n+1,h=>by
  obtain⟨x,r,rfl,h1,h2⟩:=h.cons_inv;exact .cons h1 (RepL.take n h2)
theorem RepL.drop:∀ {ds:List D} {xs:List V} (n:Nat),RepL K H ds xs->RepL K H (ds.drop n) (xs.drop n)
 | ds,xs,0,h=>by simpa only [g4n] using h
 | [],xs,n+1,h=>by rw [h.nil_inv];exact .nil
 | d :: ds,xs,n+1,h=>by
  obtain⟨x,r,rfl,h1,h2⟩:=h.cons_inv;exact RepL.drop n h2
theorem RepL.ints:∀ {ns:List Int} {xs:List V},RepL K H (ns.map D.int) xs↔xs=ns.map V.int
 | [],xs=>by simp only [g10,RepL]
 | n :: ns,xs=>by
  simp only [gj,RepL]
  constructor
  ·rintro⟨x,r,rfl,h1,h2⟩
   simp only [Rep] at h1;rw [h1,RepL.ints.mp h2]
  ·rintro rfl
   exact⟨_,_,rfl,by simp only [Rep],RepL.ints.mpr rfl⟩
theorem rep_int{i:Int}{v:V}: Rep K H (.int i) v↔v=.int i:=by simp only [Rep]
theorem rep_bl{i:Bool}{v:V}: Rep K H (.bl i) v↔v=.bl i:=by simp only [Rep]
theorem rep_str{i:Str}{v:V}: Rep K H (.str i) v↔v=.str i:=by simp only [Rep]
theorem rep_non{v:V}: Rep K H .non v↔v=.non:=by simp only [Rep]
theorem rep_tup{ds:List D}{v:V}: Rep K H (.tup ds) v↔∃a xs,v=.ref a/\SqT K H a xs/\RepL K H ds xs:=by simp only [Rep]
theorem rep_lst{ds:List D}{v:V}: Rep K H (.lst ds) v↔∃a xs,v=.ref a/\SqL K H a xs/\RepL K H ds xs:=by simp only [Rep]
theorem rep_dct{ks:List Key}{vs:List D}{v:V}: Rep K H (.dct ks vs) v↔∃a xs,v=.ref a/\H a=some (.dK (ks.zip xs))/\ks.length=xs.length/\RepL K H vs xs:=by simp only [Rep]
theorem rep_dtt{ks:List (List Int)}{vs:List D}{v:V}: Rep K H (.dtt ks vs) v↔∃a xs ys ep,v=.ref a/\H a=some (.ext (DE a xs ep))/\xs.map (·.1)=ks/\ks.Nodup/\xs.length<=sizeLine/\(a==sysModules)=false/\(∀x∈xs,SqT K H x.2.1 (x.1.map V.int))/\Vals ys (xs.map fun x=>x.2.2)/\RepL K H vs ys:=by simp only [Rep]
theorem rep_exc{x:Str}{v:V}: Rep K H (.exc x) v↔∃a C,v=.ref a/\H a=some (.ext (XE a C))/\PySem.W.nsIn K mainGlobals x=some (some (.ref C))/\qqg K C:=by simp only [Rep]
theorem rep_obj{x:Str}{v:V}: Rep K H (.obj x) v↔∃a dx C,v=.ref a/\H a=some (.ins C dx [])/\PySem.W.nsIn K mainGlobals x=some (some (.ref C))/\qkk K C:=by simp only [Rep]
end
class Lam where
 tab:List (Addr×Str)
variable[Lam]
def Tab(H:Hp): Prop:=∀p∈Lam.tab,∃ps,H p.1=some (.tbl ps)/\TriplesOk ps.toList/\∀pos cv,codeAmong pos ps.toList=some cv->∃c φ,cv=.ref c/\H c=some (.ext φ)/\∀h, φ h->h.CodeRec (.ref c) p.2
def qkm(F:Hp): Prop:=∀p∈Lam.tab,F p.1=none
theorem Tab.updG{H:Hp}(t:Tab H){p:Addr}{o:HO}(h:∀u,H p=some u->(∀ps,u ≠ .tbl ps)/\∀ φ,u ≠ .ext φ): Tab (upd H p o):=fun q hq=>by
 obtain⟨ps,e,ht,k⟩:=t q hq;refine⟨ps,by rw [qk (fun z=>by subst z;exact(h _ e).1 ps rfl)];exact e,ht,fun pos cv z=>?_⟩;obtain⟨c, φ,e1,e2,e3⟩:=k pos cv z;exact⟨c, φ,e1,by rw [qk (fun z=>by subst z;exact(h _ e2).2 φ rfl)];exact e2,e3⟩
theorem Tab.upd{H:Hp}(t:Tab H){p:Addr}{o:HO}(h:H p=none\/∃xs,H p=some (.lst xs)): Tab (upd H p o):=t.updG fun u e=>by
 rcases h with h|⟨xs,h⟩
 ·rw [h] at e;cases e
 ·rw [h] at e;cases e;exact⟨nofun,nofun⟩
structure Kept(H H':Hp): Prop where
 lst:∀b xs,H b=some (.lst xs)->H' b=some (.lst xs)
 ext:∀b φ,H b=some (.ext φ)->H' b=some (.ext φ)
 free:∀ {b},H' b=none->H b=none
 tb:Tab H->Tab H'
 dk:∀b kvs,H b=some (.dK kvs)->H' b=some (.dK kvs)
theorem Kept.refl(H:Hp): Kept H H:=⟨fun _ _ e=>e,fun _ _ e=>e,fun e=>e,fun t=>t,fun _ _ e=>e⟩
theorem Kept.trans{H H1 H2:Hp}(a:Kept H H1)(b:Kept H1 H2): Kept H H2:=⟨fun c xs e=>b.lst c xs (a.lst c xs e),fun c φ e=>b.ext c φ (a.ext c φ e),fun e=>a.free (b.free e),fun t=>b.tb (a.tb t),fun c kvs e=>b.dk c kvs (a.dk c kvs e)⟩
theorem Kept.new{H:Hp}{p:Addr}{o:HO}(hp:H p=none): Kept H (upd H p o):=⟨fun b xs e=>by rw [qk (jg e hp)];exact e,fun b φ e=>by rw [qk (jg e hp)];exact e,fun {b} e=>by
 by_cases z:b=p
 ·subst z;exact hp
 ·rw [qk z] at e;exact e,fun t=>t.upd (.inl hp),fun b kvs e=>by rw [qk (jg e hp)];exact e⟩
structure SameT(F H:Hp): Prop where
 s:Same F H
 t:Tab H
 f:qkm F
structure Grow(F H F' H':Hp): Prop where
 ff:Same F F'
 hh:Kept H H'
 fh:Same F' H'
 nw:∀b,F' b≠none->F b≠none\/H b=none
theorem Grow.refl{F H:Hp}(h:Same F H): Grow F H F H:=⟨.refl _,.refl _,h,fun _ h=>.inl h⟩
theorem Grow.trans{F H F1 H1 F2 H2:Hp}(a:Grow F H F1 H1)(b:Grow F1 H1 F2 H2): Grow F H F2 H2:=
 ⟨a.ff.trans b.ff,a.hh.trans b.hh,b.fh,fun c h=>(b.nw c h).elim (fun z=>a.nw c z) fun z=>.inr (a.hh.free z)⟩
theorem yq{H:Hp}{p:Addr}{o:HO}(h:H p=none): Same H (upd H p o):=fun b u q=>by rw [qk (jg q h)];exact q
theorem qhs{F H:Hp}{p:Addr}{o:HO}(h:Same F H): Same (upd F p o) (upd H p o):=fun b u q=>by
 unfold upd at q ⊢
 split
 ·rename_i z;rw [mi z] at q;exact q
 ·rename_i z;rw [mn z] at q;exact h _ _ q
theorem Grow.new{F H:Hp}{p:Addr}{o:HO}(h:Same F H)(hp:H p=none): Grow F H (upd F p o) (upd H p o):=
 ⟨yq (h.free hp),.new hp,qhs h,fun b hb=>by
  by_cases e:b=p
  ·subst e;exact .inr hp
  ·rw [qk e] at hb;exact .inl hb⟩
theorem Grow.own{F H:Hp}{p:Addr}{o:HO}(h:Same F H)(hp:H p=none): Grow F H F (upd H p o):=
 ⟨.refl _,.new hp,h.trans (yq hp),fun _ h=>.inl h⟩
inductive B where
 | fz (d:D)
 | ow (ds:List D)
 | od (kvs:List (Int×List D))
abbrev Rho:=List (Option B)
def qtk(ks:List Int)(bs:List Addr): List (Key×V):=(ks.map Sum.inl).zip (bs.map V.ref)
structure ODt(K:Frag)(F H H0:Hp)(a:Addr)(bs:List Addr)(kvs:List (Int×List D)): Prop where
 h:H a=some (.dK (qtk (kvs.map (·.1)) bs))
 f:F a=none
 z:H0 a=none
 len:bs.length=kvs.length
 nd:bs.Nodup
 b:∀(j:Nat) (b:Addr) (k:Int) (ds:List D),bs[j]? = some b->kvs[j]? = some (k,ds)->∃xs,H b=some (.lst xs)/\F b=none/\H0 b=none/\RepL K F ds xs
structure RS(K:Frag)(F0 H0 F H:Hp)(σ : St)(ρ : Rho): Prop where
 t0:Tab H0/\qkm F0
 g:Grow F0 H0 F H
 len : σ.length = ρ.length
 fz:∀(i:Nat) (d:D), ρ[i]? = some (some (.fz d))->∃v, σ[i]? = some (some v)/\Rep K F d v
 ow:∀(i:Nat) (ds:List D), ρ[i]? = some (some (.ow ds))->∃a xs, σ[i]? = some (some (.ref a))/\H a=some (.lst xs)/\F a=none/\H0 a=none/\RepL K F ds xs
 dj:∀(i j:Nat) (ds es:List D) (a:Addr),i≠j -> ρ[i]? = some (some (.ow ds)) -> ρ[j]? = some (some (.ow es)) -> σ[i]? = some (some (.ref a)) -> σ[j]? ≠ some (some (.ref a))
 od:∀(i:Nat) (kvs:List (Int×List D)), ρ[i]? = some (some (.od kvs))->∃a bs, σ[i]? = some (some (.ref a))/\ODt K F H H0 a bs kvs/\∀(j:Nat) (es:List D) (b:Addr), ρ[j]? = some (some (.ow es))->b∈bs -> σ[j]? ≠ some (some (.ref b))
 o1:∀(i j:Nat) (k1 k2:List (Int×List D)), ρ[i]? = some (some (.od k1)) -> ρ[j]? = some (some (.od k2))->i=j
theorem qeh{F H F' H':Hp}{a:Addr}{o:HO}(g:Grow F H F' H')(h1:F a=none)(h2:H a=some o): F' a=none:=by
 cases q:F' a with
 | none=>rfl
 | some o=>
  rcases g.nw a (by rw [q];simp) with z|z
  ·exact absurd h1 z
  ·rw [h2] at z;cases z
theorem ODt.mem{K:Frag}{F H H0:Hp}{a:Addr}{bs:List Addr}{kvs:List (Int×List D)}(o:ODt K F H H0 a bs kvs){b:Addr}(h:b∈bs): ∃xs,H b=some (.lst xs)/\F b=none/\H0 b=none:=by
 obtain⟨j,hj⟩:=g45.mp h;have hl:j<kvs.length:=by rw [<- o.len];exact(n8.mp hj).1
 obtain⟨xs,e1,e2,e3,_⟩:=o.b j b _ _ hj (ma hl);exact⟨xs,e1,e2,e3⟩
theorem ODt.grow{K:Frag}{F H F' H' H0:Hp}{a:Addr}{bs:List Addr}{kvs:List (Int×List D)}(o:ODt K F H H0 a bs kvs)(g:Grow F H F' H'): ODt K F' H' H0 a bs kvs where
 h:=g.hh.dk _ _ o.h
 f:=qeh g o.f o.h
 z:=o.z
 len:=o.len
 nd:=o.nd
 b:=fun j b k ds e1 e2=>by
  obtain⟨xs,z1,z2,z3,z4⟩:=o.b j b k ds e1 e2;exact⟨xs,g.hh.lst _ _ z1,qeh g z2 z1,z3,z4.mono g.ff⟩
theorem ODt.other{K:Frag}{F H H0:Hp}{a p:Addr}{bs:List Addr}{kvs:List (Int×List D)}{u:HO}(o:ODt K F H H0 a bs kvs)(h1:p≠a)(h2:p∉bs): ODt K F (upd H p u) H0 a bs kvs where
 h:=by rw [qk (ng h1)];exact o.h
 f:=o.f
 z:=o.z
 len:=o.len
 nd:=o.nd
 b:=fun j b k ds e1 e2=>by
  obtain⟨xs,z1,z2,z3,z4⟩:=o.b j b k ds e1 e2;have ne:b≠p:=fun q=>h2 (by rw [<- q];exact uh e1);exact⟨xs,by rw [qk ne];exact z1,z2,z3,z4⟩
theorem ODt.otherF{K:Frag}{F H H0:Hp}{a p:Addr}{bs:List Addr}{kvs:List (Int×List D)}{u:HO}(o:ODt K F H H0 a bs kvs)(hs:Same F (upd F p u))(h1:p≠a)(h2:p∉bs): ODt K (upd F p u) H H0 a bs kvs where
 h:=o.h
 f:=by rw [qk (ng h1)];exact o.f
 z:=o.z
 len:=o.len
 nd:=o.nd
 b:=fun j b k ds e1 e2=>by
  obtain⟨xs,z1,z2,z3,z4⟩:=o.b j b k ds e1 e2;have ne:b≠p:=fun q=>h2 (by rw [<- q];exact uh e1);exact⟨xs,z1,by rw [qk ne];exact z2,z3,z4.mono hs⟩
section
variable{K:Frag}{F0 H0 F H F' H':Hp}{σ : St}{ρ : Rho}
theorem RS.fh(r:RS K F0 H0 F H σ ρ): Same F H:=r.g.fh
theorem RS.tab(r:RS K F0 H0 F H σ ρ): Tab H:=r.g.hh.tb r.t0.1
theorem RS.tabF(r:RS K F0 H0 F H σ ρ): qkm F:=fun p hp=>by
 cases q:F p.1 with
 | none=>rfl
 | some o=>
  rcases r.g.nw p.1 (by rw [q];simp) with z|z
  ·exact absurd (r.t0.2 p hp) z
  ·obtain⟨ps,e,_⟩:=r.t0.1 p hp
   rw [e] at z;cases z
theorem RS.grow(r:RS K F0 H0 F H σ ρ)(g:Grow F H F' H'): RS K F0 H0 F' H' σ ρ where
 t0:=r.t0
 g:=r.g.trans g
 len:=r.len
 fz:=fun i d e=>let⟨v,e1,e2⟩:=r.fz i d e; ⟨v,e1,e2.mono g.ff⟩
 ow:=fun i ds e=>by
  obtain⟨a,xs,e1,e2,e3,e4,e5⟩:=r.ow i ds e;refine⟨a,xs,e1,g.hh.lst _ _ e2,?_,e4,e5.mono g.ff⟩;cases q:F' a with
  | none=>rfl
  | some o=>
   rcases g.nw a (by rw [q];simp) with z|z
   ·exact absurd e3 z
   ·rw [e2] at z;cases z
 dj:=r.dj
 od:=fun i kvs e=>let⟨a,bs,e1,e2,e3⟩:=r.od i kvs e; ⟨a,bs,e1,e2.grow g,e3⟩
 o1:=r.o1
theorem RS.sameT(r:RS K F0 H0 F H σ ρ)(g:Grow F H F' H'): SameT F' H':=⟨g.fh,(r.grow g).tab,(r.grow g).tabF⟩
theorem qu{α : Type}{l:List α}{i:Nat}{x y : α}(h:(l.set i x)[i]? = some y): y=x/\i<l.length:=by
 rw [g58] at h;simp only [nu] at h
 split at h
 ·exact⟨(md h).symm,by assumption⟩
 ·cases h
theorem RS.set(r:RS K F0 H0 F H σ ρ){d:D}{v:V}(i:Nat)(h:Rep K F d v): RS K F0 H0 F H (σ.set i (some v)) (ρ.set i (some (.fz d))) where
 t0:=r.t0
 g:=r.g
 len:=by rw [g05,g05];exact r.len
 fz:=fun j e h1=>by
  by_cases q:j=i
  ·subst q
   obtain⟨z,l⟩:=qu h1;cases z;exact⟨v,by rw [g58];simp [r.len,l],h⟩
  ·rw [m5 (ng q)] at h1 ⊢
   exact r.fz j e h1
 ow:=fun j ds h1=>by
  by_cases q:j=i
  ·subst q
   obtain⟨z,l⟩:=qu h1;cases z
  ·rw [m5 (ng q)] at h1 ⊢
   exact r.ow j ds h1
 dj :=fun j k ds es a hjk h1 h2 h3=>by
  by_cases q:j=i
  ·subst q
   obtain⟨z,l⟩:=qu h1;cases z
  ·by_cases q2:k=i
   ·subst q2
    obtain⟨z,l⟩:=qu h2;cases z
   ·rw [m5 (ng q)] at h1 h3
    rw [m5 (ng q2)] at h2 ⊢;exact r.dj j k ds es a hjk h1 h2 h3
 od :=fun j kvs h1=>by
  by_cases q:j=i
  ·subst q
   obtain⟨z,l⟩:=qu h1;cases z
  ·rw [m5 (ng q)] at h1 ⊢
   obtain⟨a,bs,e1,e2,e3⟩:=r.od j kvs h1;refine⟨a,bs,e1,e2,fun k es b h2 h3=>?_⟩
   by_cases q2:k=i
   ·subst q2
    obtain⟨z,l⟩:=qu h2;cases z
   ·rw [m5 (ng q2)] at h2 ⊢
    exact e3 k es b h2 h3
 o1 :=fun j k k1 k2 h1 h2=>by
  by_cases q:j=i
  ·subst q
   obtain⟨z,l⟩:=qu h1;cases z
  ·by_cases q2:k=i
   ·subst q2
    obtain⟨z,l⟩:=qu h2;cases z
   ·rw [m5 (ng q)] at h1
    rw [m5 (ng q2)] at h2;exact r.o1 j k k1 k2 h1 h2
theorem RS.setO(r:RS K F0 H0 F H σ ρ){ds:List D}{xs:List V}{a:Addr}(i:Nat)(h1:H a=some (.lst xs))(h2:F a=none)(h3:H0 a=none)(h4:RepL K F ds xs)
  (h5:∀(j:Nat) (es:List D), ρ[j]? = some (some (.ow es)) -> σ[j]? ≠ some (some (.ref a)))
  (h6:∀(j:Nat) (kvs:List (Int×List D)), ρ[j]? = some (some (.od kvs))->∃a' bs, σ[j]? = some (some (.ref a'))/\ODt K F H H0 a' bs kvs/\a∉bs/\∀(j':Nat) (es:List D) (b:Addr), ρ[j']? = some (some (.ow es))->b∈bs -> σ[j']? ≠ some (some (.ref b))):RS K F0 H0 F H (σ.set i (some (.ref a))) (ρ.set i (some (.ow ds))) where
 t0:=r.t0
 g:=r.g
 len:=by rw [g05,g05];exact r.len
 fz:=fun j e q1=>by
  by_cases q:j=i
  ·subst q
   obtain⟨z,l⟩:=qu q1;cases z
  ·rw [m5 (ng q)] at q1 ⊢
   exact r.fz j e q1
 ow:=fun j es q1=>by
  by_cases q:j=i
  ·subst q
   obtain⟨z,l⟩:=qu q1;cases z;exact⟨a,xs,by rw [g58];simp [r.len,l],h1,h2,h3,h4⟩
  ·rw [m5 (ng q)] at q1 ⊢
   exact r.ow j es q1
 dj :=fun j k ds' es b hjk q1 q2 q3=>by
  by_cases q:j=i
  ·subst q
   have e3:=qu q3;have eb:b=a:=by have:=e3.1;simpa using this
   subst eb;rw [m5 hjk] at q2 ⊢;exact h5 k es q2
  ·rw [m5 (ng q)] at q1 q3
   by_cases q4:k=i
   ·subst q4
    intro z;have eb:b=a:=by have:=(qu z).1;simpa using this
    subst eb;exact h5 j ds' q1 q3
   ·rw [m5 (ng q4)] at q2 ⊢
    exact r.dj j k ds' es b hjk q1 q2 q3
 od :=fun j kvs q1=>by
  by_cases q:j=i
  ·subst q
   obtain⟨z,l⟩:=qu q1;cases z
  ·rw [m5 (ng q)] at q1 ⊢
   obtain⟨a',bs,e1,e2,e3,e4⟩:=h6 j kvs q1;refine⟨a',bs,e1,e2,fun k es b p1 p2 p3=>?_⟩
   by_cases q2:k=i
   ·subst q2
    have eb:b=a:=by have:=(qu p3).1;simpa using this
    exact e3 (eb ▸ p2)
   ·rw [m5 (ng q2)] at p1 p3
    exact e4 k es b p1 p2 p3
 o1 :=fun j k k1 k2 p1 p2=>by
  by_cases q:j=i
  ·subst q
   obtain⟨z,l⟩:=qu p1;cases z
  ·by_cases q2:k=i
   ·subst q2
    obtain⟨z,l⟩:=qu p2;cases z
   ·rw [m5 (ng q)] at p1
    rw [m5 (ng q2)] at p2;exact r.o1 j k k1 k2 p1 p2
theorem RS.wrt(r:RS K F0 H0 F H σ ρ){ds es:List D}{ys:List V}{a:Addr}{i:Nat}(h1 : ρ[i]? = some (some (.ow ds)))(h2 : σ[i]? = some (some (.ref a)))(h4:RepL K F es ys):
  RS K F0 H0 F (upd H a (.lst ys)) σ (ρ.set i (some (.ow es))):=by
 obtain⟨a',xs,e1,e2,e3,e4,e5⟩:=r.ow i ds h1;rw [h2] at e1;obtain rfl:a=a':=by simpa using e1
 have nF:∀b o,F b=some o->b≠a:=fun b o e z=>by subst z;rw [e3] at e;cases e
 exact {
  t0:=r.t0
  g :=⟨r.g.ff,⟨fun b o e=>by rw [qk (fun z=>by subst z;rw [e4] at e;cases e)];exact r.g.hh.lst b o e,fun b o e=>by rw [qk (fun z=>by subst z;rw [e4] at e;cases e)];exact r.g.hh.ext b o e,fun {b} e=>by
    by_cases z:b=a
    ·subst z;exact e4
    ·rw [qk z] at e;exact r.g.hh.free e,fun t=>(r.g.hh.tb t).upd (.inr ⟨_,e2⟩),fun b o e=>by rw [qk (fun z=>by subst z;rw [e4] at e;cases e)];exact r.g.hh.dk b o e⟩,fun b o e=>by rw [qk (nF b o e)];exact r.g.fh b o e,r.g.nw⟩
  len:=by rw [g05];exact r.len
  fz:=fun j e q1=>by
   by_cases q:j=i
   ·subst q
    obtain⟨z,l⟩:=qu q1;cases z
   ·rw [m5 (ng q)] at q1
    exact r.fz j e q1
  ow :=fun j es' q1=>by
   by_cases q:j=i
   ·subst q
    obtain⟨z,l⟩:=qu q1;cases z;exact⟨a,ys,h2,qq,e3,e4,h4⟩
   ·rw [m5 (ng q)] at q1
    obtain⟨b,zs,f1,f2,f3,f4,f5⟩:=r.ow j es' q1;have hb:b≠a:=fun z=>by
     subst z;exact r.dj i j ds es' b (ng q) h1 q1 h2 f1
    exact⟨b,zs,f1,by rw [qk hb];exact f2,f3,f4,f5⟩
  dj:=fun j k ds' es' b hjk q1 q2 q3=>by
   have back:∀(l:Nat) (us:List D),(ρ.set i (some (.ow es)))[l]? = some (some (.ow us))->∃ws, ρ[l]? = some (some (.ow ws)):=fun l us z=>by
    by_cases q:l=i
    ·subst q;exact⟨ds,h1⟩
    ·rw [m5 (ng q)] at z;exact⟨us,z⟩
   obtain⟨w1,z1⟩:=back j ds' q1;obtain⟨w2,z2⟩:=back k es' q2;exact r.dj j k w1 w2 b hjk z1 z2 q3
  od:=fun j kvs q1=>by
   by_cases q:j=i
   ·subst q
    obtain⟨z,l⟩:=qu q1;cases z
   ·rw [m5 (ng q)] at q1
    obtain⟨a',bs,f1,f2,f3⟩:=r.od j kvs q1;refine⟨a',bs,f1,f2.other (fun z=>by subst z;have:=f2.h;rw [e2] at this;cases this) fun z=>f3 i ds a h1 z h2,fun k es' b p1 p2=>?_⟩
    by_cases q2:k=i
    ·subst q2;exact f3 k ds b h1 p2
    ·rw [m5 (ng q2)] at p1;exact f3 k es' b p1 p2
  o1 :=fun j k k1 k2 p1 p2=>by
   have back:∀(l:Nat) (us),(ρ.set i (some (.ow es)))[l]? = some (some (.od us)) -> ρ[l]? = some (some (.od us)):=fun l us z=>by
    by_cases q:l=i
    ·subst q
     obtain⟨z',_⟩:=qu z;cases z'
    ·rw [m5 (ng q)] at z;exact z
   exact r.o1 j k k1 k2 (back _ _ p1) (back _ _ p2)}
theorem RS.freeze(r:RS K F0 H0 F H σ ρ){ds:List D}{i:Nat}(h1 : ρ[i]? = some (some (.ow ds))): ∃F',Same F F'/\RS K F0 H0 F' H σ (ρ.set i (some (.fz (.lst ds)))):=by
 obtain⟨a,xs,e1,e2,e3,e4,e5⟩:=r.ow i ds h1;have sF:Same F (upd F a (.lst xs)):=yq e3;refine⟨upd F a (.lst xs),sF,?_⟩;exact {
  t0:=r.t0
  g :=⟨r.g.ff.trans sF,r.g.hh,fun b o e=>by
    by_cases q:b=a
    ·subst q;rw [qq] at e;cases e;exact e2
    ·rw [qk q] at e;exact r.g.fh b o e,fun b hb=>by
    by_cases q:b=a
    ·subst q;exact .inr e4
    ·rw [qk q] at hb;exact r.g.nw b hb⟩
  len:=by rw [g05];exact r.len
  fz:=fun j e q1=>by
   by_cases q:j=i
   ·subst q
    obtain⟨z,l⟩:=qu q1;cases z;exact⟨_,e1,rep_lst.mpr ⟨a,xs,rfl,SqL.of qq,e5.mono sF⟩⟩
   ·rw [m5 (ng q)] at q1
    obtain⟨v,z1,z2⟩:=r.fz j e q1;exact⟨v,z1,z2.mono sF⟩
  ow :=fun j es' q1=>by
   by_cases q:j=i
   ·subst q
    obtain⟨z,l⟩:=qu q1;cases z
   ·rw [m5 (ng q)] at q1
    obtain⟨b,zs,f1,f2,f3,f4,f5⟩:=r.ow j es' q1;have hb:b≠a:=fun z=>by
     subst z;exact r.dj i j ds es' b (ng q) h1 q1 e1 f1
    exact⟨b,zs,f1,f2,by rw [qk hb];exact f3,f4,f5.mono sF⟩
  dj :=fun j k ds' es' b hjk q1 q2 q3=>by
   have back:∀(l:Nat) (us:List D),(ρ.set i (some (.fz (.lst ds))))[l]? = some (some (.ow us)) -> ρ[l]? = some (some (.ow us)):=fun l us z=>by
    by_cases q:l=i
    ·subst q
     obtain⟨z',_⟩:=qu z;cases z'
    ·rw [m5 (ng q)] at z;exact z
   exact r.dj j k ds' es' b hjk (back _ _ q1) (back _ _ q2) q3
  od:=fun j kvs q1=>by
   by_cases q:j=i
   ·subst q
    obtain⟨z,l⟩:=qu q1;cases z
   ·rw [m5 (ng q)] at q1
    obtain⟨a',bs,f1,f2,f3⟩:=r.od j kvs q1;refine⟨a',bs,f1,f2.otherF sF (fun z=>by subst z;have:=f2.h;rw [e2] at this;cases this) fun z=>f3 i ds a h1 z e1,fun k es' b p1 p2=>?_⟩
    by_cases q2:k=i
    ·subst q2;exact f3 k ds b h1 p2
    ·rw [m5 (ng q2)] at p1;exact f3 k es' b p1 p2
  o1 :=fun j k k1 k2 p1 p2=>by
   have back:∀(l:Nat) (us),(ρ.set i (some (.fz (.lst ds))))[l]? = some (some (.od us)) -> ρ[l]? = some (some (.od us)):=fun l us z=>by
    by_cases q:l=i
    ·subst q
     obtain⟨z',_⟩:=qu z;cases z'
    ·rw [m5 (ng q)] at z;exact z
   exact r.o1 j k k1 k2 (back _ _ p1) (back _ _ p2)}
end
end DL
namespace DL
open PySem PySem.Spec PyProof.Rows L2
variable[Lam]
abbrev lim:Nat:=1000000
theorem jd{n:Nat}(h:n<=lim): n<=sizeLine:=mq h (by decide)
theorem q9c{n:Nat}(h:n<lim): n<sizeLine:=gu h (by decide)
abbrev FE:=Rho->Option D
abbrev FT:=Rho->Option Bool
abbrev FA:=Rho->Option (List D)
inductive Fl where
 | nx|bk|ct
 | rt (d:D)
abbrev FS:=Rho->Option (Fl×Rho)
def tD(K:Frag)(f:FE): TE:=fun σ H Q=>∃F0 H0 F ρ d,RS K F0 H0 F H σ ρ /\ f ρ = some d/\∀v F' H',Grow F H F' H'->Rep K F' d v->Q v H'
def tL(K:Frag)(f:FA): TE:=fun σ H Q=>∃F0 H0 F ρ ds,RS K F0 H0 F H σ ρ /\ f ρ = some ds/\∀a xs F' H',Grow F H F' H'->F' a=none->H a=none->H' a=some (.lst xs)->RepL K F' ds xs->Q (.ref a) H'
def tDT(K:Frag)(f:FT): TT:=fun σ H Q=>∃F0 H0 F ρ b,RS K F0 H0 F H σ ρ /\ f ρ = some b/\∀F' H',Grow F H F' H'->Q b H'
def tDA(K:Frag)(f:FA): TA:=fun σ H Q=>∃F0 H0 F ρ ds,RS K F0 H0 F H σ ρ /\ f ρ = some ds/\∀vs F' H',Grow F H F' H'->RepL K F' ds vs->Q vs H'
def qfk(K:Frag)(F0 H0 F:Hp)(D:Ends)(fl:Fl)(ρ':Rho): Prop:=match fl with
 | .nx=>∀ σ' F' H',Same F F'->RS K F0 H0 F' H' σ' ρ'->D.nx σ' H'
 | .bk=>∀ σ' F' H',Same F F'->RS K F0 H0 F' H' σ' ρ'->D.bk σ' H'
 | .ct=>∀ σ' F' H',Same F F'->RS K F0 H0 F' H' σ' ρ'->D.ct σ' H'
 | .rt d=>∀v F' H',Grow F0 H0 F' H'->Rep K F' d v->D.rt v H'
def tDS(K:Frag)(f:FS): TS:=fun D σ H=>∃F0 H0 F ρ fl ρ',RS K F0 H0 F H σ ρ /\ f ρ = some (fl, ρ')/\qfk K F0 H0 F D fl ρ'
section
variable{X:Cx}{e:Expr}{pos:Pos}
theorem j9{t t':TE}(h:PE X e t)(i:∀ σ H Q,t' σ H Q->t σ H Q): PE X e t':=fun pins s σ H Q I q=>h pins s σ H Q I (i σ H Q q)
theorem qay{t t':TT}(h:PT X e t)(i:∀ σ H Q,t' σ H Q->t σ H Q): PT X e t':=fun pins s σ H Q I q=>h pins s σ H Q I (i σ H Q q)
theorem qht{es:List Expr}{t t':TA}(h:PA X es t)(i:∀ σ H Q,t' σ H Q->t σ H Q): PA X es t':=fun pos pins s σ H Q I q=>h pos pins s σ H Q I (i σ H Q q)
theorem q06{st:Stmt}{t t':TS}(h:PS X st t)(i:∀D σ H,t' D σ H->t D σ H): PS X st t':=fun pins s σ H D I q=>h pins s σ H D I (i D σ H q)
theorem q5h{st:List Stmt}{t t':TS}(h:PSs X st t)(i:∀D σ H,t' D σ H->t D σ H): PSs X st t':=fun pins s σ H D I q=>h pins s σ H D I (i D σ H q)
def eV(i:Nat): FE:=fun ρ =>match ρ[i]? with
 | some (some (.fz d))=>some d
 | _=>none
def eC(d:D): FE:=fun _=>some d
theorem qnn{i:Nat}{ρ : Rho}{d:D}(h:eV i ρ = some d): ρ[i]? = some (some (.fz d)):=by
 unfold eV at h
 split at h
 ·rename_i e;rw [e,md h]
 ·cases h
theorem q0{K:Frag}{i:Nat}(h:PE X e (q6a i)): PE X e (tD K (eV i)):=j9 h fun σ H Q ⟨F0,H0,F, ρ,d,r,hf,q⟩=>by
 obtain⟨v,e1,e2⟩:=r.fz i d (qnn hf);exact⟨v,e1,q v F H (.refl r.fh) e2⟩
theorem qaz{K:Frag}{v:V}{d:D}(h:PE X e (tC v))(hd:∀H,Rep K H d v): PE X e (tD K (eC d)):=j9 h fun σ H Q ⟨F0,H0,F, ρ,d',r,hf,q⟩=>by
 cases hf;exact q v F H (.refl r.fh) (hd F)
theorem qd{K:Frag}{i j}: PE X (.Constant (.int i) j pos) (tD K (eC (.int i))):=qaz qpj fun _=>rep_int.mpr rfl
theorem q3m{K:Frag}{b j}: PE X (.Constant (.bool b) j pos) (tD K (eC (.bl b))):=qaz qrw fun _=>rep_bl.mpr rfl
def rD(K:Frag)(op:D->D->Option D): R2:=fun x y H Q=>∃F d1 d2 d,Same F H/\Rep K F d1 x/\Rep K F d2 y/\op d1 d2=some d/\∀v F' H',Grow F H F' H'->Rep K F' d v->Q v H'
def eOp(op:D->D->Option D)(f g:FE): FE:=fun ρ =>(f ρ).bind fun x=>(g ρ).bind fun y=>op x y
theorem two{K:Frag}{f g:FE}{op:D->D->Option D}{σ : St}{H:Hp}{Q:VK}(h:tD K (eOp op f g) σ H Q): tD K f σ H fun x H1=>tD K g σ H1 fun y H2=>rD K op x y H2 Q:=by
 obtain⟨F0,H0,F, ρ,d,r,hf,q⟩:=h;obtain⟨d1,h1,hf⟩:=gd.mp hf;obtain⟨d2,h2,h3⟩:=gd.mp hf;refine⟨F0,H0,F, ρ,d1,r,h1,fun v F1 H1 g1 r1=>⟨F0,H0,F1, ρ,d2,r.grow g1,h2,fun u F2 H2 g2 r2=>?_⟩⟩;exact⟨F2,d1,d2,d,g2.fh,r1.mono g2.ff,r2,h3,fun w F3 H3 g3 r3=>q w F3 H3 (g1.trans (g2.trans g3)) r3⟩
variable{a b:Expr}{f g:FE}
theorem qm{op:Operator}{o:D->D->Option D}(ho:OpR X (binaryOp op) (rD X.K o))(ha:PE X a (tD X.K f))(hb:PE X b (tD X.K g)): PE X (.BinOp a op b pos) (tD X.K (eOp o f g)):=
 j9 (qmr ho ha hb) fun σ H Q h=>two h
theorem q0l{f:Value->Value->Sem Value}{r r':R2}(h:OpR X f r)(i:∀x y H Q,r' x y H Q->r x y H Q): OpR X f r':=fun pins s σ H x y v u Q I rx ry q=>h pins s σ H x y v u Q I rx ry (i x y H Q q)
theorem qb0{f:Value->Value->Sem Value}{K:Frag}{o o':D->D->Option D}(h:OpR X f (rD K o))(h':OpR X f (rD K o')): OpR X f (rD K fun x y=>(o x y).or (o' x y)):=fun pins s σ H x y v u Q I rx ry q=>by
 obtain⟨F,d1,d2,d,q1,q2,q3,q4,q5⟩:=q;have q4:(o d1 d2).or (o' d1 d2)=some d:=q4;cases e:o d1 d2 with
 | some d'=>rw [e] at q4;cases q4;exact h pins s σ H x y v u Q I rx ry ⟨F,d1,d2,_,q1,q2,q3,e,q5⟩
 | none=>rw [e] at q4;exact h' pins s σ H x y v u Q I rx ry ⟨F,d1,d2,d,q1,q2,q3,q4,q5⟩
def oI(C:Int->Int->Bool)(z:Int->Int->Int): D->D->Option D
 | .int i,.int j=>if C i j then some (.int (z i j)) else none
 | _,_=>none
def oB(z:Int->Int->Bool): D->D->Option D
 | .int i,.int j=>some (.bl (z i j))
 | _,_=>none
theorem qei{C:Int->Int->Bool}{z:Int->Int->Int}{d1 d2 d:D}(h:oI C z d1 d2=some d): ∃i j,d1=.int i/\d2=.int j/\C i j=true/\d=.int (z i j):=by
 cases d1 <;> cases d2 <;> simp only [oI] at h <;> first|(cases h;done)|skip
 split at h
 ·exact⟨_,_,rfl,rfl,by assumption,(md h).symm⟩
 ·cases h
theorem qno{z:Int->Int->Bool}{d1 d2 d:D}(h:oB z d1 d2=some d): ∃i j,d1=.int i/\d2=.int j/\d=.bl (z i j):=by
 cases d1 <;> cases d2 <;> simp only [oB] at h <;> first|(cases h;done)|skip
 exact⟨_,_,rfl,rfl,(md h).symm⟩
theorem q7e{fv:Value->Value->Sem Value}{P:Int->Int->Prop}{C:Int->Int->Bool}{z:Int->Int->Int}(h:OpR X fv (rI P fun i j=>.int (z i j)))(hC:∀i j,C i j=true->P i j): OpR X fv (rD X.K (oI C z)):=
 q0l h fun x y H Q ⟨F,d1,d2,d,q1,q2,q3,q4,q5⟩=>by
  obtain⟨i,j,rfl,rfl,c,rfl⟩:=qei q4;exact⟨i,j,rep_int.mp q2,rep_int.mp q3,hC i j c,q5 _ F H (.refl q1) (rep_int.mpr rfl)⟩
theorem qb1{fv:Value->Value->Sem Value}{z:Int->Int->Int}(h:OpR X fv (rI0 fun i j=>.int (z i j))): OpR X fv (rD X.K (oI (fun _ _=>true) z)):=
 q0l h fun x y H Q ⟨F,d1,d2,d,q1,q2,q3,q4,q5⟩=>by
  obtain⟨i,j,rfl,rfl,c,rfl⟩:=qei q4;exact⟨i,j,rep_int.mp q2,rep_int.mp q3,q5 _ F H (.refl q1) (rep_int.mpr rfl)⟩
theorem qb2{fv:Value->Value->Sem Value}{z:Int->Int->Bool}(h:OpR X fv (rI0 fun i j=>.bl (z i j))): OpR X fv (rD X.K (oB z)):=
 q0l h fun x y H Q ⟨F,d1,d2,d,q1,q2,q3,q4,q5⟩=>by
  obtain⟨i,j,rfl,rfl,rfl⟩:=qno q4;exact⟨i,j,rep_int.mp q2,rep_int.mp q3,q5 _ F H (.refl q1) (rep_bl.mpr rfl)⟩
abbrev oAdd:=oI (fun _ _=>true) fun i j=>i+j
abbrev oSub:=oI (fun _ _=>true) fun i j=>i-j
abbrev oMul:=oI (fun i j=>(decide (-(2 ^ 64)<i)&&decide (i<2 ^ 64)) || (decide (-(2 ^ 64)<j)&&decide (j<2 ^ 64))) fun i j=>i*j
abbrev oDiv:=oI (fun _ j=>decide (0<j)&&decide (j<1073741824)) fun i j=>i / j
abbrev oMod:=oI (fun _ j=>decide (0<j)) fun i j=>i%j
theorem q1s{p q:Prop}[Decidable p][Decidable q](h:(decide p&&decide q)=true): p/\q:=by simpa using h
theorem qqh:OpR X (binaryOp .Add) (rD X.K oAdd):=qb1 qpy
theorem qqi:OpR X (binaryOp .Sub) (rD X.K oSub):=qb1 qpz
theorem qqj:OpR X (binaryOp .Mult) (rD X.K oMul):=q7e qq0 fun i j h=>by
 rcases g1b _ _ ▸ h with z|z
 ·exact .inl (q1s z)
 ·exact .inr (q1s z)
theorem vy:OpR X (binaryOp .FloorDiv) (rD X.K oDiv):=q7e qnd fun i j h=>q1s h
theorem ja:OpR X (binaryOp .Mod) (rD X.K oMod):=q7e qq1 fun i j h=>g0c h
abbrev oShl:=oI (fun i j=>decide (0<=j)&&(decide (j<=1000000)&&decide (i.natAbs<2 ^ 64))) fun i j=>i*2 ^ j.toNat
abbrev oPow:=oI (fun i j=>decide (0<=j)&&(decide (j<=1000000)&&decide (i.natAbs<2 ^ 64))) fun i j=>i ^ j.toNat
theorem qb3{p q r:Prop}[Decidable p][Decidable q][Decidable r](h:(decide p&&(decide q&&decide r))=true): p/\q/\r:=by simpa using h
theorem qqk:OpR X (binaryOp .LShift) (rD X.K oShl):=q7e qq3 fun i j h=>qb3 h
theorem qhu:OpR X (binaryOp .Pow) (rD X.K oPow):=q7e qq2 fun i j h=>qb3 h
abbrev oLt:=oB fun i j=>decide (i<j)
abbrev oLe:=oB fun i j=>decide (i<=j)
abbrev oGt:=oB fun i j=>decide (j<i)
abbrev oGe:=oB fun i j=>decide (j<=i)
theorem qsh:OpR X (compareOp .Lt) (rD X.K oLt):=qb2 qs7
theorem q7f:OpR X (compareOp .Gt) (rD X.K oGt):=qb2 qs8
theorem qfl:OpR X (compareOp .GtE) (rD X.K oGe):=qb2 qs9
def flD:D->Option V
 | .non=>some .non
 | .bl b=>some (.bl b)
 | .int i=>some (.int i)
 | .str x=>some (.str x)
 | _=>none
theorem q5i{K:Frag}{H:Hp}{d:D}{v u:V}(h:flD d=some u)(r:Rep K H d v): v=u:=by
 cases d <;> simp only [flD] at h <;> first|(cases h;done)|skip
 ·cases h;exact rep_non.mp r
 ·cases h;exact rep_bl.mp r
 ·cases h;exact rep_int.mp r
 ·cases h;exact rep_str.mp r
def qkn:D->D->Option D:=fun d e=>(flD d).bind fun x=>(flD e).bind fun y=>if q8b x y then some (.bl (decide (x=y))) else none
def q4l:D->D->Option D:=fun d e=>(flD d).bind fun x=>(flD e).bind fun y=>if q8b x y then some (.bl (!decide (x=y))) else none
theorem qql:OpR X (compareOp .Eq) (rD X.K qkn):=q0l qs5 fun x y H Q ⟨F,d1,d2,d,q1,q2,q3,q4,q5⟩=>by
 obtain⟨u,h1,q4⟩:=gd.mp q4;obtain⟨w,h2,q4⟩:=gd.mp q4;cases q5i h1 q2;cases q5i h2 q3
 split at q4
 ·rename_i z
  cases q4;exact⟨z,q5 _ F H (.refl q1) (rep_bl.mpr rfl)⟩
 ·cases q4
theorem qhv:OpR X (compareOp .NotEq) (rD X.K q4l):=q0l qs6 fun x y H Q ⟨F,d1,d2,d,q1,q2,q3,q4,q5⟩=>by
 obtain⟨u,h1,q4⟩:=gd.mp q4;obtain⟨w,h2,q4⟩:=gd.mp q4;cases q5i h1 q2;cases q5i h2 q3
 split at q4
 ·rename_i z
  cases q4;exact⟨z,q5 _ F H (.refl q1) (rep_bl.mpr rfl)⟩
 ·cases q4
theorem qb4{op:CmpOp}{o:D->D->Option D}(ho:OpR X (compareOp op) (rD X.K o))(ha:PE X a (tD X.K f))(hb:PE X b (tD X.K g))(hm:behindInMarks op b=false:=by first|exact qap _ (by decide) (by decide)|rfl):
  PE X (.Compare a [op] [b] pos) (tD X.K (eOp o f g)):=j9 (qne ho ha hb hm) fun σ H Q h=>two h
def qb5:D->Option Bool
 | .non=>some false
 | .bl b=>some b
 | .int i=>some (i != 0)
 | .tup ds=>some (!ds.isEmpty)
 | .lst ds=>some (!ds.isEmpty)
 | .str x=>if x.length<=lim then some ((x.length:Int) != 0) else none
 | _=>none
def bT(f:FE): FT:=fun ρ =>(f ρ).bind qb5
theorem qqm{K:Frag}{F H:Hp}{d:D}{b:Bool}{v:V}(h:qb5 d=some b)(fh:Same F H)(r:Rep K F d v): qk5 K v H b:=by
 cases d with
 | non=>cases h;rw [rep_non.mp r];rfl
 | bl c=>cases h;rw [rep_bl.mp r];rfl
 | int i=>cases h;rw [rep_int.mp r];rfl
 | str x=>
  simp only [qb5] at h
  split at h
  ·rename_i z
   cases h;rw [rep_str.mp r];exact⟨jd z,rfl⟩
  ·cases h
 | tup ds=>
  cases h;obtain⟨p,xs,rfl,q1,q2⟩:=rep_tup.mp r;refine .inr (.inl ⟨xs,qj fh q1,?_⟩);cases ds with
  | nil=>rw [q2.nil_inv];rfl
  | cons d ds=>obtain⟨y,r',rfl,_⟩:=q2.cons_inv;rfl
 | lst ds=>
  cases h;obtain⟨p,xs,rfl,q1,q2⟩:=rep_lst.mp r;refine .inl ⟨xs,fh.seq q1,?_⟩;cases ds with
  | nil=>rw [q2.nil_inv];rfl
  | cons d ds=>obtain⟨y,r',rfl,_⟩:=q2.cons_inv;rfl
 | dct _ _=>cases h
 | dtt _ _=>cases h
 | obj _=>cases h
 | exc _=>cases h
theorem yr(ha:PE X a (tD X.K f))(he:∀whole,isTrue a X.env whole=(do let v <- whole;standAt a.pos;holding [v] (truthy v)):=by intro _;rfl): PT X a (tDT X.K (bT f)):=
 qay (qk6 ha he) fun σ H Q ⟨F0,H0,F, ρ,b,r,hf,q⟩=>by
  obtain⟨d,h1,h2⟩:=gd.mp hf;exact⟨F0,H0,F, ρ,d,r,h1,fun v F' H' g' r'=>⟨b,qqm h2 g'.fh r',q F' H' g'⟩⟩
def isB:D->Option Bool
 | .bl b=>some b
 | _=>none
def zp(o:D->D->Option D)(f g:FE): FT:=fun ρ =>(eOp o f g ρ).bind isB
theorem zq{op:CmpOp}{o:D->D->Option D}(ho:OpR X (compareOp op) (rD X.K o))(ha:PE X a (tD X.K f))(hb:PE X b (tD X.K g))(hm:behindInMarks op b=false:=by first|exact qap _ (by decide) (by decide)|rfl):
  PT X (.Compare a [op] [b] pos) (tDT X.K (zp o f g)):=qay (qnf ho ha hb hm) fun σ H Q ⟨F0,H0,F, ρ,c,r,hf,q⟩=>by
 obtain⟨d,h1,h2⟩:=gd.mp hf;refine two ⟨F0,H0,F, ρ,d,r,h1,fun v F' H' g' r'=>?_⟩;cases d <;> simp only [isB] at h2 <;> first|(cases h2;done)|skip
 cases h2;exact⟨_,rep_bl.mp r',q F' H' g'⟩
def q4m(t:FT): FT:=fun ρ =>(t ρ).map not
def q6c(t u:FT): FT:=fun ρ =>(t ρ).bind fun c=>if c then u ρ else some false
def bOr(t u:FT): FT:=fun ρ =>(t ρ).bind fun c=>if c then some true else u ρ
variable{t u:FT}{rest:List Expr}
theorem q3b(ha:PT X a (tDT X.K t)): PT X (.UnaryOp .Not a pos) (tDT X.K (q4m t)):=qay (qpm ha) fun σ H Q ⟨F0,H0,F, ρ,c,r,hf,q⟩=>by
 obtain⟨d,h1,h2⟩:=m8.mp hf;subst h2;exact⟨F0,H0,F, ρ,d,r,h1,fun F' H' g'=>q F' H' g'⟩
theorem qhw{t t':TT}(h:PW X a t)(i:∀ σ H Q,t' σ H Q->t σ H Q): PW X a t':=fun wh pins s σ H Q I q=>h wh pins s σ H Q I (i σ H Q q)
theorem q3c(ha:PT X a (tDT X.K t)): PW X (.BoolOp .And [a] pos) (tDT X.K t):=qna ha
theorem qhx(ha:PT X a (tDT X.K t)): PW X (.BoolOp .Or [a] pos) (tDT X.K t):=qpk ha
theorem q4n(ha:PT X a (tDT X.K t))(hb:PW X (.BoolOp .And (b :: rest) pos) (tDT X.K u)): PW X (.BoolOp .And (a :: b :: rest) pos) (tDT X.K (q6c t u)):=qhw (qpl ha hb) fun σ H Q ⟨F0,H0,F, ρ,c,r,hf,q⟩=>by
 obtain⟨d,h1,h2⟩:=gd.mp hf;refine⟨F0,H0,F, ρ,d,r,h1,fun F' H' g'=>?_⟩;cases d with
 | true=>rw [mi rfl] at h2 ⊢;exact⟨F0,H0,F', ρ,c,r.grow g',h2,fun F2 H2 g2=>q F2 H2 (g'.trans g2)⟩
 | false=>rw [mn mf] at h2 ⊢;cases h2;exact q F' H' g'
theorem qmv(ha:PT X a (tDT X.K t))(hb:PW X (.BoolOp .Or (b :: rest) pos) (tDT X.K u)): PW X (.BoolOp .Or (a :: b :: rest) pos) (tDT X.K (bOr t u)):=qhw (qrx ha hb) fun σ H Q ⟨F0,H0,F, ρ,c,r,hf,q⟩=>by
 obtain⟨d,h1,h2⟩:=gd.mp hf;refine⟨F0,H0,F, ρ,d,r,h1,fun F' H' g'=>?_⟩;cases d with
 | false=>rw [mn mf] at h2 ⊢;exact⟨F0,H0,F', ρ,c,r.grow g',h2,fun F2 H2 g2=>q F2 H2 (g'.trans g2)⟩
 | true=>rw [mi rfl] at h2 ⊢;cases h2;exact q F' H' g'
def qb6(f g:FE): FE:=fun ρ =>(f ρ).bind fun x=>(isB x).bind fun c=>if c then g ρ else some (.bl false)
def eOr(f g:FE): FE:=fun ρ =>(f ρ).bind fun x=>(isB x).bind fun c=>if c then some (.bl true) else g ρ
def qfm(f:FE): FE:=fun ρ =>(f ρ).bind fun x=>(isB x).map fun c=>.bl (!c)
def eIf(t:FT)(f g:FE): FE:=fun ρ =>(t ρ).bind fun c=>if c then f ρ else g ρ
theorem qb7{d:D}{c:Bool}(h:isB d=some c): d=.bl c:=by
 cases d <;> simp only [isB] at h <;> first|(cases h;done)|skip
 rw [md h]
theorem qhy{op}(h:PE X a (tD X.K f)): PE X (.BoolOp op [a] pos) (tD X.K f):=qpn h
theorem qb8(ha:PE X a (tD X.K f))(hb:PE X (.BoolOp .And (b :: rest) pos) (tD X.K g)): PE X (.BoolOp .And (a :: b :: rest) pos) (tD X.K (qb6 f g)):=j9 (qpo ha hb) fun σ H Q ⟨F0,H0,F, ρ,d,r,hf,q⟩=>by
 obtain⟨x,h1,hf⟩:=gd.mp hf;obtain⟨c,h2,h3⟩:=gd.mp hf;refine⟨F0,H0,F, ρ,x,r,h1,fun v F' H' g' r'=>?_⟩;rw [qb7 h2] at r';refine⟨c,rep_bl.mp r',?_⟩;cases c with
 | true=>rw [mi rfl] at h3 ⊢;exact⟨F0,H0,F', ρ,d,r.grow g',h3,fun w F2 H2 g2 r2=>q w F2 H2 (g'.trans g2) r2⟩
 | false=>rw [mn mf] at h3 ⊢;cases h3;exact q _ F' H' g' (rep_bl.mpr rfl)
theorem qhz(ha:PE X a (tD X.K f)): PE X (.UnaryOp .Not a pos) (tD X.K (qfm f)):=j9 (qpp ha) fun σ H Q ⟨F0,H0,F, ρ,d,r,hf,q⟩=>by
 obtain⟨x,h1,hf⟩:=gd.mp hf;obtain⟨c,h2,h3⟩:=m8.mp hf;subst h3;refine⟨F0,H0,F, ρ,x,r,h1,fun v F' H' g' r'=>?_⟩;rw [qb7 h2] at r';exact⟨c,rep_bl.mp r',q _ F' H' g' (rep_bl.mpr rfl)⟩
theorem qsi{c:Expr}(hc:PT X c (tDT X.K t))(ha:PE X a (tD X.K f))(hb:PE X b (tD X.K g)): PE X (.IfExp c a b pos) (tD X.K (eIf t f g)):=j9 (qjz hc ha hb) fun σ H Q ⟨F0,H0,F, ρ,d,r,hf,q⟩=>by
 obtain⟨x,h1,h2⟩:=gd.mp hf;refine⟨F0,H0,F, ρ,x,r,h1,fun F' H' g'=>?_⟩;cases x with
 | true=>rw [mi rfl] at h2 ⊢;exact⟨F0,H0,F', ρ,d,r.grow g',h2,fun w F2 H2 g2 r2=>q w F2 H2 (g'.trans g2) r2⟩
 | false=>rw [mn mf] at h2 ⊢;exact⟨F0,H0,F', ρ,d,r.grow g',h2,fun w F2 H2 g2 r2=>q w F2 H2 (g'.trans g2) r2⟩
end
section
variable{X:Cx}{e:Expr}{es:List Expr}{pos:Pos}{f g:FE}{fa:FA}
def notStar:Expr->Bool
 | .Starred _ _=>false
 | _=>true
theorem qej{e:Expr}{es:List Expr}{env:Env}(h:notStar e=true): starEach (e :: es) env=(false,eval e env) :: starEach es env:=by
 cases e <;> first|rfl|cases h
def qf:FA:=fun _=>some []
def qa(f:FE)(fa:FA): FA:=fun ρ =>(f ρ).bind fun d=>(fa ρ).map fun ds=>d :: ds
theorem qe:PA X [] (tDA X.K qf):=qht q1y fun σ H Q ⟨F0,H0,F, ρ,ds,r,hf,q⟩=>by
 cases hf;exact q [] F H (.refl r.fh) .nil
theorem qnp(ha:PE X e (tD X.K f))(hr:PA X es (tDA X.K fa))(hs:starEach (e :: es) X.env=(false,eval e X.env) :: starEach es X.env:=by first|exact qej rfl|rfl): PA X (e :: es) (tDA X.K (qa f fa)):=
 qht (wy ha hr hs) fun σ H Q ⟨F0,H0,F, ρ,ds,r,hf,q⟩=>by
  obtain⟨d,h1,hf⟩:=gd.mp hf;obtain⟨ds',h2,h3⟩:=m8.mp hf;subst h3;refine⟨F0,H0,F, ρ,d,r,h1,fun v F1 H1 g1 r1=>⟨F0,H0,F1, ρ,ds',r.grow g1,h2,fun vs F2 H2 g2 r2=>?_⟩⟩;exact q _ F2 H2 (g1.trans g2) (.cons (r1.mono g2.ff) r2)
def jh(fa:FA): FE:=fun ρ =>(fa ρ).bind fun ds=>if ds.length<=lim then some (.tup ds) else none
def q1d(fa:FA): FA:=fun ρ =>(fa ρ).bind fun ds=>if ds.length<=lim then some ds else none
theorem va{x1}(h:PA X es (tDA X.K fa)): PE X (.Tuple es x1 pos) (tD X.K (jh fa)):=j9 (qq6 h) fun σ H Q ⟨F0,H0,F, ρ,d,r,hf,q⟩=>by
 obtain⟨ds,h1,h2⟩:=gd.mp hf
 split at h2
 ·rename_i hl
  cases h2;refine⟨F0,H0,F, ρ,ds,r,h1,fun vs F1 H1 g1 r1=>⟨jd (by rw [<- r1.length];exact hl),fun p hp=>?_⟩⟩;have gn:Grow F1 H1 (upd F1 p (.tup vs)) (upd H1 p (.tup vs)):=Grow.new g1.fh hp;exact q _ _ _ (g1.trans gn) (rep_tup.mpr ⟨p,vs,rfl,SqT.of qq,r1.mono gn.ff⟩)
 ·cases h2
theorem wj(h:PA X es (tDA X.K fa)): PE X (.List es pos) (tL X.K (q1d fa)):=j9 (qq7 h) fun σ H Q ⟨F0,H0,F, ρ,ds,r,hf,q⟩=>by
 obtain⟨ds',h1,h2⟩:=gd.mp hf
 split at h2
 ·rename_i hl
  cases h2;refine⟨F0,H0,F, ρ,ds,r,h1,fun vs F1 H1 g1 r1=>⟨jd (by rw [<- r1.length];exact hl),fun p hp=>?_⟩⟩;exact q p vs F1 (upd H1 p (.lst vs)) (g1.trans (Grow.own g1.fh hp)) (g1.fh.free hp) (g1.hh.free hp) qq r1
 ·cases h2
def eL(fa:FA): FE:=fun ρ =>(fa ρ).map .lst
theorem x9(h:PE X e (tL X.K fa)): PE X e (tD X.K (eL fa)):=j9 h fun σ H Q ⟨F0,H0,F, ρ,d,r,hf,q⟩=>by
 obtain⟨ds,h1,h2⟩:=m8.mp hf;subst h2;refine⟨F0,H0,F, ρ,ds,r,h1,fun a xs F1 H1 g1 fa' ha' hl r1=>?_⟩;have sF:Same F1 (upd F1 a (.lst xs)):=yq fa';refine q _ (upd F1 a (.lst xs)) H1 ⟨g1.ff.trans sF,g1.hh,fun b o z=>?_,fun b hb=>?_⟩ (rep_lst.mpr ⟨a,xs,rfl,SqL.of qq,r1.mono sF⟩)
 ·by_cases q':b=a
  ·subst q';rw [qq] at z;cases z;exact hl
  ·rw [qk q'] at z;exact g1.fh b o z
 ·by_cases q':b=a
  ·subst q';exact .inr ha'
  ·rw [qk q'] at hb;exact g1.nw b hb
def rC(K:Frag)(op:List D->Option D): List V->Hp->VK->Prop:=fun xs H Q=>∃F ds d,Same F H/\RepL K F ds xs/\op ds=some d/\∀v F' H',Grow F H F' H'->Rep K F' d v->Q v H'
def qi(op:List D->Option D)(fa:FA): FE:=fun ρ =>(fa ρ).bind op
theorem q4o{f:Value}{r r':List V->Hp->VK->Prop}(h:jt X f r)(i:∀xs H Q,r' xs H Q->r xs H Q): jt X f r':=fun pins s σ H xs us Q I rv q=>h pins s σ H xs us Q I rv (i xs H Q q)
theorem qi0{K:Frag}{op:List D->Option D}{σ : St}{H:Hp}{Q:VK}(h:tD K (qi op fa) σ H Q): tDA K fa σ H fun vs H1=>rC K op vs H1 Q:=by
 obtain⟨F0,H0,F, ρ,d,r,hf,q⟩:=h;obtain⟨ds,h1,h2⟩:=gd.mp hf;exact⟨F0,H0,F, ρ,ds,r,h1,fun vs F1 H1 g1 r1=>⟨F1,ds,d,g1.fh,r1,h2,fun v F2 H2 g2 r2=>q v F2 H2 (g1.trans g2) r2⟩⟩
theorem j7{x:Str}{p:Pos}{id:String}{op:List D->Option D}(hc:jt X (.builtin id) (rC X.K op))(hg:Gl X x)(hm:X.mg x=none)(hv:bootBuiltins x=some (.builtin id))(ha:PA X (e :: es) (tDA X.K fa))
  (hn:x≠"__name__" :=by decide) (hdb:(x==("__debug__" : Str))=false:=by decide)
  (he:starEach (e :: es) X.env=(false,eval e X.env) :: starEach es X.env:=by rfl) (hpl:(backTo pos (starEach es X.env)).any (·.1)=false:=by rfl):PE X (.Call (.Name x p) (e :: es) [] pos) (tD X.K (qi op fa)):=
 j9 (q3l hc hg hm hv ha hn hdb he hpl) fun σ H Q h=>qi0 h
theorem j8{x:Str}{p:Pos}{T:String}{op:List D->Option D}(hc:jt X (.type T) (rC X.K op))(hg:Gl X x)(hm:X.mg x=none)(hv:bootBuiltins x=some (.type T))(ha:PA X (e :: es) (tDA X.K fa))
  (hn:x≠"__name__" :=by decide) (hdb:(x==("__debug__" : Str))=false:=by decide)
  (he:starEach (e :: es) X.env=(false,eval e X.env) :: starEach es X.env:=by rfl) (hpl:(backTo pos (starEach es X.env)).any (·.1)=false:=by rfl):PE X (.Call (.Name x p) (e :: es) [] pos) (tD X.K (qi op fa)):=
 j9 (q4i hc hg hm hv ha hn hdb he hpl) fun σ H Q h=>qi0 h
def spD(K:Frag)(ar:Nat)(op:List D->Option D): Sp:=fun vs H Q _=>∃F ds d,SameT F H/\RepL K F ds vs/\ds.length=ar/\op ds=some d/\∀v F' H',Grow F H F' H'->Rep K F' d v->Q v H'
theorem SameT.grow{F H F' H':Hp}(s:SameT F H)(g:Grow F H F' H'): SameT F' H':=⟨g.fh,g.hh.tb s.t,fun p hp=>by
 cases q:F' p.1 with
 | none=>rfl
 | some o=>
  rcases g.nw p.1 (by rw [q];simp) with z|z
  ·exact absurd (s.f p hp) z
  ·obtain⟨ps,e,_⟩:=s.t p hp
   rw [e] at z;cases z⟩
def qo(ar:Nat)(dds:List D)(op:List D->Option D): List D->Option D:=fun ds=>if(ds++dds).length=ar then op (ds++dds) else none
theorem qnq{k ar:Nat}{fn:Addr}{fd:FuncData}{ps:List Str}{op:List D->Option D}{x:Str}{p:Pos}{dvs:List V}{dds:List D}{dv:List Value}(F:FnOk X.prog X.w X.K X.mg X.base CX0 k fn fd ps (spD X.K ar op))(hr:Room k X.A)(hg:Gl X x)(hm:X.mg x=some (.ref fn))(hk:PySem.W.keepIn X.K (.ref fn)=true)
  (hb:Binds X.K fd ps dv) (hd:Vals dvs dv) (hdd:∀H,RepL X.K H dds dvs) (ha:PA X (e :: es) (tDA X.K fa)) (hdb:(x==("__debug__" : Str))=false:=by decide)
  (he:starEach (e :: es) X.env=(false,eval e X.env) :: starEach es X.env:=by rfl) (hpl:(backTo pos (starEach es X.env)).any (·.1)=false:=by rfl) :
  PE X (.Call (.Name x p) (e :: es) [] pos) (tD X.K (qi (qo ar dds op) fa)):=
 j9 (qng F hr hg hm hk hb hd qmu ha hdb he hpl) fun σ H Q ⟨F0,H0,Fz, ρ,d,r,hf,q⟩=>by
  obtain⟨ds,h1,h2⟩:=gd.mp hf;unfold qo at h2
  split at h2
  ·rename_i hl
   exact⟨F0,H0,Fz, ρ,ds,r,h1,fun vs F1 H1 g1 r1=>⟨F1,ds++dds,d,r.sameT g1,r1.append (hdd F1),hl,h2,fun v F2 H2 g2 r2=>q v F2 H2 (g1.trans g2) r2⟩⟩
  ·cases h2
end
section
variable{X:Cx}{st:Stmt}{rest:List Stmt}{e:Expr}{pos:Pos}{f:FE}{fa:FA}{t:FT}{u w:FS}
def xy:FS:=fun ρ =>some (.nx, ρ)
def z5(u w:FS): FS:=fun ρ =>(u ρ).bind fun r=>match r with
 | (.nx, ρ')=>w ρ'
 | (fl, ρ')=>some (fl, ρ')
def sIf(t:FT)(u w:FS): FS:=fun ρ =>(t ρ).bind fun c=>if c then u ρ else w ρ
def j3(i:Nat)(f:FE): FS:=fun ρ =>(f ρ).map fun d=>(.nx, ρ.set i (some (.fz d)))
def q0m(i:Nat)(fa:FA): FS:=fun ρ =>(fa ρ).map fun ds=>(.nx, ρ.set i (some (.ow ds)))
def zj(f:FE): FS:=fun ρ =>(f ρ).map fun d=>(.rt d, ρ)
def qsj:FS:=fun ρ =>some (.rt .non, ρ)
def qtl:FS:=fun ρ =>some (.bk, ρ)
def qtm:FS:=fun ρ =>some (.ct, ρ)
def qsk(f:FE): FS:=fun ρ =>(f ρ).map fun _=>(.nx, ρ)
theorem ji:PSs X [] (tDS X.K xy):=q5h qnb fun D σ H ⟨F0,H0,F, ρ,fl, ρ',r,hf,q⟩=>by
 cases hf;exact q σ F H (.refl _) r
theorem q22{K:Frag}{F0 H0 F F':Hp}{D:Ends}{fl:Fl}{ρ':Rho}(s:Same F F')(h:qfk K F0 H0 F D fl ρ'): qfk K F0 H0 F' D fl ρ':=by
 cases fl with
 | nx=>exact fun σ' F2 H2 s2 r=>h σ' F2 H2 (s.trans s2) r
 | bk=>exact fun σ' F2 H2 s2 r=>h σ' F2 H2 (s.trans s2) r
 | ct=>exact fun σ' F2 H2 s2 r=>h σ' F2 H2 (s.trans s2) r
 | rt d=>exact h
theorem ql(h1:PS X st (tDS X.K u))(h2:PSs X rest (tDS X.K w)): PSs X (st :: rest) (tDS X.K (z5 u w)):=q5h (q6b h1 h2) fun D σ H ⟨F0,H0,F, ρ,fl, ρ',r,hf,q⟩=>by
 obtain⟨⟨fl1, ρ1⟩,h3,h4⟩:=gd.mp hf;refine⟨F0,H0,F, ρ,fl1, ρ1,r,h3,?_⟩;cases fl1 with
 | nx=>exact fun σ' F' H' s r'=>⟨F0,H0,F', ρ1,fl, ρ',r',h4,q22 s q⟩
 | bk=>cases h4;exact q
 | ct=>cases h4;exact q
 | rt d=>cases h4;exact q
theorem qp(h1:PS X st (tDS X.K u)): PSs X [st] (tDS X.K u):=qe8 h1
theorem xm{c:Expr}{a b:List Stmt}(hc:PT X c (tDT X.K t))(ha:PSs X a (tDS X.K u))(hb:PSs X b (tDS X.K w)): PS X (.If c a b pos) (tDS X.K (sIf t u w)):=q06 (qs1 hc ha hb) fun D σ H ⟨F0,H0,F, ρ,fl, ρ',r,hf,q⟩=>by
 obtain⟨c,h1,h2⟩:=gd.mp hf;refine⟨F0,H0,F, ρ,c,r,h1,fun F' H' g'=>?_⟩;cases c with
 | true=>rw [mi rfl] at h2 ⊢;exact⟨F0,H0,F', ρ,fl, ρ',r.grow g',h2,q22 g'.ff q⟩
 | false=>rw [mn mf] at h2 ⊢;exact⟨F0,H0,F', ρ,fl, ρ',r.grow g',h2,q22 g'.ff q⟩
theorem z6(he:PE X e (tD X.K f)): PS X (.Return (some e) pos) (tDS X.K (zj f)):=q06 (qpq he) fun D σ H ⟨F0,H0,F, ρ,fl, ρ',r,hf,q⟩=>by
 obtain⟨d,h1,h2⟩:=m8.mp hf;cases h2;exact⟨F0,H0,F, ρ,d,r,h1,fun v F' H' g' r'=>q v F' H' (r.g.trans g') r'⟩
theorem qsl{K:Frag}{i:Nat}{D:Ends}{σ : St}{H:Hp}(h:tDS K (j3 i f) D σ H): tD K f σ H fun x H1=>q2n i x σ H1 D.nx:=by
 obtain⟨F0,H0,F, ρ,fl, ρ',r,hf,q⟩:=h;obtain⟨d,h1,h2⟩:=m8.mp hf;cases h2;exact⟨F0,H0,F, ρ,d,r,h1,fun v F' H' g' r'=>q _ F' H' g'.ff ((r.grow g').set i r')⟩
theorem qmw{K:Frag}{i:Nat}{D:Ends}{σ : St}{H:Hp}(h:tDS K (q0m i fa) D σ H): tL K fa σ H fun x H1=>q2n i x σ H1 D.nx:=by
 obtain⟨F0,H0,F, ρ,fl, ρ',r,hf,q⟩:=h;obtain⟨ds,h1,h2⟩:=m8.mp hf;cases h2;refine⟨F0,H0,F, ρ,ds,r,h1,fun a xs F' H' g' fa' ha' hl r'=>q _ F' H' g'.ff ((r.grow g').setO i hl fa' (r.g.hh.free ha') r' (fun j es z1 z2=>?_) fun j kvs z1=>?_)⟩
 ·obtain⟨b,ys,e1,e2,_⟩:=r.ow j es z1
  rw [z2] at e1;obtain rfl:a=b:=by simpa using e1
  rw [ha'] at e2;cases e2
 ·obtain⟨b,bs,e1,e2,e3⟩:=r.od j kvs z1
  refine⟨b,bs,e1,e2.grow g',fun z=>?_,e3⟩;obtain⟨xs,f,_⟩:=e2.mem z;rw [ha'] at f;cases f
theorem zi{i:Nat}{x:Str}{px:Pos}(hN:X.N.Nodup)(hi:X.N[i]? = some x)(hx:Loc X.env.scope x)(he:PE X e (tD X.K f))(hs:swapsWith e (some (.Name x px)) pos.line X.env=pure false:=by rfl)(hf:X.fn x=true\/X.env.scope.names.lookup x=some .local:=by first|exact .inl rfl|exact .inr rfl|assumption):
  PS X (.Assign [.Name x px] e pos) (tDS X.K (j3 i f)):=q06 (qar hN hi hx he hs hf) fun D σ H h=>qsl h
theorem q3d{i:Nat}{x:Str}{px:Pos}(hN:X.N.Nodup)(hi:X.N[i]? = some x)(hx:Loc X.env.scope x)(he:PE X e (tL X.K fa))(hs:swapsWith e (some (.Name x px)) pos.line X.env=pure false:=by rfl)(hf:X.fn x=true\/X.env.scope.names.lookup x=some .local:=by first|exact .inl rfl|exact .inr rfl|assumption):
  PS X (.Assign [.Name x px] e pos) (tDS X.K (q0m i fa)):=q06 (qar hN hi hx he hs hf) fun D σ H h=>qmw h
def q6d(i:Nat)(ρ : Rho): Option (List D):=match ρ[i]? with
 | some (some (.ow ds))=>some ds
 | _=>none
theorem q9d{i:Nat}{ρ : Rho}{ds:List D}(h:q6d i ρ = some ds): ρ[i]? = some (some (.ow ds)):=by
 unfold q6d at h
 split at h
 ·rename_i e;rw [e,md h]
 ·cases h
def q1e(i:Nat)(f:FE): FS:=fun ρ =>(q6d i ρ).bind fun ds=>(f ρ).bind fun d=>if ds.length<lim then some (.nx, ρ.set i (some (.ow (ds++[d])))) else none
theorem q4p{i:Nat}{x:Str}{px apos cpos:Pos}(hv:PE X (.Name x px) (q6a i))(he:PE X e (tD X.K f))
  (hbase:attributeBase (.Name x px) "append" X.env (eval (.Name x px) X.env)=eval (.Name x px) X.env:=by rfl)
  (hfew:((backTo cpos (starEach [e] X.env)).all (fun x=> !x.1)&&(backToKw cpos (keywordEach [] X.env)).all (fun x=>x.1.isSome)&&decide ([e].length+([]:List Keyword).length+(if([]:List Keyword).isEmpty then 0 else 1)<30))=true:=by rfl)
  (hline:(apos.endLine==cpos.line)=true:=by rfl) (hse:starEach [e] X.env=(false,eval e X.env) :: starEach [] X.env:=by rfl)
  (hs:swapsWith (.Call (.Attribute (.Name x px) "append" apos) [e] [] cpos) none pos.line X.env=pure false:=by rfl):PS X (.Expr (.Call (.Attribute (.Name x px) "append" apos) [e] [] cpos) pos) (tDS X.K (q1e i f)):=
 q06 (qe9 (qmt g5x PySem.F.slot_list_append PySem.F.type_list_append q9b hv (wy he q1y hse) hbase hfew hline hse rfl) hs) fun D σ H ⟨F0,H0,F, ρ,fl, ρ',r,hf,q⟩=>by
  obtain⟨ds,h1,hf⟩:=gd.mp hf;obtain⟨d,h2,h3⟩:=gd.mp hf;have h1:=q9d h1
  split at h3
  ·rename_i hl
   cases h3;obtain⟨a,xs,e1,e2,e3,e4,e5⟩:=r.ow i ds h1;refine⟨.ref a,e1,.inl ⟨rfl,xs,SqL.of e2⟩,F0,H0,F, ρ,d,r,h2,fun v F' H' g' r'=>?_⟩;have r2:=r.grow g';refine⟨a,xs,v,rfl,rfl,g'.hh.lst _ _ e2,q9c (by rw [<- e5.length];exact hl),?_⟩;exact q _ F' _ g'.ff (r2.wrt h1 e1 ((e5.mono g'.ff).append (.cons r' .nil)))
  ·cases h3
def frz(i:Nat)(ρ : Rho): Rho:=match ρ[i]? with
 | some (some (.ow ds))=> ρ.set i (some (.fz (.lst ds)))
 | _=> ρ
def q07(i:Nat)(u:FS): FS:=fun ρ =>u (frz i ρ)
theorem qqn{K:Frag}{F0 H0 F H:Hp}{σ : St}{ρ : Rho}(i:Nat)(r:RS K F0 H0 F H σ ρ): ∃F',Same F F'/\RS K F0 H0 F' H σ (frz i ρ):=by
 unfold frz
 split
 ·rename_i ds h
  exact r.freeze h
 ·exact⟨F,.refl _,r⟩
theorem yc(i:Nat){sts:List Stmt}(h:PSs X sts (tDS X.K u)): PSs X sts (tDS X.K (q07 i u)):=q5h h fun D σ H ⟨F0,H0,F, ρ,fl, ρ',r,hf,q⟩=>by
 obtain⟨F',s',r'⟩:=qqn i r;exact⟨F0,H0,F',frz i ρ,fl, ρ',r',hf,q22 s' q⟩
end
def z7(n:Nat)(u:FS)(ds:List D): Option D:=match u (ds.map (fun d=>some (.fz d))++List.replicate (n-ds.length) none) with
 | some (.rt d,_)=>some d
 | some (.nx,_)=>some .non
 | _=>none
theorem qi1{N:List Str}{vs:List V}{i:Nat}{v:V}(h:vs[i]? = some v): (L2.start N vs)[i]? = some (some v):=by
 unfold L2.start;have hi:i<vs.length:=(n8.mp h).1;rw [uc (by simpa using hi),mv,h];rfl
theorem qi2{P:Program}{w:World}{K:Frag}{H:Hp}{vs:List V}{Q:VK}{N:List Str}{u:FS}{ar:Nat}{E:XK}(hl:ar<=N.length)(h:spD K ar (z7 N.length u) vs H Q E): tDS K u {nx:=fun _ H'=>Q .non H',rt:=Q} (L2.start N vs) H:=by
 obtain⟨F,ds,d,fh,rl,el,hd,q⟩:=h;have hlen:=rl.length;have r:RS K F H F H (L2.start N vs) (ds.map (fun d=>some (.fz d))++List.replicate (N.length-ds.length) none):={
  t0:=⟨fh.t,fh.f⟩
  g:=.refl fh.s
  len:=by unfold L2.start;simp only [pk,mj,g68];omega
  fz :=fun i e h1=>by
   by_cases hi:i<ds.length
   ·rw [uc (by simpa using hi),mv] at h1
    cases z:ds[i]? with
    | none=>rw [z] at h1;cases h1
    | some d'=>
     rw [z] at h1;cases h1;obtain⟨v,e1,e2⟩:=rl.get z;exact⟨v,qi1 e1,e2⟩
   ·rw [uy (by simpa using hi),g0w] at h1
    split at h1 <;> cases h1
  ow:=fun i es h1=>by
   by_cases hi:i<ds.length
   ·rw [uc (by simpa using hi),mv] at h1
    cases z:ds[i]? with
    | none=>rw [z] at h1;cases h1
    | some d'=>rw [z] at h1;cases h1
   ·rw [uy (by simpa using hi),g0w] at h1
    split at h1 <;> cases h1
  dj:=fun i j us es a _ h1=>by
   by_cases hi:i<ds.length
   ·rw [uc (by simpa using hi),mv] at h1
    cases z:ds[i]? with
    | none=>rw [z] at h1;cases h1
    | some d'=>rw [z] at h1;cases h1
   ·rw [uy (by simpa using hi),g0w] at h1
    split at h1 <;> cases h1
  od:=fun i kvs h1=>by
   by_cases hi:i<ds.length
   ·rw [uc (by simpa using hi),mv] at h1
    cases z:ds[i]? with
    | none=>rw [z] at h1;cases h1
    | some d'=>rw [z] at h1;cases h1
   ·rw [uy (by simpa using hi),g0w] at h1
    split at h1 <;> cases h1
  o1:=fun i j k1 k2 h1=>by
   by_cases hi:i<ds.length
   ·rw [uc (by simpa using hi),mv] at h1
    cases z:ds[i]? with
    | none=>rw [z] at h1;cases h1
    | some d'=>rw [z] at h1;cases h1
   ·rw [uy (by simpa using hi),g0w] at h1
    split at h1 <;> cases h1}
 unfold z7 at hd;cases z:u (ds.map (fun d=>some (.fz d))++List.replicate (N.length-ds.length) none) with
 | none=>rw [z] at hd;cases hd
 | some p=>
  obtain⟨fl, ρ'⟩:=p;rw [z] at hd;refine⟨F,H,F,_,fl, ρ',r,z,?_⟩;cases fl with
  | nx=>cases hd;exact fun σ' F' H' s' r'=>q .non F' H' r'.g (rep_non.mpr rfl)
  | bk=>cases hd
  | ct=>cases hd
  | rt d'=>cases hd;exact fun v F' H' g' r'=>q v F' H' g' r'
theorem qmx{P:Program}{w:World}{K:Frag}{mg:Str->Option Value}{base:Heap}{k:Nat}{f:Addr}{name qual:Str}{params:Arguments}{body:List Stmt}{scope:Scope}{dV kV doc pm cdv ct oc:Value}{an od:Option Addr}
  {osl:Array (Option Value)} {N ps:List Str} {u:FS} (lk:K.lookup f=some ⟨oc,od,.func (PySem.W.fnOf name qual params body scope dV kV doc pm an cdv ct),osl⟩) (hcd:PySem.W.codeIn K cdv qual=true) (S:FnScope N ps scope)
  (hb:∀(A:Around) (outer:List Env) (s:Shared) (H:Hp) (E:XK),Room k (A.deeper (envOfC qual scope s.heap.objs.size f cdv))->PSs (zo CX0 P w K mg base N qual scope f cdv A outer s H E).nox body (tDS K u)) :
  FnOk P w K mg base CX0 (k+1) f (PySem.W.fnOf name qual params body scope dV kV doc pm an cdv ct) ps (spD K ps.length (z7 N.length u)):=by
 have hpl:ps.length<=N.length:=by have:=g0f List.length S.pre;rw [p0] at this;omega
 refine qse lk hcd S (fun vs H Q E h=>?_) fun A outer s H vs Q E hr hsp=>⟨_,(hb A outer s H E hr).nox,qi2 (P:=P) (w:=w) hpl hsp⟩
 obtain⟨F,ds,d,_,rl,el,_⟩:=h;rw [<- rl.length];exact el
structure ItD(K:Frag)(F:Hp)(ds:List D)(J:It): Prop where
 go:∀(i:Nat) (F' H:Hp),Same F F'->Same F' H->i<ds.length->J.go i H
 yld:∀(i:Nat) (d:D) (F' H:Hp) (x:V) (H':Hp),Same F F'->Same F' H->ds[i]? = some d->J.yld i H x H'->∃F'',Grow F' H F'' H'/\Rep K F'' d x
 stop:∀(i:Nat) (F' H:Hp),Same F F'->Same F' H->ds.length<=i->J.stop i H
def tDI(K:Frag)(f:FA): TI:=fun σ H R=>∃F0 H0 F ρ ds,RS K F0 H0 F H σ ρ /\ f ρ = some ds/\∀J F' H',Grow F H F' H'->ItD K F' ds J->R J H'
abbrev FB:=D->Rho->Option Rho
abbrev FBs:=List D->Rho->Option Rho
def tDG(K:Frag)(b:FB): TG:=fun v σ H Q=>∃F0 H0 F ρ d ρ',RS K F0 H0 F H σ ρ /\ Rep K F d v/\b d ρ = some ρ'/\∀ σ',RS K F0 H0 F H σ' ρ'->Q σ' H
def qfn(K:Frag)(b:FBs): TGs:=fun vs σ H Q=>∃F0 H0 F ρ ds ρ',RS K F0 H0 F H σ ρ /\ RepL K F ds vs/\b ds ρ = some ρ'/\∀ σ',RS K F0 H0 F H σ' ρ'->Q σ' H
section
variable{X:Cx}{tg e:Expr}{es:List Expr}{pos:Pos}
theorem q4q{t t':TI}(h:PI X tg e t)(i:∀ σ H R,t' σ H R->t σ H R): PI X tg e t':=fun pins s σ H R I q=>h pins s σ H R I (i σ H R q)
theorem qi3{t t':TG}(h:PG X e t)(i:∀v σ H Q,t' v σ H Q->t v σ H Q): PG X e t':=fun pins s σ H v u Q I r q=>h pins s σ H v u Q I r (i v σ H Q q)
theorem qek{t t':TGs}(h:PGs X es t)(i:∀v σ H Q,t' v σ H Q->t v σ H Q): PGs X es t':=fun pins s σ H v u Q I r q=>h pins s σ H v u Q I r (i v σ H Q q)
def bN(i:Nat): FB:=fun d ρ =>some (ρ.set i (some (.fz d)))
def yt:FBs:=fun ds ρ =>if ds.isEmpty then some ρ else none
def j5(b:FB)(bs:FBs): FBs:=fun ds ρ =>match ds with
 | d :: r=>(b d ρ).bind fun ρ'=>bs r ρ'
 | []=>none
def yu(n:Nat)(bs:FBs): FB:=fun d ρ =>match d with
 | .tup ds=>if ds.length=n then bs ds ρ else none
 | _=>none
theorem z0{i:Nat}{x:Str}(hN:X.N.Nodup)(hi:X.N[i]? = some x)(hx:Loc X.env.scope x)(hf:X.fn x=true\/X.env.scope.names.lookup x=some .local:=by first|exact .inl rfl|exact .inr rfl|assumption): PG X (.Name x pos) (tDG X.K (bN i)):=
 qi3 (qea hN hi hx hf) fun v σ H Q ⟨F0,H0,F, ρ,d, ρ',r,hr,hb,q⟩=>by
  cases hb;exact q _ (r.set i hr)
theorem q4r:PGs X [] (qfn X.K yt):=qek qnc fun vs σ H Q ⟨F0,H0,F, ρ,ds, ρ',r,hr,hb,q⟩=>by
 unfold yt at hb
 split at hb
 ·rename_i z
  cases hb;have z':ds=[]:=by simpa using z
  subst z';exact⟨hr.nil_inv,q σ r⟩
 ·cases hb
theorem yi{b:FB}{bs:FBs}(h1:PG X e (tDG X.K b))(h2:PGs X es (qfn X.K bs))(hs:(assignEach (e :: es) X.env).map (·.2)=assign e X.env :: (assignEach es X.env).map (·.2):=by rfl): PGs X (e :: es) (qfn X.K (j5 b bs)):=
 qek (qk0 h1 h2 hs) fun vs σ H Q ⟨F0,H0,F, ρ,ds, ρ',r,hr,hb,q⟩=>by
  cases ds with
  | nil=>cases hb
  | cons d ds=>
   obtain⟨v,vr,rfl,h3,h4⟩:=hr.cons_inv;obtain⟨ρ1,h5,h6⟩:=gd.mp hb;exact⟨v,vr,rfl,F0,H0,F, ρ,d, ρ1,r,h3,h5,fun σ' r'=>⟨F0,H0,F, ρ1,ds, ρ',r',h4,h6,q⟩⟩
theorem q4s{k n:Nat}{bs:FBs}(hc:X.calm=true)(h:PGs X es (qfn X.K bs))(hn:(assignEach es X.env).length=n:=by rfl)(hst:(assignEach es X.env).findIdx? (·.1)=none:=by rfl): PG X (.Tuple es k pos) (tDG X.K (yu n bs)):=
 qi3 (qps hc h hn hst) fun v σ H Q ⟨F0,H0,F, ρ,d, ρ',r,hr,hb,q⟩=>by
  cases d <;> simp only [yu] at hb <;> first|(cases hb;done)|skip
  rename_i ds
  split at hb
  ·rename_i hl
   obtain⟨a,xs,rfl,h1,h2⟩:=rep_tup.mp hr;exact⟨a,xs,rfl,qj r.fh h1,by rw [<- h2.length];exact hl,F0,H0,F, ρ,ds, ρ',r,h2,hb,q⟩
  ·cases hb
def qsm(f:FE)(b:FB): FS:=fun ρ =>(f ρ).bind fun d=>(b d ρ).map fun ρ'=>(.nx, ρ')
theorem qko{K:Frag}{F:Hp}{a:Addr}{xs:List V}{ds:List D}(h:SqL K F a xs)(hd:RepL K F ds xs): ItD K F ds (Itl K a) where
 go:=fun i F' H s1 s2 hi=>⟨xs,xs[i]'(by rw [<- hd.length];exact hi),(s1.trans s2).seq h,by simp⟩
 yld:=fun i d F' H x H' s1 s2 hi ⟨e,y⟩=>by
  subst e;obtain⟨z,h1,h2⟩:=hd.get hi;have:=y xs ((s1.trans s2).seq h);rw [h1] at this;cases this;exact⟨F',.refl s2,h2.mono s1⟩
 stop:=fun i F' H s1 s2 hi=>⟨xs,(s1.trans s2).seq h,by rw [<- hd.length];exact hi⟩
theorem qnr{K:Frag}{F:Hp}{a:Addr}{xs:List V}{ds:List D}(h:SqT K F a xs)(hd:RepL K F ds xs): ItD K F ds (Itt K a) where
 go:=fun i F' H s1 s2 hi=>⟨xs,xs[i]'(by rw [<- hd.length];exact hi),qj (s1.trans s2) h,by simp⟩
 yld:=fun i d F' H x H' s1 s2 hi ⟨e,y⟩=>by
  subst e;obtain⟨z,h1,h2⟩:=hd.get hi;have:=y xs (qj (s1.trans s2) h);rw [h1] at this;cases this;exact⟨F',.refl s2,h2.mono s1⟩
 stop:=fun i F' H s1 s2 hi=>⟨xs,qj (s1.trans s2) h,by rw [<- hd.length];exact hi⟩
def qz(lo:Int)(n:Nat): List D:=(List.range n).map fun i:Nat=>.int (lo+i)
theorem q9e{K:Frag}{F:Hp}(lo:Int)(n:Nat): ItD K F (qz lo n) (Itr lo n) where
 go:=fun i F' H s1 s2 hi=>by show i<n;simpa [qz] using hi
 yld:=fun i d F' H x H' s1 s2 hi ⟨e,y⟩=>by
  subst e y;simp only [qz,mv] at hi;cases q:(List.range n)[i]? with
  | none=>rw [q] at hi;cases hi
  | some j=>
   rw [q] at hi;cases hi;have:j=i:=by
    have h2:=n8.mp q;obtain⟨h3,h4⟩:=h2;rw [List.getElem_range] at h4;exact h4.symm
   subst this;exact⟨F',.refl s2,rep_int.mpr rfl⟩
 stop:=fun i F' H s1 s2 hi=>by show n<=i;simpa [qz] using hi
def q6e:D->Option (List D)
 | .tup ds=>some ds
 | .lst ds=>some ds
 | _=>none
def jk(f:FE): FA:=fun ρ =>(f ρ).bind q6e
theorem qsn{l:Expr}{tl:TE}(hl:PE X l tl): PI X tg l (fun σ H R=>tl σ H fun x H1=>(∃a,x=.ref a/\(∃xs,SqL X.K H1 a xs)/\R (Itl X.K a) H1)\/(∃a,x=.ref a/\(∃xs,SqT X.K H1 a xs)/\R (Itt X.K a) H1)):=by
 intro pins s σ H R I h;refine thn (hl pins s σ H _ I h) fun v s1 ⟨x,H1,I1,r1,q1⟩=>?_;rcases q1 with⟨a,e,⟨xs,hq⟩,q⟩|⟨a,e,⟨xs,hq⟩,q⟩
 ·subst e
  cases r1;obtain⟨its,rv,p,hz⟩:=I1.list hq;refine g1g p.isList ?_;refine⟨s1.heap.objs.size,[s1.heap.objs.size],_,_,H1,rfl,I1.kept (t':=s1.toks) fun b o e=>gc _ e,qhb a _,⟨_,gf _ rfl,rfl,rfl⟩,fun b hb=>?_,q⟩;have e:b=s1.heap.objs.size:=by simpa using hb
  subst e;exact I1.fpOk (gw _) (I1.hok.fresh (gw _))
 ·subst e
  cases r1;obtain⟨its,rv,p,hz⟩:=I1.tuple hq;refine g39 (show s1.heap.IsTuple a its.toArray from p) ?_;refine⟨s1.heap.objs.size,[s1.heap.objs.size],_,_,H1,rfl,I1.kept (t':=s1.toks) fun b o e=>gc _ e,qfd a _,⟨_,gf _ rfl,rfl,rfl⟩,fun b hb=>?_,q⟩;have e:b=s1.heap.objs.size:=by simpa using hb
  subst e;exact I1.fpOk (gw _) (I1.hok.fresh (gw _))
theorem jb{f:FE}(h:PE X e (tD X.K f)): PI X tg e (tDI X.K (jk f)):=q4q (qsn h) fun σ H R ⟨F0,H0,F, ρ,ds,r,hf,q⟩=>by
 obtain⟨d,h1,h2⟩:=gd.mp hf;refine⟨F0,H0,F, ρ,d,r,h1,fun v F' H' g' r'=>?_⟩;cases d <;> simp only [q6e] at h2 <;> first|(cases h2;done)|skip
 ·cases h2
  obtain⟨a,xs,rfl,h3,h4⟩:=rep_tup.mp r';exact .inr ⟨a,rfl,⟨xs,qj g'.fh h3⟩,q _ F' H' g' (qnr h3 h4)⟩
 ·cases h2
  obtain⟨a,xs,rfl,h3,h4⟩:=rep_lst.mp r';exact .inl ⟨a,rfl,⟨xs,g'.fh.seq h3⟩,q _ F' H' g' (qko h3 h4)⟩
def iR1(fa:FA): FA:=fun ρ =>(fa ρ).bind fun ds=>match ds with
 | [.int j]=>if decide (-(2 ^ 62)<=j)&&decide (j<2 ^ 62) then some (qz 0 j.toNat) else none
 | _=>none
def iR2(fa:FA): FA:=fun ρ =>(fa ρ).bind fun ds=>match ds with
 | [.int i,.int j]=>if(decide (-(2 ^ 62)<=i)&&decide (i<2 ^ 62))&&(decide (-(2 ^ 62)<=j)&&decide (j<2 ^ 62)) then some (qz i (j-i).toNat) else none
 | _=>none
theorem wz{a:Expr}{fa:FA}{p:Pos}(hg:Gl X "range")(hm:X.mg "range" = none)(ha:PA X [a] (tDA X.K fa))(hs:starEach [a] X.env=[(false,eval a X.env)]:=by rfl): PI X tg (.Call (.Name "range" p) [a] [] pos) (tDI X.K (iR1 fa)):=
 q4q (qhc hg hm ha hs) fun σ H R ⟨F0,H0,F, ρ,ds,r,hf,q⟩=>by
  obtain⟨es,h1,h2⟩:=gd.mp hf;refine⟨F0,H0,F, ρ,es,r,h1,fun vs F' H' g' r'=>?_⟩
  split at h2
  ·rename_i j
   split at h2
   ·rename_i z
    cases h2;obtain⟨x,t,rfl,h3,h4⟩:=r'.cons_inv;cases h4.nil_inv;obtain⟨z1,z2⟩:=q1s z;exact⟨j,by rw [rep_int.mp h3],z1,z2,q _ F' H' g' (q9e 0 _)⟩
   ·cases h2
  ·cases h2
theorem qi4{a b:Expr}{fa:FA}{p:Pos}(hg:Gl X "range")(hm:X.mg "range" = none)(ha:PA X [a,b] (tDA X.K fa))(hs:starEach [a,b] X.env=[(false,eval a X.env),(false,eval b X.env)]:=by rfl)(hs2:starEach [b] X.env=[(false,eval b X.env)]:=by rfl):
  PI X tg (.Call (.Name "range" p) [a,b] [] pos) (tDI X.K (iR2 fa)):=
 q4q (qhd hg hm ha hs hs2) fun σ H R ⟨F0,H0,F, ρ,ds,r,hf,q⟩=>by
  obtain⟨es,h1,h2⟩:=gd.mp hf;refine⟨F0,H0,F, ρ,es,r,h1,fun vs F' H' g' r'=>?_⟩
  split at h2
  ·rename_i i j
   split at h2
   ·rename_i z
    cases h2;obtain⟨x,t,rfl,h3,h4⟩:=r'.cons_inv;obtain⟨x2,t2,rfl,h5,h6⟩:=h4.cons_inv;cases h6.nil_inv;rw [m6] at z;obtain⟨z1,z2⟩:=q1s z.1;obtain⟨z3,z4⟩:=q1s z.2;exact⟨i,j,by rw [rep_int.mp h3,rep_int.mp h5],⟨z1,z2,z3,z4⟩,q _ F' H' g' (q9e _ _)⟩
   ·cases h2
  ·cases h2
def runFor(b:FB)(body:FS): List D->Rho->Option (Fl×Rho)
 | [], ρ =>some (.nx, ρ)
 | d :: ds, ρ =>(b d ρ).bind fun ρ1=>(body ρ1).bind fun r=>match r with
  | (.nx, ρ2)=>runFor b body ds ρ2
  | (.ct, ρ2)=>runFor b body ds ρ2
  | (.bk, ρ2)=>some (.nx, ρ2)
  | (.rt v, ρ2)=>some (.rt v, ρ2)
def q08(it:FA)(b:FB)(body:FS): FS:=fun ρ =>(it ρ).bind fun ds=>runFor b body ds ρ
theorem q23{iter:Expr}{body:List Stmt}{it:FA}{b:FB}{u:FS}(hp:PassesOwn (model X.prog X.w) X.A X.env X.xe)(hc:X.calm=true)(hi:PI X tg iter (tDI X.K it))(hg:PG X tg (tDG X.K b))(hb:PSs X body (tDS X.K u))
  (hs:∀x,foldedSetIterable iter X.env x=pure x:=by intro _;rfl):PS X (.For tg iter body [] pos) (tDS X.K (q08 it b u)):=q06 (qhf hp hc hi hg hb hs) fun D σ H ⟨F0,H0,F, ρ,fl, ρ',r,hf,q⟩=>by
 obtain⟨ds,h1,h2⟩:=gd.mp hf;refine⟨F0,H0,F, ρ,ds,r,h1,fun J F1 H1 g1 itd=>?_⟩;refine⟨fun i m σ H=>m=ds.length-i/\i<=ds.length/\∃F' ρi,Same F1 F'/\RS X.K F0 H0 F' H σ ρi/\runFor b u (ds.drop i) ρi=some (fl, ρ'),⟨ds.length,by simp,ug _,F1, ρ,.refl _,r.grow g1,by simpa using h2⟩,?_⟩
 rintro i m σ H ⟨rfl,hi,F', ρi,s1,r1,h3⟩
 by_cases hlt:i<ds.length
 ·have hd:ds.drop i=ds[i] :: ds.drop (i+1):=td hlt
  rw [hd] at h3;obtain⟨ρ1,h4,h5⟩:=gd.mp h3;obtain⟨⟨fl1, ρ2⟩,h6,h7⟩:=gd.mp h5;refine .inr ⟨itd.go i F' H s1 r1.fh hlt,fun σ' H'=>∃F',Same F1 F'/\RS X.K F0 H0 F' H' σ' ρ2/\runFor b u (ds.drop (i+1)) ρ2=some (fl, ρ'),fun σ' H' ⟨F',z1,z2,z3⟩=>⟨ds.length-(i+1),by omega,rfl,hlt,F', ρ2,z1,z2,z3⟩,fun x H' y=>?_⟩;obtain⟨F2,g2,r2⟩:=itd.yld i ds[i] F' H x H' s1 r1.fh (by simp [hlt]) y;refine⟨F0,H0,F2, ρi,ds[i], ρ1,r1.grow g2,r2,h4,fun σ' r3=>⟨F0,H0,F2, ρ1,fl1, ρ2,r3,h6,?_⟩⟩;cases fl1 with
  | nx=>exact fun σ2 F3 H3 s3 r4=>⟨F3,(s1.trans g2.ff).trans s3,r4,h7⟩
  | ct=>exact fun σ2 F3 H3 s3 r4=>⟨F3,(s1.trans g2.ff).trans s3,r4,h7⟩
  | bk=>cases h7;exact fun σ2 F3 H3 s3 r4=>q σ2 F3 H3 ((g1.ff.trans (s1.trans g2.ff)).trans s3) r4
  | rt d=>cases h7;exact q
 ·have e:i=ds.length:=by omega
  subst e;rw [g5m] at h3;cases h3;exact .inl ⟨itd.stop _ F' H s1 r1.fh (gw _),q σ F' H (g1.ff.trans s1) r1⟩
def y8(t:FT)(body:FS): Nat->Rho->Option (Fl×Rho)
 | 0,_=>none
 | n+1, ρ =>(t ρ).bind fun c=>if c then(body ρ).bind fun r=>match r with
   | (.nx, ρ2)=>y8 t body n ρ2
   | (.ct, ρ2)=>y8 t body n ρ2
   | (.bk, ρ2)=>some (.nx, ρ2)
   | (.rt v, ρ2)=>some (.rt v, ρ2)
  else some (.nx, ρ)
theorem qkp{c:Expr}{body:List Stmt}{t:FT}{u:FS}(n:Nat)(hp:PassesOwn (model X.prog X.w) X.A X.env X.xe)(hc:PT X c (tDT X.K t))(hb:PSs X body (tDS X.K u)): PS X (.While c body [] pos) (tDS X.K (y8 t u n)):=
 q06 (qk1 hp hc hb) fun D σ H ⟨F0,H0,F, ρ,fl, ρ',r,hf,q⟩=>by
  refine⟨fun m σ H=>∃F' ρi,Same F F'/\RS X.K F0 H0 F' H σ ρi/\y8 t u m ρi=some (fl, ρ'),⟨n,F, ρ,.refl _,r,hf⟩,?_⟩
  rintro m σ H ⟨F', ρi,s1,r1,h1⟩
  cases m with
  | zero=>cases h1
  | succ m=>
   obtain⟨c,h2,h3⟩:=gd.mp h1;refine⟨F0,H0,F', ρi,c,r1,h2,fun F2 H2 g2=>?_⟩;cases c with
   | false=>rw [mn mf] at h3 ⊢;cases h3;exact q σ F2 H2 (s1.trans g2.ff) (r1.grow g2)
   | true=>
    rw [mi rfl] at h3 ⊢;obtain⟨⟨fl1, ρ2⟩,h6,h7⟩:=gd.mp h3;refine⟨fun σ' H'=>∃F',Same F F'/\RS X.K F0 H0 F' H' σ' ρ2/\y8 t u m ρ2=some (fl, ρ'),fun σ' H' ⟨F',z1,z2,z3⟩=>⟨m,ue _,F', ρ2,z1,z2,z3⟩,F0,H0,F2, ρi,fl1, ρ2,r1.grow g2,h6,?_⟩;cases fl1 with
    | nx=>exact fun σ2 F3 H3 s3 r4=>⟨F3,(s1.trans g2.ff).trans s3,r4,h7⟩
    | ct=>exact fun σ2 F3 H3 s3 r4=>⟨F3,(s1.trans g2.ff).trans s3,r4,h7⟩
    | bk=>cases h7;exact fun σ2 F3 H3 s3 r4=>q σ2 F3 H3 ((s1.trans g2.ff).trans s3) r4
    | rt d=>cases h7;exact q
end
def qqo:Option B->Option B
 | some (.fz d)=>some (.fz d)
 | _=>none
def wc(cap:List (Option Nat))(ρ : Rho): Rho:=cap.map fun o=>o.bind fun j=>qqo (ρ[j]?).join
structure Sub(ρ ρ':Rho): Prop where
 len : ρ.length = ρ'.length
 sub:∀(i:Nat) (b:B), ρ[i]? = some (some b) -> ρ'[i]? = some (some b)
theorem RS.weak{K:Frag}{F0 H0 F H:Hp}{σ : St}{ρ ρ':Rho}(r:RS K F0 H0 F H σ ρ')(s:Sub ρ ρ'): RS K F0 H0 F H σ ρ where
 t0:=r.t0
 g:=r.g
 len:=by rw [s.len];exact r.len
 fz:=fun i d e=>r.fz i d (s.sub i _ e)
 ow:=fun i ds e=>r.ow i ds (s.sub i _ e)
 dj:=fun i j ds es a h e1 e2=>r.dj i j ds es a h (s.sub i _ e1) (s.sub j _ e2)
 od:=fun i kvs e=>let⟨a,bs,e1,e2,e3⟩:=r.od i kvs (s.sub i _ e); ⟨a,bs,e1,e2,fun j es b h=>e3 j es b (s.sub j _ h)⟩
 o1:=fun i j k1 k2 e1 e2=>r.o1 i j k1 k2 (s.sub i _ e1) (s.sub j _ e2)
def xn(ρ : Rho): Prop:=∀(i:Nat) (b:B), ρ[i]? = some (some b)->∃d,b=.fz d
theorem vq{ρ : Rho}(no:xn ρ){i:Nat}{ds:List D}(h : ρ[i]? = some (some (.ow ds))): False:=let⟨_,e⟩:=no i _ h;nomatch e
theorem vt{ρ : Rho}(no:xn ρ){i:Nat}{ds}(h : ρ[i]? = some (some (.od ds))): False:=let⟨_,e⟩:=no i _ h;nomatch e
theorem y3(cap:List (Option Nat))(ρ : Rho): xn (wc cap ρ):=fun i ds h=>by
 unfold wc at h;rw [mv] at h;cases q:cap[i]? with
 | none=>rw [q] at h;cases h
 | some o=>
  rw [q] at h;cases o with
  | none=>cases h
  | some j=>
   simp only [p9,m9,g3r] at h;generalize (ρ[j]?).join=z at h;cases z with
   | none=>cases h
   | some b=>cases b with
    | fz d=>cases h;exact⟨d,rfl⟩
    | ow _=>cases h
    | od _=>cases h
theorem qqp{K:Frag}{F0 H0 F H:Hp}{σ : St}{ρ : Rho}(cap:List (Option Nat))(r:RS K F0 H0 F H σ ρ): RS K F H F H (q8e cap σ) (wc cap ρ) where
 t0:=⟨r.tab,r.tabF⟩
 g:=.refl r.fh
 len:=by unfold q8e wc;rw [mj,mj]
 fz := fun i d h=>by
  unfold wc at h;rw [mv] at h;cases q:cap[i]? with
  | none=>rw [q] at h;cases h
  | some o=>
   rw [q] at h;cases o with
   | none=>cases h
   | some j=>
    simp only [p9,m9,g3r] at h;have e : ρ[j]? = some (some (.fz d)):=by
     cases z : ρ[j]? with
     | none=>rw [z] at h;cases h
     | some b=>
      rw [z] at h;cases b with
      | none=>cases h
      | some b=>cases b with
       | fz d'=>cases h;rfl
       | ow _=>cases h
       | od _=>cases h
    obtain⟨v,e1,e2⟩:=r.fz j d e;refine⟨v,?_,e2⟩;unfold q8e;rw [mv,q];simp only [p9,m9,e1,g42]
 ow:=fun i ds h=>(vq (y3 cap ρ) h).elim
 dj:=fun i j ds es a _ h=>(vq (y3 cap ρ) h).elim
 od:=fun i ds h=>(vt (y3 cap ρ) h).elim
 o1:=fun i j ds es h=>(vt (y3 cap ρ) h).elim
theorem RS.other{K:Frag}{F0 H0 F H:Hp}{σ : St}{ρ : Rho}(r:RS K F0 H0 F H σ ρ)(no:xn ρ){p:Addr}{o:HO}(h1:F p=none)(h2:H0 p=none)(h3:H p=none\/∃xs,H p=some (.lst xs)): RS K F0 H0 F (upd H p o) σ ρ where
 t0:=r.t0
 g :=⟨r.g.ff,⟨fun b u e=>by rw [qk (fun z=>by subst z;rw [h2] at e;cases e)];exact r.g.hh.lst b u e,fun b u e=>by rw [qk (fun z=>by subst z;rw [h2] at e;cases e)];exact r.g.hh.ext b u e,fun {b} e=>by
   by_cases z:b=p
   ·subst z;exact h2
   ·rw [qk z] at e;exact r.g.hh.free e,fun t=>(r.g.hh.tb t).upd h3,fun b u e=>by rw [qk (fun z=>by subst z;rw [h2] at e;cases e)];exact r.g.hh.dk b u e⟩,fun b u e=>by rw [qk (fun z=>by subst z;rw [h1] at e;cases e)];exact r.g.fh b u e,r.g.nw⟩
 len:=r.len
 fz:=r.fz
 ow:=fun i ds h=>(vq no h).elim
 dj:=fun i j ds es a _ h=>(vq no h).elim
 od:=fun i ds h=>(vt no h).elim
 o1:=fun i j ds es h=>(vt no h).elim
theorem q2o{F H F' H':Hp}{p:Addr}(g:Grow F H F' H')(h1:F p=none){o:HO}(h2:H p=some o): F' p=none:=by
 cases q:F' p with
 | none=>rfl
 | some u=>
  rcases g.nw p (by rw [q];simp) with z|z
  ·exact absurd h1 z
  ·rw [h2] at z;cases z
def qr(b:FB)(c:FT)(f:FE)(ρ : Rho): List D->Option (List D)
 | []=>some []
 | d :: ds=>(b d ρ).bind fun ρ1=>(c ρ1).bind fun t=>if t then(f ρ1).bind fun y=>(qr b c f ρ ds).map fun ys=>y :: ys else qr b c f ρ ds
def z8:FT:=fun _=>some true
def qw(it:FA)(cap:List (Option Nat))(b:FB)(c:FT)(f:FE): FA:=fun ρ =>(it ρ).bind fun ds=>if ds.length<=lim then qr b c f (wc cap ρ) ds else none
def q7g(b:FB)(cap:List (Option Nat)): Prop:=∀ ρ d ρ',b d (wc cap ρ)=some ρ'->Sub (wc cap ρ) ρ'/\xn ρ'
section
variable{X:Cx}
theorem qkq{ifs:List Expr}{t t':TT}(h:q1c X ifs t)(i:∀ σ H Q,t' σ H Q->t σ H Q): q1c X ifs t':=fun pins s σ H Q I q=>h pins s σ H Q I (i σ H Q q)
theorem vc:q1c X [] (tDT X.K z8):=qkq qkc fun σ H Q ⟨F0,H0,F, ρ,b,r,hf,q⟩=>by cases hf;exact q F H (.refl r.fh)
theorem q11{c:Expr}{t:FT}(h:PT X c (tDT X.K t)): q1c X [c] (tDT X.K t):=qkd h
theorem qi5{K:Frag}{it:FA}{cap:List (Option Nat)}{b:FB}{c:FT}{f:FE}{σ : St}{H:Hp}{Q:VK}(fr:q7g b cap)(h:tL K (qw it cap b c f) σ H Q): qfj (tDI K it) cap (tDG K b) (tDT K c) (tD K f) σ H Q:=by
 obtain⟨F0,H0,F, ρ,zs,r,hf,q⟩:=h;obtain⟨ds,h1,h2⟩:=gd.mp hf;have hlim:ds.length<=lim:=Decidable.byContradiction fun z=>by rw [mn z] at h2;cases h2
 rw [mi hlim] at h2;refine⟨F0,H0,F, ρ,ds,r,h1,fun J F1 H1 g1 itd p hp=>?_⟩;have rc:=qqp cap (r.grow g1);have hF1:F1 p=none:=g1.fh.free hp;refine⟨fun i m σ H=>m=ds.length-i/\i<=ds.length/\∃F' xs ys us,Same F1 F'/\RS K F1 H1 F' H σ (wc cap ρ)/\H p=some (.lst xs)/\F' p=none/\RepL K F' ys xs/\qr b c f (wc cap ρ) (ds.drop i)=some us/\ys++us=zs/\ys.length<=i,
  ⟨ds.length,by simp,ug _,F1,[],[],zs,.refl _,rc.other (y3 cap ρ) hF1 hp (.inl hp),qq,hF1,.nil,by simpa using h2,rfl,gw _⟩,?_⟩
 rintro i m σ' H' ⟨rfl,hi,F',xs,ys,us,s1,r1,hl,hn,ry,h3,h4,hyi⟩
 by_cases hlt:i<ds.length
 ·have hd:ds.drop i=ds[i] :: ds.drop (i+1):=td hlt
  rw [hd] at h3;obtain⟨ρ1,h5,h3⟩:=gd.mp h3;obtain⟨t,h6,h3⟩:=gd.mp h3;obtain⟨sb,no1⟩:=fr ρ _ _ h5;refine .inr ⟨itd.go i F' H' s1 r1.fh hlt,fun x H'' y=>?_⟩;obtain⟨F2,g2,r2⟩:=itd.yld i ds[i] F' H' x H'' s1 r1.fh (by simp [hlt]) y;refine⟨F1,H1,F2,wc cap ρ,ds[i], ρ1,r1.grow g2,r2,h5,fun σ2 r3=>⟨F1,H1,F2, ρ1,t,r3,h6,fun F3 H3 g3=>?_⟩⟩;have r4:=r3.grow g3;have hl2:=g2.hh.lst _ _ hl;have hn2:=q2o g2 hn hl;have hl3:=g3.hh.lst _ _ hl2;have hn3:=q2o g3 hn2 hl2;cases t with
  | false=>
   rw [mn mf] at h3;exact qti ⟨ds.length-(i+1),by omega,rfl,hlt,F3,xs,ys,us,(s1.trans g2.ff).trans g3.ff,r4.weak sb,hl3,hn3,ry.mono (g2.ff.trans g3.ff),h3,h4,Nat.le_succ_of_le hyi⟩
  | true=>
   rw [mi rfl] at h3;obtain⟨yd,h7,h3⟩:=gd.mp h3;obtain⟨us',h8,h9⟩:=m8.mp h3;refine qtj ⟨F1,H1,F3, ρ1,yd,r4,h7,fun v F4 H4 g4 r5=>?_⟩;have hl4:=g4.hh.lst _ _ hl3;have hn4:=q2o g4 hn3 hl3;have ss:Same F' F4:=(g2.ff.trans g3.ff).trans g4.ff;refine⟨xs,hl4,q9c (by have:=ry.length;omega),ds.length-(i+1),by omega,rfl,hlt,F4,xs++[v],ys++[yd],us',(s1.trans ss),?_,qq,hn4,(ry.mono ss).append (.cons r5 .nil),h8,?_,?_⟩
   ·exact((r4.grow g4).weak sb).other (y3 cap ρ) hn4 hp (.inr ⟨_,hl4⟩)
   ·rw [my,List.singleton_append,h9];exact h4
   ·rw [pk,g44];omega
 ·have e:i=ds.length:=by omega
  subst e;rw [g5m] at h3;cases h3;rw [g30] at h4;subst h4;have gg:Grow F1 H1 F' H':=r1.g;exact .inl ⟨itd.stop _ F' H' s1 r1.fh (gw _),q p xs F' H' (g1.trans gg) hn (g1.hh.free hp) hl ry⟩
variable{N':List Str}{scope:Scope}{cap:List (Option Nat)}{tg iter elt:Expr}{ifs:List Expr}{it:FA}{b:FB}{c:FT}{f:FE}{pos:Pos}
end
theorem qb9{cap:List (Option Nat)}{ρ : Rho}{i:Nat}(h:cap[i]? = some none): (wc cap ρ)[i]? = some none:=by
 unfold wc;rw [mv,h];rfl
theorem qel{ρ ρ':Rho}{i:Nat}{b:Option B}(s:Sub ρ ρ')(h : ρ[i]? = some none): Sub ρ (ρ'.set i b):=
 ⟨by rw [g05];exact s.len,fun j c e=>by
  by_cases q:j=i
  ·subst q;rw [h] at e;cases e
  ·rw [m5 (ng q)];exact s.sub j c e⟩
theorem q4t{ρ : Rho}{i:Nat}{d:D}(h:xn ρ): xn (ρ.set i (some (.fz d))):=fun j ds e=>by
 by_cases q:j=i
 ·subst q
  obtain⟨z,_⟩:=qu e;cases z;exact⟨d,rfl⟩
 ·rw [m5 (ng q)] at e;exact h j ds e
theorem Sub.refl(ρ : Rho): Sub ρ ρ :=⟨rfl,fun _ _ h=>h⟩
theorem z9{cap:List (Option Nat)}{i:Nat}(h:cap[i]? = some none): q7g (bN i) cap:=fun ρ d ρ' e=>by
 cases e;exact⟨qel (.refl _) (qb9 h),q4t (y3 cap ρ)⟩
def q7h(bs:FBs)(cap:List (Option Nat)): Prop:=∀ ρ ds ρ1 ρ',Sub (wc cap ρ) ρ1->xn ρ1->bs ds ρ1=some ρ'->Sub (wc cap ρ) ρ'/\xn ρ'
theorem q7i{cap:List (Option Nat)}: q7h yt cap:=fun ρ ds ρ1 ρ' s n e=>by
 unfold yt at e
 split at e
 ·cases e;exact⟨s,n⟩
 ·cases e
theorem q0v{cap:List (Option Nat)}{i:Nat}{bs:FBs}(h:cap[i]? = some none)(t:q7h bs cap): q7h (j5 (bN i) bs) cap:=fun ρ ds ρ1 ρ' s n e=>by
 cases ds with
 | nil=>cases e
 | cons d ds=>exact t ρ ds _ ρ' (qel s (qb9 h)) (q4t n) e
theorem q9f{cap:List (Option Nat)}{n:Nat}{bs:FBs}(t:q7h bs cap): q7g (yu n bs) cap:=fun ρ d ρ' e=>by
 cases d <;> simp only [yu] at e <;> first|(cases e;done)|skip
 split at e
 ·exact t ρ _ _ ρ' (.refl _) (y3 cap ρ) e
 ·cases e
section
variable{X:Cx}{e:Expr}{es:List Expr}{pos:Pos}{f g:FE}{fa:FA}
inductive Ty where
 | int|bool|tuple|list|str|dict
def Ty.name:Ty->String
 | .int=>"int" | .bool=>"bool" | .tuple=>"tuple" | .list=>"list" | .str=>"str" | .dict=>"dict"
def zc:Ty->D->Bool
 | .int,.int _=>true
 | .int,.bl _=>true
 | .bool,.bl _=>true
 | .tuple,.tup _=>true
 | .list,.lst _=>true
 | .str,.str _=>true
 | .dict,.dct _ _=>true
 | .dict,.dtt _ _=>true
 | _,_=>false
theorem qkr{prog:Program}{w:World}{A:Around}{E:Value->Shared->Prop}{s:Shared}{Q:Value->Shared->Prop}{K:Frag}{T:String}{b:Bool}(hk:K.In s.heap)(h:∀tk,Q (.bool b) {s with toks:=tk})(hT:PySem.W.kitOne K (.type "NoneType") (.type T)=some b):
  wpAny (model prog w) A (call (.builtin "isinstance") [.none,.type T]) Q E s:=g60 PySem.W.kitx_none hk True.intro hT (fun z=>nomatch z) h
theorem qks(T:Ty): jt X (.builtin "isinstance") (fun xs H Q=>∃x F d,xs=[x,.ty T.name]/\Same F H/\Rep X.K F d x/\Q (.bl (zc T d)) H):=by
 intro pins s σ H xs us Q I r h;obtain⟨x,F,d,rfl,fh,rd,q⟩:=h;obtain⟨u,w',rfl,rx,rt⟩:=r.two;obtain rfl:w'=Value.type T.name:=rt;have fin:∀ {b:Bool},Q (.bl b) H->EP X pins σ Q (.bool b) s:=fun q=>⟨.bl _,H,I,rfl,q⟩
 have fin1:∀ {b:Bool},Q (.bl b) H->EP X pins σ Q (.bool b) {s with toks:=s.toks+1}:=fun q=>⟨.bl _,H,I.tok _,rfl,q⟩
 cases d with
 | non=>
  cases rep_non.mp rd;cases rx;cases T <;> exact qkr I.kIn (fun tk=>⟨.bl _,H,I.tok _,rfl,q⟩) (by rfl)
 | bl b=>
  cases rep_bl.mp rd;cases rx;cases T
  ·exact IsiPair.bool_int (fin q)
  ·exact IsiPair.bool_bool (fin q)
  ·exact IsiPair.bool_tuple (fin1 q)
  ·exact IsiPair.bool_list (fin1 q)
  ·exact IsiPair.bool_str (fin1 q)
  ·exact IsiPair.bool_dict (fin1 q)
 | int i=>
  cases rep_int.mp rd;obtain⟨t,rfl⟩:=rx;cases T
  ·exact IsiPair.int_int (fin q)
  ·exact IsiPair.int_bool (fin1 q)
  ·exact IsiPair.int_tuple (fin1 q)
  ·exact IsiPair.int_list (fin1 q)
  ·exact IsiPair.int_str (fin1 q)
  ·exact IsiPair.int_dict (fin1 q)
 | str z=>
  cases rep_str.mp rd;obtain⟨t,rfl⟩:=rx;cases T
  ·exact IsiPair.str_int (fin1 q)
  ·exact IsiPair.str_bool (fin1 q)
  ·exact IsiPair.str_tuple (fin1 q)
  ·exact IsiPair.str_list (fin1 q)
  ·exact IsiPair.str_str (fin q)
  ·exact IsiPair.str_dict (fin1 q)
 | tup ds=>
  obtain⟨a,ys,rfl,h1,h2⟩:=rep_tup.mp rd;cases rx;obtain⟨its,_,⟨o,ho,hc,_⟩,_⟩:=I.tuple (qj fh h1);cases T
  ·exact IsiPair.tuple_int ho hc (fin1 q)
  ·exact IsiPair.tuple_bool ho hc (fin1 q)
  ·exact IsiPair.tuple_tuple ho hc (fin q)
  ·exact IsiPair.tuple_list ho hc (fin1 q)
  ·exact IsiPair.tuple_str ho hc (fin1 q)
  ·exact IsiPair.tuple_dict ho hc (fin1 q)
 | lst ds=>
  obtain⟨a,ys,rfl,h1,h2⟩:=rep_lst.mp rd;cases rx;obtain⟨its,_,⟨o,n,ho,hc,_⟩,_⟩:=I.list (fh.seq h1);cases T
  ·exact IsiPair.list_int ho hc (fin1 q)
  ·exact IsiPair.list_bool ho hc (fin1 q)
  ·exact IsiPair.list_tuple ho hc (fin1 q)
  ·exact IsiPair.list_list ho hc (fin q)
  ·exact IsiPair.list_str ho hc (fin1 q)
  ·exact IsiPair.list_dict ho hc (fin1 q)
 | dct ks vs=>
  obtain⟨a,ys,rfl,h1,h2,h3⟩:=rep_dct.mp rd;cases rx;obtain⟨_,_,vs',_,o,es',ep,ho,hc,_⟩:=(show ObjOk X.prog X.w H s.heap a _ from I.hok a _ (fh _ _ h1))
  cases T
  ·exact IsiPair.dict_int ho hc.1 (fin1 q)
  ·exact IsiPair.dict_bool ho hc.1 (fin1 q)
  ·exact IsiPair.dict_tuple ho hc.1 (fin1 q)
  ·exact IsiPair.dict_list ho hc.1 (fin1 q)
  ·exact IsiPair.dict_str ho hc.1 (fin1 q)
  ·exact IsiPair.dict_dict ho hc.1 (fin q)
 | dtt ks vs=>
  obtain⟨a,xs',ys,ep,rfl,h1,_⟩:=rep_dtt.mp rd;cases rx;obtain⟨⟨o,es',ho,hc,_⟩,_,_⟩:=(show ObjOk X.prog X.w H s.heap a _ from I.hok a _ (fh _ _ h1))
  cases T
  ·exact IsiPair.dict_int ho hc.1 (fin1 q)
  ·exact IsiPair.dict_bool ho hc.1 (fin1 q)
  ·exact IsiPair.dict_tuple ho hc.1 (fin1 q)
  ·exact IsiPair.dict_list ho hc.1 (fin1 q)
  ·exact IsiPair.dict_str ho hc.1 (fin1 q)
  ·exact IsiPair.dict_dict ho hc.1 (fin q)
 | obj x=>
  obtain⟨a,dx,C,rfl,h1,_,c1,c2,c3,c4,c5,c6,c7⟩:=rep_obj.mp rd;cases rx;obtain⟨mA,O,_⟩:=qee I.hok (fh _ _ h1);obtain⟨od,J,_⟩:=O.look;cases T <;> exact g60 (PySem.W.kitx_own c1 c2 c3 c4 c5 c6) I.kIn J (c7 _ (by decide)) (fun z=>nomatch z) (fun tk=>⟨.bl _,H,I.tok _,rfl,q⟩)
 | exc x=>
  obtain⟨a,C,rfl,h1,_,c1,c2⟩:=rep_exc.mp rd;cases rx;obtain⟨J,_,_⟩:=(show ObjOk X.prog X.w H s.heap a _ from I.hok a _ (fh _ _ h1))
  cases T <;> exact g60 (qkj c1) I.kIn J (c2 _ (by decide)) (fun z=>nomatch z) (fun tk=>⟨.bl _,H,I.tok _,rfl,q⟩)
def q8f(T:Ty)(f:FE): FE:=fun ρ =>(f ρ).map fun d=>.bl (zc T d)
theorem qkt:bootBuiltins "isinstance" = some (.builtin "isinstance"):=by decide +kernel
theorem q7j{x:Str}{p px:Pos}(T:Ty)(hg:Gl X "isinstance")(hm:X.mg "isinstance" = none)(hgT:Gl X x)(hmT:X.mg x=none)(hvT:bootBuiltins x=some (.type T.name))(ha:PE X e (tD X.K f))
  (hnT:x≠"__name__" :=by decide) (hdT:(x==("__debug__" : Str))=false:=by decide) (he2:starEach [e,.Name x px] X.env=(false,eval e X.env) :: starEach [.Name x px] X.env:=by rfl) :
  PE X (.Call (.Name "isinstance" p) [e,.Name x px] [] pos) (tD X.K (q8f T f)):=
 j9 (q3l (qks T) hg hm qkt (wy ha (wy (qn9 (v:=.ty T.name) hgT hmT hvT rfl hnT hdT) q1y) he2) (by decide) (by decide) he2 rfl) fun σ H Q ⟨F0,H0,F, ρ,d,r,hf,q⟩=>by
  obtain⟨d',h1,h2⟩:=m8.mp hf;subst h2;exact⟨F0,H0,F, ρ,d',r,h1,fun v F' H' g' r'=>⟨v,F',d',rfl,g'.fh,r',q _ F' H' g' (rep_bl.mpr rfl)⟩⟩
def xb:List D->Option (List Int)
 | []=>some []
 | .int i :: r=>(xb r).map fun is=>i :: is
 | _ :: _=>none
def q24:List D->Option (List Bool)
 | []=>some []
 | .bl i :: r=>(q24 r).map fun is=>i :: is
 | _ :: _=>none
theorem q7k:∀ {ds:List D} {ns:List Int},xb ds=some ns->ds=ns.map D.int
 | [],ns,h=>by cases h;rfl
 | d :: r,ns,h=>by
  cases d <;> simp only [xb] at h <;> first|(cases h;done)|skip
  obtain⟨is,h1,h2⟩:=m8.mp h;subst h2;rw [q7k h1];rfl
omit [Lam] in
theorem y4:∀(ns:List Int),xb (ns.map D.int)=some ns
 | []=>rfl
 | n :: r=>by simp only [gj,xb,y4 r,p9]
theorem q2v:∀ {ds:List D} {bs:List Bool},q24 ds=some bs->ds=bs.map D.bl
 | [],ns,h=>by cases h;rfl
 | d :: r,ns,h=>by
  cases d <;> simp only [q24] at h <;> first|(cases h;done)|skip
  obtain⟨is,h1,h2⟩:=m8.mp h;subst h2;rw [q2v h1];rfl
omit [Lam] in
theorem q3n:∀(ns:List Bool),q24 (ns.map D.bl)=some ns
 | []=>rfl
 | n :: r=>by simp only [gj,q24,q3n r,p9]
theorem RepL.bools{K:Frag}{H:Hp}: ∀ {bs:List Bool} {xs:List V},RepL K H (bs.map D.bl) xs->xs=bs.map V.bl
 | [],xs,h=>h.nil_inv
 | b :: bs,xs,h=>by
  obtain⟨x,r,rfl,h1,h2⟩:=h.cons_inv;rw [rep_bl.mp h1,RepL.bools h2];rfl
def o1L(z:List D->Option D): List D->Option D
 | [.lst ds]=>z ds
 | _=>none
theorem q6f{z:List D->Option D}{es:List D}{d:D}(h:o1L z es=some d): ∃ds,es=[.lst ds]/\z ds=some d:=by
 unfold o1L at h
 split at h
 ·exact⟨_,rfl,h⟩
 ·cases h
theorem rep1{K:Frag}{F:Hp}{d:D}{xs:List V}(h:RepL K F [d] xs): ∃x,xs=[x]/\Rep K F d x:=by
 obtain⟨x,r,rfl,h1,h2⟩:=h.cons_inv;cases h2.nil_inv;exact⟨x,rfl,h1⟩
abbrev qba:List D->Option D:=o1L fun ds=>(xb ds).map fun ns=>.int ns.sum
abbrev q8g:List D->Option D:=o1L fun ds=>(q24 ds).map fun bs=>.bl (bs.all id)
abbrev qfo:List D->Option D:=o1L fun ds=>(q24 ds).map fun bs=>.bl (bs.any id)
theorem qi6(hc:X.calm=true): jt X (.builtin "sum") (rC X.K qba):=by
 intro pins s σ H xs us Q I r h;obtain⟨F,ds,d,fh,rl,ho,q⟩:=h;obtain⟨es,rfl,h1⟩:=q6f ho;obtain⟨ns,h2,h3⟩:=m8.mp h1;subst h3;cases q7k h2;obtain⟨x,rfl,rx⟩:=rep1 rl;obtain⟨u,rfl,ru⟩:=r.one;obtain⟨a,ys,rfl,k1,k2⟩:=rep_lst.mp rx;cases ru;cases RepL.ints.mp k2;obtain⟨its,rv,pl,_⟩:=I.list (fh.seq k1);have hi:=intsAre_of rv;obtain⟨zs,hz⟩:=hi.allInts.items;have hl:s.heap.IsList a (intItems zs):=hz ▸ pl.isList;refine sum_intListG (I.ok.hd hc) hl fun h' tk t' hk=>?_;have e1:ns=zs.toList.map (·.1):=by
  rw [<- nums_intItems, <- hz];exact(show numsOf its.toArray.toList=ns from hi.numsOf).symm
 have e2:preSum (numAt zs) zs.size=ns.sum:=by
  rw [preSum_eq,ui (by simp),e1]
 rw [e2];exact⟨.int ns.sum,H,I.kept hk,⟨_,rfl⟩,q _ F H (.refl fh) (rep_int.mpr rfl)⟩
theorem q3o:∀ {bs:List Bool} {us:List Value},Vals (bs.map V.bl) us->us=bs.map Value.bool
 | [],us,h=>by cases h;rfl
 | b :: bs,us,h=>by
  rw [gj] at h;cases h with
  | cons r t=>
   cases(show _=Value.bool b from r);rw [q3o t];rfl
theorem qqq(hc:X.calm=true): jt X (.builtin "all") (rC X.K q8g):=by
 intro pins s σ H xs us Q I r h;obtain⟨F,ds,d,fh,rl,ho,q⟩:=h;obtain⟨es,rfl,h1⟩:=q6f ho;obtain⟨bs,h2,h3⟩:=m8.mp h1;subst h3;cases q2v h2;obtain⟨x,rfl,rx⟩:=rep1 rl;obtain⟨u,rfl,ru⟩:=r.one;obtain⟨a,ys,rfl,k1,k2⟩:=rep_lst.mp rx;cases ru;cases k2.bools;obtain⟨its,rv,pl,_⟩:=I.list (fh.seq k1);cases q3o rv;have hlt:a<s.heap.objs.size:=by obtain⟨_,e,_⟩:=pl.isList;exact gv e
 refine call_all_walk (g1g pl.isList ?_);refine⟨s.heap.objs.size,[s.heap.objs.size,a],[s.heap.objs.size],(bs.map Value.bool).toArray.size,_,_,fun i=>(bs[i]?).getD true,rfl,Walks.list (A:=X.A.in1) (I.ok.hd hc) _ a (gz hlt) (bs.map Value.bool).toArray,
  ⟨⟨_,gf _ rfl,rfl,rfl⟩,pl.isList.push _⟩,fun i v s' Q' E' hP hQ=>?_,fun h' tk hk=>?_⟩
 ·have hP':(bs.map Value.bool)[i]? = some v:=by simpa using hP
  rw [mv] at hP';cases z:bs[i]? with
  | none=>rw [z] at hP';cases hP'
  | some b=>
   rw [z] at hP';cases hP';simp only [z,Option.getD_some] at hQ;exact g0x hQ
 ·have e:((List.range (bs.map Value.bool).toArray.size).all fun i=>(bs[i]?).getD true)=bs.all id:=by
   rw [gr,mj];exact LSm.range_all bs
  rw [e];exact⟨.bl _,H,I.kept (LSm.kept_iter hk),rfl,q _ F H (.refl fh) (rep_bl.mpr rfl)⟩
theorem qqr(hc:X.calm=true): jt X (.builtin "any") (rC X.K qfo):=by
 intro pins s σ H xs us Q I r h;obtain⟨F,ds,d,fh,rl,ho,q⟩:=h;obtain⟨es,rfl,h1⟩:=q6f ho;obtain⟨bs,h2,h3⟩:=m8.mp h1;subst h3;cases q2v h2;obtain⟨x,rfl,rx⟩:=rep1 rl;obtain⟨u,rfl,ru⟩:=r.one;obtain⟨a,ys,rfl,k1,k2⟩:=rep_lst.mp rx;cases ru;cases k2.bools;obtain⟨its,rv,pl,_⟩:=I.list (fh.seq k1);cases q3o rv;have hlt:a<s.heap.objs.size:=by obtain⟨_,e,_⟩:=pl.isList;exact gv e
 refine call_any_walk (g1g pl.isList ?_);refine⟨s.heap.objs.size,[s.heap.objs.size,a],[s.heap.objs.size],(bs.map Value.bool).toArray.size,_,_,fun i=>(bs[i]?).getD false,rfl,Walks.list (A:=X.A.in1) (I.ok.hd hc) _ a (gz hlt) (bs.map Value.bool).toArray,
  ⟨⟨_,gf _ rfl,rfl,rfl⟩,pl.isList.push _⟩,fun i v s' Q' E' hP hQ=>?_,fun h' tk hk=>?_⟩
 ·have hP':(bs.map Value.bool)[i]? = some v:=by simpa using hP
  rw [mv] at hP';cases z:bs[i]? with
  | none=>rw [z] at hP';cases hP'
  | some b=>
   rw [z] at hP';cases hP';simp only [z,Option.getD_some] at hQ;exact g0x hQ
 ·have e:((List.range (bs.map Value.bool).toArray.size).any fun i=>(bs[i]?).getD false)=bs.any id:=by
   rw [gr,mj];exact LSm.range_any bs
  rw [e];exact⟨.bl _,H,I.kept (LSm.kept_iter hk),rfl,q _ F H (.refl fh) (rep_bl.mpr rfl)⟩
theorem boot_sum:bootBuiltins "sum" = some (.builtin "sum"):=by decide +kernel
theorem boot_all:bootBuiltins "all" = some (.builtin "all"):=by decide +kernel
theorem boot_any:bootBuiltins "any" = some (.builtin "any"):=by decide +kernel
theorem boot_min:bootBuiltins "min" = some (.builtin "min"):=by decide +kernel
theorem boot_max:bootBuiltins "max" = some (.builtin "max"):=by decide +kernel
theorem xa:bootBuiltins "len" = some (.builtin "len"):=by decide +kernel
theorem boot_tuple:bootBuiltins "tuple" = some (.type "tuple"):=by decide +kernel
theorem boot_int:bootBuiltins "int" = some (.type "int"):=by decide +kernel
theorem boot_bool:bootBuiltins "bool" = some (.type "bool"):=by decide +kernel
theorem boot_dict:bootBuiltins "dict" = some (.type "dict"):=by decide +kernel
def o2I(z:Int->Int->Int): List D->Option D
 | [.int i,.int j]=>some (.int (z i j))
 | _=>none
theorem qku{z:Int->Int->Int}{es:List D}{d:D}(h:o2I z es=some d): ∃i j,es=[.int i,.int j]/\d=.int (z i j):=by
 unfold o2I at h
 split at h
 ·cases h;exact⟨_,_,rfl,rfl⟩
 ·cases h
theorem qso{K:Frag}{F:Hp}{i j:Int}{xs:List V}(h:RepL K F [.int i,.int j] xs): xs=[.int i,.int j]:=RepL.ints (ns:=[i,j]).mp h
abbrev oMax:=o2I fun i j=>if j>i then j else i
theorem qqs(hc:X.calm=true): jt X (.builtin "max") (rC X.K oMax):=q4o (qhh hc) fun xs H Q ⟨F,ds,d,fh,rl,ho,q⟩=>by
 obtain⟨i,j,rfl,rfl⟩:=qku ho;exact⟨i,j,qso rl,q _ F H (.refl fh) (rep_int.mpr rfl)⟩
def yo:List D->Option D
 | [.tup ds]=>some (.int ds.length)
 | [.lst ds]=>some (.int ds.length)
 | [.str x]=>if x.length<=lim then some (.int x.length) else none
 | _=>none
theorem yw:jt X (.builtin "len") (rC X.K yo):=q4o qk7 fun xs H Q ⟨F,ds,d,fh,rl,ho,q⟩=>by
 unfold yo at ho
 split at ho
 ·cases ho
  obtain⟨x,rfl,rx⟩:=rep1 rl;obtain⟨a,ys,rfl,k1,k2⟩:=rep_tup.mp rx;exact⟨_,ys.length,rfl,.inr ⟨ys,qj fh k1,rfl⟩,by rw [<- k2.length];exact q _ F H (.refl fh) (rep_int.mpr rfl)⟩
 ·cases ho
  obtain⟨x,rfl,rx⟩:=rep1 rl;obtain⟨a,ys,rfl,k1,k2⟩:=rep_lst.mp rx;exact⟨_,ys.length,rfl,.inl ⟨ys,fh.seq k1,rfl⟩,by rw [<- k2.length];exact q _ F H (.refl fh) (rep_int.mpr rfl)⟩
 ·split at ho
  ·rename_i z
   cases ho;obtain⟨x,rfl,rx⟩:=rep1 rl;cases rep_str.mp rx;exact⟨_,_,rfl,⟨jd z,rfl⟩,q _ F H (.refl fh) (rep_int.mpr rfl)⟩
  ·cases ho
 ·cases ho
def je:List D->Option D
 | [.tup ds]=>some (.tup ds)
 | [.lst ds]=>some (.tup ds)
 | _=>none
theorem xj:jt X (.type "tuple") (rC X.K je):=q4o qab fun xs H Q ⟨F,ds,d,fh,rl,ho,q⟩=>by
 unfold je at ho
 split at ho
 ·cases ho
  obtain⟨x,rfl,rx⟩:=rep1 rl;obtain⟨a,ys,rfl,k1,k2⟩:=rep_tup.mp rx;exact⟨a,ys,rfl,.inr ⟨qj fh k1,q _ F H (.refl fh) rx⟩⟩
 ·cases ho
  obtain⟨x,rfl,rx⟩:=rep1 rl;obtain⟨a,ys,rfl,k1,k2⟩:=rep_lst.mp rx;refine⟨a,ys,rfl,.inl ⟨fh.seq k1,fun l hl=>?_⟩⟩;have gn:Grow F H (upd F l (.tup ys)) (upd H l (.tup ys)):=Grow.new fh hl;exact q _ _ _ gn (rep_tup.mpr ⟨l,ys,rfl,SqT.of qq,k2.mono gn.ff⟩)
 ·cases ho
def rCL(K:Frag)(op:List D->Option (List D)): List V->Hp->VK->Prop:=fun xs H Q=>∃F ds es,Same F H/\RepL K F ds xs/\op ds=some es/\∀a ys F' H',Grow F H F' H'->F' a=none->H a=none->H' a=some (.lst ys)->RepL K F' es ys->Q (.ref a) H'
def q2p(op:List D->Option (List D))(fa:FA): FA:=fun ρ =>(fa ρ).bind op
theorem qns{K:Frag}{op:List D->Option (List D)}{σ : St}{H:Hp}{Q:VK}(h:tL K (q2p op fa) σ H Q): tDA K fa σ H fun vs H1=>rCL K op vs H1 Q:=by
 obtain⟨F0,H0,F, ρ,d,r,hf,q⟩:=h;obtain⟨ds,h1,h2⟩:=gd.mp hf;exact⟨F0,H0,F, ρ,ds,r,h1,fun vs F1 H1 g1 r1=>⟨F1,ds,d,g1.fh,r1,h2,fun a ys F2 H2 g2 k1 k2 k3 k4=>q a ys F2 H2 (g1.trans g2) k1 (g1.hh.free k2) k3 k4⟩⟩
theorem qkv{x:Str}{p:Pos}{id:String}{op:List D->Option (List D)}(hc:jt X (.builtin id) (rCL X.K op))(hg:Gl X x)(hm:X.mg x=none)(hv:bootBuiltins x=some (.builtin id))(ha:PA X (e :: es) (tDA X.K fa))
  (hn:x≠"__name__" :=by decide) (hdb:(x==("__debug__" : Str))=false:=by decide)
  (he:starEach (e :: es) X.env=(false,eval e X.env) :: starEach es X.env:=by rfl) (hpl:(backTo pos (starEach es X.env)).any (·.1)=false:=by rfl):PE X (.Call (.Name x p) (e :: es) [] pos) (tL X.K (q2p op fa)):=
 j9 (q3l hc hg hm hv ha hn hdb he hpl) fun σ H Q h=>qns h
def qmy:List D->Option (List D)
 | [.tup ds]=>some ds
 | [.lst ds]=>some ds
 | _=>none
theorem qem{K:Frag}{H:Hp}{ds:List D}{xs:List V}{i:Int}{d:D}(h:RepL K H ds xs)(e:atI ds i=some d): ∃x,atI xs i=some x/\Rep K H d x:=by
 unfold atI at e ⊢;rw [<- h.length];cases q:ixN ds.length i with
 | none=>rw [q] at e;cases e
 | some j=>
  rw [q] at e;exact h.get e
def oIx:D->D->Option D
 | .tup ds,.int i=>atI ds i
 | .lst ds,.int i=>atI ds i
 | _,_=>none
theorem jl{a b:Expr}(ha:PE X a (tD X.K f))(hb:PE X b (tD X.K g))(hs:q8d b:=by intro _ _;rfl): PE X (.Subscript a b pos) (tD X.K (eOp oIx f g)):=j9 (qms qqc ha hb hs) fun σ H Q h=>by
 have h':=two h;obtain⟨F0,H0,F, ρ,d,r,hf,q⟩:=h';refine⟨F0,H0,F, ρ,d,r,hf,fun v F1 H1 g1 r1=>?_⟩;obtain⟨F0',H0',F', ρ',d',r',hf',q'⟩:=q v F1 H1 g1 r1;refine⟨F0',H0',F', ρ',d',r',hf',fun v2 F2 H2 g2 r2=>?_⟩;obtain⟨F3,d1,d2,d3,fh,k1,k2,k3,k4⟩:=q' v2 F2 H2 g2 r2;unfold oIx at k3
 split at k3
 ·obtain⟨p,ys,rfl,z1,z2⟩:=rep_tup.mp k1
  obtain⟨y,z3,z4⟩:=qem z2 k3;exact .inr (.inl ⟨p,ys,_,y,rfl,rep_int.mp k2,qj fh z1,z3,k4 y F3 H2 (.refl fh) z4⟩)
 ·obtain⟨p,ys,rfl,z1,z2⟩:=rep_lst.mp k1
  obtain⟨y,z3,z4⟩:=qem z2 k3;exact .inl ⟨p,ys,_,y,rfl,rep_int.mp k2,fh.seq z1,z3,k4 y F3 H2 (.refl fh) z4⟩
 ·cases k3
def eUn(o:D->Option D)(f:FE): FE:=fun ρ =>(f ρ).bind o
end
section
variable{prog:Program}{w:World}{A:Around}{E:Value->Shared->Prop}{s:Shared}
theorem qac{t sl:Addr}{items:Array Value}{vl vu:Value}{lo hi:Option Int}{Q:Value->Shared->Prop}(ht:IsTup s.heap t items)(hs:s.heap.IsSliceOf sl vl vu .none)
  (pl:IsPart vl lo) (pu:IsPart vu hi) (w1:HT.sIx items.size 0 lo=0) (w2:HT.sIx items.size items.size hi=items.size) (h:Q (.ref t) s) :
  wpAny (model prog w) A (getItem (.ref t) (.ref sl)) Q E s:=by
 obtain⟨os,hos,hcs,hds⟩:=id hs;have hTs:s.TypeIs (.ref sl) "slice" :=⟨os,hos,hcs⟩
 unfold getItem
 try with_reducible refine nh ?_
 first|refine g0 (g9 ?_)|skip
 refine g0 (wpAny_sequenceKey ht.typeIs (by decide) (g0 (u9 (name:=Str.ofString "__getitem__") ht.typeIs g0e
  (p6 g0e ht.typeIs entry_tuple_getitem ?_ (args_tuple_getitem _ _)))))
 show wpAny _ _ (Builtin.Tuple.tupleItemsOf (.ref t) >>= _) _ _ s;refine g0 (tupleItemsOf_ ht (g0 (g1a hTs ?_)));rw [mi (by decide)];refine g0 (HT.sliceApplied_gen hs pl pu ?_);rw [w1,w2];show wpAny _ _ (if(((0:Nat):Int)==0&&(1:Int)==1&&(items.size-0)==items.size)=true then _ else _) _ _ s;rw [mi (by simp)];refine g0 ?_;unfold Builtin.Tuple.tupleIsExact;refine g0 (g1a ht.typeIs (g9 ?_))
 first
  | rw [mi (by decide)]
  | skip
 first
  | exact g0 (g02 (g0 (g9 (g9 ⟨_,rfl,g9 h⟩))))
  | exact g0 (g02 (g9 ⟨_,rfl,g9 h⟩))
  | exact g0 (g0 (g02 (g9 (g9 ⟨_,rfl,g9 h⟩))))
end
section
variable{X:Cx}{e:Expr}{es:List Expr}{pos:Pos}{f g:FE}{fa:FA}
def qtn(K:Frag): V->Option Int->Option Int->Hp->VK->Prop:=fun x lo hi H Q=>∃a xs,x=.ref a/\SqT K H a xs/\HT.sIx xs.length 0 lo=0/\HT.sIx xs.length xs.length hi=xs.length/\Q (.ref a) H
theorem qkw:SlR X (qtn X.K):=by
 intro pins s σ H x v vl vu lo hi sl Q I rx hs pl pu h;obtain⟨a,xs,rfl,hx,w1,w2,q⟩:=h;cases rx;obtain⟨its,r,ht,hz⟩:=I.tuple hx;have hlen:its.toArray.size=xs.length:=by rw [gr];exact r.length.symm
 exact⟨"tuple",_,g0e.lookup,ht.typeIs,qac ht hs pl pu (by rw [hlen];exact w1) (by rw [hlen];exact w2) ⟨.ref a,H,I,rfl,q⟩⟩
def cutD(ds:List D)(lo hi:Option Int): List D:=(ds.drop (HT.sIx ds.length 0 lo)).take (HT.sIx ds.length ds.length hi-HT.sIx ds.length 0 lo)
def oSl:D->Option Int->Option Int->Option D
 | .tup ds,lo,hi=>some (.tup (cutD ds lo hi))
 | .lst ds,lo,hi=>some (.lst (cutD ds lo hi))
 | _,_,_=>none
abbrev FO:=Rho->Option (Option Int)
def oNo:FO:=fun _=>some none
def oAt(f:FE): FO:=fun ρ =>(f ρ).bind fun d=>match d with
 | .int i=>some (some i)
 | _=>none
def tDO(K:Frag)(f:FO): TO:=fun σ H Q=>∃F0 H0 F ρ i,RS K F0 H0 F H σ ρ /\ f ρ = some i/\∀F' H',Grow F H F' H'->Q i H'
theorem qi7{o:Option Expr}{t t':TO}(h:PO X o t)(i:∀ σ H Q,t' σ H Q->t σ H Q): PO X o t':=fun pins s σ H Q I q=>h pins s σ H Q I (i σ H Q q)
theorem q3p:PO X none (tDO X.K oNo):=qi7 qni fun σ H Q ⟨F0,H0,F, ρ,i,r,hf,q⟩=>by cases hf;exact q F H (.refl r.fh)
theorem q0n(h:PE X e (tD X.K f)): PO X (some e) (tDO X.K (oAt f)):=qi7 (qnj h) fun σ H Q ⟨F0,H0,F, ρ,i,r,hf,q⟩=>by
 obtain⟨d,h1,h2⟩:=gd.mp hf;cases d <;> simp only at h2 <;> first|(cases h2;done)|skip
 cases h2;exact⟨F0,H0,F, ρ,_,r,h1,fun v F' H' g' r'=>⟨_,rep_int.mp r',q F' H' g'⟩⟩
def eSl(f:FE)(lo hi:FO): FE:=fun ρ =>(f ρ).bind fun d=>(lo ρ).bind fun l=>(hi ρ).bind fun h=>oSl d l h
theorem q25{a:Expr}{lo hi:Option Expr}{fl fh:FO}{p2:Pos}(ha:PE X a (tD X.K f))(hl:PO X lo (tDO X.K fl))(hh:PO X hi (tDO X.K fh)): PE X (.Subscript a (.Slice lo hi none p2) pos) (tD X.K (eSl f fl fh)):=
 j9 (qka (sl_list.or (sl_tup.or qkw)) ha hl hh) fun σ H Q ⟨F0,H0,F, ρ,d,r,hf,q⟩=>by
  obtain⟨x,h1,hf⟩:=gd.mp hf;obtain⟨l,h2,hf⟩:=gd.mp hf;obtain⟨u,h3,h4⟩:=gd.mp hf;refine⟨F0,H0,F, ρ,x,r,h1,fun v F1 H1 g1 r1=>⟨F0,H0,F1, ρ,l,r.grow g1,h2,fun F2 H2 g2=>⟨F0,H0,F2, ρ,u,(r.grow g1).grow g2,h3,fun F3 H3 g3=>?_⟩⟩⟩;have gg:=g1.trans (g2.trans g3);have r3:Rep X.K F3 x v:=r1.mono (g2.ff.trans g3.ff);cases x with
  | tup ds=>
   cases h4;obtain⟨p,xs,rfl,k1,k2⟩:=rep_tup.mp r3;have hlen:=k2.length
   by_cases wh:HT.sIx xs.length 0 l=0/\HT.sIx xs.length xs.length u=xs.length
   ·refine .inr (.inr ⟨p,xs,rfl,qj g3.fh k1,wh.1,wh.2,q _ F3 H3 gg ?_⟩)
    have e:cutD ds l u=ds:=by
     unfold cutD;rw [hlen,wh.1,wh.2,g4n,Nat.sub_zero, <- hlen,g5n]
    rw [e];exact r3
   ·refine .inr (.inl ⟨p,xs,rfl,qj g3.fh k1,wh,fun p' hp=>?_⟩)
    have gn:Grow F3 H3 (upd F3 p' (.tup (q1b xs l u))) (upd H3 p' (.tup (q1b xs l u))):=Grow.new g3.fh hp;refine q _ _ _ (gg.trans gn) (rep_tup.mpr ⟨p',_,rfl,SqT.of qq,?_⟩);unfold cutD q1b;rw [hlen];exact((k2.mono gn.ff).drop _).take _
  | lst ds=>
   cases h4;obtain⟨p,xs,rfl,k1,k2⟩:=rep_lst.mp r3;have hlen:=k2.length;refine .inl ⟨p,xs,rfl,g3.fh.seq k1,fun p' hp=>?_⟩;have gn:Grow F3 H3 (upd F3 p' (.lst (q1b xs l u))) (upd H3 p' (.lst (q1b xs l u))):=Grow.new g3.fh hp;refine q _ _ _ (gg.trans gn) (rep_lst.mpr ⟨p',_,rfl,SqL.of qq,?_⟩);unfold cutD q1b;rw [hlen];exact((k2.mono gn.ff).drop _).take _
  | _=>cases h4
def qbb:D->D->Option D
 | .tup xs,.tup ys=>if xs.length+ys.length<=lim then some (.tup (xs++ys)) else none
 | .lst xs,.lst ys=>if xs.length+ys.length<=lim then some (.lst (xs++ys)) else none
 | _,_=>none
theorem qqt:OpR X (binaryOp .Add) (rD X.K qbb):=by
 intro pins s σ H x y v u Q I rx ry h;obtain⟨F,d1,d2,d,fh,r1,r2,ho,q⟩:=h;unfold qbb at ho
 split at ho
 ·rename_i ds es
  split at ho
  ·rename_i hl
   cases ho;obtain⟨a,xs,rfl,k1,k2⟩:=rep_tup.mp r1;obtain⟨b,ys,rfl,k3,k4⟩:=rep_tup.mp r2
   by_cases hd:ds=[]
   ·subst hd
    cases k2.nil_inv;cases rx;cases ry;obtain⟨i1,v1,⟨⟨c1,dd1,dt1,sl1⟩,o1,e1,n1,t1⟩,_⟩:=I.tuple (qj fh k1);obtain⟨i2,v2,⟨⟨c2,dd2,dt2,sl2⟩,o2,e2,n2,t2⟩,_⟩:=I.tuple (qj fh k3);simp only at e1 t1 e2 t2;subst e1 t1 e2 t2;cases v1;exact g5k ⟨_,o1,rfl⟩ ⟨_,o2,rfl⟩ g5l seq_tuple_add g3x g3m (g37 _ _)
     (tuple_addW0 a b #[] i2.toArray n1 n2 dd1 dd2 sl1 sl2 rfl) ⟨o1,o2,⟨.ref b,H,I,rfl,q _ F H (.refl fh) (by simpa using r2)⟩⟩
   ·refine qnk pins s σ H _ _ v u Q I rx ry ⟨a,b,xs,ys,rfl,rfl,qj fh k1,qj fh k3,fun z=>hd ?_,jd (by rw [<- k2.length, <- k4.length];exact hl),fun z=>?_,fun z p hp=>?_⟩
    ·have:=k2.length;rw [z] at this;exact g1i this
    ·have e:es=[]:=by have:=k4.length;rw [z] at this;exact g1i this
     subst e;rw [g30] at q;exact q _ F H (.refl fh) r1
    ·have gn:Grow F H (upd F p (.tup (xs++ys))) (upd H p (.tup (xs++ys))):=Grow.new fh hp
     exact q _ _ _ gn (rep_tup.mpr ⟨p,_,rfl,SqT.of qq,(k2.mono gn.ff).append (k4.mono gn.ff)⟩)
  ·cases ho
 ·rename_i ds es
  split at ho
  ·rename_i hl
   cases ho;obtain⟨a,xs,rfl,k1,k2⟩:=rep_lst.mp r1;obtain⟨b,ys,rfl,k3,k4⟩:=rep_lst.mp r2;cases rx;cases ry;obtain⟨i1,v1,⟨⟨c1,dd1,dt1,sl1⟩,n1,o1,e1,g1,t1⟩,_⟩:=I.list (fh.seq k1);obtain⟨i2,v2,⟨⟨c2,dd2,dt2,sl2⟩,n2,o2,e2,g2,t2⟩,_⟩:=I.list (fh.seq k3);simp only at e1 t1 e2 t2;subst e1 t1 e2 t2;have hz:xs.length+ys.length<=sizeLine:=jd (by rw [<- k2.length, <- k4.length];exact hl);refine g5k ⟨_,o1,rfl⟩ ⟨_,o2,rfl⟩ noFill_list_add seq_list_add PySem.F.slot_list_add PySem.F.entry_list_add (PySem.F.args_list_add_2 _ _)
    (list_addW a b i1.toArray i2.toArray n1 n2 dd1 dd2 sl1 sl2 (by rw [gr,gr, <- v1.length, <- v2.length];exact hz)) ⟨o1,o2,?_⟩
   have ea:i1.toArray++i2.toArray=(i1++i2).toArray:=by simp
   rw [ea];have gn:Grow F H (upd F s.heap.objs.size (.lst (xs++ys))) (upd H s.heap.objs.size (.lst (xs++ys))):=Grow.new fh I.fresh;exact⟨.ref _,_,I.lnew (t':=s.toks) (v1.append v2) (by rw [pk];exact hz),rfl,q _ _ _ gn (rep_lst.mpr ⟨_,_,rfl,SqL.of qq,(k2.mono gn.ff).append (k4.mono gn.ff)⟩)⟩
  ·cases ho
 ·cases ho
abbrev ze:D->D->Option D:=fun x y=>(oAdd x y).or (qbb x y)
theorem zy:OpR X (binaryOp .Add) (rD X.K ze):=qb0 qqh qqt
def flat(d:D): Bool:=(flD d).isSome
def eqF:D->D->Bool
 | .non,.non=>true
 | .bl a,.bl b=>a==b
 | .bl a,.int b=>(if a then 1 else 0)==b
 | .int a,.bl b=>a==(if b then 1 else 0)
 | .int a,.int b=>a==b
 | .str a,.str b=>a==b
 | _,_=>false
def inF(d:D)(ds:List D): Bool:=ds.any fun e=>eqF e d
theorem qaj{K:Frag}{H:Hp}{d e:D}{x y:V}(h1:flat d=true)(h2:flat e=true)(r1:Rep K H d x)(r2:Rep K H e y): eqV x y=eqF d e/\wo x=true/\wo y=true:=by
 cases d <;> first|(cases h1;done)|skip
 all_goals (cases e <;> first|(cases h2;done)|skip)
 all_goals (first|(cases rep_non.mp r1)|(cases rep_bl.mp r1)|(cases rep_int.mp r1)|(cases rep_str.mp r1))
 all_goals (first|(cases rep_non.mp r2)|(cases rep_bl.mp r2)|(cases rep_int.mp r2)|(cases rep_str.mp r2))
 all_goals exact⟨rfl,rfl,rfl⟩
theorem qfp{K:Frag}{H:Hp}{d:D}{x:V}(h1:flat d=true)(r1:Rep K H d x): ∀ {ds:List D} {xs:List V},ds.all flat=true->RepL K H ds xs->inV x xs=inF d ds/\wo x=true/\xs.all wo=true
 | [],xs,_,r=>by cases r.nil_inv;exact⟨rfl,(qaj h1 h1 r1 r1).2.1,rfl⟩
 | e :: ds,xs,h2,r=>by
  obtain⟨y,ys,rfl,k1,k2⟩:=r.cons_inv;rw [g3z,m6] at h2;obtain⟨z1,z2,z3⟩:=qfp h1 r1 h2.2 k2;obtain⟨w1,w2,w3⟩:=qaj h2.1 h1 k1 r1;refine⟨?_,z2,?_⟩
  ·show(eqV y x || inV x ys)=(eqF e d || inF d ds)
   rw [w1,z1]
  ·rw [g3z,w2,z3];rfl
def oIn(neg:Bool): D->D->Option D
 | d,.tup ds=>if flat d&&ds.all flat then some (.bl (if neg then !inF d ds else inF d ds)) else none
 | d,.lst ds=>if flat d&&ds.all flat then some (.bl (if neg then !inF d ds else inF d ds)) else none
 | _,_=>none
theorem qmz{K:Frag}{neg:Bool}{x y:V}{H:Hp}{Q:VK}(h:rD K (oIn neg) x y H Q): rIn K neg x y H Q:=by
 obtain⟨F,d1,d2,d,fh,r1,r2,ho,q⟩:=h;cases d2 <;> simp only [oIn] at ho <;> first|(cases ho;done)|skip
 ·split at ho
  ·rename_i hc
   cases ho;rw [m6] at hc;obtain⟨p,xs,rfl,k1,k2⟩:=rep_tup.mp r2;obtain⟨z1,z2,z3⟩:=qfp hc.1 r1 hc.2 k2;exact⟨p,xs,rfl,.inr (qj fh k1),z2,z3,by rw [z1];exact q _ F H (.refl fh) (rep_bl.mpr rfl)⟩
  ·cases ho
 ·split at ho
  ·rename_i hc
   cases ho;rw [m6] at hc;obtain⟨p,xs,rfl,k1,k2⟩:=rep_lst.mp r2;obtain⟨z1,z2,z3⟩:=qfp hc.1 r1 hc.2 k2;exact⟨p,xs,rfl,.inl (fh.seq k1),z2,z3,by rw [z1];exact q _ F H (.refl fh) (rep_bl.mpr rfl)⟩
  ·cases ho
theorem qsp:OpR X (compareOp .In) (rD X.K (oIn false)):=q0l qhm fun x y H Q h=>qmz h
theorem qbc:OpR X (compareOp .NotIn) (rD X.K (oIn true)):=q0l qav fun x y H Q h=>qmz h
end
mutual
def eqD:D->D->Bool
 | .tup ds,.tup es=>eqL ds es
 | .lst ds,.lst es=>eqL ds es
 | d,e=>eqF d e
def eqL:List D->List D->Bool
 | [],[]=>true
 | d :: ds,e :: es=>eqD d e&&eqL ds es
 | _,_=>false
end
mutual
def okE:D->D->Bool
 | .tup ds,.tup es=>yx ds es
 | .lst ds,.lst es=>yx ds es
 | d,e=>flat d&&flat e
def yx:List D->List D->Bool
 | d :: ds,e :: es=>okE d e&&yx ds es
 | _,_=>true
end
mutual
def yy:D->Nat
 | .tup ds=>y9 ds+1
 | .lst ds=>y9 ds+1
 | _=>0
def y9:List D->Nat
 | []=>0
 | d :: ds=>max (yy d) (y9 ds)
end
def eqJ(ds es:List D)(j:Nat): Bool:=match ds[j]?,es[j]? with
 | some d,some e=>eqD d e
 | _,_=>true
theorem yz:∀(ds es:List D),((List.range (min ds.length es.length)).all (eqJ ds es)&&ds.length==es.length)=eqL ds es
 | [],[]=>by simp [eqL]
 | [],e :: es=>by simp [eqL]
 | d :: ds,[]=>by simp [eqL]
 | d :: ds,e :: es=>by
  have ih:=yz ds es;have e1:min (d :: ds).length (e :: es).length=min ds.length es.length+1:=by simp only [p7];lia
  rw [e1,g2g,g3z,g0i];have e2:(eqJ (d :: ds) (e :: es) ∘ Nat.succ)=eqJ ds es:=by funext j;simp [eqJ]
  have e3:eqJ (d :: ds) (e :: es) 0=eqD d e:=by simp [eqJ]
  have e4:((d :: ds).length==(e :: es).length)=(ds.length==es.length):=by simp
  rw [e2,e3,e4,Bool.and_assoc,ih];simp only [eqL]
theorem qbd{d e:D}(h1:flat d=true)(h2:flat e=true): eqD d e=eqF d e:=by
 cases d <;> first|(cases h1;done)|skip
 all_goals (cases e <;> first|(cases h2;done)|skip)
 all_goals simp only [eqD]
section
variable{X:Cx}{pins:List (Addr×Obj)}{σ : St}{F H:Hp}{s:Shared}
theorem qi8{A:Around}{d e:D}{x y:V}{u v:Value}(h1:flat d=true)(h2:flat e=true)(r1:Rep X.K F d x)(r2:Rep X.K F e y)(q1:RelV x u)(q2:RelV y v): SeqAt.EqAt A s u v (eqD d e):=by
 obtain⟨z1,z2,z3⟩:=qaj h1 h2 r1 r2;rw [qbd h1 h2, <- z1];exact qhk q1 q2 z2 z3
theorem qbe{d e:D}(h:okE d e=true): (∃ds es,d=.tup ds/\e=.tup es/\yx ds es=true)\/(∃ds es,d=.lst ds/\e=.lst es/\yx ds es=true)\/(flat d=true/\flat e=true):=by
 cases d <;> cases e <;> simp only [okE,m6] at h <;> first
  | exact .inl ⟨_,_,rfl,rfl,h⟩
  | exact .inr (.inl ⟨_,_,rfl,rfl,h⟩)
  | exact .inr (.inr h)
theorem qen(I:Inv X pins σ H s)(fh:Same F H): ∀ {d e:D} {x:V},okE d e=true->Rep X.K F d x->Rep X.K F e x->eqD d e=true:=by
 suffices hh:∀n,(∀d e x,sizeOf d<n->okE d e=true->Rep X.K F d x->Rep X.K F e x->eqD d e=true) from fun {d e x}=>hh (sizeOf d+1) d e x (ue _)
 intro n
 induction n with
 | zero=>intro d e x h;exact absurd h (tw _)
 | succ n ih=>
  intro d e x hn ok r1 r2;have seq:∀(ds es:List D) (xs:List V),sizeOf ds<n->yx ds es=true->RepL X.K F ds xs->RepL X.K F es xs->eqL ds es=true:=by
   intro ds
   induction ds with
   | nil=>
    intro es xs _ _ k1 k2;cases k1.nil_inv;cases es with
    | nil=>simp only [eqL]
    | cons e es=>obtain⟨_,_,z,_⟩:=k2.cons_inv;cases z
   | cons d ds ihd=>
    intro es xs hs ho k1 k2;obtain⟨x,r,rfl,a1,a2⟩:=k1.cons_inv;cases es with
    | nil=>cases k2.nil_inv
    | cons e es=>
     obtain⟨x',r',z,b1,b2⟩:=k2.cons_inv;cases z;simp only [yx,m6] at ho;have hs1:sizeOf d<n:=by simp only [g2n] at hs;lia
     have hs2:sizeOf ds<n:=by simp only [g2n] at hs;lia
     simp only [eqL,m6];exact⟨ih d e x hs1 ho.1 a1 b1,ihd es r hs2 ho.2 a2 b2⟩
  rcases qbe ok with⟨ds,es,rfl,rfl,ho⟩|⟨ds,es,rfl,rfl,ho⟩|⟨h1,h2⟩
  ·obtain⟨a,xs,rfl,k1,k2⟩:=rep_tup.mp r1
   obtain⟨b,ys,z,k3,k4⟩:=rep_tup.mp r2;cases z;cases I.tuple_inj (qj fh k1) (qj fh k3);simp only [eqD];exact seq ds es xs (by simp only [D.tup.sizeOf_spec] at hn;lia) ho k2 k4
  ·obtain⟨a,xs,rfl,k1,k2⟩:=rep_lst.mp r1
   obtain⟨b,ys,z,k3,k4⟩:=rep_lst.mp r2;cases z;cases I.list_inj (fh.seq k1) (fh.seq k3);simp only [eqD];exact seq ds es xs (by simp only [D.lst.sizeOf_spec] at hn;lia) ho k2 k4
  ·obtain⟨z1,_⟩:=qaj h1 h2 r1 r2
   rw [qbd h1 h2, <- z1];cases d <;> first|(cases h1;done)|skip
   ·cases rep_non.mp r1;rfl
   ·cases rep_bl.mp r1;simp [eqV]
   ·cases rep_int.mp r1;simp [eqV]
   ·cases rep_str.mp r1;simp [eqV]
theorem qbf (I:Inv X pins σ H s) (fh:Same F H):∀ {d e:D} {x y:V} {u v:Value} (A:Around),okE d e=true->A.units+yy d<cLine->Rep X.K F d x->Rep X.K F e y->RelV x u->RelV y v->SeqAt.EqAt A s u v (eqD d e):=by
 suffices hh:∀n,(∀d e x y u v (A:Around),sizeOf d<n->okE d e=true->A.units+yy d<cLine->Rep X.K F d x->Rep X.K F e y->RelV x u->RelV y v->SeqAt.EqAt A s u v (eqD d e)) from
  fun {d e x y u v} A=>hh (sizeOf d+1) d e x y u v A (ue _)
 intro n
 induction n with
 | zero=>intro d e x y u v A h;exact absurd h (tw _)
 | succ n ih=>
  intro d e x y u v A hn ok hu r1 r2 q1 q2;have seq:∀(ds es:List D) (xs ys:List V) (us vs:List Value) (A:Around),sizeOf ds<n->yx ds es=true->A.units+y9 ds<cLine->RepL X.K F ds xs->RepL X.K F es ys->Vals xs us->Vals ys vs ->
    ∀j (h1:j<us.length) (h2:j<vs.length),SeqAt.EqAt A s us[j] vs[j] (eqJ ds es j):=by
   intro ds
   induction ds with
   | nil=>
    intro es xs ys us vs A _ _ _ k1 _ w1 _ j h1;cases k1.nil_inv;cases w1;exact absurd h1 (tw _)
   | cons d ds ihd=>
    intro es xs ys us vs A hs ho hu k1 k2 w1 w2 j h1 h2;obtain⟨x,r,rfl,a1,a2⟩:=k1.cons_inv;cases w1 with
    | cons p1 p2=>
     cases es with
     | nil=>cases k2.nil_inv;cases w2;exact absurd h2 (tw _)
     | cons e es=>
      obtain⟨y,r',rfl,b1,b2⟩:=k2.cons_inv;cases w2 with
      | cons p3 p4=>
       simp only [yx,m6] at ho;have hs1:sizeOf d<n:=by simp only [g2n] at hs;lia
       have hs2:sizeOf ds<n:=by simp only [g2n] at hs;lia
       simp only [y9] at hu;cases j with
       | zero=>
        have e0:eqJ (d :: ds) (e :: es) 0=eqD d e:=by simp [eqJ]
        rw [e0];exact ih d e x y _ _ A hs1 ho.1 (by lia) a1 b1 p1 p3
       | succ j=>
        have e0:eqJ (d :: ds) (e :: es) (j+1)=eqJ ds es j:=by simp [eqJ]
        rw [e0];exact ihd es r r' _ _ A hs2 ho.2 (by lia) a2 b2 p2 p4 j (by simpa using h1) (by simpa using h2)
  rcases qbe ok with⟨ds,es,rfl,rfl,ho⟩|⟨ds,es,rfl,rfl,ho⟩|⟨h1,h2⟩
  ·have rr:=qen I fh ok r1
   obtain⟨a,xs,rfl,k1,k2⟩:=rep_tup.mp r1;obtain⟨b,ys,rfl,k3,k4⟩:=rep_tup.mp r2;cases q1;cases q2
   by_cases hab:a=b
   ·subst hab
    rw [rr r2];exact g5y _
   ·obtain⟨i1,v1,t1,_⟩:=I.tuple (qj fh k1)
    obtain⟨i2,v2,t2,_⟩:=I.tuple (qj fh k3);simp only [yy] at hu;refine SeqAt.EqAt.of_refs hab ?_;have hq:=seq ds es xs ys i1 i2 A.in1 (by simp only [D.tup.sizeOf_spec] at hn;lia) ho (by show A.units+1+y9 ds<cLine;lia) k2 k4 v1 v2;have:=SeqAt.RcAt.tuples (A:=A) (e:=eqJ ds es) (show s.heap.IsTuple a i1.toArray from t1) (show s.heap.IsTuple b i2.toArray from t2) (by lia) (fun j h1 h2=>by simpa using hq j (by simpa using h1) (by simpa using h2));simp only [gr, <- v1.length, <- v2.length, <- k2.length, <- k4.length,yz] at this
    simpa only [eqD] using this
  ·have rr:=qen I fh ok r1
   obtain⟨a,xs,rfl,k1,k2⟩:=rep_lst.mp r1;obtain⟨b,ys,rfl,k3,k4⟩:=rep_lst.mp r2;cases q1;cases q2
   by_cases hab:a=b
   ·subst hab
    rw [rr r2];exact g5y _
   ·obtain⟨i1,v1,t1,_⟩:=I.list (fh.seq k1)
    obtain⟨i2,v2,t2,_⟩:=I.list (fh.seq k3);simp only [yy] at hu;refine SeqAt.EqAt.of_refs hab ?_;have hq:=seq ds es xs ys i1 i2 A.in1 (by simp only [D.lst.sizeOf_spec] at hn;lia) ho (by show A.units+1+y9 ds<cLine;lia) k2 k4 v1 v2;have hl1:i1.length=ds.length:=by rw [<- v1.length, <- k2.length]
    have hl2:i2.length=es.length:=by rw [<- v2.length, <- k4.length]
    simp only [eqD]
    by_cases hl:ds.length=es.length
    ·have:=SeqAt.RcAt.lists (A:=A) (e:=eqJ ds es) t1.isList t2.isList (by rw [gr,gr,hl1,hl2];exact hl) (by lia) (fun j h1 h2=>by simpa using hq j (by simpa using h1) (by simpa using h2))
     have e1:(List.range i1.toArray.size).all (eqJ ds es)=eqL ds es:=by
      rw [<- yz,gr,hl1, <- hl,g5o];simp
     rw [e1] at this;exact this
    ·have e1:eqL ds es=false:=by rw [<- yz];simp [hl]
     rw [e1];exact SeqAt.RcAt.lists_lengths t1.isList t2.isList (by rw [gr,gr,hl1,hl2];simpa using hl) (by lia)
  ·exact qi8 h1 h2 r1 r2 q1 q2
def qkx:D->D->Option D
 | .tup ds,.tup es=>if yx ds es&&decide (y9 ds<=60) then some (.bl (eqL ds es)) else none
 | .lst ds,.lst es=>if yx ds es&&decide (y9 ds<=60) then some (.bl (eqL ds es)) else none
 | _,_=>none
theorem qqu(hu:X.A.units+64<cLine): OpR X (compareOp .Eq) (rD X.K qkx):=by
 intro pins s σ H x y v u Q I rx ry h;obtain⟨F,d1,d2,d,fh,r1,r2,ho,q⟩:=h;have part:∀ {ds es:List D} {xs ys:List V} {us vs:List Value},yx ds es=true->y9 ds<=60->RepL X.K F ds xs->RepL X.K F es ys->Vals xs us->Vals ys vs ->
   ∀j (h1:j<us.length) (h2:j<vs.length),SeqAt.EqAt X.A.in1 s us[j] vs[j] (eqJ ds es j):=by
  intro ds
  induction ds with
  | nil=>
   intro es xs ys us vs _ _ k1 _ w1 _ j h1;cases k1.nil_inv;cases w1;exact absurd h1 (tw _)
  | cons d ds ihd=>
   intro es xs ys us vs ho hd k1 k2 w1 w2 j h1 h2;obtain⟨x,r,rfl,a1,a2⟩:=k1.cons_inv;cases w1 with
   | cons p1 p2=>
    cases es with
    | nil=>cases k2.nil_inv;cases w2;exact absurd h2 (tw _)
    | cons e es=>
     obtain⟨y,r',rfl,b1,b2⟩:=k2.cons_inv;cases w2 with
     | cons p3 p4=>
      simp only [yx,m6] at ho;simp only [y9] at hd;cases j with
      | zero=>
       have e0:eqJ (d :: ds) (e :: es) 0=eqD d e:=by simp [eqJ]
       rw [e0];exact qbf I fh _ ho.1 (by show X.A.units+1+yy d<cLine;lia) a1 b1 p1 p3
      | succ j=>
       have e0:eqJ (d :: ds) (e :: es) (j+1)=eqJ ds es j:=by simp [eqJ]
       rw [e0];exact ihd ho.2 (by lia) a2 b2 p2 p4 j (by simpa using h1) (by simpa using h2)
 unfold qkx at ho
 split at ho
 ·rename_i ds es
  split at ho
  ·rename_i hc
   cases ho;rw [m6] at hc;obtain⟨a,xs,rfl,k1,k2⟩:=rep_tup.mp r1;obtain⟨b,ys,rfl,k3,k4⟩:=rep_tup.mp r2;cases rx;cases ry;obtain⟨i1,v1,t1,_⟩:=I.tuple (qj fh k1);obtain⟨i2,v2,t2,_⟩:=I.tuple (qj fh k3);have hq:=part hc.1 (g0c hc.2) k2 k4 v1 v2;refine SeqAt.eq_tupleAt (e:=eqJ ds es) (show s.heap.IsTuple a i1.toArray from t1) (show s.heap.IsTuple b i2.toArray from t2) (by lia) (fun j h1 h2=>by simpa using hq j (by simpa using h1) (by simpa using h2)) ?_;simp only [gr, <- v1.length, <- v2.length, <- k2.length, <- k4.length,yz];exact⟨.bl _,H,I,rfl,q _ F H (.refl fh) (rep_bl.mpr rfl)⟩
  ·cases ho
 ·rename_i ds es
  split at ho
  ·rename_i hc
   cases ho;rw [m6] at hc;obtain⟨a,xs,rfl,k1,k2⟩:=rep_lst.mp r1;obtain⟨b,ys,rfl,k3,k4⟩:=rep_lst.mp r2;cases rx;cases ry;obtain⟨i1,v1,t1,_⟩:=I.list (fh.seq k1);obtain⟨i2,v2,t2,_⟩:=I.list (fh.seq k3);have hq:=part hc.1 (g0c hc.2) k2 k4 v1 v2;have hl1:i1.length=ds.length:=by rw [<- v1.length, <- k2.length]
   have hl2:i2.length=es.length:=by rw [<- v2.length, <- k4.length]
   by_cases hl:ds.length=es.length
   ·refine SeqAt.eq_listAt (e:=eqJ ds es) t1.isList t2.isList (by rw [gr,gr,hl1,hl2];exact hl) (by lia) (fun j h1 h2=>by simpa using hq j (by simpa using h1) (by simpa using h2)) ?_
    have e1:(List.range i1.toArray.size).all (eqJ ds es)=eqL ds es:=by
     rw [<- yz,gr,hl1, <- hl,g5o];simp
    rw [e1];exact⟨.bl _,H,I,rfl,q _ F H (.refl fh) (rep_bl.mpr rfl)⟩
   ·have e1:eqL ds es=false:=by rw [<- yz];simp [hl]
    rw [e1] at q;exact SeqAt.eq_list_lengthsAt t1.isList t2.isList (by rw [gr,gr,hl1,hl2];simpa using hl) (by lia) ⟨.bl _,H,I,rfl,q _ F H (.refl fh) (rep_bl.mpr rfl)⟩
  ·cases ho
 ·cases ho
abbrev oEq:D->D->Option D:=fun x y=>(qkn x y).or (qkx x y)
theorem q0w(hu:X.A.units+64<cLine): OpR X (compareOp .Eq) (rD X.K oEq):=qb0 qql (qqu hu)
end
def itN:Bool->String
 | true=>"list_iterator"
 | false=>"tuple_iterator"
def sqN:Bool->String
 | true=>"list"
 | false=>"tuple"
def SI(b:Bool)(h:Heap)(it l:Addr)(k:Nat): Prop:=∃o,h.get? it=some o/\o.cls=.type (itN b)/\o.data=.fields #[.ref l,.int k 0]
def SO(b:Bool)(h:Heap)(l:Addr)(xs:Array Value): Prop:=∃o,h.get? l=some o/\o.cls=.type (sqN b)/\∃n,o.data=.seq xs n
theorem SI.ext{b:Bool}{h h':Heap}{it l c:Addr}{k:Nat}(x:SI b h it l k)(e:Heap.ExtBut c h h')(n:it≠c): SI b h' it l k:=let⟨o,ho,r⟩:=x; ⟨o,e it o n ho,r⟩
theorem SO.ext{b:Bool}{h h':Heap}{l c:Addr}{xs:Array Value}(x:SO b h l xs)(e:Heap.ExtBut c h h')(n:l≠c): SO b h' l xs:=let⟨o,ho,r⟩:=x; ⟨o,e l o n ho,r⟩
theorem SI.keep{b:Bool}{h h':Heap}{it l:Addr}{k:Nat}(x:SI b h it l k)(e:∀o,h.get? it=some o->h'.get? it=some o): SI b h' it l k:=let⟨o,ho,r⟩:=x; ⟨o,e o ho,r⟩
section
variable{prog:Program}{w:World}{A:Around}{E:Value->Shared->Prop}{s:Shared}
theorem q8h{b:Bool}{it l:Addr}{k:Nat}{xs:Array Value}{x:Value}{Q:Value->Shared->Prop}(hi:SI b s.heap it l k)(ho:SO b s.heap l xs)(hx:xs[k]? = some x)
  (h:∀h',SI b h' it l (k+1)->Heap.SameBut it s.heap h'->Q x {s with heap:=h'}):wpAny (model prog w) A (Builtin.SmallTypes.nextOf (.ref it)) Q E s:=by
 cases b with
 | true=>exact wpAny_nextOf_list_item hi ho hx h
 | false=>
  obtain⟨o,e1,e2,e3⟩:=id hi;obtain⟨o2,f1,f2,n,f3⟩:=id ho;have ty:s.TypeIs (.ref it) "tuple_iterator" :=⟨o,e1,e2⟩
  unfold Builtin.SmallTypes.nextOf;refine g0 (u9 (name:=Str.ofString "__next__") ty g1w (p6 g1w ty g4x ?_ (g4o _)));show wpAny _ _ (field (.ref it) 0 >>= _) _ _ s;refine g0 (uw e1 e3 (x:=.ref l) rfl ?_);show wpAny _ _ (if(Value.ref l==Value.none)=true then _ else _) _ _ s;rw [mn (fun z:(Value.ref l==Value.none)=true=>mf z)];show wpAny _ _ (field (.ref it) 1 >>= _) _ _ s;refine g0 (uw e1 e3 (x:=.int k 0) rfl ?_);show wpAny _ _ (seqItems? (.ref l) >>= _) _ _ s;refine g0 (g03 f1 f3 ?_);simp only [g0k,hx];refine g0 (g3j e1 e3 (by simp) (g9 ⟨x,rfl,g9 (h _ ⟨_,g0q _ e1 (Obj.isFreed_of_fields (g3a e3 _)),(Obj.cls_mapFields ..).trans e2,?_⟩ (g08 ..))⟩));rw [g3a e3];simp [rawInt]
theorem qeo{b:Bool}{it l:Addr}{k:Nat}{xs:Array Value}{Q:Value->Shared->Prop}(hh:A.handled=none)(hi:SI b s.heap it l k)(ho:SO b s.heap l xs)(hx:xs[k]? = none)
  (h:∀h' e,Heap.ExtBut it s.heap h'->(∃o,h'.get? e=some o/\o.cls=.type "StopIteration")->E (.ref e) {s with heap:=h'}):wpAny (model prog w) A (Builtin.SmallTypes.nextOf (.ref it)) Q E s:=by
 cases b with
 | true=>exact wpAny_nextOf_list_end hh hi ho hx h
 | false=>
  obtain⟨o,e1,e2,e3⟩:=id hi;obtain⟨o2,f1,f2,n,f3⟩:=id ho;have ty:s.TypeIs (.ref it) "tuple_iterator" :=⟨o,e1,e2⟩
  unfold Builtin.SmallTypes.nextOf;refine g0 (u9 (name:=Str.ofString "__next__") ty g1w (p6 g1w ty g4x ?_ (g4o _)));show wpAny _ _ (field (.ref it) 0 >>= _) _ _ s;refine g0 (uw e1 e3 (x:=.ref l) rfl ?_);show wpAny _ _ (if(Value.ref l==Value.none)=true then _ else _) _ _ s;rw [mn (fun z:(Value.ref l==Value.none)=true=>mf z)];show wpAny _ _ (field (.ref it) 1 >>= _) _ _ s;refine g0 (uw e1 e3 (x:=.int k 0) rfl ?_);show wpAny _ _ (seqItems? (.ref l) >>= _) _ _ s;refine g0 (g03 f1 f3 ?_);simp only [g0k,hx];refine g0 (g02 (g0 (g3j e1 e3 (by simp) ?_)));show wpAny _ _ (newExc (.type "StopIteration") [] >>= _) _ _ _;refine g0 ?_;simp only [newExc,newTuple];refine g0 (pj (g0 (m:=firstArgMember _ _) (g2w (a:=Value.none) (by first|rfl|(simp only [firstArgMember];rfl)) (pj ?_ (by size_fits)))) (by size_fits));simp only [raiseNew];refine g0 (g53 ?_)
  first|rw [show A.in1.handled=none from hh]|rw [hh]
  exact g0 (g9 (wpAny_throw (h _ _ (((g08 ..).extBut.push _).push _) ⟨_,gf _ rfl,rfl⟩)))
structure Z5(z ti to i1 i2:Addr): Prop where
 a1:ti≠z
 a2:to≠z
 a3:i1≠z
 a4:i2≠z
 a5:ti≠to
 a6:ti≠i1
 a7:ti≠i2
 a8:to≠i1
 a9:to≠i2
 a10:i1≠i2
structure Off(l z to i1 i2:Addr): Prop where
 z:l≠z
 o:l≠to
 i:l≠i1
 j:l≠i2
theorem qi9{b1 b2:Bool}{z ti to i1 i2 l1 l2:Addr}{k1 k2:Nat}{xs ys:Array Value}{x y p q:Value}{Q:Value->Shared->Prop}(D:Z5 z ti to i1 i2)(m1:Off l1 z to i1 i2)(m2:Off l2 z to i1 i2)
  (hz:IsZip s.heap z ti to .none) (ht:IsPair s.heap ti (.ref i1) (.ref i2)) (hp:IsPair s.heap to p q)
  (h1:SI b1 s.heap i1 l1 k1) (h2:SI b2 s.heap i2 l2 k2) (o1:SO b1 s.heap l1 xs) (o2:SO b2 s.heap l2 ys) (hx:xs[k1]? = some x) (hy:ys[k2]? = some y)
  (hQ:∀h',IsZip h' z ti to (rawInt s.heap.objs.size)->IsPair h' to x y->SI b1 h' i1 l1 (k1+1)->SI b2 h' i2 l2 (k2+1)->IsPair h' s.heap.objs.size x y->h'.objs.size=s.heap.objs.size+1 ->
   (∀c o,c≠z->c≠to->c≠i1->c≠i2->s.heap.get? c=some o->h'.get? c=some o)->Q (.ref s.heap.objs.size) {s with heap:=h'}) :
  wpAny (model prog w) A (Builtin.«zip.__next__» ⟨[.ref z],[]⟩) (fun fin s'=>∃v,fin=.done (.ret v)/\Q v s') E s:=by
 show wpAny _ _ (field (.ref z) 2 >>= _) _ _ _;refine g0 (uw hz rfl (x:=.bool false) rfl ?_);show wpAny _ _ (field (.ref z) 3 >>= _) _ _ _;refine g0 (uw hz rfl (x:=.ref ti) rfl (g0 (g03 ht rfl ?_)));show wpAny _ _ (Builtin.SmallTypes.ownedTupleIsFree (.ref z) >>= _) _ _ _;refine g0 ?_;unfold Builtin.SmallTypes.ownedTupleIsFree;refine g0 (uw hz rfl (x:=.none) rfl (g9 ?_));simp only [nu];refine g0 (g02 (g0 (uw hz rfl (x:=.ref to) rfl (g0 (uk hz (by simp) fun g1 hz1 u1=>?_)))));have hz1':IsZip g1 z ti to .ellipsis:=hz1;refine g0 ?_;simp only [g5p,List.zipIdx_nil,g2c,g3i];refine g0 (g0 (g54 ?_));show wpAny _ _ (Builtin.SmallTypes.nextOf (.ref i1) >>= _) _ _ _;refine g0 (q8h (h1.ext u1.extBut D.a3) (o1.ext u1.extBut m1.z) hx fun g2 n1 u2=>g9 ?_);have hp2:IsPair g2 to p q:=u2.extBut _ _ D.a8 (u1.extBut _ _ D.a2 hp);refine g0 (g03 hp2 rfl (g0 (g4b hp2 fun g3 hp3 u3=>?_)));have hp3':IsPair g3 to x q:=hp3;refine g0 (g0t (g9 (g0 (g0 (g54 ?_)))));show wpAny _ _ (Builtin.SmallTypes.nextOf (.ref i2) >>= _) _ _ _;refine g0 (q8h (((h2.ext u1.extBut D.a4).ext u2.extBut D.a10.symm).ext u3.extBut D.a9.symm) (((o2.ext u1.extBut m2.z).ext u2.extBut m2.i).ext u3.extBut m2.o) hy fun g4 n2 u4=>g9 ?_);have hp4:IsPair g4 to x q:=u4.extBut _ _ D.a9 hp3';refine g0 (g03 hp4 rfl (g0 (g4b hp4 fun g5 hp5 u5=>?_)));have hp5':IsPair g5 to x y:=hp5;refine g0 (g0t (g9 (g9 (g0 (g03 hp5' rfl (g0 (g4p ?_)))))));have hsz:g5.objs.size=s.heap.objs.size:=by rw [u5.1,u4.1,u3.1,u2.1,u1.1]
 have hz5:IsZip g5 z ti to .ellipsis:=u5.extBut _ _ D.a2.symm (u4.extBut _ _ D.a4.symm (u3.extBut _ _ D.a2.symm (u2.extBut _ _ D.a3.symm hz1')));have kp:∀c o,c≠z->c≠to->c≠i1->c≠i2->s.heap.get? c=some o->g5.get? c=some o:=fun c o c1 c2 c3 c4 e=>u5.extBut _ _ c2 (u4.extBut _ _ c4 (u3.extBut _ _ c2 (u2.extBut _ _ c3 (u1.extBut _ _ c1 e))));have j1:SI b1 g5 i1 l1 (k1+1):=((n1.ext u3.extBut D.a8.symm).ext u4.extBut D.a10).ext u5.extBut D.a8.symm;have j2:SI b2 g5 i2 l2 (k2+1):=n2.ext u5.extBut D.a9.symm;have hzl:z<g5.objs.size:=gv hz5;show wpAny _ _ (Builtin.SmallTypes.ownedTupleHandOut (.ref z) (.ref g5.objs.size) >>= _) _ _ _;refine g0 ?_;unfold Builtin.SmallTypes.ownedTupleHandOut;have hz6:IsZip (g5.push {cls:=.type "tuple",data:=.seq #[x,y]}) z ti to .ellipsis:=gc _ hz5;refine g0 (uk hz6 (by simp) fun g7 hz7 u7=>?_);have hz7':IsZip g7 z ti to (rawInt g5.objs.size):=hz7;refine uk hz7' (by simp) fun g8 hz8 u8=>?_;have hz8':IsZip g8 z ti to (rawInt g5.objs.size):=hz8;have up:∀c o,c≠z->g5.get? c=some o->g8.get? c=some o:=fun c o c1 e=>u8.extBut _ _ c1 (u7.extBut _ _ c1 (gc _ e));have hT:IsPair g8 g5.objs.size x y:=u8.extBut _ _ (tq hzl) (u7.extBut _ _ (tq hzl) (gf _ rfl));have hl8:g8.objs.size=g5.objs.size+1:=by rw [u8.1,u7.1,pf]
 rw [hsz] at hz8' hT hl8;refine g9 ⟨_,rfl,?_⟩;show Q (.ref g5.objs.size) _;rw [hsz];exact hQ g8 hz8' (up _ _ D.a2 hp5') (j1.keep fun o e=>up _ o D.a3 e) (j2.keep fun o e=>up _ o D.a4 e) hT hl8 fun c o c1 c2 c3 c4 e=>up c o c1 (kp c o c1 c2 c3 c4 e)
theorem qky{b1 b2:Bool}{z ti to i1 i2 l1 l2:Addr}{k1 k2:Nat}{xs ys:Array Value}{p q:Value}{Q:Fin->Shared->Prop}(hh:A.handled=none)(D:Z5 z ti to i1 i2)(m1:Off l1 z to i1 i2)(m2:Off l2 z to i1 i2)
  (hz:IsZip s.heap z ti to .none) (ht:IsPair s.heap ti (.ref i1) (.ref i2)) (hp:IsPair s.heap to p q)
  (h1:SI b1 s.heap i1 l1 k1) (h2:SI b2 s.heap i2 l2 k2) (o1:SO b1 s.heap l1 xs) (o2:SO b2 s.heap l2 ys) (hend:xs[k1]? = none\/ys[k2]? = none)
  (hE:∀h' e,(∀c o,c≠z->c≠to->c≠i1->c≠i2->s.heap.get? c=some o->h'.get? c=some o)->(∃o,h'.get? e=some o/\o.cls=.type "StopIteration")->E (.ref e) {s with heap:=h'}) :
  wpAny (model prog w) A (Builtin.«zip.__next__» ⟨[.ref z],[]⟩) Q E s:=by
 show wpAny _ _ (field (.ref z) 2 >>= _) _ _ _;refine g0 (uw hz rfl (x:=.bool false) rfl ?_);show wpAny _ _ (field (.ref z) 3 >>= _) _ _ _;refine g0 (uw hz rfl (x:=.ref ti) rfl (g0 (g03 ht rfl ?_)));show wpAny _ _ (Builtin.SmallTypes.ownedTupleIsFree (.ref z) >>= _) _ _ _;refine g0 ?_;unfold Builtin.SmallTypes.ownedTupleIsFree;refine g0 (uw hz rfl (x:=.none) rfl (g9 ?_));simp only [nu];refine g0 (g02 (g0 (uw hz rfl (x:=.ref to) rfl (g0 (uk hz (by simp) fun g1 hz1 u1=>?_)))));have hz1':IsZip g1 z ti to .ellipsis:=hz1;refine g0 ?_;simp only [g5p,List.zipIdx_nil,g2c,g3i];refine g0 (g0 (g54 ?_));show wpAny _ _ (Builtin.SmallTypes.nextOf (.ref i1) >>= _) _ _ _;cases hx:xs[k1]? with
 | none=>
  refine g0 (qeo hh (h1.ext u1.extBut D.a3) (o1.ext u1.extBut m1.z) hx fun g2 e u2 he=>?_);obtain⟨oe,y1,y2⟩:=he;have hz2:IsZip g2 z ti to .ellipsis:=u2 _ _ D.a3.symm hz1';have ne:e≠z:=fun x=>by subst x;rw [hz2] at y1;cases y1;simp at y2
  exact uk hz2 (by simp) fun g3 _ u3=>hE g3 e (fun c o c1 _ c3 _ x=>u3.extBut _ _ c1 (u2 _ _ c3 (u1.extBut _ _ c1 x))) ⟨oe,u3.extBut _ _ ne y1,y2⟩
 | some x=>
  have hy:ys[k2]? = none:=by rcases hend with h|h;rw [hx] at h;cases h;exact h
  refine g0 (q8h (h1.ext u1.extBut D.a3) (o1.ext u1.extBut m1.z) hx fun g2 n1 u2=>g9 ?_);have hp2:IsPair g2 to p q:=u2.extBut _ _ D.a8 (u1.extBut _ _ D.a2 hp);refine g0 (g03 hp2 rfl (g0 (g4b hp2 fun g3 hp3 u3=>?_)));refine g0 (g0t (g9 (g0 (g0 (g54 ?_)))));show wpAny _ _ (Builtin.SmallTypes.nextOf (.ref i2) >>= _) _ _ _;refine g0 (qeo hh (((h2.ext u1.extBut D.a4).ext u2.extBut D.a10.symm).ext u3.extBut D.a9.symm) (((o2.ext u1.extBut m2.z).ext u2.extBut m2.i).ext u3.extBut m2.o) hy fun g4 e u4 he=>?_);obtain⟨oe,y1,y2⟩:=he;have hz4:IsZip g4 z ti to .ellipsis:=u4 _ _ D.a4.symm (u3.extBut _ _ D.a2.symm (u2.extBut _ _ D.a3.symm hz1'));have ne:e≠z:=fun x=>by subst x;rw [hz4] at y1;cases y1;simp at y2
  exact uk hz4 (by simp) fun g5 _ u5=>hE g5 e (fun c o c1 c2 c3 c4 x=>u5.extBut _ _ c1 (u4 _ _ c4 (u3.extBut _ _ c2 (u2.extBut _ _ c3 (u1.extBut _ _ c1 x))))) ⟨oe,u5.extBut _ _ ne y1,y2⟩
theorem qfq{b1 b2:Bool}{z ti to i1 i2 l1 l2:Addr}{k1 k2:Nat}{xs ys:Array Value}{x y p q:Value}{Q:Option Value->Shared->Prop}(D:Z5 z ti to i1 i2)(m1:Off l1 z to i1 i2)(m2:Off l2 z to i1 i2)
  (hz:IsZip s.heap z ti to .none) (ht:IsPair s.heap ti (.ref i1) (.ref i2)) (hp:IsPair s.heap to p q)
  (h1:SI b1 s.heap i1 l1 k1) (h2:SI b2 s.heap i2 l2 k2) (o1:SO b1 s.heap l1 xs) (o2:SO b2 s.heap l2 ys) (hx:xs[k1]? = some x) (hy:ys[k2]? = some y)
  (hQ:∀h',IsZip h' z ti to (rawInt s.heap.objs.size)->IsPair h' to x y->SI b1 h' i1 l1 (k1+1)->SI b2 h' i2 l2 (k2+1)->IsPair h' s.heap.objs.size x y->h'.objs.size=s.heap.objs.size+1 ->
   (∀c o,c≠z->c≠to->c≠i1->c≠i2->s.heap.get? c=some o->h'.get? c=some o)->Q (some (.ref s.heap.objs.size)) {s with heap:=h'}) :
  wpAny (model prog w) A (pyNext (.ref z)) Q E s:=by
 have ty:s.TypeIs (.ref z) "zip" :=⟨_,hz,rfl⟩
 unfold pyNext;exact g0 (g11 (u9 (name:=Str.ofString "__next__") ty g4c (p6 g4c ty F.entry_zip_next
  (qi9 D m1 m2 hz ht hp h1 h2 o1 o2 hx hy fun h' c1 c2 c3 c4 c5 c6 c7=>g9 (hQ h' c1 c2 c3 c4 c5 c6 c7)) (F.args_zip_next_1 _))))
theorem qad{b1 b2:Bool}{z ti to i1 i2 l1 l2:Addr}{k1 k2:Nat}{xs ys:Array Value}{p q:Value}{Q:Option Value->Shared->Prop}(hh:A.handled=none)(D:Z5 z ti to i1 i2)(m1:Off l1 z to i1 i2)(m2:Off l2 z to i1 i2)
  (hz:IsZip s.heap z ti to .none) (ht:IsPair s.heap ti (.ref i1) (.ref i2)) (hp:IsPair s.heap to p q)
  (h1:SI b1 s.heap i1 l1 k1) (h2:SI b2 s.heap i2 l2 k2) (o1:SO b1 s.heap l1 xs) (o2:SO b2 s.heap l2 ys) (hend:xs[k1]? = none\/ys[k2]? = none)
  (hQ:∀h',(∀c o,c≠z->c≠to->c≠i1->c≠i2->s.heap.get? c=some o->h'.get? c=some o)->Q none {s with heap:=h'}):wpAny (model prog w) A (pyNext (.ref z)) Q E s:=by
 have ty:s.TypeIs (.ref z) "zip" :=⟨_,hz,rfl⟩
 unfold pyNext;refine g0 (g11 (u9 (name:=Str.ofString "__next__") ty g4c (p6 g4c ty F.entry_zip_next
  (qky hh D m1 m2 hz ht hp h1 h2 o1 o2 hend fun h' e hk he=>?_) (F.args_zip_next_1 _))))
 obtain⟨o,y1,y2⟩:=he;exact g0 (g2r (T:="StopIteration") (b:=true) ⟨o,y1,y2⟩ isSubtype_stop (g9 (hQ _ hk)))
theorem q9g{b:Bool}{l:Addr}{xs:Array Value}{Q:Value->Shared->Prop}(h:SO b s.heap l xs)(q:Q (.ref s.heap.objs.size) {s with heap:=s.heap.push {cls:=.type (itN b),data:=.fields #[.ref l,.int 0 0]} }):
  wpAny (model prog w) A (pyIter (.ref l)) Q E s:=by
 cases b with
 | true=>exact g1g h q
 | false=>exact g39 h q
end
def zh1(b1:Bool)(h:Heap)(l1:Addr): Heap:=h.push {cls:=.type (itN b1),data:=.fields #[.ref l1,.int 0 0]}
def zh2(b1 b2:Bool)(h:Heap)(l1 l2:Addr): Heap:=(zh1 b1 h l1).push {cls:=.type (itN b2),data:=.fields #[.ref l2,.int 0 0]}
def zh3(b1 b2:Bool)(h:Heap)(l1 l2:Addr): Heap:=(zh2 b1 b2 h l1 l2).push {cls:=.type "tuple",data:=.seq #[.ref h.objs.size,.ref (zh1 b1 h l1).objs.size]}
def zh4(b1 b2:Bool)(h:Heap)(l1 l2:Addr): Heap:=(zh3 b1 b2 h l1 l2).push {cls:=.type "tuple",data:=.seq #[.none,.none]}
def zh5(b1 b2:Bool)(h:Heap)(l1 l2:Addr): Heap:=(zh4 b1 b2 h l1 l2).push {cls:=.type "zip",data:=.fields #[.none,.bool false,.bool false,.ref (zh2 b1 b2 h l1 l2).objs.size,.ref (zh3 b1 b2 h l1 l2).objs.size]}
theorem SO.push{b:Bool}{h:Heap}{l:Addr}{xs:Array Value}(x:SO b h l xs)(o:Obj): SO b (h.push o) l xs:=let⟨u,e,r⟩:=x; ⟨u,gc _ e,r⟩
theorem qfr(b1 b2:Bool)(l1 l2:Addr)(xs ys:Array Value):
  Meets (Builtin.«zip.__new__» ⟨[.type "zip",.ref l1,.ref l2],[]⟩) (fun _ R s=>SO b1 s.heap l1 xs/\SO b2 s.heap l2 ys/\R (.ok (.ret (.ref (zh4 b1 b2 s.heap l1 l2).objs.size))) {s with heap:=zh5 b1 b2 s.heap l1 l2}):=
 .of_wp fun prog w A R s h=>by
  obtain⟨hp,gg,dd,tk,os⟩:=s;obtain⟨ha,hb,h⟩:=h;have hsub:=sub_zip;have f1:SO b1 (Shared.heap ⟨hp,gg,dd,tk,os⟩) l1 xs:=ha;have f2:SO b2 (Shared.heap ⟨hp.push {cls:=.type (itN b1),data:=.fields #[.ref l1,.int 0 0]},gg,dd,tk,os⟩) l2 ys:=SO.push hb _
  wp_walk using q9g f1,q9g f2
  exact⟨_,rfl,h⟩
section
variable{X:Cx}{pins:List (Addr×Obj)}{σ : St}{H:Hp}{s:Shared}{h':Heap}
theorem q5j{fp:List Addr}{t':Nat}(I:Inv X pins σ H s)(hf:∀b∈fp,wb X pins H b)(k:∀b o,b∉fp->s.heap.get? b=some o->h'.get? b=some o): Inv X pins σ H {s with heap:=h',toks:=t'}:=by
 have nin:∀b u,H b=some u->b∉fp:=fun b u e hb=>by rw [(hf b hb).1] at e;cases e
 refine I.step (g':=s.gens) (d':=s.drawn) (ch:=fp) (fun b hb=>?_) (fun b o _ _ hc e _=>k b o hc e) (fun b o _ _ hc e _=>⟨o.slots,k b o hc e⟩) (fun _ _ _ _ n=>n)
  (fun b o hc e=>⟨o,k b o hc e⟩) (fun _ _ e=>e) (fun _ _ _ e=>e) (fun b ps e=>⟨#[],by rw [e];simp⟩) (fun m hm=>?_) (fun b u e=>?_) I.bare
 ·obtain⟨_,f1,_,f3,f4,f5⟩:=hf b hb
  exact⟨f3,f1,f4,f5⟩
 ·obtain⟨o,es,ep,ho,r⟩:=hm
  exact⟨o,es,ep,k _ o (fun z=>(hf _ z).2.1 rfl) ho,r⟩
 ·refine(I.hok b u e).stay (fun c v hc q=>k c v ?_ q) (fun _ q=>q) fun _ _ q=>q
  rcases hc with z|z
  ·rw [z];exact nin b u e
  ·exact nin c _ z
theorem adopt{p:Addr}{o:HO}(I:Inv X pins σ H s)(f:wb X pins H p)(new:ObjOk X.prog X.w (upd H p o) s.heap p o): Inv X pins σ (upd H p o) s:=by
 have hp:=f.1;obtain⟨_,f1,_,f3,f4,f5⟩:=f;have ne:∀ {b:Addr} {u:HO},H b=some u->upd H p o b=some u:=fun {b u} e=>by rw [qk (jg e hp)];exact e
 refine I.step (h':=s.heap) (g':=s.gens) (t':=s.toks) (d':=s.drawn) (ch:=[p]) (fun b hb=>?_) (fun b o _ _ hc e _=>e) (fun b o _ _ hc e _=>⟨o.slots,e⟩) (fun b o hc e n=>?_)
  (fun b o hc e=>⟨o,e⟩) (fun _ _ e=>ne e) (fun _ _ _ e=>ne e) (fun b ps e=>⟨#[],by rw [ne e];simp⟩) (fun m hm=>hm) (fun b u e=>?_) I.bare
 ·obtain rfl:b=p:=by simpa using hb
  exact⟨f3,f1,f4,f5⟩
 ·rw [qk (fun z=>hc (by simp [z]))];exact n
 ·by_cases hb:b=p
  ·subst hb;rw [qq] at e;cases e;exact new
  ·rw [qk hb] at e
   exact(I.hok b u e).stay (fun c v _ q=>q) (fun c q=>ne q) fun c xs q=>ne q
def Sq:Bool->Frag->Hp->Addr->List V->Prop
 | true=>SqL
 | false=>SqT
theorem q5k{b:Bool}{a:Addr}{xs:List V}(I:Inv X pins σ H s)(h:Sq b X.K H a xs): ∃its:List Value,Vals xs its/\SO b s.heap a its.toArray:=by
 cases b with
 | true=>obtain⟨its,r,⟨o,n,e,c,_,d⟩,_⟩:=I.list h;exact⟨its,r,o,e,c,n,d⟩
 | false=>obtain⟨its,r,⟨o,e,c,n,d⟩,_⟩:=I.tuple h;exact⟨its,r,o,e,c,n,d⟩
theorem qia{b:Bool}{a:Addr}{xs ys:List V}(I:Inv X pins σ H s)(h:Sq b X.K H a xs)(h':Sq b X.K H a ys): xs=ys:=by
 cases b with
 | true=>exact I.list_inj h h'
 | false=>exact I.tuple_inj h h'
theorem q00{b:Bool}{K:Frag}{F H:Hp}{a:Addr}{xs:List V}(e:Same F H)(h:Sq b K F a xs): Sq b K H a xs:=by
 cases b with
 | true=>exact e.seq h
 | false=>exact qj e h
theorem q12{b:Bool}{a c:Addr}{xs:List V}(I:Inv X pins σ H s)(h:Sq b X.K H a xs)(f:wb X pins H c): a≠c:=by
 obtain⟨f0,f1,f2,f3,_⟩:=f;have inK:∀ {o:Obj},X.K.lookup a=some o->a≠c:=fun {o} hk z=>by
  subst z;have hb:X.base.get? a=some o:=I.mod.kin a o hk;rcases f3 with q|q
  ·exact I.ok.noex a o hb q
  ·exact absurd (gu (gv hb) (mq I.ok.bsz q)) (g0s _)
 have trk:∀ {u:HO},H a=some u->a≠c:=fun {u} e z=>by subst z;rw [f0] at e;cases e
 cases b with
 | true=>
  rcases h with(h|⟨o,h⟩)|⟨o,its,n,hk,_⟩
  ·exact trk h
  ·exact trk h
  ·exact inK hk
 | false=>
  rcases h with(h|⟨o,h⟩)|⟨o,its,n,hk,_⟩
  ·exact trk h
  ·exact trk h
  ·exact inK hk
end
def Itz(K:Frag)(b1:Bool)(a1:Addr)(b2:Bool)(a2:Addr): It:=
 ⟨fun i H=>∃xs ys x y,Sq b1 K H a1 xs/\Sq b2 K H a2 ys/\xs[i]? = some x/\ys[i]? = some y,
  fun i H v H'=>∃p x y,H p=none/\(∀xs,Sq b1 K H a1 xs->xs[i]? = some x)/\(∀ys,Sq b2 K H a2 ys->ys[i]? = some y)/\v=.ref p/\H'=upd H p (.tup [x,y]),
  fun i H=>∃xs ys,Sq b1 K H a1 xs/\Sq b2 K H a2 ys/\(xs.length<=i\/ys.length<=i)⟩
theorem qkz{P:Program}{w:World}{K:Frag}{elts:List Expr}{x1}{tp:Pos}{b1 b2:Bool}{a1 a2 z ti to i1 i2:Addr}(D:Z5 z ti to i1 i2):
  Turn P w K (.Tuple elts x1 tp) (Itz K b1 a1 b2 a2) [z,ti,to,i1,i2] z
   (fun i h=>IsZip h z ti to .none/\IsPair h ti (.ref i1) (.ref i2)/\(∃p q,IsPair h to p q)/\SI b1 h i1 a1 i/\SI b2 h i2 a2 i) where
 mem:=by simp
 obj:=fun i h ⟨c1,c2,⟨p,q,c3⟩,⟨o4,c4,_,d4⟩,⟨o5,c5,_,d5⟩⟩ b hb=>by
  simp only [mh,g06,g21] at hb;rcases hb with rfl|rfl|rfl|rfl|rfl
  ·exact⟨_,c1,fun v z=>by cases z⟩
  ·exact⟨_,c2,fun v z=>by cases z⟩
  ·exact⟨_,c3,fun v z=>by cases z⟩
  ·exact⟨_,c4,fun v z=>by rw [d4] at z;cases z⟩
  ·exact⟨_,c5,fun v z=>by rw [d5] at z;cases z⟩
 keep:=fun i h h' ⟨c1,c2,⟨p,q,c3⟩,c4,c5⟩ k=>⟨k _ (by simp) _ c1,k _ (by simp) _ c2,⟨p,q,k _ (by simp) _ c3⟩,c4.keep fun o e=>k _ (by simp) o e,c5.keep fun o e=>k _ (by simp) o e⟩
 item:=by
  intro X hP hw hK hc i pins s σ H E I hf st hg;subst hP hw hK;obtain⟨xs,ys,x,y,q1,q2,hx,hy⟩:=hg;obtain⟨its1,v1,o1⟩:=q5k I q1;obtain⟨its2,v2,o2⟩:=q5k I q2;obtain⟨u1,hu1,ru1⟩:=v1.get hx;obtain⟨u2,hu2,ru2⟩:=v2.get hy;obtain⟨c1,c2,⟨p,q,c3⟩,c4,c5⟩:=st;have off:∀ {b:Bool} {a:Addr} {ws:List V},Sq b X.K H a ws->Off a z to i1 i2:=fun h=>⟨q12 I h (hf _ (by simp)),q12 I h (hf _ (by simp)),q12 I h (hf _ (by simp)),q12 I h (hf _ (by simp))⟩
  refine qfq D (off q1) (off q2) c1 c2 c3 c4 c5 o1 o2 (x:=u1) (y:=u2) (by simpa using hu1) (by simpa using hu2) fun g n1 n2 n3 n4 n5 n6 n7=>?_;refine⟨_,rfl,wpAny_letOwnedTupleGo_zip n1 fun g2 m1 sb=>?_⟩;have hsz:z<s.heap.objs.size:=gv c1;have kp:∀c o,c∉[z,ti,to,i1,i2]->s.heap.get? c=some o->g2.get? c=some o:=fun c o hc e=>by
   simp only [mh,g06,g21,g69] at hc;exact sb.extBut _ _ hc.1 (n7 c o hc.1 hc.2.2.1 hc.2.2.2.1 hc.2.2.2.2 e)
  have I1:Inv X pins σ H {s with heap:=g2}:=q5j (t':=s.toks) I hf kp;have fp:wb X pins H s.heap.objs.size:=I.fpOk (gw _) I.fresh;have hT:IsPair g2 s.heap.objs.size u1 u2:=sb.extBut _ _ (tq hsz) n5;have I2:Inv X pins σ (upd H s.heap.objs.size (.tup [x,y])) {s with heap:=g2}:=
   adopt I1 fp ⟨by show 2<=sizeLine;decide,[u1,u2],.cons ru1 (.cons ru2 .nil),⟨_,hT,rfl,rfl,_,rfl⟩⟩
  refine⟨.ref s.heap.objs.size,_,I2,rfl,⟨_,x,y,I.fresh,fun ws h=>?_,fun ws h=>?_,rfl,rfl⟩,⟨m1,?_,⟨u1,u2,sb.extBut _ _ D.a2 n2⟩,n3.ext sb.extBut D.a3,n4.ext sb.extBut D.a4⟩,fun b hb=>?_⟩
  ·rw [qia I h q1];exact hx
  ·rw [qia I h q2];exact hy
  ·exact sb.extBut _ _ D.a1 (n7 _ _ D.a1 D.a5 D.a6 D.a7 c2)
  ·have hb0:=(hf b hb).1
   have:b≠s.heap.objs.size:=by
    simp only [mh,g06,g21] at hb;rcases hb with rfl|rfl|rfl|rfl|rfl
    ·exact gz hsz
    ·exact gz (gv c2)
    ·exact gz (gv c3)
    ·obtain⟨_,e,_⟩:=c4;exact gz (gv e)
    ·obtain⟨_,e,_⟩:=c5;exact gz (gv e)
   rw [qk this];exact hb0
 done:=by
  intro X hP hw hK hc i pins s σ H E I hf st hg;subst hP hw hK;obtain⟨xs,ys,q1,q2,hend⟩:=hg;obtain⟨its1,v1,o1⟩:=q5k I q1;obtain⟨its2,v2,o2⟩:=q5k I q2;obtain⟨c1,c2,⟨p,q,c3⟩,c4,c5⟩:=st;have off:∀ {b:Bool} {a:Addr} {ws:List V},Sq b X.K H a ws->Off a z to i1 i2:=fun h=>⟨q12 I h (hf _ (by simp)),q12 I h (hf _ (by simp)),q12 I h (hf _ (by simp)),q12 I h (hf _ (by simp))⟩
  refine qad (I.ok.hd hc) D (off q1) (off q2) c1 c2 c3 c4 c5 o1 o2 ?_ fun g n7=>⟨rfl,q5j (t':=s.toks) I hf fun c o hc e=>?_⟩
  ·have l1:=v1.length
   have l2:=v2.length;rcases hend with h|h
   ·exact .inl (by simp;lia)
   ·exact .inr (by simp;lia)
  ·simp only [mh,g06,g21,g69] at hc
   exact n7 c o hc.1 hc.2.2.1 hc.2.2.2.1 hc.2.2.2.2 e
 self:=fun A i s Q E st h=>wpAny_pyIter_zip st.1 h
def q4u(xs ys:List D): List D:=List.zipWith (fun a b=>.tup [a,b]) xs ys
theorem qnt{K:Frag}{F:Hp}{b1 b2:Bool}{a1 a2:Addr}{xs ys:List V}{ds es:List D}(h1:Sq b1 K F a1 xs)(h2:Sq b2 K F a2 ys)(r1:RepL K F ds xs)(r2:RepL K F es ys): ItD K F (q4u ds es) (Itz K b1 a1 b2 a2) where
 go:=fun i F' H s1 s2 hi=>by
  have hi':i<ds.length/\i<es.length:=by unfold q4u at hi;rw [g2x] at hi;lia
  exact⟨xs,ys,xs[i]'(by rw [<- r1.length];exact hi'.1),ys[i]'(by rw [<- r2.length];exact hi'.2),q00 (s1.trans s2) h1,q00 (s1.trans s2) h2,by simp,by simp⟩
 yld:=fun i d F' H x H' s1 s2 hi ⟨p,x1,y1,hp,q1,q2,e1,e2⟩=>by
  subst e1 e2;unfold q4u at hi;rw [g6a] at hi;cases z1:ds[i]? with
  | none=>rw [z1] at hi;cases hi
  | some d1=>
   cases z2:es[i]? with
   | none=>rw [z1,z2] at hi;cases hi
   | some d2=>
    rw [z1,z2] at hi;cases hi;obtain⟨v1,k1,k2⟩:=r1.get z1;obtain⟨v2,k3,k4⟩:=r2.get z2;have w1:=q1 xs (q00 (s1.trans s2) h1);have w2:=q2 ys (q00 (s1.trans s2) h2);rw [k1] at w1;cases w1;rw [k3] at w2;cases w2;have gn:Grow F' H (upd F' p (.tup [x1,y1])) (upd H p (.tup [x1,y1])):=Grow.new s2 hp;exact⟨_,gn,rep_tup.mpr ⟨p,_,rfl,SqT.of qq,.cons ((k2.mono s1).mono gn.ff) (.cons ((k4.mono s1).mono gn.ff) .nil)⟩⟩
 stop:=fun i F' H s1 s2 hi=>by
  unfold q4u at hi;rw [g2x] at hi;refine⟨xs,ys,q00 (s1.trans s2) h1,q00 (s1.trans s2) h2,?_⟩;rw [<- r1.length, <- r2.length];lia
section
variable{X:Cx}{pos:Pos}{elts:List Expr}{x1:Nat}{tp:Pos}
def qto(K:Frag)(ta:TA): TI:=fun σ H R=>ta σ H fun vs H1=>∃b1 a1 xs b2 a2 ys,vs=[.ref a1,.ref a2]/\Sq b1 K H1 a1 xs/\Sq b2 K H1 a2 ys/\R (Itz K b1 a1 b2 a2) H1
theorem qib:bootBuiltins "zip" = some (.type "zip"):=by decide +kernel
theorem qqv{a b:Expr}{ta:TA}{p:Pos}(hg:Gl X "zip")(hm:X.mg "zip" = none)(ha:PA X [a,b] ta)(hs:starEach [a,b] X.env=[(false,eval a X.env),(false,eval b X.env)]:=by rfl)(hs2:starEach [b] X.env=[(false,eval b X.env)]:=by rfl):
  PI X (.Tuple elts x1 tp) (.Call (.Name "zip" p) [a,b] [] pos) (qto X.K ta):=by
 intro pins s σ H R I h;refine Call_ (q05 I hg hm qib (g1q (thn (ha pos pins s σ H _ I h) fun us s1 ⟨vs,H1,I1,r1,q1⟩=>?_) (by rw [hs,hs2]) (by rw [hs2];rfl)));obtain⟨b1,a1,xs,b2,a2,ys,rfl,k1,k2,q⟩:=q1;obtain⟨u1,u2,rfl,e1,e2⟩:=r1.two;cases e1;cases e2;obtain⟨its1,v1,o1⟩:=q5k I1 k1;obtain⟨its2,v2,o2⟩:=q5k I1 k2;refine callType_new F.called_zip (by decide) (F.typeCall_zip_2 _ _) (F.newCall_zip_2 _ _) (fun obj=>F.args_object_init_3 obj _ _) F.entry_zip_new (qfr b1 b2 a1 a2 its1.toArray its2.toArray) ⟨o1,o2,?_⟩;have z1:(zh1 b1 s1.heap a1).objs.size=s1.heap.objs.size+1:=pf ..;have z2:(zh2 b1 b2 s1.heap a1 a2).objs.size=s1.heap.objs.size+2:=by unfold zh2;rw [pf,z1]
 have z3:(zh3 b1 b2 s1.heap a1 a2).objs.size=s1.heap.objs.size+3:=by unfold zh3;rw [pf,z2]
 have z4:(zh4 b1 b2 s1.heap a1 a2).objs.size=s1.heap.objs.size+4:=by unfold zh4;rw [pf,z3]
 have g5:(zh5 b1 b2 s1.heap a1 a2).get? (zh4 b1 b2 s1.heap a1 a2).objs.size=some {cls:=.type "zip",data:=.fields #[.none,.bool false,.bool false,.ref (zh2 b1 b2 s1.heap a1 a2).objs.size,.ref (zh3 b1 b2 s1.heap a1 a2).objs.size]}:=gf _ rfl;have g4:(zh5 b1 b2 s1.heap a1 a2).get? (zh3 b1 b2 s1.heap a1 a2).objs.size=some {cls:=.type "tuple",data:=.seq #[.none,.none]}:=gc _ (gf _ rfl);have g3:(zh5 b1 b2 s1.heap a1 a2).get? (zh2 b1 b2 s1.heap a1 a2).objs.size=some {cls:=.type "tuple",data:=.seq #[.ref s1.heap.objs.size,.ref (zh1 b1 s1.heap a1).objs.size]}:=gc _ (gc _ (gf _ rfl));have g2:(zh5 b1 b2 s1.heap a1 a2).get? (zh1 b1 s1.heap a1).objs.size=some {cls:=.type (itN b2),data:=.fields #[.ref a2,.int 0 0]}:=gc _ (gc _ (gc _ (gf _ rfl)));have g1:(zh5 b1 b2 s1.heap a1 a2).get? s1.heap.objs.size=some {cls:=.type (itN b1),data:=.fields #[.ref a1,.int 0 0]}:=gc _ (gc _ (gc _ (gc _ (gf _ rfl))));have kp:∀c o,s1.heap.get? c=some o->(zh5 b1 b2 s1.heap a1 a2).get? c=some o:=fun c o e=>gc _ (gc _ (gc _ (gc _ (gc _ e))));have I2:Inv X pins σ H1 {s1 with heap:=zh5 b1 b2 s1.heap a1 a2}:=I1.kept (t':=s1.toks) kp;refine⟨⟨_,g5,rfl⟩,wpAny_pyIter_zip g5 ?_⟩;refine⟨_,_,_,_,H1,rfl,I2,qkz (b1:=b1) (b2:=b2) (a1:=a1) (a2:=a2) (i1:=s1.heap.objs.size) (i2:=(zh1 b1 s1.heap a1).objs.size) ?_,⟨g5,g3,⟨_,_,g4⟩,⟨_,g1,rfl,rfl⟩,⟨_,g2,rfl,rfl⟩⟩,fun c hc=>?_,q⟩
 ·constructor <;> (first|exact gz (by lia)|exact tq (by lia))
 ·have hge:s1.heap.objs.size<=c:=by
   simp only [mh,g06,g21] at hc;rcases hc with rfl|rfl|rfl|rfl|rfl <;> lia
  exact I1.fpOk hge (I1.hok.fresh hge)
def ql0(fa:FA): FA:=fun ρ =>(fa ρ).bind fun ds=>match ds with
 | [x,y]=>(q6e x).bind fun xs=>(q6e y).map fun ys=>q4u xs ys
 | _=>none
theorem qep{K:Frag}{F:Hp}{d:D}{ds:List D}{v:V}(h:q6e d=some ds)(r:Rep K F d v): ∃b a xs,v=.ref a/\Sq b K F a xs/\RepL K F ds xs:=by
 cases d <;> simp only [q6e] at h <;> first|(cases h;done)|skip
 ·cases h
  obtain⟨a,xs,rfl,h3,h4⟩:=rep_tup.mp r;exact⟨false,a,xs,rfl,h3,h4⟩
 ·cases h
  obtain⟨a,xs,rfl,h3,h4⟩:=rep_lst.mp r;exact⟨true,a,xs,rfl,h3,h4⟩
theorem qqw{a b:Expr}{fa:FA}{p:Pos}(hg:Gl X "zip")(hm:X.mg "zip" = none)(ha:PA X [a,b] (tDA X.K fa))(hs:starEach [a,b] X.env=[(false,eval a X.env),(false,eval b X.env)]:=by rfl)(hs2:starEach [b] X.env=[(false,eval b X.env)]:=by rfl):
  PI X (.Tuple elts x1 tp) (.Call (.Name "zip" p) [a,b] [] pos) (tDI X.K (ql0 fa)):=q4q (qqv hg hm ha hs hs2) fun σ H R ⟨F0,H0,F, ρ,ds,r,hf,q⟩=>by
 obtain⟨es,h1,h2⟩:=gd.mp hf;refine⟨F0,H0,F, ρ,es,r,h1,fun vs F' H' g' r'=>?_⟩
 split at h2
 ·rename_i x y
  obtain⟨xs,k1,h2⟩:=gd.mp h2;obtain⟨ys,k2,h2⟩:=m8.mp h2;subst h2;obtain⟨v1,t,rfl,e1,e2⟩:=r'.cons_inv;obtain⟨v2,t2,rfl,e3,e4⟩:=e2.cons_inv;cases e4.nil_inv;obtain⟨b1,a1,us,rfl,s1,l1⟩:=qep k1 e1;obtain⟨b2,a2,ws,rfl,s2,l2⟩:=qep k2 e3;exact⟨b1,a1,us,b2,a2,ws,rfl,q00 g'.fh s1,q00 g'.fh s2,q _ F' H' g' (qnt s1 s2 l1 l2)⟩
 ·cases h2
end
section
variable{X:Cx}{e:Expr}{es:List Expr}{kws:List Keyword}{pos:Pos}{f g:FE}{fa fk:FA}
def qtp(n m:Nat)(fa fk:FA): FA:=fun ρ =>(fa ρ).bind fun ds=>(fk ρ).bind fun es=>if ds.length=n/\es.length=m then some (ds++es) else none
def qsq(ar:Nat)(op:List D->Option D): List D->Option D:=fun ds=>if ds.length=ar then op ds else none
end
structure Cal(P:Program)(w:World)(K:Frag)(mg:Str->Option Value)(base:Heap)(x:Str)(k:Nat)(ps:List Str)(ar:Nat)(op:List D->Option D)(fn:Addr)(fd:FuncData): Prop where
 ok:FnOk P w K mg base CX0 k fn fd ps (spD K ar op)
 mg:mg x=some (.ref fn)
 kp:PySem.W.keepIn K (.ref fn)=true
section
variable{X:Cx}{e:Expr}{es:List Expr}{kws:List Keyword}{pos p:Pos}{fa fk:FA}{k ar k':Nat}{fn:Addr}{fd:FuncData}{ps ks:List Str}{op:List D->Option D}{x:Str}
theorem qv(C:Cal X.prog X.w X.K X.mg X.base x k ps ar op fn fd)(b:Binds X.K fd ps [])(hr:Room k' X.A)(hk:k<=k')(hg:Gl X x)(ha:PA X (e :: es) (tDA X.K fa))(hdb:(x==("__debug__" : Str))=false:=by decide)
  (he:starEach (e :: es) X.env=(false,eval e X.env) :: starEach es X.env:=by rfl) (hpl:(backTo pos (starEach es X.env)).any (·.1)=false:=by rfl):PE X (.Call (.Name x p) (e :: es) [] pos) (tD X.K (qi (qo ar [] op) fa)):=
 qnq C.ok (hr.mono hk) hg C.mg C.kp b .nil (fun H=>.nil) ha hdb he hpl
def q8i:D->Option D
 | .int i=>some (.int (-i))
 | _=>none
theorem qqx{f:FE}(ha:PE X e (tD X.K f)): PE X (.UnaryOp .USub e pos) (tD X.K (eUn q8i f)):=by
 intro pins s σ H Q I h;obtain⟨F0,H0,F, ρ,d,r,hf,q⟩:=h;obtain⟨d',h1,h2⟩:=gd.mp hf;cases d' <;> simp only [q8i] at h2 <;> first|(cases h2;done)|skip
 cases h2;refine UnaryOp_ (thn (ha pins s σ H (fun v H'=>∃F',Grow F H F' H'/\Rep X.K F' (.int _) v) I ⟨F0,H0,F, ρ,_,r,h1,fun v F' H' g' r'=>⟨F',g',r'⟩⟩) fun v s1 ⟨x,H1,I1,r1,F',g',r'⟩=>?_);cases rep_int.mp r';obtain⟨t,rfl⟩:=r1;exact neg_int ⟨.int _,H1,I1.tok _,⟨_,rfl⟩,q _ F' H1 g' (rep_int.mpr rfl)⟩
end
structure Fun2(K:Frag)(x qual:Str)(st:Stmt)(dV:Value)(f:Addr)(fd:FuncData): Prop where
 ex:∃(oc:Value) (od:Option Addr) (kV doc pm:Value) (an:Option Addr) (cdv ct:Value) (osl:Array (Option Value)),
  fd=PySem.W.fnOf x qual (v5 st) (qt st) (qc st) dV kV doc pm an cdv ct/\K.lookup f=some ⟨oc,od,.func fd,osl⟩/\PySem.W.codeIn K cdv qual=true
 kp:PySem.W.keepIn K (.ref f)=true
section
variable{P:Program}{w:World}{K:Frag}{mg:Str->Option Value}{base:Heap}{x qual:Str}{st:Stmt}{dV:Value}{f:Addr}{fd:FuncData}{N ps:List Str}
theorem Fun2.ok{k:Nat}{u:FS}(F:Fun2 K x qual st dV f fd)(S:FnScope N ps (qc st))
  (hb:∀(cdv:Value) (A:Around) (outer:List Env) (s:Shared) (H:Hp) (E:XK),Room k (A.deeper (envOfC qual (qc st) s.heap.objs.size f cdv))->PSs (zo CX0 P w K mg base N qual (qc st) f cdv A outer s H E).nox (qt st) (tDS K u)) :
  FnOk P w K mg base CX0 (k+1) f fd ps (spD K ps.length (z7 N.length u)):=by
 obtain⟨oc,od,kV,doc,pm,an,cdv,ct,osl,rfl,lk,hcd⟩:=F.ex;exact qmx lk hcd S fun A outer s H E hr=>hb cdv A outer s H E hr
theorem Fun2.okn{k n ar k1:Nat}{u:FS}(F:Fun2 K x qual st dV f fd)(S:FnScope N ps (qc st))(hn:N.length=n)(ha:ps.length=ar)(hk:k+1=k1)
  (hb:∀(cdv:Value) (A:Around) (outer:List Env) (s:Shared) (H:Hp) (E:XK),Room k (A.deeper (envOfC qual (qc st) s.heap.objs.size f cdv))->PSs (zo CX0 P w K mg base N qual (qc st) f cdv A outer s H E).nox (qt st) (tDS K u)) :
  FnOk P w K mg base CX0 k1 f fd ps (spD K ar (z7 n u)):=by
 subst hn ha hk;exact F.ok S hb
theorem q8j{oc:Value}{od an:Option Addr}{osl:Array (Option Value)}{kV doc pm cdv ct:Value}(l:K.lookup f=some ⟨oc,od,.func (PySem.W.fnOf x qual (v5 st) (qt st) (qc st) dV kV doc pm an cdv ct),osl⟩)
  (c:PySem.W.codeIn K cdv qual=true) (k:PySem.W.keepIn K (.ref f)=true):Fun2 K x qual st dV f (PySem.W.fnOf x qual (v5 st) (qt st) (qc st) dV kV doc pm an cdv ct):=⟨⟨oc,od,kV,doc,pm,an,cdv,ct,osl,rfl,l,c⟩,k⟩
theorem Fun2.bindsTo(F:Fun2 K x qual st dV f fd){P:FuncData->Prop}(h:∀(kV doc pm:Value) (an:Option Addr) (cdv ct:Value),P (PySem.W.fnOf x qual (v5 st) (qt st) (qc st) dV kV doc pm an cdv ct)): P fd:=by
 obtain⟨oc,od,kV,doc,pm,an,cdv,ct,osl,rfl,lk,hcd⟩:=F.ex;exact h kV doc pm an cdv ct
end
def qak(K:Frag): Sp:=fun vs H Q _=>∃(a:Addr) (ns:List Int) (F:Hp),vs=[.ref a]/\SameT F H/\SqL K F a (ns.map V.int)/\ns.length<=63/\∀H',Q (.bl true) H'
theorem qqy{P:Program}{w:World}{K:Frag}{mg:Str->Option Value}{base:Heap}{k:Nat}{f:Addr}{fd:FuncData}{x:Str}{op:List D->Option D}(F:FnOk P w K mg base CX0 k f fd [x] (spD K 1 op))(h:∀ns:List Int,ns.length<=63->op [.lst (ns.map .int)]=some (.bl true)):
  FnOk P w K mg base CX0 k f fd [x] (qak K):=F.imp fun vs H Q E ⟨a,ns,Fz,e,fz,hS,hl,q⟩=>by
 subst e;exact⟨Fz,[.lst (ns.map .int)],.bl true,fz,.cons (rep_lst.mpr ⟨a,_,rfl,hS,RepL.ints.mpr rfl⟩) .nil,rfl,h ns hl,fun v F' H' g' r'=>by rw [rep_bl.mp r'];exact q H'⟩
section
variable{X:Cx}{pos:Pos}{f g:FE}{a b:Expr}
abbrev oLt':=oLt
theorem qbg:OpR X (compareOp .Lt) (rD X.K oLt'):=qsh
end
section
variable{X:Cx}{pos:Pos}{f g k:FE}{a b c:Expr}
theorem q8k{pins:List (Addr×Obj)}{σ : St}{H:Hp}{s:Shared}(I:Inv X pins σ H s): sysModules<s.heap.objs.size:=
 Nat.lt_trans (by decide) (I.mod.glob.keeps I.bk).lt
end
theorem q8l:fillsNumberSlot (.type "tuple") "mul" = pure false:=
 PySem.fillsNumberSlot_seq (id:="tuple.__mul__") (r:=some (.builtin "tuple.__rmul__")) g2s.lookup (by decide +kernel) F.slot_tuple_rmul.lookup (by decide +kernel)
theorem qfs:seqRepeat? (.type "tuple")=pure (some (.builtin "tuple.__mul__")):=by
 unfold seqRepeat?;rw [PySem.seqSlot_of (T:="tuple") (name:="__mul__") g2s.lookup (by decide +kernel),PySem.seqSlot_of (T:="tuple") (name:="__rmul__") F.slot_tuple_rmul.lookup (by decide +kernel)]
 rfl
theorem ql1(i:Int)(t:Tok)(l:Addr)(xs:Array Value)(n:Nat)(dd:Option Addr)(sl:Array (Option Value)):
  Meets (Builtin.«int.__rmul__» ⟨[.int i t,.ref l],[]⟩) (fun _ R s=>s.heap.get? l=some {cls:=.type "tuple",dict:=dd,data:=.seq xs n,slots:=sl}/\R (.ok (.ret Value.notImplemented)) s):=
 .of_wp fun prog w A R s h=>by
  obtain⟨hp,g,d,tk,os⟩:=s;obtain⟨hl,h⟩:=h
  wp_walk
  exact⟨_,rfl,h⟩
theorem qbh(i:Int)(t:Tok)(l:Addr)(xs:Array Value)(n:Nat)(dd:Option Addr)(sl:Array (Option Value))(h0:¬(decide (i < -(2 ^ 63)) || decide (i>=2 ^ 63))=true)(h1:(xs.isEmpty || i==1)=true):
  Meets (Builtin.«tuple.__mul__» ⟨[.ref l,.int i t],[]⟩) (fun _ R s=>s.heap.get? l=some {cls:=.type "tuple",dict:=dd,data:=.seq xs n,slots:=sl}/\R (.ok (.ret (.ref l))) s):=
 .of_wp fun prog w A R s h=>by
  obtain⟨hp,g,d,tk,os⟩:=s;obtain⟨hl,h⟩:=h;have f1:=g5q;have f2:=g22
  wp_walk using g0l hl
  refine g4d (tm h0) ?_
  wp_walk using g0l hl
  exact⟨_,rfl,h⟩
theorem qbi(i:Int)(t:Tok)(l:Addr)(xs:Array Value)(n:Nat)(dd:Option Addr)(sl:Array (Option Value))(h0:¬(decide (i < -(2 ^ 63)) || decide (i>=2 ^ 63))=true)(h1:¬(xs.isEmpty || i==1)=true)(h2:(decide (i<=0) || xs.isEmpty)=true):
  Meets (Builtin.«tuple.__mul__» ⟨[.ref l,.int i t],[]⟩) (fun _ R s=>s.heap.get? l=some {cls:=.type "tuple",dict:=dd,data:=.seq xs n,slots:=sl}/\R (.ok (.ret (.ref s.heap.objs.size))) {s with heap:=s.heap.push {cls:=.type "tuple",data:=.seq #[]} }):=
 .of_wp fun prog w A R s h=>by
  obtain⟨hp,g,d,tk,os⟩:=s;obtain⟨hl,h⟩:=h;have f1:=g5q;have f2:=g22
  wp_walk using g0l hl
  refine g4d (tm h0) ?_
  wp_walk using g0l hl
  exact⟨_,rfl,h⟩
theorem qbj(i:Int)(t:Tok)(l:Addr)(xs:Array Value)(n:Nat)(dd:Option Addr)(sl:Array (Option Value))(h0:¬(decide (i < -(2 ^ 63)) || decide (i>=2 ^ 63))=true)(h1:¬(xs.isEmpty || i==1)=true)(h2:¬(decide (i<=0) || xs.isEmpty)=true)
  (h3:¬((xs.size:Int)*i>(2 ^ 63-1) / 8)) (h4:¬Builtin.Tuple.tupleTooMany ((xs.size:Int)*i)=true) (h5:((List.replicate i.toNat xs).foldl (· ++ ·) #[]).size<=sizeLine) :
  Meets (Builtin.«tuple.__mul__» ⟨[.ref l,.int i t],[]⟩) (fun _ R s=>s.heap.get? l=some {cls:=.type "tuple",dict:=dd,data:=.seq xs n,slots:=sl}/\R (.ok (.ret (.ref s.heap.objs.size))) {s with heap:=s.heap.push {cls:=.type "tuple",data:=.seq ((List.replicate i.toNat xs).foldl (· ++ ·) #[])} }):=
 .of_wp fun prog w A R s h=>by
  obtain⟨hp,g,d,tk,os⟩:=s;obtain⟨hl,h⟩:=h;have f1:=g5q;have f2:=g22
  wp_walk using g0l hl
  refine g4d (tm h0) ?_
  wp_walk using g0l hl
  refine g4d (tm h3) ?_
  wp_walk using g0l hl
  exact⟨_,rfl,h⟩
theorem qbk(xs:Array Value): ∀(n:Nat) (acc:Array Value),((List.replicate n xs).foldl (· ++ ·) acc).toList=acc.toList++(List.replicate n xs.toList).flatten
 | 0,acc=>by simp
 | n+1,acc=>by
  rw [g1l,g61,qbk xs n (acc++xs),g1l,g2j,pz,my]
theorem q9h(xs:List Value)(n:Nat): (List.replicate n xs.toArray).foldl (· ++ ·) #[]=(List.replicate n xs).flatten.toArray:=by
 apply Array.toList_inj.mp;rw [qbk];simp
section
variable{prog:Program}{w:World}{A:Around}{E:Value->Shared->Prop}{s:Shared}
theorem qnu{t:Addr}{vs:List Value}{i:Int}{u:Tok}{Q:Value->Shared->Prop}(ht:IsTup s.heap t vs.toArray)(h0 : -(2 ^ 62)<i)(h1:i<2 ^ 62)(hz:vs.length*i.toNat<=1000000)
  (q1:(vs=[]\/i=1)->Q (.ref t) s) (q2:¬(vs=[]\/i=1)->Q (.ref s.heap.objs.size) {s with heap:=s.heap.push {cls:=.type "tuple",data:=.seq (List.replicate i.toNat vs).flatten.toArray} }) :
  wpAny (model prog w) A (binaryOp .Mult (.ref t) (.int i u)) Q E s:=by
 obtain⟨⟨cls,dd,data,sl⟩,ho,hc,n,hd⟩:=id ht;simp only at hc hd;subst hc hd;have ty:s.TypeIs (.ref t) "tuple" :=⟨_,ho,rfl⟩
 have b0:¬(decide (i < -(2 ^ 63)) || decide (i>=2 ^ 63))=true:=by
  simp only [g1b,g01,g69]
  constructor <;> lia
 refine wpAny_binaryOp_repeat_ref (T:="tuple") (U:="int") (by decide) ty (fun s'=>typeIs_int s' i u) q8l F.fills_int_mul F.slot_int_rmul qfs F.slot_int_index.lookup
  (g4a F.slot_int_rmul (typeIs_int s i u) F.entry_int_rmul (F.args_int_rmul_2 _ _) (ql1 i u t vs.toArray n dd sl) ⟨ho,rfl,ty,?_⟩)
 have em:vs.toArray.isEmpty=true↔vs=[]:=by simp
 by_cases c1:(vs.toArray.isEmpty || i==1)=true
 ·have c1':vs=[]\/i=1:=by simpa using c1
  exact g4a g2s ty g59 (g4y _ _) (qbh i u t vs.toArray n dd sl b0 c1) ⟨ho,q1 c1'⟩
 ·have c1':¬(vs=[]\/i=1):=by simpa using c1
  have q:=q2 c1'
  by_cases c2:(decide (i<=0) || vs.toArray.isEmpty)=true
  ·have i0:i<=0:=by
    rcases g1b _ _ ▸ c2 with z|z
    ·exact g0c z
    ·exact absurd (.inl (em.mp z)) c1'
   have e:(List.replicate i.toNat vs).flatten.toArray = #[]:=by
    rw [show i.toNat=0 by lia];rfl
   rw [e] at q;exact g4a g2s ty g59 (g4y _ _) (qbi i u t vs.toArray n dd sl b0 c1 c2) ⟨ho,q⟩
  ·have c2':0<i:=by
    have:¬i<=0:=fun z=>c2 (by rw [nv z];rfl);lia
   have ei:(vs.toArray.size:Int)*i=((vs.length*i.toNat:Nat):Int):=by
    rw [Int.natCast_mul,g2y (by lia),gr]
   have el:(List.replicate i.toNat vs).flatten.length=vs.length*i.toNat:=by
    rw [List.length_flatten,List.map_replicate,g64,Nat.mul_comm]
   rw [<- q9h] at q;refine g4a g2s ty g59 (g4y _ _) (qbj i u t vs.toArray n dd sl b0 c1 c2 ?_ ?_ ?_) ⟨ho,q⟩
   ·rw [ei];lia
   ·rw [ei]
    unfold Builtin.Tuple.tupleTooMany;have:sizeLine=16777216:=g2f;rw [this,g01];lia
   ·rw [q9h,gr,el]
    exact jd hz
end
section
variable{X:Cx}
def ql2:D->D->Option D
 | .tup xs,.int n=>if decide (-(2 ^ 62)<n)&&decide (n<2 ^ 62)&&decide (xs.length*n.toNat<=lim) then some (.tup (List.replicate n.toNat xs).flatten) else none
 | _,_=>none
theorem qbl{xs:List V}{us:List Value}(r:Vals xs us): ∀n:Nat,Vals (List.replicate n xs).flatten (List.replicate n us).flatten
 | 0=>.nil
 | n+1=>by rw [g1l,g1l,g2j,g2j];exact r.append (qbl r n)
theorem qbm{K:Frag}{H:Hp}{ds:List D}{xs:List V}(r:RepL K H ds xs): ∀n:Nat,RepL K H (List.replicate n ds).flatten (List.replicate n xs).flatten
 | 0=>.nil
 | n+1=>by rw [g1l,g1l,g2j,g2j];exact r.append (qbm r n)
theorem qqz:OpR X (binaryOp .Mult) (rD X.K ql2):=fun pins s σ H x y v u Q I rx ry ⟨F,d1,d2,d,q1,q2,q3,q4,q5⟩=>by
 unfold ql2 at q4
 split at q4
 ·rename_i ds n
  split at q4
  ·rename_i hc
   cases q4;simp only [m6,g01] at hc;obtain⟨⟨c1,c2⟩,c3⟩:=hc;obtain⟨p,xs,rfl,z1,z2⟩:=rep_tup.mp q2;cases rep_int.mp q3;cases rx;obtain⟨t,rfl⟩:=ry;obtain⟨its,r1,p1,hz⟩:=I.tuple (qj q1 z1);have lx:=r1.length;have ld:=z2.length;refine qnu p1 c1 c2 (by rw [<- lx, <- ld];exact c3) (fun hq=>?_) fun hq=>?_
   ·have e:(List.replicate n.toNat ds).flatten=ds:=by
     rcases hq with z|z
     ·have:ds=[]:=g3n.mp (by rw [ld,lx,z];rfl)
      subst this;simp
     ·subst z;simp [List.replicate]
    rw [e] at q5;exact⟨.ref p,H,I,rfl,q5 _ F H (.refl q1) q2⟩
   ·have hn:H s.heap.objs.size=none:=I.hok.fresh (gw _)
    have rr:=qbl r1 n.toNat;have el:(List.replicate n.toNat xs).flatten.length=ds.length*n.toNat:=by
     rw [List.length_flatten,List.map_replicate,g64,Nat.mul_comm,ld]
    refine⟨.ref s.heap.objs.size,_,I.laid (t':=s.toks) (o:=.tup (List.replicate n.toNat xs).flatten) (fun b ob q=>gc _ q) (gw _) ⟨by rw [el];exact jd c3,_,rr,TupX.new _ _⟩,rfl,?_⟩;have gn:=Grow.new (o:=.tup (List.replicate n.toNat xs).flatten) q1 hn;exact q5 _ _ _ gn (rep_tup.mpr ⟨_,_,rfl,SqT.of qq,(qbm z2 n.toNat).mono gn.ff⟩)
  ·cases q4
 ·cases q4
def jm:D->D->Option D:=fun x y=>(oMul x y).or (ql2 x y)
theorem xu:OpR X (binaryOp .Mult) (rD X.K jm):=qb0 qqj qqz
end
section
variable{prog:Program}{w:World}{A:Around}{E:Value->Shared->Prop}{s:Shared}
end
section
variable{X:Cx}{pos:Pos}{elts:List Expr}{x1:Nat}{tp:Pos}
end
section
variable{X:Cx}{st:Stmt}
abbrev oBand:=oI (fun _ _=>true) fun i j=>Builtin.bitAnd i j
theorem qnv:OpR X (binaryOp .BitAnd) (rD X.K oBand):=qb1 qq4
theorem q4v:∀ {l m:List Int},l.Perm m->l.Pairwise (· <= ·)->m.Pairwise (· <= ·)->l=m
 | [],m,p,_,_=>(p.nil_eq).symm ▸ rfl
 | x :: l,[],p,_,_=>by cases p.length_eq
 | x :: l,y :: m,p,.cons h1 h2,.cons k1 k2=>by
  have e:x=y:=by
   have hx:x∈y :: m:=p.mem_iff.mp gm;have hy:y∈x :: l:=p.mem_iff.mpr gm;rcases mh.mp hx with e|hx
   ·exact e
   ·rcases mh.mp hy with e|hy
    ·exact e.symm
    ·exact Int.le_antisymm (h1 y hy) (k1 x hx)
  subst e;rw [q4v (List.perm_cons _ |>.mp p) h2 k2]
theorem q10:∀ {us:List Value} {ns:List Int},IntsAre us ns->Vals (ns.map V.int) us
 | _,_,.nil=>.nil
 | _,_,.cons n t h=>.cons ⟨t,rfl⟩ (q10 h)
theorem boot_sorted:bootBuiltins "sorted" = some (.builtin "sorted"):=by decide +kernel
end
section
variable{X:Cx}{pins:List (Addr×Obj)}{σ : St}{F H:Hp}{s:Shared}
end
end DL
namespace DL
open PySem PyProof.Rows L2
def rkD:D->Nat
 | .int _=>0
 | .tup _=>1
 | _=>2
mutual
def wq:D->D->Ordering
 | .int i,.int j=>if i<j then .lt else if j<i then .gt else .eq
 | .tup ds,.tup es=>q09 ds es
 | d,e=>if rkD d<rkD e then .lt else if rkD e<rkD d then .gt else .eq
def q09:List D->List D->Ordering
 | [],[]=>.eq
 | [],_ :: _=>.lt
 | _ :: _,[]=>.gt
 | d :: ds,e :: es=>match wq d e with
  | .eq=>q09 ds es
  | o=>o
end
def ltT(d e:D): Bool:=(wq d e).isLT
def wd(ds es:List D): Bool:=(q09 ds es).isLT
mutual
/-- ints, and tuples of such -/
def kD:D->Bool
 | .int _=>true
 | .tup ds=>kDL ds
 | _=>false
def kDL:List D->Bool
 | []=>true
 | d :: ds=>kD d&&kDL ds
end
mutual
/-- where Python compares these two, it meets only ints with ints, tuples with tuples -/
def shD:D->D->Bool
 | .int _,.int _=>true
 | .tup ds,.tup es=>shL ds es
 | _,_=>false
def shL:List D->List D->Bool
 | d :: ds,e :: es=>shD d e&&shL ds es
 | _,_=>true
end
def q4w(k:D×D): List (D×D)->List (D×D)
 | []=>[k]
 | y :: r=>if ltT y.1 k.1=true then y :: q4w k r else k :: y :: r
def kc:List (D×D)->List (D×D)
 | []=>[]
 | x :: r=>q4w x (kc r)
theorem swap3{a b:Nat}: (if a<b then Ordering.lt else if b<a then .gt else .eq).swap=if b<a then .lt else if a<b then .gt else .eq:=by
 by_cases h:a<b
 ·rw [mi h,mn (by omega),mi h];rfl
 ·by_cases k:b<a
  ·rw [mn h,mi k,mi k];rfl
  ·rw [mn h,mn k,mn k,mn h];rfl
theorem swap4{a b:Int}: (if a<b then Ordering.lt else if b<a then .gt else .eq).swap=if b<a then .lt else if a<b then .gt else .eq:=by
 by_cases h:a<b
 ·rw [mi h,mn (by omega),mi h];rfl
 ·by_cases k:b<a
  ·rw [mn h,mi k,mi k];rfl
  ·rw [mn h,mn k,mn k,mn h];rfl
theorem qbn:∀n,(∀d e:D,sizeOf d<n->wq e d=(wq d e).swap)/\(∀ds es:List D,sizeOf ds<n->q09 es ds=(q09 ds es).swap):=by
 intro n
 induction n with
 | zero=>exact⟨fun d e h=>absurd h (tw _),fun d e h=>absurd h (tw _)⟩
 | succ n ih=>
  refine⟨fun d e hn=>?_,fun ds es hn=>?_⟩
  ·cases d <;> cases e <;> simp only [wq] <;> first
    | exact swap3.symm
    | exact swap4.symm
    | exact ih.2 _ _ (by simp at hn;omega)
  ·cases ds with
   | nil=>cases es <;> simp only [q09] <;> rfl
   | cons d ds=>
    cases es with
    | nil=>simp only [q09];rfl
    | cons e es=>
     simp only [q09];rw [ih.1 d e (by simp at hn;omega),ih.2 ds es (by simp at hn;omega)];cases wq d e <;> rfl
theorem cmp_swap(d e:D): wq e d=(wq d e).swap:=(qbn (sizeOf d+1)).1 d e (ue _)
theorem q01(d e:D)(ds es:List D): wd (d :: ds) (e :: es)=(ltT d e || (!ltT e d&&wd ds es)):=by
 unfold wd ltT;rw [cmp_swap d e,q09];cases wq d e <;> rfl
theorem q26(ds:List D): wd ds []=false:=by cases ds <;> simp only [wd,q09] <;> rfl
theorem k5(e:D)(es:List D): wd [] (e :: es)=true:=by simp only [wd,q09];rfl
theorem lt3{a b:Nat}: (if a<b then Ordering.lt else if b<a then .gt else .eq).isLT=decide (a<b):=by
 by_cases h:a<b
 ·simp [h]
 ·by_cases k:b<a <;> simp [h,k]
theorem lt4{a b:Int}: (if a<b then Ordering.lt else if b<a then .gt else .eq).isLT=decide (a<b):=by
 by_cases h:a<b
 ·simp [h]
 ·by_cases k:b<a <;> simp [h,k]
theorem kf(ds es:List D): ltT (.tup ds) (.tup es)=wd ds es:=by unfold ltT;simp only [wq];rfl
theorem xc(i j:Int): ltT (.int i) (.int j)=decide (i<j):=by unfold ltT;simp only [wq];exact lt4
theorem qbo{d e:D}(h:ltT d e=true): ltT e d=false:=by
 unfold ltT at h ⊢;rw [cmp_swap d e];cases q:wq d e <;> rw [q] at h <;> first|rfl|(cases h;done)
theorem q0a(d e:D): (∃i j,d=.int i/\e=.int j)\/(∃ds es,d=.tup ds/\e=.tup es)\/ltT d e=decide (rkD d<rkD e):=by
 cases d <;> cases e <;> first
  | (left;exact⟨_,_,rfl,rfl⟩)
  | (right;left;exact⟨_,_,rfl,rfl⟩)
  | (right;right;simp only [ltT,wq];exact lt3)
theorem qft:∀n,(∀d e f:D,sizeOf d+sizeOf e+sizeOf f<n->ltT e d=false->ltT f e=false->ltT f d=false)/\(∀ds es fs:List D,sizeOf ds+sizeOf es+sizeOf fs<n->wd es ds=false->wd fs es=false->wd fs ds=false):=by
 intro n
 induction n with
 | zero=>exact⟨fun d e f h=>absurd h (tw _),fun d e f h=>absurd h (tw _)⟩
 | succ n ih=>
  refine⟨fun d e f hn h k=>?_,fun ds es fs hn h k=>?_⟩
  ·rcases q0a e d with⟨i,j,rfl,rfl⟩|⟨es,ds,rfl,rfl⟩|g1
   ·rcases q0a f (.int i) with⟨i',j',rfl,z⟩|⟨es,ds,rfl,z⟩|g2
    ·cases z
     simp only [xc,g0g] at h k ⊢;omega
    ·cases z
    ·rcases q0a f (.int j) with⟨i',j',rfl,z⟩|⟨es,ds,rfl,z⟩|g3
     ·rw [xc,g0g] at k
      simp only [xc,g0g] at h ⊢;omega
     ·cases z
     ·rw [g3];simp [rkD]
   ·rcases q0a f (.tup es) with⟨i',j',rfl,z⟩|⟨fs,es',rfl,z⟩|g2
    ·cases z
    ·cases z
     simp only [kf] at h k ⊢;exact ih.2 _ _ _ (by simp at hn;omega) h k
    ·rcases q0a f (.tup ds) with⟨i',j',rfl,z⟩|⟨fs,es',rfl,z⟩|g3
     ·cases z
     ·cases z
      simp only [kf] at h k ⊢;exact ih.2 _ _ _ (by simp at hn;omega) h k
     ·rw [g2] at k;rw [g3];exact k
   ·rcases q0a f e with⟨i,j,rfl,rfl⟩|⟨es,ds,rfl,rfl⟩|g2
    ·rcases q0a (.int i) d with⟨i',j',z,rfl⟩|⟨fs,es',z,rfl⟩|g3
     ·cases z
      rw [xc,g0g] at h;simp only [xc,g0g] at k ⊢;omega
     ·cases z
     ·rw [g1] at h;rw [g3];exact h
    ·rcases q0a (.tup es) d with⟨i',j',z,rfl⟩|⟨fs,es',z,rfl⟩|g3
     ·cases z
     ·cases z
      simp only [kf] at h k ⊢;exact ih.2 _ _ _ (by simp at hn;omega) h k
     ·rw [g1] at h;rw [g3];exact h
    ·rcases q0a f d with⟨i,j,rfl,rfl⟩|⟨es,ds,rfl,rfl⟩|g3
     ·rw [g1] at h;rw [g2] at k
      cases e <;> simp [rkD] at h k
      rename_i m;have h':ltT (.int m) (.int j)=false:=by rw [g1];simp [rkD]
      have k':ltT (.int i) (.int m)=false:=by rw [g2];simp [rkD]
      simp only [xc,g0g] at h' k' ⊢;omega
     ·rw [g1] at h;rw [g2] at k
      cases e <;> simp [rkD] at h k
      rename_i ms;have h':ltT (.tup ms) (.tup ds)=false:=by rw [g1];simp [rkD]
      have k':ltT (.tup es) (.tup ms)=false:=by rw [g2];simp [rkD]
      simp only [kf] at h' k' ⊢;exact ih.2 _ _ _ (by simp at hn;omega) h' k'
     ·rw [g1] at h;rw [g2] at k;rw [g3]
      simp only [g0g] at h k ⊢;omega
  ·cases fs with
   | nil=>
    cases es with
    | nil=>exact h
    | cons e es=>rw [k5] at k;cases k
   | cons f fs=>
    cases ds with
    | nil=>rw [q26]
    | cons d ds=>
     cases es with
     | nil=>rw [k5] at h;cases h
     | cons e es=>
      rw [q01] at h k ⊢;have z1:sizeOf d+sizeOf e+sizeOf f<n:=by simp at hn;omega
      have z2:sizeOf ds+sizeOf es+sizeOf fs<n:=by simp at hn;omega
      have z3:sizeOf e+sizeOf f+sizeOf d<n:=by simp at hn;omega
      have z4:sizeOf f+sizeOf d+sizeOf e<n:=by simp at hn;omega
      simp only [Bool.or_eq_false_iff,g6b,g3b] at h k ⊢;obtain⟨h1,h2⟩:=h;obtain⟨k1,k2⟩:=k;refine⟨ih.1 d e f z1 h1 k1,?_⟩;rcases h2 with h2|h2
      ·left
       cases q:ltT d f
       ·-- f <= d and e <= f give e <= d
        have:=ih.1 e f d z3 k1 q;rw [this] at h2;cases h2
       ·rfl
      ·rcases k2 with k2|k2
       ·left
        cases q:ltT d f
        ·have:=ih.1 f d e z4 q h1
         rw [this] at k2;cases k2
        ·rfl
       ·right
        exact ih.2 ds es fs z2 h2 k2
theorem qbp{d e f:D}(h:ltT e d=false)(k:ltT f e=false): ltT f d=false:=(qft (sizeOf d+sizeOf e+sizeOf f+1)).1 d e f (ue _) h k
theorem qic:∀n,(∀d e:D,sizeOf d<n->kD d=true->kD e=true->ltT d e=false->ltT e d=false->d=e)/\(∀ds es:List D,sizeOf ds<n->kDL ds=true->kDL es=true->wd ds es=false->wd es ds=false->ds=es):=by
 intro n
 induction n with
 | zero=>exact⟨fun d e h=>absurd h (tw _),fun d e h=>absurd h (tw _)⟩
 | succ n ih=>
  refine⟨fun d e hn kd ke h k=>?_,fun ds es hn kd ke h k=>?_⟩
  ·cases d <;> simp only [kD] at kd <;> first|(cases kd;done)|skip
   all_goals (cases e <;> simp only [kD] at ke <;> first|(cases ke;done)|skip)
   ·simp only [xc,g0g] at h k
    congr 1;omega
   ·simp [ltT,wq,rkD] at h
   ·simp [ltT,wq,rkD] at k
   ·simp only [kf] at h k
    rw [ih.2 _ _ (by simp at hn;omega) kd ke h k]
  ·cases ds with
   | nil=>
    cases es with
    | nil=>rfl
    | cons e es=>rw [k5] at h;cases h
   | cons d ds=>
    cases es with
    | nil=>rw [k5] at k;cases k
    | cons e es=>
     rw [q01] at h k;simp only [kDL,m6] at kd ke;simp only [Bool.or_eq_false_iff,g6b,g3b] at h k;have hd:sizeOf d<n:=by simp at hn;omega
     have hds:sizeOf ds<n:=by simp at hn;omega
     have e1:=ih.1 d e hd kd.1 ke.1 h.1 k.1;have e2:=ih.2 ds es hds kd.2 ke.2 (h.2.resolve_left (by rw [k.1];simp)) (k.2.resolve_left (by rw [h.1];simp));rw [e1,e2]
theorem lt_eq{d e:D}(kd:kD d=true)(ke:kD e=true)(h:ltT d e=false)(k:ltT e d=false): d=e:=(qic (sizeOf d+1)).1 d e (ue _) kd ke h k
theorem q4x(x:D×D): ∀l,(q4w x l).Perm (x :: l)
 | []=>.refl _
 | y :: r=>by
  unfold q4w
  split
  ·exact((q4x x r).cons y).trans (.swap x y r)
  ·exact .refl _
theorem q7l:∀l,(kc l).Perm l
 | []=>.refl _
 | x :: r=>(q4x x _).trans ((q7l r).cons x)
def leT(x y:D×D): Prop:=ltT y.1 x.1=false
theorem q9i(x:D×D): ∀ {l:List (D×D)},l.Pairwise leT->(q4w x l).Pairwise leT
 | [],_=>.cons (fun _ h=>by cases h) .nil
 | y :: r,.cons h1 h2=>by
  unfold q4w
  split
  ·rename_i hxy
   refine .cons (fun z hz=>?_) (q9i x h2);rcases mh.mp ((q4x x r).mem_iff.mp hz) with rfl|hz
   ·exact qbo hxy
   ·exact h1 z hz
  ·rename_i hxy
   have hxy':ltT y.1 x.1=false:=by simpa using hxy
   refine .cons (fun z hz=>?_) (.cons h1 h2);rcases mh.mp hz with rfl|hz
   ·exact hxy'
   ·exact qbp hxy' (h1 z hz)
theorem q7m:∀l,(kc l).Pairwise leT
 | []=>.nil
 | x :: r=>q9i x (q7m r)
theorem qbq:∀ {l m:List (D×D)},l.Perm m->l.Pairwise leT->m.Pairwise leT->(∀x∈l,∀y∈l,ltT x.1 y.1=false->ltT y.1 x.1=false->x=y)->l=m
 | [],m,p,_,_,_=>(p.nil_eq).symm ▸ rfl
 | x :: l,[],p,_,_,_=>by cases p.length_eq
 | x :: l,y :: m,p,.cons h1 h2,.cons k1 k2,hu=>by
  have e:x=y:=by
   have hx:x∈y :: m:=p.mem_iff.mp gm;have hy:y∈x :: l:=p.mem_iff.mpr gm;rcases mh.mp hx with e|hx
   ·exact e
   ·rcases mh.mp hy with e|hy'
    ·exact e.symm
    ·exact hu x gm y hy (k1 x hx) (h1 y hy')
  subst e;rw [qbq (List.perm_cons _ |>.mp p) h2 k2 (fun a ha b hb=>hu a (gq _ ha) b (gq _ hb))]
theorem q6g{l m:List (D×D)}(p:m.Perm l)(h:m.Pairwise leT)(hu:∀x∈l,∀y∈l,ltT x.1 y.1=false->ltT y.1 x.1=false->x=y): m=kc l:=
 qbq (p.trans (q7l l).symm) h (q7m l) (fun x hx y hy=>hu x (p.mem_iff.mp hx) y (p.mem_iff.mp hy))
end DL
namespace Srt
open PySem PyProof.Rows
structure Cmp(prog:Program)(w:World)(A:Around)(s:Shared)(κ : SortKind)(G:Value->Prop)(lt:Value->Value->Bool): Prop where
 ask:∀x y,G x->G y->∀Q:Bool->Shared->Prop,Q (lt x y) s->wpAny (model prog w) A (keyLt' κ x y) Q (fun _ _=>False) s
 asy:∀x y,lt x y=true->lt y x=false
 tra:∀x y z,lt y x=false->lt z y=false->lt z x=false
abbrev q1f:Bool->Keyed->Array Keyed->Nat->Nat->Nat->StateT SortSt Sem (Option Nat):=sortPriv% PySem.Builtin.gallop
noncomputable def qr0(far:Nat->StateT SortSt Sem (Option Bool))(n l0 r0:Nat): StateT SortSt Sem (Option Nat):=do
 let mut l:=l0
 let mut r:=r0
 for _ in [0:n] do
  if l>=r then break
  let c:=l+(r-l) / 2
  let some go <- far c|return none
  if go then l:=c+1 else r:=c
 return some r
noncomputable def ql3(far:Nat->StateT SortSt Sem (Option Bool))(n hi0:Nat): StateT SortSt Sem (Option Nat):=do
 let mut u:=0
 let mut v:=1
 let mut l:=0
 let mut r:=0
 let some rg <- far hi0|return none
 if rg then
  let mo:=n-hi0
  for _ in [0:n] do
   if v>=mo then break
   let some go <- far (hi0+v)|return none
   if !go then break
   u:=v
   v:=2*v+1
  l:=hi0+u+1
  r:=hi0+min v mo
 else
  let mo:=hi0+1
  for _ in [0:n] do
   if v>=mo then break
   let some go <- far (hi0-v)|return none
   if go then break
   u:=v
   v:=2*v+1
  l:=hi0+1-min v mo
  r:=hi0-u
 for _ in [0:n] do
  if l>=r then break
  let c:=l+(r-l) / 2
  let some go <- far c|return none
  if go then l:=c+1 else r:=c
 return some r
noncomputable def qr1(lf:Bool)(ke:Keyed)(xs:Array Keyed)(ba i:Nat): StateT SortSt Sem (Option Bool):=do
 let x <- elem' xs (ba+i)
 if lf then lt' x ke else return (<- lt' ke x).map (!·)
theorem qnw(lf:Bool)(ke:Keyed)(xs:Array Keyed)(ba n hi0:Nat): q1f lf ke xs ba n hi0=ql3 (qr1 lf ke xs ba) n hi0:=rfl
section
variable{prog:Program}{w:World}{A:Around}{E:Value->Shared->Prop}{s:Shared}{κ : SortKind}{G:Value->Prop}{lt:Value->Value->Bool}
def kz(p:Option Keyed): Value:=match p with|some p=>p.1|none=>.none
theorem q3e{C:Cmp prog w A s κ G lt}{st:SortSt}{x y:Keyed}{Q:Option Bool->SortSt->Prop}(hk:kindOf st = κ)(gx:G x.1)(gy:G y.1)(h:Q (some (lt x.1 y.1)) st):
  wpS (model prog w) A E s (lt' x y) Q st:=by
 rw [lt'_eq];refine m4 (g3k ?_);rw [hk];exact m4 (wpS_lift (g11 (t5 (C.ask _ _ gx gy (fun b s'=>s'=s/\b=lt x.1 y.1) ⟨rfl,rfl⟩) (fun b s' h'=>by
  obtain⟨rfl,rfl⟩:=h';exact⟨rfl,mm h⟩) fun _ _ e=>e.elim)))
theorem zf{st:SortSt}{xs:Array Keyed}{i:Nat}{Q:Keyed->SortSt->Prop}(hi:i<xs.size)(h:Q xs[i] st): wpS (model prog w) A E s (elem' xs i) Q st:=by
 rw [elem'_eq,g23 xs i hi];exact mm h
def far1(lt:Value->Value->Bool)(lf:Bool)(ke x:Keyed): Bool:=if lf then lt x.1 ke.1 else !lt ke.1 x.1
theorem ql4{st:SortSt}{far:Nat->StateT SortSt Sem (Option Bool)}{n hi0:Nat}{Q:Option Nat->SortSt->Prop}(f:Nat->Bool)(hh:hi0<n)
  (hfar:∀i,i<n->∀R:Option Bool->SortSt->Prop,R (some (f i)) st->wpS (model prog w) A E s (far i) R st)
  (mono':∀i j,i<=j->j<n->f j=true->f i=true)
  (h':∀k,k<=n->(∀i,i<k->f i=true)->(∀i,k<=i->i<n->f i=false)->Q (some k) st) :
  wpS (model prog w) A E s (ql3 far n hi0) Q st:=by
 unfold ql3;have bin:∀l r,l<=r->r<=n->(∀i,i<l->f i=true)->(∀i,r<=i->i<n->f i=false)->wpS (model prog w) A E s (qr0 far n l r) Q st:=by
  intro l r hlr hrn ha hb;unfold qr0;refine m4 (um (g07 (I:=fun x c st'=>st'=st/\∃l r,c=(none,l,r)/\l<=r/\r<=n/\r-l<=n-x/\(∀i,i<l->f i=true)/\(∀i,r<=i->i<n->f i=false))
   (Q:=fun c st'=>st'=st/\∃r,c=(none,r,r)/\r<=n/\(∀i,i<r->f i=true)/\(∀i,r<=i->i<n->f i=false)) ?_ ?_ ?_) ?_)
  ·rintro x c st' _ hx ⟨rfl,l,r,rfl,h1,h2,h3,h4,h5⟩
   dsimp only
   by_cases hge:l>=r
   ·rw [mi hge]
    have:l=r:=by omega
    subst this;exact mm ⟨rfl,l,rfl,h2,h4,h5⟩
   ·rw [mn hge]
    refine m4 (hfar _ (by omega) _ ?_);cases e:f (l+(r-l) / 2)
    ·simp only [gh,nz]
     refine mm ⟨rfl,_,_,rfl,by omega,by omega,by omega,h4,fun i i1 i2=>?_⟩;cases e':f i
     ·rfl
     ·rw [mono' _ _ i1 i2 e'] at e;cases e
    ·simp only [nu]
     exact mm ⟨rfl,_,_,rfl,by omega,by omega,by omega,fun i i1=>mono' _ _ (by omega) (by omega) e,h5⟩
  ·rintro c st' ⟨rfl,l,r,rfl,h1,h2,h3,h4,h5⟩
   have:l=r:=by omega
   subst this;exact⟨rfl,l,rfl,h2,h4,h5⟩
  ·exact⟨rfl,l,r,rfl,hlr,hrn,by omega,ha,hb⟩
  ·rintro c st' ⟨rfl,r,rfl,h2,h4,h5⟩
   exact mm (h' r h2 h4 h5)
 refine m4 (hfar hi0 hh _ ?_);dsimp only;cases e0:f hi0
 ·simp only [gh,nz]
  refine m4 (um (g07 (I:=fun x c st'=>st'=st/\∃u v,c=(none,u,v)/\u<v/\x+1<=v/\u<=hi0/\f (hi0-u)=false)
   (Q:=fun c st'=>st'=st/\∃u v,c=(none,u,v)/\u<v/\u<=hi0/\f (hi0-u)=false/\(v>=hi0+1\/f (hi0-v)=true)) ?_ ?_ ?_) ?_)
  ·rintro x c st' _ hx ⟨rfl,u,v,rfl,h1,h2,h3,h4⟩
   dsimp only
   by_cases hge:v>=hi0+1
   ·rw [mi hge]
    exact mm ⟨rfl,u,v,rfl,h1,h3,h4,.inl hge⟩
   ·rw [mn hge]
    refine m4 (hfar _ (by omega) _ ?_);cases e:f (hi0-v)
    ·simp only [gh,nz]
     exact mm ⟨rfl,v,2*v+1,rfl,by omega,by omega,by omega,e⟩
    ·simp only [nu]
     exact mm ⟨rfl,u,v,rfl,h1,h3,h4,.inr e⟩
  ·rintro c st' ⟨rfl,u,v,rfl,h1,h2,h3,h4⟩
   exact⟨rfl,u,v,rfl,h1,h3,h4,.inl (by omega)⟩
  ·exact⟨rfl,0,1,rfl,by omega,by omega,by omega,e0⟩
  ·rintro c st' ⟨rfl,u,v,rfl,h1,h3,h4,h5⟩
   dsimp only;refine bin (hi0+1-min v (hi0+1)) (hi0-u) (by omega) (by omega) (fun i hi=>?_) (fun i i1 i2=>?_)
   ·rcases h5 with h5|h5
    ·omega
    ·exact mono' _ _ (by omega) (by omega) h5
   ·cases e':f i
    ·rfl
    ·rw [mono' _ _ i1 i2 e'] at h4;cases h4
 ·simp only [nu]
  refine m4 (um (g07 (I:=fun x c st'=>st'=st/\∃u v,c=(none,u,v)/\u<v/\x+1<=v/\hi0+u<n/\f (hi0+u)=true)
   (Q:=fun c st'=>st'=st/\∃u v,c=(none,u,v)/\u<v/\hi0+u<n/\f (hi0+u)=true/\(v>=n-hi0\/f (hi0+v)=false)) ?_ ?_ ?_) ?_)
  ·rintro x c st' _ hx ⟨rfl,u,v,rfl,h1,h2,h3,h4⟩
   dsimp only
   by_cases hge:v>=n-hi0
   ·rw [mi hge]
    exact mm ⟨rfl,u,v,rfl,h1,h3,h4,.inl hge⟩
   ·rw [mn hge]
    refine m4 (hfar _ (by omega) _ ?_);cases e:f (hi0+v)
    ·simp only [g2o,nu]
     exact mm ⟨rfl,u,v,rfl,h1,h3,h4,.inr e⟩
    ·simp only [g12,gh,nz]
     exact mm ⟨rfl,v,2*v+1,rfl,by omega,by omega,by omega,e⟩
  ·rintro c st' ⟨rfl,u,v,rfl,h1,h2,h3,h4⟩
   exact⟨rfl,u,v,rfl,h1,h3,h4,.inl (by omega)⟩
  ·exact⟨rfl,0,1,rfl,by omega,by omega,by omega,e0⟩
  ·rintro c st' ⟨rfl,u,v,rfl,h1,h3,h4,h5⟩
   dsimp only;refine bin (hi0+u+1) (hi0+min v (n-hi0)) (by omega) (by omega) (fun i hi=>mono' _ (hi0+u) (by omega) (by omega) h4) (fun i i1 i2=>?_);rcases h5 with h5|h5
   ·omega
   ·cases e':f i
    ·rfl
    ·by_cases hv:v<=n-hi0
     ·rw [mono' _ _ (show hi0+v<=i by omega) i2 e'] at h5;cases h5
     ·omega
theorem q1t(C:Cmp prog w A s κ G lt){st:SortSt}{lf:Bool}{ke:Keyed}{xs:Array Keyed}{ba n hi0:Nat}{Q:Option Nat->SortSt->Prop}(hk:kindOf st = κ)
  (gk:G ke.1) (gx:∀p∈xs.toList,G p.1) (hh:hi0<n) (hn:ba+n<=xs.size)
  (mono:∀i j,(hij:i<=j)->(hj:j<n)->far1 lt lf ke (xs[ba+j]'(by omega))=true->far1 lt lf ke (xs[ba+i]'(by omega))=true)
  (h:∀k,k<=n->(∀i,(hi:i<k)->(hi':i<n)->far1 lt lf ke (xs[ba+i]'(by omega))=true)->(∀i,k<=i->(hi:i<n)->far1 lt lf ke (xs[ba+i]'(by omega))=false)->Q (some k) st) :
  wpS (model prog w) A E s (q1f lf ke xs ba n hi0) Q st:=by
 rw [qnw];obtain⟨f,hf⟩:∃f:Nat->Bool,∀i,(hi:i<n)->f i=far1 lt lf ke (xs[ba+i]'(by omega)):=⟨fun i=>if hi:i<n then far1 lt lf ke (xs[ba+i]'(by omega)) else false,fun i hi=>by simp [hi]⟩
 refine ql4 f hh (fun i hi R hR=>?_) (fun i j hij hj e=>?_) (fun k hk1 a b=>?_)
 ·unfold qr1
  refine m4 (zf (by omega) ?_);have gi:G (xs[ba+i]'(by omega)).1:=gx _ (by simp);rw [hf i hi] at hR;unfold far1 at hR;cases lf
  ·simp only [gh,nz] at hR ⊢
   exact m4 (q3e (C:=C) hk gk gi (mm hR))
  ·simp only [nu] at hR ⊢
   exact q3e (C:=C) hk gi gk hR
 ·rw [hf i (by omega)];rw [hf j hj] at e
  exact mono i j hij hj e
 ·exact h k hk1 (fun i hi hi'=>by rw [<- hf i hi'];exact a i hi) (fun i hi hi'=>by rw [<- hf i hi'];exact b i hi hi')
end
def le(lt:Value->Value->Bool)(p q:Keyed): Prop:=lt q.1 p.1=false
structure MI(lt:Value->Value->Bool)(la lb o:List Keyed)(ia ib:Nat): Prop where
 perm:o.Perm (la.take ia++lb.take ib)
 ord:o.Pairwise (le lt)
 ua:∀p∈o,∀q∈la.drop ia,le lt p q
 ub:∀p∈o,∀q∈lb.drop ib,le lt p q
section
variable{lt:Value->Value->Bool}{la lb o:List Keyed}{ia ib:Nat}
theorem MI.swap(h:MI lt la lb o ia ib): MI lt lb la o ib ia:=⟨h.perm.trans uq,h.ord,h.ub,h.ua⟩
theorem q8m(sa:la.Pairwise (le lt))(h:ia<la.length): ∀q∈la.drop (ia+1),le lt la[ia] q:=by
 have e:=td h;have s2:=g3c (i:=ia) sa;rw [e] at s2;exact(g1r.mp s2).1
theorem MI.step(m:MI lt la lb o ia ib)(sa:la.Pairwise (le lt))(h:ia<la.length)(hq:∀q∈lb.drop ib,le lt la[ia] q): MI lt la lb (o++[la[ia]]) (ia+1) ib:=by
 have e:=td h;refine⟨?_,?_,?_,?_⟩
 ·rw [t6 h]
  refine(m.perm.append_right _).trans ?_;rw [my,my];exact g0a _ uq
 ·refine pb.mpr ⟨m.ord,g2b _ _,fun p hp q hq=>?_⟩
  rw [n9.mp hq];exact m.ua p hp _ (by rw [e];exact gm)
 ·intro p hp q hq'
  rcases ny.mp hp with hp|hp
  ·exact m.ua p hp q (by rw [e];exact gq _ hq')
  ·rw [n9.mp hp]
   exact q8m sa h q hq'
 ·intro p hp q hq'
  rcases ny.mp hp with hp|hp
  ·exact m.ub p hp q hq'
  ·rw [n9.mp hp]
   exact hq q hq'
theorem MI.steps(m:MI lt la lb o ia ib)(sa:la.Pairwise (le lt)): ∀(k:Nat),ia+k<=la.length->(∀i,(hi:i<k)->(hl:ia+i<la.length)->∀q∈lb.drop ib,le lt la[ia+i] q) ->
  MI lt la lb (o++(la.drop ia).take k) (ia+k) ib
 | 0,_,_=>by simpa using m
 | k+1,hk,hq=>by
  have m':=MI.steps m sa k (by omega) (fun i hi hl=>hq i (by omega) hl);have m2:=m'.step sa (by omega) (hq k (by omega) (by omega));have e:(la.drop ia).take (k+1)=(la.drop ia).take k++[la[ia+k]]:=by
   rw [t6 (by simp;omega)];simp
  rw [e, <- my];exact m2
theorem MI.fin(m:MI lt la lb o ia ib)(sa:la.Pairwise (le lt))(hb:lb.length<=ib): (o++la.drop ia).Perm (la++lb)/\(o++la.drop ia).Pairwise (le lt):=by
 refine⟨?_,pb.mpr ⟨m.ord,g3c sa,m.ua⟩⟩;have:=m.perm;rw [ui hb] at this;refine(this.append_right _).trans ?_;rw [my];refine(g0a _ uq).trans ?_;rw [<- my,ph]
theorem MI.last(m:MI lt la lb o ia ib)(sa:la.Pairwise (le lt))(sb:lb.Pairwise (le lt))(hl:∀q∈lb.drop ib,∀p∈la.drop ia,le lt q p):
  (o++lb.drop ib++la.drop ia).Perm (la++lb)/\(o++lb.drop ib++la.drop ia).Pairwise (le lt):=by
 refine⟨?_,pb.mpr ⟨pb.mpr ⟨m.ord,g3c sb,m.ub⟩,g3c sa,fun p hp q hq=>?_⟩⟩
 ·have:=m.perm
  refine((this.append_right _).append_right _).trans ?_;have e1:(la.take ia++lb.take ib++lb.drop ib++la.drop ia)=la.take ia++(lb++la.drop ia):=by
   rw [my (la.take ia),ph,my]
  rw [e1];refine(g0a _ uq).trans ?_;rw [<- my,ph]
 ·rcases ny.mp hp with hp|hp
  ·exact m.ua p hp q hq
  ·exact hl p hp q hq
end
abbrev qfu:Array Keyed->Array Keyed->StateT SortSt Sem (Array Keyed):=sortPriv% PySem.Builtin.mergeLo
abbrev q1m(g:Nat): StateT SortSt Sem Unit:=modify fun z=>SortSt.mk' (kindOf z) (arrOf z) (pendingOf z) g (failedOf z)
theorem bc{α β : Type}{m:StateT SortSt Sem α}{f g : α -> StateT SortSt Sem β}(h:∀x,f x=g x): m >>= f=m >>= g:=by rw [funext h]
theorem bc2{α β : Type}{m n:StateT SortSt Sem α}{f g : α -> StateT SortSt Sem β}(hm:m=n)(h:∀x,f x=g x): m >>= f=n >>= g:=by rw [hm,funext h]
theorem fc{β : Type}{r:Std.Legacy.Range}{b : β}{f g:Nat -> β -> StateT SortSt Sem (ForInStep β)}(h:∀x u,f x u=g x u): forIn r b f=forIn r b g:=by
 rw [show f=g from funext fun x=>funext fun u=>h x u]
abbrev TI:=Option (Array Keyed)×Array Keyed×Nat×Nat×Nat×Nat
abbrev TG:=Option (Array Keyed)×Array Keyed×Nat×Nat×Nat×Nat×Nat
abbrev TO:=Option (Array Keyed)×Array Keyed×Nat×Nat×Nat
section
variable(a b:Array Keyed)
def fiL(o:Array Keyed)(i j:Nat): Array Keyed:=o++a.extract i a.size++b.extract j b.size
def laL(o:Array Keyed)(i j:Nat): Array Keyed:=o++b.extract j b.size++a.extract i a.size
noncomputable def loI(g:Nat)(t:TI): StateT SortSt Sem (ForInStep TI):=do
 match <- lt' (<- elem' b t.2.2.2.1) (<- elem' a t.2.2.1) with
 | some wi=>
  if wi=true then
   let x <- elem' b t.2.2.2.1
   if(t.2.2.2.1+1==b.size)=true then pure (.done (some (fiL a b (t.2.1.push x) t.2.2.1 (t.2.2.2.1+1)),t.2.1.push x,t.2.2.1,t.2.2.2.1+1,0,t.2.2.2.2.2+1))
   else if t.2.2.2.2.2+1>=g then pure (.done (none,t.2.1.push x,t.2.2.1,t.2.2.2.1+1,0,t.2.2.2.2.2+1))
   else pure (.yield (none,t.2.1.push x,t.2.2.1,t.2.2.2.1+1,0,t.2.2.2.2.2+1))
  else
   let x <- elem' a t.2.2.1
   if(t.2.2.1+1+1==a.size)=true then pure (.done (some (laL a b (t.2.1.push x) (t.2.2.1+1) t.2.2.2.1),t.2.1.push x,t.2.2.1+1,t.2.2.2.1,t.2.2.2.2.1+1,0))
   else if t.2.2.2.2.1+1>=g then pure (.done (none,t.2.1.push x,t.2.2.1+1,t.2.2.2.1,t.2.2.2.2.1+1,0))
   else pure (.yield (none,t.2.1.push x,t.2.2.1+1,t.2.2.2.1,t.2.2.2.2.1+1,0))
 | _=>pure (.done (some (fiL a b t.2.1 t.2.2.1 t.2.2.2.1),t.2.1,t.2.2.1,t.2.2.2.1,t.2.2.2.2.1,t.2.2.2.2.2))
noncomputable def loD(o:Array Keyed)(i j g c d:Nat): StateT SortSt Sem (ForInStep TG):=do
 let x <- elem' a i
 if(i+1+1==a.size)=true then pure (.done (some (laL a b (o.push x) (i+1) j),o.push x,i+1,j,g,c,d))
 else if(decide (c<7)&&decide (d<7))=true then pure (.done (none,o.push x,i+1,j,g,c,d))
 else pure (.yield (none,o.push x,i+1,j,g,c,d))
noncomputable def loC(o:Array Keyed)(i j g c d:Nat): StateT SortSt Sem (ForInStep TG):=do
 let x <- elem' b j
 if(j+1==b.size)=true then pure (.done (some (fiL a b (o.push x) i (j+1)),o.push x,i,j+1,g,c,d))
 else do
  match <- q1f true (<- elem' a i) b (j+1) (b.size-(j+1)) 0 with
  | some k=>
   if k>0 then
    if(j+1+k==b.size)=true then pure (.done (some (fiL a b (o.push x++b.extract (j+1) (j+1+k)) i (j+1+k)),o.push x++b.extract (j+1) (j+1+k),i,j+1+k,g,c,k))
    else loD a b (o.push x++b.extract (j+1) (j+1+k)) i (j+1+k) g c k
   else loD a b (o.push x) i (j+1) g c k
  | _=>pure (.done (some (fiL a b (o.push x) i (j+1)),o.push x,i,j+1,g,c,d))
noncomputable def loB(o:Array Keyed)(i j g c d:Nat): StateT SortSt Sem (ForInStep TG):=do
 q1m g
 match <- q1f false (<- elem' b j) a i (a.size-i) 0 with
 | some k=>
  if k>0 then
   if(i+k+1==a.size)=true then pure (.done (some (laL a b (o++a.extract i (i+k)) (i+k) j),o++a.extract i (i+k),i+k,j,g,k,d))
   else if(i+k==a.size)=true then pure (.done (some (fiL a b (o++a.extract i (i+k)) (i+k) j),o++a.extract i (i+k),i+k,j,g,k,d))
   else loC a b (o++a.extract i (i+k)) (i+k) j g k d
  else loC a b o i j g k d
 | _=>pure (.done (some (fiL a b o i j),o,i,j,g,c,d))
noncomputable def loG(t:TG): StateT SortSt Sem (ForInStep TG):=
 if t.2.2.2.2.1>1 then loB a b t.2.1 t.2.2.1 t.2.2.2.1 (t.2.2.2.2.1-1) t.2.2.2.2.2.1 t.2.2.2.2.2.2 else loB a b t.2.1 t.2.2.1 t.2.2.2.1 t.2.2.2.2.1 t.2.2.2.2.2.1 t.2.2.2.2.2.2
noncomputable def loO(t:TO): StateT SortSt Sem (ForInStep TO):=do
 let u <- forIn [0:a.size+b.size] ((none,t.2.1,t.2.2.1,t.2.2.2.1,0,0):TI) fun _=>loI a b t.2.2.2.2
 match u.1 with
 | some r=>pure (.done (some r,u.2.1,u.2.2.1,u.2.2.2.1,t.2.2.2.2))
 | none=>do
  rule "list.sort.gallop"
  let v <- forIn [0:a.size+b.size] ((none,u.2.1,u.2.2.1,u.2.2.2.1,t.2.2.2.2+1,u.2.2.2.2.1,u.2.2.2.2.2):TG) fun _=>loG a b
  match v.1 with
  | some r=>pure (.done (some r,v.2.1,v.2.2.1,v.2.2.2.1,v.2.2.2.2.1))
  | none=>do
   q1m (v.2.2.2.2.1+1)
   pure (.yield (none,v.2.1,v.2.2.1,v.2.2.2.1,v.2.2.2.2.1+1))
end
theorem ql5(a b:Array Keyed): qfu a b=(do
 rule "list.sort.merge-lo"
 let all:=a.size+b.size
 let fi (o:Array Keyed) (i j:Nat):=o++a.extract i a.size++b.extract j b.size
 let la (o:Array Keyed) (i j:Nat):=o++b.extract j b.size++a.extract i a.size
 let mut o:Array Keyed:= #[<- elem' b 0]
 let mut i:=0
 let mut j:=1
 if j==b.size then return fi o i j
 if i+1==a.size then return la o i j
 let mut g:=gallopOf (<- get)
 for _ in [0:all] do
  let mut c:=0
  let mut d:=0
  for _ in [0:all] do
   let some wi <- lt' (<- elem' b j) (<- elem' a i)|return fi o i j
   if wi then
    o:=o.push (<- elem' b j);j:=j+1;d:=d+1;c:=0
    if j==b.size then return fi o i j
    if d>=g then break
   else
    o:=o.push (<- elem' a i);i:=i+1;c:=c+1;d:=0
    if i+1==a.size then return la o i j
    if c>=g then break
  rule "list.sort.gallop"
  g:=g+1
  for _ in [0:all] do
   if g>1 then g:=g-1
   q1m g
   let some k <- q1f false (<- elem' b j) a i (a.size-i) 0|return fi o i j
   c:=k
   if k>0 then
    o:=o++a.extract i (i+k);i:=i+k
    if i+1==a.size then return la o i j
    if i==a.size then return fi o i j
   o:=o.push (<- elem' b j);j:=j+1
   if j==b.size then return fi o i j
   let some k <- q1f true (<- elem' a i) b j (b.size-j) 0|return fi o i j
   d:=k
   if k>0 then
    o:=o++b.extract j (j+k);j:=j+k
    if j==b.size then return fi o i j
   o:=o.push (<- elem' a i);i:=i+1
   if i+1==a.size then return la o i j
   if c<7&&d<7 then break
  g:=g+1
  q1m g
 unsupported "internal:list.sort.merge-bound"):=rfl
theorem qnx (a b:Array Keyed):qfu a b=(do
 rule "list.sort.merge-lo"
 let x <- elem' b 0
 if(1==b.size)=true then return fiL a b #[x] 0 1
 if(0+1==a.size)=true then return laL a b #[x] 0 1
 let z <- get
 let t <- forIn [0:a.size+b.size] ((none, #[x],0,1,gallopOf z):TO) fun _=>loO a b
 match t.1 with
 | some r=>pure r
 | none=>unsupported "internal:list.sort.merge-bound"):=by
 rw [ql5];dsimp only;refine bc fun _=>bc fun x=>g0b rfl (fun _=>rfl) fun _=>g0b rfl (fun _=>rfl) fun _=>bc fun z=>bc2 (fc fun _ t=>?_) fun t=>?_
 ·unfold loO
  refine bc2 (fc fun _ u=>?_) fun u=>?_
  ·rfl
  ·cases e:u.1 with
   | some r=>rfl
   | none=>
    refine bc fun _=>bc2 (fc fun _ v=>?_) fun v=>?_
    ·unfold loG
     refine g0b rfl (fun _=>?_) (fun _=>?_)
     all_goals
      unfold loB;refine bc fun _=>bc fun y=>bc fun k=>?_;cases k with
      | none=>rfl
      | some k=>
       dsimp only;refine g0b rfl (fun _=>g0b rfl (fun _=>rfl) fun _=>g0b rfl (fun _=>rfl) fun _=>?_) (fun _=>?_)
       all_goals
        unfold loC;refine bc fun y=>g0b rfl (fun _=>rfl) fun _=>bc fun y=>bc fun k=>?_;cases k with
        | none=>rfl
        | some k=>rfl
    ·cases e:v.1 <;> rfl
 ·cases e:t.1 <;> rfl
def Eg(st st':SortSt): Prop:=kindOf st'=kindOf st/\arrOf st'=arrOf st/\pendingOf st'=pendingOf st/\failedOf st'=failedOf st
theorem Eg.rfl'(st:SortSt): Eg st st:=⟨rfl,rfl,rfl,rfl⟩
theorem Eg.trans{a b c:SortSt}(h:Eg a b)(k:Eg b c): Eg a c:=⟨k.1.trans h.1,k.2.1.trans h.2.1,k.2.2.1.trans h.2.2.1,k.2.2.2.trans h.2.2.2⟩
section
variable{prog:Program}{w:World}{A:Around}{E:Value->Shared->Prop}{s:Shared}{κ : SortKind}{G:Value->Prop}{lt:Value->Value->Bool}
theorem q3q{st:SortSt}{g:Nat}{Q:Unit->SortSt->Prop}(h:∀st',Eg st st'->Q () st'): wpS (model prog w) A E s (q1m g) Q st:=g4e (h _ ⟨rfl,rfl,rfl,rfl⟩)
variable{a b:Array Keyed}
def Rm(lt:Value->Value->Bool)(a b r:Array Keyed): Prop:=r.toList.Perm (a.toList++b.toList)/\r.toList.Pairwise (le lt)
structure Mh(G:Value->Prop)(lt:Value->Value->Bool)(a b:Array Keyed): Prop where
 ga:∀p∈a.toList,G p.1
 gb:∀p∈b.toList,G p.1
 sa:a.toList.Pairwise (le lt)
 sb:b.toList.Pairwise (le lt)
 ha:1<=a.size
 hb:1<=b.size
 first:∀q∈a.toList,lt (b[0]'hb).1 q.1=true
 last:∀q∈b.toList,lt q.1 (a[a.size-1]'(by lia)).1=true
def OkM(lt:Value->Value->Bool)(a b:Array Keyed)(n:Nat)(x:Option (Array Keyed))(o:Array Keyed)(i j:Nat): Prop:=match x with
 | some r=>Rm lt a b r
 | none=>MI lt a.toList b.toList o.toList i j/\i+1<a.size/\j<b.size/\n<=i+j
theorem q3r(x:Array Keyed)(i:Nat): (x.extract i x.size).toList=x.toList.drop i:=by
 rw [g0u];show(x.toList.drop i).take (x.size-i)=_;exact ui (by simp)
theorem fiR{o:Array Keyed}{i j:Nat}(m:MI lt a.toList b.toList o.toList i j)(sa:a.toList.Pairwise (le lt))(hj:j=b.size): Rm lt a b (fiL a b o i j):=by
 have:=m.fin sa (by simp;lia);unfold Rm fiL;subst hj;have e:(o++a.extract i a.size++b.extract b.size b.size).toList=o.toList++a.toList.drop i:=by
  rw [pz,pz,q3r,q3r];simp
 rw [e];exact this
theorem laR{o:Array Keyed}{i j:Nat}(H:Mh G lt a b)(C:Cmp prog w A s κ G lt)(m:MI lt a.toList b.toList o.toList i j)(hi:i+1=a.size): Rm lt a b (laL a b o i j):=by
 have e1:a.toList.drop i=[a[i]'(by lia)]:=by
  rw [td (by simp;lia)];simp;lia
 have:=m.last H.sa H.sb (fun q hq p hp=>by
  rw [e1] at hp;rw [n9.mp hp];have h1:=H.last q (g2t hq);have e2:a[a.size-1]'(by have:=H.ha;lia)=a[i]'(by lia):=by congr 1;lia
  rw [e2] at h1;exact C.asy _ _ h1)
 unfold Rm laL;have e:(o++b.extract j b.size++a.extract i a.size).toList=o.toList++b.toList.drop j++a.toList.drop i:=by
  rw [pz,pz,q3r,q3r]
 rw [e];exact this
theorem qid(C:Cmp prog w A s κ G lt){x y z:Keyed}(h:le lt x y)(k:le lt y z): le lt x z:=C.tra _ _ _ h k
theorem q5l(C:Cmp prog w A s κ G lt){l:List Keyed}(sl:l.Pairwise (le lt)){i:Nat}(hi:i<l.length){x:Keyed}(h:le lt x l[i]): ∀q∈l.drop i,le lt x q:=by
 intro q hq;rw [td hi] at hq;rcases mh.mp hq with rfl|hq
 ·exact h
 ·exact qid C h (q8m sl hi q hq)
theorem q7n{l:List Keyed}(C:Cmp prog w A s κ G lt)(hr:∀x:Keyed,lt x.1 x.1=false)(sl:l.Pairwise (le lt)){i j:Nat}(hij:i<=j)(hj:j<l.length): le lt (l[i]'(by lia)) l[j]:=by
 rcases g6o i j with h|h
 ·exact g33.mp sl i j (by lia) hj h
 ·have:i=j:=by lia
  subst this;exact hr _
theorem Cmp.irr(C:Cmp prog w A s κ G lt)(x:Value): lt x x=false:=by
 cases e:lt x x
 ·rfl
 ·have:=C.asy _ _ e;rw [e] at this;cases this
theorem qny(C:Cmp prog w A s κ G lt)(H:Mh G lt a b){st:SortSt}{g n c d:Nat}{o:Array Keyed}{i j:Nat}(hk:kindOf st = κ)(h:OkM lt a b n none o i j):
  wpS (model prog w) A E s (loI a b g (none,o,i,j,c,d)) (fun r st'=>st'=st/\match r with
   | .done u=>OkM lt a b (n+1) u.1 u.2.1 u.2.2.1 u.2.2.2.1
   | .yield u=>u.1=none/\OkM lt a b (n+1) none u.2.1 u.2.2.1 u.2.2.2.1) st:=by
 obtain⟨m,hi,hj,hn⟩:=h;unfold loI;dsimp only;refine m4 (zf hj (m4 (zf (by lia) (m4 (q3e (C:=C) hk (H.gb _ (by simp)) (H.ga _ (by simp)) ?_)))));dsimp only;cases e:lt (b[j]).1 (a[i]).1
 ·simp only [gh,nz]
  refine m4 (zf (by lia) ?_);have m2:MI lt a.toList b.toList (o.push a[i]).toList (i+1) j:=by
   have:=m.step H.sa (by simp;lia) (q5l C H.sb (by simp;lia) (i:=j) (x:=a.toList[i]'(by simp;lia)) (by simpa [le] using e))
   simpa using this
  split
  ·rename_i e2
   exact mm ⟨rfl,laR H C m2 (by simpa using e2)⟩
  ·rename_i e2
   have e2':i+1+1≠a.size:=by simpa using e2
   split
   ·exact mm ⟨rfl,m2,by first|lia|(dsimp only;lia),hj,by first|lia|(dsimp only;lia)⟩
   ·exact mm ⟨rfl,rfl,m2,by first|lia|(dsimp only;lia),hj,by first|lia|(dsimp only;lia)⟩
 ·simp only [nu]
  refine m4 (zf hj ?_);have m2:MI lt a.toList b.toList (o.push b[j]).toList i (j+1):=by
   have:=m.swap.step H.sb (by simp;lia) (q5l C H.sa (by simp;lia) (i:=i) (x:=b.toList[j]'(by simp;lia)) (by have:=C.asy _ _ e;simpa [le] using this))
   simpa using this.swap
  split
  ·rename_i e2
   exact mm ⟨rfl,fiR m2 H.sa (by simpa using e2)⟩
  ·rename_i e2
   have e2':j+1≠b.size:=by simpa using e2
   split
   ·exact mm ⟨rfl,m2,by first|lia|(dsimp only;lia),by first|lia|(dsimp only;lia),by first|lia|(dsimp only;lia)⟩
   ·exact mm ⟨rfl,rfl,m2,by first|lia|(dsimp only;lia),by first|lia|(dsimp only;lia),by first|lia|(dsimp only;lia)⟩
abbrev QG(lt:Value->Value->Bool)(a b:Array Keyed)(n:Nat)(st:SortSt): ForInStep TG->SortSt->Prop:=fun r st'=>Eg st st'/\match r with
   | .done u=>OkM lt a b n u.1 u.2.1 u.2.2.1 u.2.2.2.1
   | .yield u=>u.1=none/\OkM lt a b n none u.2.1 u.2.2.1 u.2.2.2.1
theorem qeq(C:Cmp prog w A s κ G lt)(H:Mh G lt a b){st:SortSt}{n g c d:Nat}{o:Array Keyed}{i j:Nat}(m:MI lt a.toList b.toList o.toList i j)(hi:i+1<a.size)(hj:j<b.size)(hn:n<=i+j)
  (hq:∀q∈b.toList.drop j,le lt a[i] q):wpS (model prog w) A E s (loD a b o i j g c d) (QG lt a b n st) st:=by
 unfold loD;refine m4 (zf (by lia) ?_);have m2:MI lt a.toList b.toList (o.push a[i]).toList (i+1) j:=by
  have:=m.step H.sa (by simp;lia) (by simpa using hq)
  simpa using this
 split
 ·rename_i e2
  exact mm ⟨Eg.rfl' _,laR H C m2 (by simpa using e2)⟩
 ·rename_i e2
  have e2':i+1+1≠a.size:=by simpa using e2
  split
  ·exact mm ⟨Eg.rfl' _,m2,by first|lia|(dsimp only;lia),hj,by first|lia|(dsimp only;lia)⟩
  ·exact mm ⟨Eg.rfl' _,rfl,m2,by first|lia|(dsimp only;lia),hj,by first|lia|(dsimp only;lia)⟩
theorem qer(C:Cmp prog w A s κ G lt)(H:Mh G lt a b){st:SortSt}{n g c d:Nat}{o:Array Keyed}{i j:Nat}(hk:kindOf st = κ)(m:MI lt a.toList b.toList o.toList i j)(hi:i+1<a.size)(hj:j<b.size)(hn:n<=i+j)
  (hq:∀q∈a.toList.drop i,le lt b[j] q):wpS (model prog w) A E s (loC a b o i j g c d) (QG lt a b n st) st:=by
 unfold loC;refine m4 (zf hj ?_);have m2:MI lt a.toList b.toList (o.push b[j]).toList i (j+1):=by
  have:=m.swap.step H.sb (by simp;lia) (by simpa using hq)
  simpa using this.swap
 split
 ·rename_i e2
  exact mm ⟨Eg.rfl' _,fiR m2 H.sa (by simpa using e2)⟩
 ·rename_i e2
  have e2':j+1≠b.size:=by simpa using e2
  refine m4 (zf (by lia) (m4 (q1t C hk (H.ga _ (by simp)) H.gb (by lia) (by lia) (fun x y hxy hy h1=>?_) fun k hk1 k1 k2=>?_)))
  ·simp only [far1,nu] at h1 ⊢
   have hle:=q7n C (fun x=>C.irr _) H.sb (i:=j+1+x) (j:=j+1+y) (by lia) (by simp;lia);cases e3:lt (b[j+1+x]'(by lia)).1 (a[i]).1
   ·have:=C.tra _ _ _ e3 (by simpa [le] using hle)
    rw [this] at h1;cases h1
   ·rfl
  ·dsimp only
   have k1':∀x,(hx:x<k)->(hb:j+1+x<b.size)->lt (b[j+1+x]).1 (a[i]).1=true:=fun x hx hb=>by
    have:=k1 x hx (by lia);simpa [far1] using this
   have k2':∀q∈b.toList.drop (j+1+k),le lt a[i] q:=by
    intro q hq';obtain⟨y,hy,rfl⟩:=uj.mp hq';simp only [uz,nt] at hy;have:=k2 (k+y) (by lia) (by lia);simp only [far1,nu] at this;simp only [List.getElem_drop,g4f,le];rw [<- this]
    congr 3;lia
   split
   ·have m3:MI lt a.toList b.toList (o.push b[j]++b.extract (j+1) (j+1+k)).toList i (j+1+k):=by
     have:=m2.swap.steps H.sb k (by simp;lia) (fun x hx hl=>q5l C H.sa (i:=i) (by simp;lia) (by
      have:=C.asy _ _ (k1' x hx (by simpa using hl))
      simpa [le] using this))
     have e4:(o.push b[j]++b.extract (j+1) (j+1+k)).toList=(o.push b[j]).toList++(b.toList.drop (j+1)).take k:=by
      rw [pz,g0u];simp [List.extract]
     rw [e4];exact this.swap
    split
    ·rename_i e5
     exact mm ⟨Eg.rfl' _,fiR m3 H.sa (by simpa using e5)⟩
    ·rename_i e5
     have e5':j+1+k≠b.size:=by simpa using e5
     exact qeq C H m3 hi (by lia) (by lia) k2'
   ·rename_i e5
    have:k=0:=by lia
    subst this;exact qeq C H m2 hi (by lia) (by lia) k2'
theorem qnz(C:Cmp prog w A s κ G lt)(H:Mh G lt a b){st:SortSt}{n g c d:Nat}{o:Array Keyed}{i j:Nat}(hk:kindOf st = κ)(h:OkM lt a b n none o i j):
  wpS (model prog w) A E s (loB a b o i j g c d) (QG lt a b n st) st:=by
 obtain⟨m,hi,hj,hn⟩:=h;unfold loB;refine m4 (q3q fun st' eg=>?_);have hk':kindOf st' = κ :=eg.1.trans hk;have up:∀r st'',QG lt a b n st' r st''->QG lt a b n st r st'':=fun r st'' q=>⟨eg.trans q.1,q.2⟩
 refine m4 (zf hj (m4 (q1t C hk' (H.gb _ (by simp)) H.ga (by lia) (by lia) (fun x y hxy hy h1=>?_) fun k hk1 k1 k2=>?_)))
 ·simp only [far1,gh,nz,g2k] at h1 ⊢
  have hle:=q7n C (fun x=>C.irr _) H.sa (i:=i+x) (j:=i+y) (by lia) (by simp;lia);exact C.tra _ _ _ (by simpa [le] using hle) h1
 ·dsimp only
  have k1':∀x,(hx:x<k)->(hb:i+x<a.size)->lt (b[j]).1 (a[i+x]).1=false:=fun x hx hb=>by
   have:=k1 x hx (by lia);simpa [far1] using this
  have hlt:i+k<a.size:=by
   rcases g6o (i+k) a.size with h1|h1
   ·exact h1
   ·have h2:=k1' (a.size-1-i) (by lia) (by lia)
    have h3:=H.last b[j] (by simp);have e2:a[i+(a.size-1-i)]'(by lia)=a[a.size-1]'(by lia):=by congr 1;lia
    rw [e2,h3] at h2;cases h2
  have k2':∀q∈a.toList.drop (i+k),le lt b[j] q:=by
   intro q hq';obtain⟨y,hy,rfl⟩:=uj.mp hq';simp only [uz,nt] at hy;have:=k2 (k+y) (by lia) (by lia);simp only [far1,gh,nz,g3b] at this;have:=C.asy _ _ this;simp only [List.getElem_drop,g4f,le];rw [<- this]
   congr 3;lia
  split
  ·have m3:MI lt a.toList b.toList (o++a.extract i (i+k)).toList (i+k) j:=by
    have:=m.steps H.sa k (by simp;lia) (fun x hx hl=>q5l C H.sb (i:=j) (by simp;lia) (by
     have:=k1' x hx (by simpa using hl)
     simpa [le] using this))
    have e4:(o++a.extract i (i+k)).toList=o.toList++(a.toList.drop i).take k:=by
     rw [pz,g0u];simp [List.extract]
    rw [e4];exact this
   split
   ·rename_i e5
    exact mm (up _ _ ⟨Eg.rfl' _,laR H C m3 (by simpa using e5)⟩)
   ·rename_i e5
    have e5':i+k+1≠a.size:=by simpa using e5
    split
    ·rename_i e6
     have e6':i+k=a.size:=by simpa using e6
     lia
    ·exact um (qer C H hk' m3 (by lia) hj (by lia) k2') up
  ·rename_i e5
   have:k=0:=by lia
   subst this;exact um (qer C H hk' m hi hj (by lia) k2') up
theorem qo0(C:Cmp prog w A s κ G lt)(H:Mh G lt a b){st:SortSt}{n:Nat}{t:TO}(ht:t.1=none)(hk:kindOf st = κ)(h:OkM lt a b n none t.2.1 t.2.2.1 t.2.2.2.1):
  wpS (model prog w) A E s (loO a b t) (fun r st'=>Eg st st'/\match r with
   | .done u=>(∃x,u.1=some x)/\OkM lt a b (n+1) u.1 u.2.1 u.2.2.1 u.2.2.2.1
   | .yield u=>u.1=none/\OkM lt a b (n+1) none u.2.1 u.2.2.1 u.2.2.2.1) st:=by
 unfold loO;refine m4 (um (g07 (I:=fun x u st'=>st'=st/\u.1=none/\OkM lt a b (n+x) none u.2.1 u.2.2.1 u.2.2.2.1)
  (Q:=fun u st'=>st'=st/\OkM lt a b (n+1) u.1 u.2.1 u.2.2.1 u.2.2.2.1) ?_ ?_ ⟨rfl,rfl,h⟩) ?_)
 ·rintro x ⟨u1,o,i,j,c,d⟩ st' _ hx ⟨rfl,rfl,h'⟩
  refine um (qny C H hk h') ?_
  rintro r st'' ⟨rfl,hr⟩
  cases r with
  | done u=>
   refine⟨rfl,?_⟩;dsimp only at hr ⊢;unfold OkM at hr ⊢
   split at hr
   ·exact hr
   ·exact⟨hr.1,hr.2.1,hr.2.2.1,by lia⟩
  | yield u=>exact⟨rfl,hr.1,hr.2.1,hr.2.2.1,hr.2.2.2.1,by have:=hr.2.2.2.2;lia⟩
 ·rintro u st' ⟨rfl,hu,m,h1,h2,h3⟩
  rw [hu];exact⟨rfl,m,h1,h2,by lia⟩
 ·rintro⟨u1,o,i,j,c,d⟩ st' ⟨rfl,hu⟩
  cases u1 with
  | some r=>exact mm ⟨Eg.rfl' _,⟨r,rfl⟩,hu⟩
  | none=>
   dsimp only at hu ⊢;refine m4 (wpS_lift (g02 ⟨rfl,?_⟩));refine m4 (um (g07 (I:=fun x v st''=>Eg st' st''/\v.1=none/\OkM lt a b (n+1) none v.2.1 v.2.2.1 v.2.2.2.1)
    (Q:=fun v st''=>Eg st' st''/\OkM lt a b (n+1) v.1 v.2.1 v.2.2.1 v.2.2.2.1) ?_ ?_ ⟨Eg.rfl' _,rfl,hu⟩) ?_)
   ·rintro x ⟨v1,o,i,j,g,c,d⟩ st'' _ hx ⟨eg,rfl,h'⟩
    unfold loG;dsimp only at h' ⊢;have key:∀g',wpS (model prog w) A E s (loB a b o i j g' c d) (fun r st3=>match r with
      | .done v=>Eg st' st3/\OkM lt a b (n+1) v.1 v.2.1 v.2.2.1 v.2.2.2.1
      | .yield v=>Eg st' st3/\v.1=none/\OkM lt a b (n+1) none v.2.1 v.2.2.1 v.2.2.2.1) st'':=by
     intro g';refine um (qnz C H (eg.1.trans hk) h') ?_
     rintro r st3 ⟨eg3,hr⟩
     cases r with
     | done v=>exact⟨eg.trans eg3,hr⟩
     | yield v=>exact⟨eg.trans eg3,hr⟩
    split
    ·exact um (key _) fun r st3 hr=>by cases r <;> exact hr
    ·exact um (key _) fun r st3 hr=>by cases r <;> exact hr
   ·rintro v st'' ⟨eg,hv,h'⟩
    rw [hv];exact⟨eg,h'⟩
   ·rintro⟨v1,o,i,j,g,c,d⟩ st'' ⟨eg,hv⟩
    cases v1 with
    | some r=>exact mm ⟨eg,⟨r,rfl⟩,hv⟩
    | none=>
     dsimp only at hv ⊢;exact m4 (q3q fun st3 eg3=>mm ⟨eg.trans eg3,rfl,hv⟩)
theorem qo1(C:Cmp prog w A s κ G lt)(H:Mh G lt a b){st:SortSt}{Q:Array Keyed->SortSt->Prop}(hk:kindOf st = κ)(h:∀r st',Eg st st'->Rm lt a b r->Q r st'):
  wpS (model prog w) A E s (qfu a b) Q st:=by
 rw [qnx];refine m4 (wpS_lift (g02 ⟨rfl,?_⟩));have hb:=H.hb;have ha:=H.ha;refine m4 (zf (by lia) ?_);have m:MI lt a.toList b.toList (#[b[0]]:Array Keyed).toList 0 1:=by
  refine⟨?_,?_,?_,?_⟩
  ·have e:b.toList.take 1=[b[0]]:=by
    rw [show(1:Nat)=0+1 from rfl,t6 (by simp;lia)];simp
   rw [e];simp
  ·simp
  ·intro p hp q hq
   have:p=b[0]:=by simpa using hp
   subst this;exact C.asy _ _ (H.first q (by simpa using hq))
  ·intro p hp q hq
   have:p=b[0]:=by simpa using hp
   subst this;have:=q8m H.sb (ia:=0) (by simp;lia) q hq
   simpa using this
 split
 ·rename_i e
  exact mm (h _ _ (Eg.rfl' _) (fiR m H.sa (by simpa using e)))
 ·rename_i e
  have e':1≠b.size:=by simpa using e
  split
  ·rename_i e2
   exact mm (h _ _ (Eg.rfl' _) (laR H C m (by simpa using e2)))
  ·rename_i e2
   have e2':1≠a.size:=by simpa using e2
   refine m4 (g3k ?_);refine m4 (um (g07 (I:=fun x u st'=>Eg st st'/\u.1=none/\OkM lt a b x none u.2.1 u.2.2.1 u.2.2.2.1)
    (Q:=fun u st'=>Eg st st'/\∃r,u.1=some r/\Rm lt a b r) ?_ ?_ ⟨Eg.rfl' _,rfl,m,by first|lia|(dsimp only;lia),by first|lia|(dsimp only;lia),by first|lia|(dsimp only;lia)⟩) ?_)
   ·rintro x t st' _ hx ⟨eg,ht,h'⟩
    refine um (qo0 C H ht (eg.1.trans hk) h') ?_
    rintro r st'' ⟨eg2,hr⟩
    cases r with
    | done u=>
     obtain⟨⟨r,hr1⟩,hr2⟩:=hr;rw [hr1] at hr2;exact⟨eg.trans eg2,r,hr1,hr2⟩
    | yield u=>exact⟨eg.trans eg2,hr.1,hr.2⟩
   ·rintro u st' ⟨eg,hu,_,h1,h2,h3⟩
    lia
   ·rintro⟨u1,u2⟩ st' ⟨eg,r,hr,hR⟩
    cases hr;exact mm (h _ _ eg hR)
end
structure MJ(lt:Value->Value->Bool)(la lb o:List Keyed)(ia ib:Nat): Prop where
 perm:o.Perm (la.drop ia++lb.drop ib)
 ord:o.Pairwise (fun p q=>le lt q p)
 ua:∀p∈o,∀q∈la.take ia,le lt q p
 ub:∀p∈o,∀q∈lb.take ib,le lt q p
section
variable{lt:Value->Value->Bool}{la lb o:List Keyed}{ia ib:Nat}
theorem MJ.swap(h:MJ lt la lb o ia ib): MJ lt lb la o ib ia:=⟨h.perm.trans uq,h.ord,h.ub,h.ua⟩
theorem q8n(sa:la.Pairwise (le lt))(h:ia<la.length): ∀q∈la.take ia,le lt q la[ia]:=by
 have s2:=g3d (i:=ia+1) sa;rw [t6 h] at s2;intro q hq;exact(pb.mp s2).2.2 q hq _ (n9.mpr rfl)
theorem MJ.step(m:MJ lt la lb o (ia+1) ib)(sa:la.Pairwise (le lt))(h:ia<la.length)(hq:∀q∈lb.take ib,le lt q la[ia]): MJ lt la lb (o++[la[ia]]) ia ib:=by
 have e:=td h;have e2:=t6 h;refine⟨?_,?_,?_,?_⟩
 ·rw [e]
  refine(m.perm.append_right _).trans ?_;refine uq.trans ?_;exact g4q _
 ·refine pb.mpr ⟨m.ord,g2b _ _,fun p hp q hq=>?_⟩
  rw [n9.mp hq];exact m.ua p hp _ (by rw [e2];exact nk _ (n9.mpr rfl))
 ·intro p hp q hq'
  rcases ny.mp hp with hp|hp
  ·exact m.ua p hp q (by rw [e2];exact g2q _ hq')
  ·rw [n9.mp hp]
   exact q8n sa h q hq'
 ·intro p hp q hq'
  rcases ny.mp hp with hp|hp
  ·exact m.ub p hp q hq'
  ·rw [n9.mp hp]
   exact hq q hq'
theorem MJ.steps(m:MJ lt la lb o ia ib)(sa:la.Pairwise (le lt))(hia:ia<=la.length): ∀(k:Nat),k<=ia->(∀i,(h1:ia-k<=i)->(h2:i<ia)->∀q∈lb.take ib,le lt q (la[i]'(by lia))) ->
  MJ lt la lb (o++((la.drop (ia-k)).take k).reverse) (ia-k) ib
 | 0,_,_=>by simpa using m
 | k+1,hk,hq=>by
  have m':=MJ.steps m sa hia k (by lia) (fun i h1 h2=>hq i (by lia) h2);have e0:ia-k=ia-(k+1)+1:=by lia
  rw [e0] at m';have m2:=m'.step sa (by lia) (hq (ia-(k+1)) (by lia) (by lia));have e:((la.drop (ia-(k+1))).take (k+1)).reverse=((la.drop (ia-(k+1)+1)).take k).reverse++[la[ia-(k+1)]]:=by
   rw [td (by lia),List.take_succ_cons,List.reverse_cons]
  rw [e, <- my];exact m2
theorem qes{o:List Keyed}(h:o.Pairwise (fun p q=>le lt q p)): o.reverse.Pairwise (le lt):=List.pairwise_reverse.mpr h
theorem MJ.fin(m:MJ lt la lb o ia ib)(sb:lb.Pairwise (le lt))(ha:ia=0): (lb.take ib++o.reverse).Perm (la++lb)/\(lb.take ib++o.reverse).Pairwise (le lt):=by
 subst ha;refine⟨?_,pb.mpr ⟨g3d sb,qes m.ord,fun q hq p hp=>m.ub p (List.mem_reverse.mp hp) q hq⟩⟩;have:=m.perm;rw [g4n] at this;refine(g0a _ ((List.reverse_perm _).trans this)).trans ?_;refine uq.trans ?_;rw [my];refine g0a _ ?_;exact uq.trans (by rw [ph])
theorem MJ.last(m:MJ lt la lb o ia ib)(sa:la.Pairwise (le lt))(sb:lb.Pairwise (le lt))(hl:∀q∈lb.take ib,∀p∈la.take ia,le lt q p):
  (lb.take ib++la.take ia++o.reverse).Perm (la++lb)/\(lb.take ib++la.take ia++o.reverse).Pairwise (le lt):=by
 refine⟨?_,pb.mpr ⟨pb.mpr ⟨g3d sb,g3d sa,hl⟩,qes m.ord,fun q hq p hp=>?_⟩⟩
 ·refine(g0a _ ((List.reverse_perm _).trans m.perm)).trans ?_
  rw [my, <- my (la.take ia),ph];refine(g0a _ uq).trans ?_;rw [<- my,ph];exact uq
 ·have hp':=List.mem_reverse.mp hp
  rcases ny.mp hq with hq|hq
  ·exact m.ub p hp' q hq
  ·exact m.ua p hp' q hq
end
abbrev qfv:Array Keyed->Array Keyed->StateT SortSt Sem (Array Keyed):=sortPriv% PySem.Builtin.mergeHi
abbrev TJI:=Option (Array Keyed)×Nat×Nat×Array Keyed×Nat×Nat
abbrev TJG:=Option (Array Keyed)×Nat×Nat×Array Keyed×Nat×Nat×Nat
abbrev TJO:=Option (Array Keyed)×Nat×Nat×Array Keyed×Nat
section
variable(a b:Array Keyed)
def fiH(o:Array Keyed)(i j:Nat): Array Keyed:=a.extract 0 i++b.extract 0 j++o.reverse
def laH(o:Array Keyed)(i j:Nat): Array Keyed:=b.extract 0 j++a.extract 0 i++o.reverse
noncomputable def hiI(g:Nat)(t:TJI): StateT SortSt Sem (ForInStep TJI):=do
 match <- lt' (<- elem' b (t.2.2.1-1)) (<- elem' a (t.2.1-1)) with
 | some wi=>
  if wi=true then
   let x <- elem' a (t.2.1-1)
   if(t.2.1-1==0)=true then pure (.done (some (fiH a b (t.2.2.2.1.push x) (t.2.1-1) t.2.2.1),t.2.1-1,t.2.2.1,t.2.2.2.1.push x,t.2.2.2.2.1+1,0))
   else if t.2.2.2.2.1+1>=g then pure (.done (none,t.2.1-1,t.2.2.1,t.2.2.2.1.push x,t.2.2.2.2.1+1,0))
   else pure (.yield (none,t.2.1-1,t.2.2.1,t.2.2.2.1.push x,t.2.2.2.2.1+1,0))
  else
   let x <- elem' b (t.2.2.1-1)
   if(t.2.2.1-1==1)=true then pure (.done (some (laH a b (t.2.2.2.1.push x) t.2.1 (t.2.2.1-1)),t.2.1,t.2.2.1-1,t.2.2.2.1.push x,0,t.2.2.2.2.2+1))
   else if t.2.2.2.2.2+1>=g then pure (.done (none,t.2.1,t.2.2.1-1,t.2.2.2.1.push x,0,t.2.2.2.2.2+1))
   else pure (.yield (none,t.2.1,t.2.2.1-1,t.2.2.2.1.push x,0,t.2.2.2.2.2+1))
 | _=>pure (.done (some (fiH a b t.2.2.2.1 t.2.1 t.2.2.1),t.2.1,t.2.2.1,t.2.2.2.1,t.2.2.2.2.1,t.2.2.2.2.2))
noncomputable def hiD(i j:Nat)(o:Array Keyed)(g c d:Nat): StateT SortSt Sem (ForInStep TJG):=do
 let x <- elem' a (i-1)
 if(i-1==0)=true then pure (.done (some (fiH a b (o.push x) (i-1) j),i-1,j,o.push x,g,c,d))
 else if(decide (c<7)&&decide (d<7))=true then pure (.done (none,i-1,j,o.push x,g,c,d))
 else pure (.yield (none,i-1,j,o.push x,g,c,d))
noncomputable def hiC(i j:Nat)(o:Array Keyed)(g c d:Nat): StateT SortSt Sem (ForInStep TJG):=do
 let x <- elem' b (j-1)
 if(j-1==1)=true then pure (.done (some (laH a b (o.push x) i (j-1)),i,j-1,o.push x,g,c,d))
 else do
  match <- q1f true (<- elem' a (i-1)) b 0 (j-1) (j-1-1) with
  | some z=>
   if j-1-z>0 then
    if(z==1)=true then pure (.done (some (laH a b (o.push x++(b.extract z (j-1)).reverse) i z),i,z,o.push x++(b.extract z (j-1)).reverse,g,c,j-1-z))
    else if(z==0)=true then pure (.done (some (fiH a b (o.push x++(b.extract z (j-1)).reverse) i z),i,z,o.push x++(b.extract z (j-1)).reverse,g,c,j-1-z))
    else hiD a b i z (o.push x++(b.extract z (j-1)).reverse) g c (j-1-z)
   else hiD a b i (j-1) (o.push x) g c (j-1-z)
  | _=>pure (.done (some (fiH a b (o.push x) i (j-1)),i,j-1,o.push x,g,c,d))
noncomputable def hiB(i j:Nat)(o:Array Keyed)(g c d:Nat): StateT SortSt Sem (ForInStep TJG):=do
 q1m g
 match <- q1f false (<- elem' b (j-1)) a 0 i (i-1) with
 | some z=>
  if i-z>0 then
   if(z==0)=true then pure (.done (some (fiH a b (o++(a.extract z i).reverse) z j),z,j,o++(a.extract z i).reverse,g,i-z,d))
   else hiC a b z j (o++(a.extract z i).reverse) g (i-z) d
  else hiC a b i j o g (i-z) d
 | _=>pure (.done (some (fiH a b o i j),i,j,o,g,c,d))
noncomputable def hiG(t:TJG): StateT SortSt Sem (ForInStep TJG):=
 if t.2.2.2.2.1>1 then hiB a b t.2.1 t.2.2.1 t.2.2.2.1 (t.2.2.2.2.1-1) t.2.2.2.2.2.1 t.2.2.2.2.2.2 else hiB a b t.2.1 t.2.2.1 t.2.2.2.1 t.2.2.2.2.1 t.2.2.2.2.2.1 t.2.2.2.2.2.2
noncomputable def hiO(t:TJO): StateT SortSt Sem (ForInStep TJO):=do
 let u <- forIn [0:a.size+b.size] ((none,t.2.1,t.2.2.1,t.2.2.2.1,0,0):TJI) fun _=>hiI a b t.2.2.2.2
 match u.1 with
 | some r=>pure (.done (some r,u.2.1,u.2.2.1,u.2.2.2.1,t.2.2.2.2))
 | none=>do
  rule "list.sort.gallop"
  let v <- forIn [0:a.size+b.size] ((none,u.2.1,u.2.2.1,u.2.2.2.1,t.2.2.2.2+1,u.2.2.2.2.1,u.2.2.2.2.2):TJG) fun _=>hiG a b
  match v.1 with
  | some r=>pure (.done (some r,v.2.1,v.2.2.1,v.2.2.2.1,v.2.2.2.2.1))
  | none=>do
   q1m (v.2.2.2.2.1+1)
   pure (.yield (none,v.2.1,v.2.2.1,v.2.2.2.1,v.2.2.2.2.1+1))
end
theorem ql6(a b:Array Keyed): qfv a b=(do
 rule "list.sort.merge-hi"
 let all:=a.size+b.size
 let fi (o:Array Keyed) (i j:Nat):=a.extract 0 i++b.extract 0 j++o.reverse
 let la (o:Array Keyed) (i j:Nat):=b.extract 0 j++a.extract 0 i++o.reverse
 let mut i:=a.size-1
 let mut j:=b.size
 let mut o:Array Keyed:= #[<- elem' a i]
 if i==0 then return fi o i j
 if j==1 then return la o i j
 let mut g:=gallopOf (<- get)
 for _ in [0:all] do
  let mut c:=0
  let mut d:=0
  for _ in [0:all] do
   let some wi <- lt' (<- elem' b (j-1)) (<- elem' a (i-1))|return fi o i j
   if wi then
    i:=i-1;o:=o.push (<- elem' a i);c:=c+1;d:=0
    if i==0 then return fi o i j
    if c>=g then break
   else
    j:=j-1;o:=o.push (<- elem' b j);d:=d+1;c:=0
    if j==1 then return la o i j
    if d>=g then break
  rule "list.sort.gallop"
  g:=g+1
  for _ in [0:all] do
   if g>1 then g:=g-1
   q1m g
   let some z <- q1f false (<- elem' b (j-1)) a 0 i (i-1)|return fi o i j
   let k:=i-z
   c:=k
   if k>0 then
    o:=o++(a.extract z i).reverse;i:=z
    if i==0 then return fi o i j
   j:=j-1;o:=o.push (<- elem' b j)
   if j==1 then return la o i j
   let some z <- q1f true (<- elem' a (i-1)) b 0 j (j-1)|return fi o i j
   let k:=j-z
   d:=k
   if k>0 then
    o:=o++(b.extract z j).reverse;j:=z
    if j==1 then return la o i j
    if j==0 then return fi o i j
   i:=i-1;o:=o.push (<- elem' a i)
   if i==0 then return fi o i j
   if c<7&&d<7 then break
  g:=g+1
  q1m g
 unsupported "internal:list.sort.merge-bound"):=rfl
theorem qo2 (a b:Array Keyed):qfv a b=(do
 rule "list.sort.merge-hi"
 let x <- elem' a (a.size-1)
 if(a.size-1==0)=true then return fiH a b #[x] (a.size-1) b.size
 if(b.size==1)=true then return laH a b #[x] (a.size-1) b.size
 let z <- get
 let t <- forIn [0:a.size+b.size] ((none,a.size-1,b.size, #[x],gallopOf z):TJO) fun _=>hiO a b
 match t.1 with
 | some r=>pure r
 | none=>unsupported "internal:list.sort.merge-bound"):=by
 rw [ql6];dsimp only;refine bc fun _=>bc fun x=>g0b rfl (fun _=>rfl) fun _=>g0b rfl (fun _=>rfl) fun _=>bc fun z=>bc2 (fc fun _ t=>?_) fun t=>?_
 ·unfold hiO
  refine bc2 (fc fun _ u=>?_) fun u=>?_
  ·rfl
  ·cases e:u.1 with
   | some r=>rfl
   | none=>
    refine bc fun _=>bc2 (fc fun _ v=>?_) fun v=>?_
    ·unfold hiG
     refine g0b rfl (fun _=>?_) (fun _=>?_)
     all_goals
      unfold hiB;refine bc fun _=>bc fun y=>bc fun k=>?_;cases k with
      | none=>rfl
      | some k=>
       dsimp only;refine g0b rfl (fun _=>g0b rfl (fun _=>rfl) fun _=>?_) (fun _=>?_)
       all_goals
        unfold hiC;refine bc fun y=>g0b rfl (fun _=>rfl) fun _=>bc fun y=>bc fun k=>?_;cases k with
        | none=>rfl
        | some k=>rfl
    ·cases e:v.1 <;> rfl
 ·cases e:t.1 <;> rfl
section
variable{prog:Program}{w:World}{A:Around}{E:Value->Shared->Prop}{s:Shared}{κ : SortKind}{G:Value->Prop}{lt:Value->Value->Bool}{a b:Array Keyed}
def OkH(lt:Value->Value->Bool)(a b:Array Keyed)(n:Nat)(x:Option (Array Keyed))(i j:Nat)(o:Array Keyed): Prop:=match x with
 | some r=>Rm lt a b r
 | none=>MJ lt a.toList b.toList o.toList i j/\1<=i/\2<=j/\i<=a.size/\j<=b.size/\i+j+n<=a.size+b.size
theorem q3s(x:Array Keyed)(i:Nat): (x.extract 0 i).toList=x.toList.take i:=by
 rw [g0u];show(x.toList.drop 0).take (i-0)=_;simp
theorem qet(x:Array Keyed)(i j:Nat): ((x.extract i j).reverse).toList=((x.toList.drop i).take (j-i)).reverse:=by
 rw [g4g,g0u]
theorem fhR{o:Array Keyed}{i j:Nat}(m:MJ lt a.toList b.toList o.toList i j)(sb:b.toList.Pairwise (le lt))(hi:i=0): Rm lt a b (fiH a b o i j):=by
 have:=m.fin sb hi;subst hi;unfold Rm fiH;have e:(a.extract 0 0++b.extract 0 j++o.reverse).toList=b.toList.take j++o.toList.reverse:=by
  rw [pz,pz,q3s,q3s,g4g]
  rfl
 rw [e];exact this
theorem lhR{o:Array Keyed}{i j:Nat}(H:Mh G lt a b)(C:Cmp prog w A s κ G lt)(m:MJ lt a.toList b.toList o.toList i j)(hj:j=1): Rm lt a b (laH a b o i j):=by
 have hb:=H.hb;have e1:b.toList.take 1=[b[0]]:=by
  rw [show(1:Nat)=0+1 from rfl,t6 (by simp;lia)];simp
 subst hj;have:=m.last H.sa H.sb (fun q hq p hp=>by
  rw [e1] at hq;rw [n9.mp hq];exact C.asy _ _ (H.first p (g1c hp)))
 unfold Rm laH;have e:(b.extract 0 1++a.extract 0 i++o.reverse).toList=b.toList.take 1++a.toList.take i++o.toList.reverse:=by
  rw [pz,pz,q3s,q3s,g4g]
 rw [e];exact this
theorem qo3(C:Cmp prog w A s κ G lt){l:List Keyed}(sl:l.Pairwise (le lt)){i:Nat}(hi:i<l.length){x:Keyed}(h:le lt l[i] x): ∀q∈l.take (i+1),le lt q x:=by
 intro q hq;rw [t6 hi] at hq;rcases ny.mp hq with hq|hq
 ·exact qid C (q8n sl hi q hq) h
 ·rw [n9.mp hq];exact h
theorem MJ.stepA(H:Mh G lt a b){o:Array Keyed}{i j:Nat}(m:MJ lt a.toList b.toList o.toList i j)(h1:1<=i)(h2:i<=a.size)(hq:∀q∈b.toList.take j,le lt q (a[i-1]'(by lia))):
  MJ lt a.toList b.toList (o.push (a[i-1]'(by lia))).toList (i-1) j:=by
 obtain⟨i,rfl⟩:∃i',i=i'+1:=⟨i-1,by lia⟩
 have:=m.step H.sa (by simp;lia) (by simpa using hq)
 simpa using this
theorem MJ.stepB(H:Mh G lt a b){o:Array Keyed}{i j:Nat}(m:MJ lt a.toList b.toList o.toList i j)(h1:1<=j)(h2:j<=b.size)(hq:∀q∈a.toList.take i,le lt q (b[j-1]'(by lia))):
  MJ lt a.toList b.toList (o.push (b[j-1]'(by lia))).toList i (j-1):=by
 obtain⟨j,rfl⟩:∃j',j=j'+1:=⟨j-1,by lia⟩
 have:=m.swap.step H.sb (by simp;lia) (by simpa using hq)
 simpa using this.swap
theorem q7o(C:Cmp prog w A s κ G lt){l:Array Keyed}(sl:l.toList.Pairwise (le lt)){i:Nat}(h1:1<=i)(hi:i<=l.size){x:Keyed}(h:le lt (l[i-1]'(by lia)) x): ∀q∈l.toList.take i,le lt q x:=by
 obtain⟨i,rfl⟩:∃i',i=i'+1:=⟨i-1,by lia⟩
 exact qo3 C sl (by simp;lia) (by simpa using h)
theorem qo4(C:Cmp prog w A s κ G lt)(H:Mh G lt a b){st:SortSt}{g n c d:Nat}{o:Array Keyed}{i j:Nat}(hk:kindOf st = κ)(h:OkH lt a b n none i j o):
  wpS (model prog w) A E s (hiI a b g (none,i,j,o,c,d)) (fun r st'=>st'=st/\match r with
   | .done u=>OkH lt a b (n+1) u.1 u.2.1 u.2.2.1 u.2.2.2.1
   | .yield u=>u.1=none/\OkH lt a b (n+1) none u.2.1 u.2.2.1 u.2.2.2.1) st:=by
 obtain⟨m,h1,h2,h3,h4,h5⟩:=h;unfold hiI;dsimp only;refine m4 (zf (by lia) (m4 (zf (by lia) (m4 (q3e (C:=C) hk (H.gb _ (by simp)) (H.ga _ (by simp)) ?_)))));dsimp only;cases e:lt (b[j-1]).1 (a[i-1]).1
 ·simp only [gh,nz]
  refine m4 (zf (by lia) ?_);have m2:=m.stepB H (by lia) h4 (q7o C H.sa h1 h3 e)
  split
  ·rename_i e2
   exact mm ⟨rfl,lhR H C m2 (by simpa using e2)⟩
  ·rename_i e2
   have e2':j-1≠1:=by simpa using e2
   split
   ·exact mm ⟨rfl,m2,h1,by first|lia|(dsimp only;lia),h3,by first|lia|(dsimp only;lia),by first|lia|(dsimp only;lia)⟩
   ·exact mm ⟨rfl,rfl,m2,h1,by first|lia|(dsimp only;lia),h3,by first|lia|(dsimp only;lia),by first|lia|(dsimp only;lia)⟩
 ·simp only [nu]
  refine m4 (zf (by lia) ?_);have m2:=m.stepA H h1 h3 (q7o C H.sb (by lia) h4 (C.asy _ _ e))
  split
  ·rename_i e2
   exact mm ⟨rfl,fhR m2 H.sb (by simpa using e2)⟩
  ·rename_i e2
   have e2':i-1≠0:=by simpa using e2
   split
   ·exact mm ⟨rfl,m2,by first|lia|(dsimp only;lia),h2,by first|lia|(dsimp only;lia),h4,by first|lia|(dsimp only;lia)⟩
   ·exact mm ⟨rfl,rfl,m2,by first|lia|(dsimp only;lia),h2,by first|lia|(dsimp only;lia),h4,by first|lia|(dsimp only;lia)⟩
abbrev QH(lt:Value->Value->Bool)(a b:Array Keyed)(n:Nat)(st:SortSt): ForInStep TJG->SortSt->Prop:=fun r st'=>Eg st st'/\match r with
   | .done u=>OkH lt a b n u.1 u.2.1 u.2.2.1 u.2.2.2.1
   | .yield u=>u.1=none/\OkH lt a b n none u.2.1 u.2.2.1 u.2.2.2.1
theorem qeu(C:Cmp prog w A s κ G lt)(H:Mh G lt a b){st:SortSt}{n g c d:Nat}{o:Array Keyed}{i j:Nat}(m:MJ lt a.toList b.toList o.toList i j)(h1:1<=i)(h2:2<=j)(h3:i<=a.size)(h4:j<=b.size)(h5:i+j+n<=a.size+b.size)
  (hq:∀q∈b.toList.take j,le lt q (a[i-1]'(by lia))):wpS (model prog w) A E s (hiD a b i j o g c d) (QH lt a b n st) st:=by
 unfold hiD;refine m4 (zf (by lia) ?_);have m2:=m.stepA H h1 h3 hq
 split
 ·rename_i e2
  exact mm ⟨Eg.rfl' _,fhR m2 H.sb (by simpa using e2)⟩
 ·rename_i e2
  have e2':i-1≠0:=by simpa using e2
  split
  ·exact mm ⟨Eg.rfl' _,m2,by first|lia|(dsimp only;lia),h2,by first|lia|(dsimp only;lia),h4,by first|lia|(dsimp only;lia)⟩
  ·exact mm ⟨Eg.rfl' _,rfl,m2,by first|lia|(dsimp only;lia),h2,by first|lia|(dsimp only;lia),h4,by first|lia|(dsimp only;lia)⟩
theorem MJ.stepsA(H:Mh G lt a b){o:Array Keyed}{i j z:Nat}(m:MJ lt a.toList b.toList o.toList i j)(hz:z<=i)(h3:i<=a.size)(hq:∀x,(h1:z<=x)->(h2:x<i)->∀q∈b.toList.take j,le lt q (a[x]'(by lia))):
  MJ lt a.toList b.toList (o++(a.extract z i).reverse).toList z j:=by
 have:=m.steps H.sa (by simpa using h3) (i-z) (by lia) (fun x x1 x2=>by simpa using hq x (by lia) x2);rw [show i-(i-z)=z by lia] at this;rw [pz,qet];exact this
theorem MJ.stepsB(H:Mh G lt a b){o:Array Keyed}{i j z:Nat}(m:MJ lt a.toList b.toList o.toList i j)(hz:z<=j)(h3:j<=b.size)(hq:∀x,(h1:z<=x)->(h2:x<j)->∀q∈a.toList.take i,le lt q (b[x]'(by lia))):
  MJ lt a.toList b.toList (o++(b.extract z j).reverse).toList i z:=by
 have:=m.swap.steps H.sb (by simpa using h3) (j-z) (by lia) (fun x x1 x2=>by simpa using hq x (by lia) x2);rw [show j-(j-z)=z by lia] at this;rw [pz,qet];exact this.swap
theorem qev(C:Cmp prog w A s κ G lt)(H:Mh G lt a b){st:SortSt}{n g c d:Nat}{o:Array Keyed}{i j:Nat}(hk:kindOf st = κ)(m:MJ lt a.toList b.toList o.toList i j)(h1:1<=i)(h2:2<=j)(h3:i<=a.size)(h4:j<=b.size)(h5:i+j+n<=a.size+b.size)
  (hq:∀q∈a.toList.take i,le lt q (b[j-1]'(by lia))):wpS (model prog w) A E s (hiC a b i j o g c d) (QH lt a b n st) st:=by
 unfold hiC;refine m4 (zf (by lia) ?_);have m2:=m.stepB H (by lia) h4 hq
 split
 ·rename_i e2
  exact mm ⟨Eg.rfl' _,lhR H C m2 (by simpa using e2)⟩
 ·rename_i e2
  have e2':j-1≠1:=by simpa using e2
  refine m4 (zf (by lia) (m4 (q1t C hk (H.ga _ (by simp)) H.gb (by lia) (by lia) (fun x y hxy hy k1=>?_) fun z hz k1 k2=>?_)))
  ·simp only [far1,nu] at k1 ⊢
   have hle:le lt (b[0+x]'(by lia)) (b[0+y]'(by lia)):=q7n C (fun x=>C.irr _) H.sb (i:=0+x) (j:=0+y) (by lia) (by simp;lia);cases e3:lt (b[0+x]'(by lia)).1 (a[i-1]).1
   ·have:=C.tra _ _ _ e3 hle
    rw [this] at k1;cases k1
   ·rfl
  ·dsimp only
   have k1':∀x,(hx:x<z)->lt (b[x]'(by lia)).1 (a[i-1]).1=true:=fun x hx=>by
    have:=k1 x hx (by lia);simpa [far1] using this
   have k2':∀x,(hx:z<=x)->(hx2:x<j-1)->lt (b[x]'(by lia)).1 (a[i-1]).1=false:=fun x hx hx2=>by
    have:=k2 x hx hx2;simpa [far1] using this
   have hz0:1<=z:=by
    rcases g6o 0 z with h|h
    ·exact h
    ·have:=k2' 0 (by lia) (by lia)
     rw [H.first _ (by simp)] at this;cases this
   have k3:∀q∈b.toList.take z,le lt q (a[i-1]):=by
    intro q hq';obtain⟨y,hy,rfl⟩:=uj.mp hq';simp only [p0,nt] at hy;have:=C.asy _ _ (k1' y (by lia))
    simpa [le] using this
   split
   ·have m3:=m2.stepsB H (z:=z) (by lia) (by lia) (fun x x1 x2=>q7o C H.sa h1 h3 (k2' x x1 x2))
    split
    ·rename_i e5
     exact mm ⟨Eg.rfl' _,lhR H C m3 (by simpa using e5)⟩
    ·rename_i e5
     have e5':z≠1:=by simpa using e5
     split
     ·rename_i e6
      have e6':z=0:=by simpa using e6
      lia
     ·exact qeu C H m3 h1 (by lia) h3 (by lia) (by lia) k3
   ·have:z=j-1:=by lia
    subst this;exact qeu C H m2 h1 (by lia) h3 (by lia) (by lia) k3
theorem qo5(C:Cmp prog w A s κ G lt)(H:Mh G lt a b){st:SortSt}{n g c d:Nat}{o:Array Keyed}{i j:Nat}(hk:kindOf st = κ)(h:OkH lt a b n none i j o):
  wpS (model prog w) A E s (hiB a b i j o g c d) (QH lt a b n st) st:=by
 obtain⟨m,h1,h2,h3,h4,h5⟩:=h;unfold hiB;refine m4 (q3q fun st' eg=>?_);have hk':kindOf st' = κ :=eg.1.trans hk;have up:∀r st'',QH lt a b n st' r st''->QH lt a b n st r st'':=fun r st'' q=>⟨eg.trans q.1,q.2⟩
 refine m4 (zf (by lia) (m4 (q1t C hk' (H.gb _ (by simp)) H.ga (by lia) (by lia) (fun x y hxy hy k1=>?_) fun z hz k1 k2=>?_)))
 ·simp only [far1,gh,nz,g2k] at k1 ⊢
  have hle:=q7n C (fun x=>C.irr _) H.sa (i:=0+x) (j:=0+y) (by lia) (by simp;lia);exact C.tra _ _ _ (by simpa [le] using hle) k1
 ·dsimp only
  have k1':∀x,(hx:x<z)->lt (b[j-1]).1 (a[x]'(by lia)).1=false:=fun x hx=>by
   have:=k1 x hx (by lia);simpa [far1] using this
  have k2':∀x,(hx:z<=x)->(hx2:x<i)->lt (b[j-1]).1 (a[x]'(by lia)).1=true:=fun x hx hx2=>by
   have:=k2 x hx hx2;simpa [far1] using this
  have k3:∀q∈a.toList.take z,le lt q (b[j-1]):=by
   intro q hq';obtain⟨y,hy,rfl⟩:=uj.mp hq';simp only [p0,nt] at hy;have:=k1' y (by lia)
   simpa [le] using this
  split
  ·have m3:=m.stepsA H (z:=z) (by lia) h3 (fun x x1 x2=>q7o C H.sb (by lia) h4 (C.asy _ _ (k2' x x1 x2)))
   split
   ·rename_i e5
    exact mm (up _ _ ⟨Eg.rfl' _,fhR m3 H.sb (by simpa using e5)⟩)
   ·rename_i e5
    have e5':z≠0:=by simpa using e5
    exact um (qev C H hk' m3 (by lia) h2 (by lia) h4 (by lia) k3) up
  ·have:z=i:=by lia
   subst this;exact um (qev C H hk' m h1 h2 h3 h4 h5 k3) up
theorem qo6(C:Cmp prog w A s κ G lt)(H:Mh G lt a b){st:SortSt}{n:Nat}{t:TJO}(ht:t.1=none)(hk:kindOf st = κ)(h:OkH lt a b n none t.2.1 t.2.2.1 t.2.2.2.1):
  wpS (model prog w) A E s (hiO a b t) (fun r st'=>Eg st st'/\match r with
   | .done u=>(∃x,u.1=some x)/\OkH lt a b (n+1) u.1 u.2.1 u.2.2.1 u.2.2.2.1
   | .yield u=>u.1=none/\OkH lt a b (n+1) none u.2.1 u.2.2.1 u.2.2.2.1) st:=by
 unfold hiO;refine m4 (um (g07 (I:=fun x u st'=>st'=st/\u.1=none/\OkH lt a b (n+x) none u.2.1 u.2.2.1 u.2.2.2.1)
  (Q:=fun u st'=>st'=st/\OkH lt a b (n+1) u.1 u.2.1 u.2.2.1 u.2.2.2.1) ?_ ?_ ⟨rfl,rfl,h⟩) ?_)
 ·rintro x ⟨u1,i,j,o,c,d⟩ st' _ hx ⟨rfl,rfl,h'⟩
  refine um (qo4 C H hk h') ?_
  rintro r st'' ⟨rfl,hr⟩
  cases r with
  | done u=>
   refine⟨rfl,?_⟩;dsimp only at hr ⊢;unfold OkH at hr ⊢
   split at hr
   ·exact hr
   ·exact⟨hr.1,hr.2.1,hr.2.2.1,hr.2.2.2.1,hr.2.2.2.2.1,by lia⟩
  | yield u=>exact⟨rfl,hr.1,hr.2.1,hr.2.2.1,hr.2.2.2.1,hr.2.2.2.2.1,hr.2.2.2.2.2.1,by have:=hr.2.2.2.2.2.2;lia⟩
 ·rintro u st' ⟨rfl,hu,m,h1,h2,h3,h4,h5⟩
  rw [hu];exact⟨rfl,m,h1,h2,h3,h4,by lia⟩
 ·rintro⟨u1,i,j,o,c,d⟩ st' ⟨rfl,hu⟩
  cases u1 with
  | some r=>exact mm ⟨Eg.rfl' _,⟨r,rfl⟩,hu⟩
  | none=>
   dsimp only at hu ⊢;refine m4 (wpS_lift (g02 ⟨rfl,?_⟩));refine m4 (um (g07 (I:=fun x v st''=>Eg st' st''/\v.1=none/\OkH lt a b (n+1) none v.2.1 v.2.2.1 v.2.2.2.1)
    (Q:=fun v st''=>Eg st' st''/\OkH lt a b (n+1) v.1 v.2.1 v.2.2.1 v.2.2.2.1) ?_ ?_ ⟨Eg.rfl' _,rfl,hu⟩) ?_)
   ·rintro x ⟨v1,i,j,o,g,c,d⟩ st'' _ hx ⟨eg,rfl,h'⟩
    unfold hiG;dsimp only at h' ⊢;have key:∀g',wpS (model prog w) A E s (hiB a b i j o g' c d) (fun r st3=>match r with
      | .done v=>Eg st' st3/\OkH lt a b (n+1) v.1 v.2.1 v.2.2.1 v.2.2.2.1
      | .yield v=>Eg st' st3/\v.1=none/\OkH lt a b (n+1) none v.2.1 v.2.2.1 v.2.2.2.1) st'':=by
     intro g';refine um (qo5 C H (eg.1.trans hk) h') ?_
     rintro r st3 ⟨eg3,hr⟩
     cases r with
     | done v=>exact⟨eg.trans eg3,hr⟩
     | yield v=>exact⟨eg.trans eg3,hr⟩
    split
    ·exact um (key _) fun r st3 hr=>by cases r <;> exact hr
    ·exact um (key _) fun r st3 hr=>by cases r <;> exact hr
   ·rintro v st'' ⟨eg,hv,h'⟩
    rw [hv];exact⟨eg,h'⟩
   ·rintro⟨v1,i,j,o,g,c,d⟩ st'' ⟨eg,hv⟩
    cases v1 with
    | some r=>exact mm ⟨eg,⟨r,rfl⟩,hv⟩
    | none=>
     dsimp only at hv ⊢;exact m4 (q3q fun st3 eg3=>mm ⟨eg.trans eg3,rfl,hv⟩)
theorem qo7(C:Cmp prog w A s κ G lt)(H:Mh G lt a b){st:SortSt}{Q:Array Keyed->SortSt->Prop}(hk:kindOf st = κ)(h:∀r st',Eg st st'->Rm lt a b r->Q r st'):
  wpS (model prog w) A E s (qfv a b) Q st:=by
 rw [qo2];refine m4 (wpS_lift (g02 ⟨rfl,?_⟩));have hb:=H.hb;have ha:=H.ha;refine m4 (zf (by lia) ?_);have m:MJ lt a.toList b.toList (#[a[a.size-1]]:Array Keyed).toList (a.size-1) b.size:=by
  refine⟨?_,?_,?_,?_⟩
  ·rw [td (by simp;lia),g65 (by simp;lia),g65 (by simp)]
   simp
  ·simp
  ·intro p hp q hq
   have:p=a[a.size-1]:=by simpa using hp
   subst this;have:=q8n H.sa (ia:=a.size-1) (by simp;lia) q hq
   simpa using this
  ·intro p hp q hq
   have:p=a[a.size-1]:=by simpa using hp
   subst this;exact C.asy _ _ (H.last q (g1c hq))
 split
 ·rename_i e
  exact mm (h _ _ (Eg.rfl' _) (fhR m H.sb (by simpa using e)))
 ·rename_i e
  have e':a.size-1≠0:=by simpa using e
  split
  ·rename_i e2
   exact mm (h _ _ (Eg.rfl' _) (lhR H C m (by simpa using e2)))
  ·rename_i e2
   have e2':b.size≠1:=by simpa using e2
   refine m4 (g3k ?_);refine m4 (um (g07 (I:=fun x u st'=>Eg st st'/\u.1=none/\OkH lt a b x none u.2.1 u.2.2.1 u.2.2.2.1)
    (Q:=fun u st'=>Eg st st'/\∃r,u.1=some r/\Rm lt a b r) ?_ ?_ ⟨Eg.rfl' _,rfl,m,by first|lia|(dsimp only;lia),by first|lia|(dsimp only;lia),by first|lia|(dsimp only;lia),by first|lia|(dsimp only;lia),by first|lia|(dsimp only;lia)⟩) ?_)
   ·rintro x t st' _ hx ⟨eg,ht,h'⟩
    refine um (qo6 C H ht (eg.1.trans hk) h') ?_
    rintro r st'' ⟨eg2,hr⟩
    cases r with
    | done u=>
     obtain⟨⟨r,hr1⟩,hr2⟩:=hr;rw [hr1] at hr2;exact⟨eg.trans eg2,r,hr1,hr2⟩
    | yield u=>exact⟨eg.trans eg2,hr.1,hr.2⟩
   ·rintro u st' ⟨eg,hu,_,h1,h2,h3,h4,h5⟩
    lia
   ·rintro⟨u1,u2⟩ st' ⟨eg,r,hr,hR⟩
    cases hr;exact mm (h _ _ eg hR)
end
def Kz(xs:Array Keyed)(i:Nat): Value:=kz xs[i]?
theorem wt{xs ys:Array Keyed}{i j:Nat}(h:xs[i]? = ys[j]?): Kz xs i=Kz ys j:=by unfold Kz;rw [h]
theorem jn{xs:Array Keyed}{i:Nat}(h:i<xs.size): Kz xs i=xs[i].1:=by unfold Kz;rw [g23 xs i h];rfl
def Asc(lt:Value->Value->Bool)(xs:Array Keyed)(lo hi:Nat): Prop:=∀i j,lo<=i->i<=j->j<hi->lt (Kz xs j) (Kz xs i)=false
def Des(lt:Value->Value->Bool)(xs:Array Keyed)(lo hi:Nat): Prop:=∀i j,lo<=i->i<=j->j<hi->lt (Kz xs i) (Kz xs j)=false
def Eqv(lt:Value->Value->Bool)(x y:Value): Prop:=lt x y=false/\lt y x=false
structure Tr(lo hi:Nat)(st st':SortSt): Prop where
 kind:kindOf st'=kindOf st
 pend:pendingOf st'=pendingOf st
 fail:failedOf st'=failedOf st
 perm:(arrOf st').Perm (arrOf st)
 out:∀k,(k<lo\/hi<=k)->(arrOf st')[k]? = (arrOf st)[k]?
theorem Tr.rfl'(lo hi:Nat)(st:SortSt): Tr lo hi st st:=⟨rfl,rfl,rfl,.refl _,fun _ _=>rfl⟩
theorem Tr.trans{lo hi:Nat}{a b c:SortSt}(h:Tr lo hi a b)(k:Tr lo hi b c): Tr lo hi a c:=⟨k.kind.trans h.kind,k.pend.trans h.pend,k.fail.trans h.fail,k.perm.trans h.perm,fun i hi=>(k.out i hi).trans (h.out i hi)⟩
theorem Tr.size{lo hi:Nat}{a b:SortSt}(h:Tr lo hi a b): (arrOf b).size=(arrOf a).size:=h.perm.size_eq
def Gs(G:Value->Prop)(st:SortSt): Prop:=∀p∈(arrOf st).toList,G p.1
theorem Tr.gs{G:Value->Prop}{lo hi:Nat}{a b:SortSt}(h:Tr lo hi a b)(g:Gs G a): Gs G b:=fun p hp=>g p ((g13.mp h.perm).mem_iff.mp hp)
theorem Tr.mir{lo hi i j:Nat}{st:SortSt}(h1:lo<=i)(h2:j<=hi)(h3:j<=(arrOf st).size): Tr lo hi st (setArr st (mirror (arrOf st) i j ((j-i) / 2))):=
 ⟨rfl,rfl,rfl,mirror_perm _ _ _ _,fun k hk=>by show(mirror (arrOf st) i j ((j-i) / 2))[k]? = _;rw [getElem?_mirror_all h3,mn (by lia)]⟩
theorem qbr{xs:Array Keyed}{i j:Nat}(hj:j<=xs.size)(k:Nat): Kz (mirror xs i j ((j-i) / 2)) k=if i<=k/\k<j then Kz xs (i+j-1-k) else Kz xs k:=by
 have e:=getElem?_mirror_all (i:=i) hj k
 split
 ·rename_i h;rw [mi h] at e;exact wt e
 ·rename_i h;rw [mn h] at e;exact wt e
abbrev ASt:=Option (Option Nat)×Nat
abbrev DSt:=Option (Option Nat)×Nat×Nat
noncomputable def asL(lo b nr:Nat): StateT SortSt Sem ASt:=
 forIn [b:nr] ((none,b):ASt) fun _ t=>do
  match <- ltAt' (lo+t.2) (lo+t.2-1) with
  | some sm=>if sm=true then pure (.done (none,t.2)) else pure (.yield (none,t.2+1))
  | _=>pure (.done (some none,t.2))
noncomputable def ta3(lo n nr:Nat): StateT SortSt Sem (Option Nat):=do
 reverseSlice' lo (lo+n)
 let t <- asL lo n nr
 match t.1 with
 | some r=>pure r
 | none=>pure (some t.2)
noncomputable def deL(lo n nr:Nat): StateT SortSt Sem DSt:=
 forIn [n:nr] ((none,n,0):DSt) fun _ t=>do
  match <- ltAt' (lo+t.2.1) (lo+t.2.1-1) with
  | some sm=>
   if sm=true then
    if t.2.2>0 then do
     reverseSlice' (lo+t.2.1-(t.2.2+1)) (lo+t.2.1)
     pure (.yield (none,t.2.1+1,0))
    else pure (.yield (none,t.2.1+1,0))
   else do
    match <- ltAt' (lo+t.2.1-1) (lo+t.2.1) with
    | some la=>if la=true then pure (.done (none,t.2.1,t.2.2)) else pure (.yield (none,t.2.1+1,t.2.2+1))
    | _=>pure (.done (some none,t.2.1,t.2.2))
  | _=>pure (.done (some none,t.2.1,t.2.2))
noncomputable def deP(lo n nr:Nat): StateT SortSt Sem (Option Nat):=do
 rule "list.sort.descending-run"
 let t <- deL lo (n+1) nr
 match t.1 with
 | some r=>pure r
 | none=>
  if t.2.2>0 then do
   reverseSlice' (lo+t.2.1-(t.2.2+1)) (lo+t.2.1)
   ta3 lo t.2.1 nr
  else ta3 lo t.2.1 nr
theorem qr2(lo nr:Nat): countRun' lo nr=(do
  let t <- asL lo 1 nr
  match t.1 with
  | some r=>pure r
  | none=>
   if(t.2==nr)=true then pure (some t.2)
   else if t.2>1 then do
    match <- ltAt' lo (lo+t.2-1) with
    | some ro=>if ro=true then pure (some t.2) else do
      reverseSlice' lo (lo+t.2)
      deP lo t.2 nr
    | _=>pure none
   else deP lo t.2 nr):=by
 rw [countRun'_eq];dsimp only;refine bc2 rfl fun t=>?_;obtain⟨r,n⟩:=t;cases r with
 | some r=>rfl
 | none=>
  dsimp only;refine g0b rfl (fun _=>rfl) fun _=>g0b rfl (fun _=>bc fun x=>?_) fun _=>?_
  ·cases x with
   | none=>rfl
   | some ro=>
    dsimp only;refine g0b rfl (fun _=>rfl) fun _=>bc fun _=>?_;unfold deP;refine bc fun _=>bc2 rfl fun t=>?_;obtain⟨r2,n2,q2⟩:=t;cases r2 with
    | some r2=>rfl
    | none=>
     dsimp only;refine g0b rfl (fun _=>bc fun _=>?_) fun _=>?_
     ·unfold ta3
      refine bc fun _=>bc2 rfl fun t=>?_;obtain⟨r3,n3⟩:=t;cases r3 <;> rfl
     ·unfold ta3
      refine bc fun _=>bc2 rfl fun t=>?_;obtain⟨r3,n3⟩:=t;cases r3 <;> rfl
  ·unfold deP
   refine bc fun _=>bc2 rfl fun t=>?_;obtain⟨r2,n2,q2⟩:=t;cases r2 with
   | some r2=>rfl
   | none=>
    dsimp only;refine g0b rfl (fun _=>bc fun _=>?_) fun _=>?_
    ·unfold ta3
     refine bc fun _=>bc2 rfl fun t=>?_;obtain⟨r3,n3⟩:=t;cases r3 <;> rfl
    ·unfold ta3
     refine bc fun _=>bc2 rfl fun t=>?_;obtain⟨r3,n3⟩:=t;cases r3 <;> rfl
section
variable{prog:Program}{w:World}{A:Around}{E:Value->Shared->Prop}{s:Shared}{κ : SortKind}{G:Value->Prop}{lt:Value->Value->Bool}
theorem Eqv.symm{x y:Value}(h:Eqv lt x y): Eqv lt y x:=⟨h.2,h.1⟩
theorem Eqv.trans(C:Cmp prog w A s κ G lt){x y z:Value}(h:Eqv lt x y)(k:Eqv lt y z): Eqv lt x z:=⟨C.tra z y x k.1 h.1,C.tra x y z h.2 k.2⟩
theorem qbs(C:Cmp prog w A s κ G lt){x x' y y':Value}(hx:Eqv lt x x')(hy:Eqv lt y y')(h:lt y' x'=false): lt y x=false:=
 C.tra x x' y hx.2 (C.tra x' y' y h hy.1)
theorem wpS_ltK{st:SortSt}(C:Cmp prog w A s κ G lt){i j:Nat}{Q:Option Bool->SortSt->Prop}(hk:kindOf st = κ)(g:Gs G st)(hi:i<(arrOf st).size)(hj:j<(arrOf st).size)
  (h:Q (some (lt (Kz (arrOf st) i) (Kz (arrOf st) j))) st):wpS (model prog w) A E s (ltAt' i j) Q st:=by
 rw [ltAt'_eq];refine m4 (g3k ?_);show wpS _ _ _ _ (do let x <- elem' (arrOf st) i;let y <- elem' (arrOf st) j;lt' x y) Q st;rw [jn hi,jn hj] at h;exact m4 (zf hi (m4 (zf hj (q3e (C:=C) hk (g _ (by simp)) (g _ (by simp)) h))))
theorem q5m{st:SortSt}{i j:Nat}{Q:Unit->SortSt->Prop}(h:Q () (setArr st (mirror (arrOf st) i j ((j-i) / 2)))): wpS (model prog w) A E s (reverseSlice' i j) Q st:=by
 rw [reverseSlice'_eq];exact g4e h
theorem ql7(C:Cmp prog w A s κ G lt){xs:Array Keyed}{lo x:Nat}(h:Asc lt xs lo (lo+x))(h1:1<=x)(hl:lt (Kz xs (lo+x)) (Kz xs (lo+x-1))=false): Asc lt xs lo (lo+(x+1)):=by
 intro i j h2 h3 h4
 by_cases hj:j<lo+x
 ·exact h i j h2 h3 hj
 ·have:j=lo+x:=by lia
  subst this
  by_cases hi:i=lo+x
  ·subst hi;exact C.irr _
  ·exact C.tra _ _ _ (h i (lo+x-1) h2 (by lia) (by lia)) hl
theorem q3t(C:Cmp prog w A s κ G lt){xs:Array Keyed}{lo x:Nat}(h:Des lt xs lo (lo+x))(h1:1<=x)(hl:lt (Kz xs (lo+x-1)) (Kz xs (lo+x))=false): Des lt xs lo (lo+(x+1)):=by
 intro i j h2 h3 h4
 by_cases hj:j<lo+x
 ·exact h i j h2 h3 hj
 ·have:j=lo+x:=by lia
  subst this
  by_cases hi:i=lo+x
  ·subst hi;exact C.irr _
  ·exact C.tra _ _ _ hl (h i (lo+x-1) h2 (by lia) (by lia))
theorem qew(C:Cmp prog w A s κ G lt){st:SortSt}{lo b nr:Nat}{Q:ASt->SortSt->Prop}(hk:kindOf st = κ)(g:Gs G st)(hz:lo+nr<=(arrOf st).size)(h1:1<=b)(h2:b<=nr)(hs:Asc lt (arrOf st) lo (lo+b))
  (h:∀n,b<=n->n<=nr->Asc lt (arrOf st) lo (lo+n)->(n=nr\/lt (Kz (arrOf st) (lo+n)) (Kz (arrOf st) (lo+n-1))=true)->Q (none,n) st):wpS (model prog w) A E s (asL lo b nr) Q st:=by
 unfold asL;refine g07 (I:=fun x c st'=>st'=st/\c=(none,x)/\Asc lt (arrOf st) lo (lo+x)) ?_ ?_ ⟨rfl,rfl,hs⟩
 ·rintro x c st' hx1 hx2 ⟨rfl,rfl,hs'⟩
  dsimp only;refine m4 (wpS_ltK C hk g (by lia) (by lia) ?_);dsimp only;cases e:lt (Kz (arrOf st') (lo+x)) (Kz (arrOf st') (lo+x-1))
  ·simp only [gh,nz]
   exact mm ⟨rfl,rfl,ql7 C hs' (by lia) e⟩
  ·simp only [nu]
   exact mm (h x hx1 (by lia) hs' (.inr e))
 ·rintro c st' ⟨rfl,rfl,hs'⟩
  rw [show max b nr=nr by lia] at hs' ⊢;exact h nr h2 (gw _) hs' (.inl rfl)
theorem qex(C:Cmp prog w A s κ G lt){st:SortSt}{lo n nr:Nat}{Q:Option Nat->SortSt->Prop}(hk:kindOf st = κ)(g:Gs G st)(hz:lo+nr<=(arrOf st).size)(h1:1<=n)(h2:n<=nr)(hs:Des lt (arrOf st) lo (lo+n))
  (h:∀m st',Tr lo (lo+nr) st st'->1<=m->m<=nr->Asc lt (arrOf st') lo (lo+m)->Q (some m) st'):wpS (model prog w) A E s (ta3 lo n nr) Q st:=by
 unfold ta3;have hz':lo+n<=(arrOf st).size:=by lia
 refine m4 (q5m ?_);have tr:Tr lo (lo+nr) st (setArr st (mirror (arrOf st) lo (lo+n) ((lo+n-lo) / 2))):=Tr.mir (gw _) (by lia) hz';refine m4 (qew C (tr.kind.trans hk) (tr.gs g) (by rw [tr.size];exact hz) h1 h2 ?_ fun m m1 m2 m3 _=>mm (h m _ tr (by lia) m2 m3));intro i j i1 i2 i3;show lt (Kz (mirror (arrOf st) lo (lo+n) ((lo+n-lo) / 2)) j) (Kz (mirror (arrOf st) lo (lo+n) ((lo+n-lo) / 2)) i)=false;rw [qbr hz',qbr hz',mi (by lia),mi (by lia)];exact hs _ _ (by lia) (by lia) (by lia)
theorem q8o(C:Cmp prog w A s κ G lt){xs:Array Keyed}{i j:Nat}(hj:j<=xs.size)(he:∀k,i<=k->k<j->Eqv lt (Kz xs k) (Kz xs (j-1)))(k:Nat): Eqv lt (Kz (mirror xs i j ((j-i) / 2)) k) (Kz xs k):=by
 rw [qbr hj]
 split
 ·exact Eqv.trans C (he _ (by lia) (by lia)) (he k (by lia) (by lia)).symm
 ·exact⟨C.irr _,C.irr _⟩
theorem qo8(C:Cmp prog w A s κ G lt){st:SortSt}{lo n nr:Nat}{Q:DSt->SortSt->Prop}(hk:kindOf st = κ)(g:Gs G st)(hz:lo+nr<=(arrOf st).size)(h1:1<=n)(h2:n<=nr)(hs:Des lt (arrOf st) lo (lo+n))
  (h:∀m q st',Tr lo (lo+nr) st st'->n<=m->m<=nr->Des lt (arrOf st') lo (lo+m)->q+1<=m->(∀i,lo+m-(q+1)<=i->i<lo+m->Eqv lt (Kz (arrOf st') i) (Kz (arrOf st') (lo+m-1)))->Q (none,m,q) st') :
  wpS (model prog w) A E s (deL lo n nr) Q st:=by
 unfold deL;refine g07 (I:=fun x c st'=>∃q,c=(none,x,q)/\Tr lo (lo+nr) st st'/\Des lt (arrOf st') lo (lo+x)/\q+1<=x /\
   (∀i,lo+x-(q+1)<=i->i<lo+x->Eqv lt (Kz (arrOf st') i) (Kz (arrOf st') (lo+x-1)))) ?_ ?_
  ⟨0,rfl,Tr.rfl' _ _ _,hs,by lia,fun i i1 i2=>by rw [show i=lo+n-1 by lia];exact⟨C.irr _,C.irr _⟩⟩
 ·rintro x c st' hx1 hx2 ⟨q,rfl,tr,ds,hq,he⟩
  dsimp only;have hz':lo+x<=(arrOf st').size:=by rw [tr.size];lia
  have hk':=tr.kind.trans hk;have g':=tr.gs g;refine m4 (wpS_ltK C hk' g' (by rw [tr.size];lia) (by rw [tr.size];lia) ?_);dsimp only;cases e:lt (Kz (arrOf st') (lo+x)) (Kz (arrOf st') (lo+x-1))
  ·simp only [gh,nz]
   refine m4 (wpS_ltK C hk' g' (by rw [tr.size];lia) (by rw [tr.size];lia) ?_);dsimp only;cases e2:lt (Kz (arrOf st') (lo+x-1)) (Kz (arrOf st') (lo+x))
   ·simp only [gh,nz]
    refine mm ⟨q+1,rfl,tr,q3t C ds (by lia) e2,by lia,fun i i1 i2=>?_⟩;rw [show lo+(x+1)-1=lo+x by lia]
    by_cases hi:i=lo+x
    ·subst hi;exact⟨C.irr _,C.irr _⟩
    ·exact Eqv.trans C (he i (by lia) (by lia)) ⟨e2,e⟩
   ·simp only [nu]
    exact mm (h x q st' tr hx1 (by lia) ds hq he)
  ·simp only [nu]
   have step:∀st'',Tr lo (lo+nr) st st''->(∀k,Eqv lt (Kz (arrOf st'') k) (Kz (arrOf st') k))->∃q',((none,x+1,0):DSt)=(none,x+1,q')/\Tr lo (lo+nr) st st''/\Des lt (arrOf st'') lo (lo+(x+1))/\q'+1<=x+1 /\
     (∀i,lo+(x+1)-(q'+1)<=i->i<lo+(x+1)->Eqv lt (Kz (arrOf st'') i) (Kz (arrOf st'') (lo+(x+1)-1))):=by
    intro st'' tr2 hev;refine⟨0,rfl,tr2,?_,by lia,fun i i1 i2=>by rw [show i=lo+(x+1)-1 by lia];exact⟨C.irr _,C.irr _⟩⟩;have dm:=q3t C ds (by lia) (C.asy _ _ e);intro i j i1 i2 i3;exact qbs C (hev j) (hev i) (dm i j i1 i2 i3)
   split
   ·refine m4 (q5m (mm (step _ (tr.trans (Tr.mir (by lia) (by lia) hz')) (q8o C hz' ?_))))
    exact he
   ·exact mm (step _ tr fun k=>⟨C.irr _,C.irr _⟩)
 ·rintro c st' ⟨q,rfl,tr,ds,hq,he⟩
  rw [show max n nr=nr by lia] at ds hq he ⊢;exact h nr q st' tr h2 (gw _) ds hq he
theorem qey(C:Cmp prog w A s κ G lt){st:SortSt}{lo n nr:Nat}{Q:Option Nat->SortSt->Prop}(hk:kindOf st = κ)(g:Gs G st)(hz:lo+nr<=(arrOf st).size)(h2:n+1<=nr)(hs:Des lt (arrOf st) lo (lo+(n+1)))
  (h:∀m st',Tr lo (lo+nr) st st'->1<=m->m<=nr->Asc lt (arrOf st') lo (lo+m)->Q (some m) st'):wpS (model prog w) A E s (deP lo n nr) Q st:=by
 unfold deP;refine m4 (wpS_lift (g02 ⟨rfl,?_⟩));refine m4 (qo8 C hk g hz (by lia) h2 hs fun m q st' tr m1 m2 ds hq he=>?_);dsimp only;have hz':lo+m<=(arrOf st').size:=by rw [tr.size];lia
 split
 ·have tr2:Tr lo (lo+nr) st' (setArr st' (mirror (arrOf st') (lo+m-(q+1)) (lo+m) ((lo+m-(lo+m-(q+1))) / 2))):=Tr.mir (by lia) (by lia) hz'
  refine m4 (q5m (qex C (tr2.kind.trans (tr.kind.trans hk)) (tr2.gs (tr.gs g)) (by rw [tr2.size,tr.size];exact hz) (by lia) m2 ?_ fun k st'' tr3=>h k st'' (tr.trans (tr2.trans tr3))));intro i j i1 i2 i3;have ev:=q8o C hz' he;exact qbs C (ev j) (ev i) (ds i j i1 i2 i3)
 ·exact qex C (tr.kind.trans hk) (tr.gs g) (by rw [tr.size];exact hz) (by lia) m2 ds fun k st'' tr3=>h k st'' (tr.trans tr3)
theorem qo9(C:Cmp prog w A s κ G lt){st:SortSt}{lo nr:Nat}{Q:Option Nat->SortSt->Prop}(hk:kindOf st = κ)(g:Gs G st)(hz:lo+nr<=(arrOf st).size)(h1:1<=nr)
  (h:∀m st',Tr lo (lo+nr) st st'->1<=m->m<=nr->Asc lt (arrOf st') lo (lo+m)->Q (some m) st'):wpS (model prog w) A E s (countRun' lo nr) Q st:=by
 rw [qr2];refine m4 (qew C hk g hz (gw _) h1 (fun i j i1 i2 i3=>by rw [show i=j by lia];exact C.irr _) fun n n1 n2 as hor=>?_);dsimp only
 split
 ·exact mm (h n st (Tr.rfl' _ _ _) n1 n2 as)
 ·rename_i hne
  have hne':n≠nr:=by simpa using hne
  have hl:=hor.resolve_left hne'
  split
  ·refine m4 (wpS_ltK C hk g (by lia) (by lia) ?_)
   dsimp only;cases e:lt (Kz (arrOf st) lo) (Kz (arrOf st) (lo+n-1))
   ·simp only [gh,nz]
    have hz':lo+n<=(arrOf st).size:=by lia
    have tr:Tr lo (lo+nr) st (setArr st (mirror (arrOf st) lo (lo+n) ((lo+n-lo) / 2))):=Tr.mir (gw _) (by lia) hz';have all:∀k,lo<=k->k<lo+n->Eqv lt (Kz (arrOf st) k) (Kz (arrOf st) (lo+n-1)):=fun k k1 k2=>
     ⟨C.tra _ _ _ (as k (lo+n-1) k1 (by lia) (by lia) |> fun z=>by exact C.tra _ _ _ e (as lo k (gw _) k1 k2)) (C.irr _),as k (lo+n-1) k1 (by lia) (by lia)⟩
    refine m4 (q5m (qey C (tr.kind.trans hk) (tr.gs g) (by rw [tr.size];exact hz) (by lia) ?_ fun m st' tr2=>h m st' (tr.trans tr2)));have ev:=q8o C hz' all;have ds:Des lt (arrOf st) lo (lo+(n+1)):=by
     refine q3t C (fun i j i1 i2 i3=>?_) (by lia) (C.asy _ _ hl);exact(Eqv.trans C (all i i1 (by lia)) (all j (by lia) i3).symm).1
    intro i j i1 i2 i3;exact qbs C (ev j) (ev i) (ds i j i1 i2 i3)
   ·simp only [nu]
    exact mm (h n st (Tr.rfl' _ _ _) n1 n2 as)
  ·have:n=1:=by lia
   subst this;refine qey C hk g hz (by lia) ?_ h;exact q3t C (fun i j i1 i2 i3=>by rw [show i=j by lia];exact C.irr _) (gw _) (C.asy _ _ hl)
end
theorem qie{xs:Array Keyed}{src d:Nat}(hs:src<xs.size)(hd:d<=src)(k:Nat): Kz (bubble xs src d) k=if k=src-d then Kz xs src else if src-d<k/\k<=src then Kz xs (k-1) else Kz xs k:=by
 have e:=getElem?_bubble hs d hd k
 split
 ·rename_i h;rw [mi h] at e;exact wt e
 ·rename_i h;rw [mn h] at e
  split
  ·rename_i h2;rw [mi h2] at e;exact wt e
  ·rename_i h2;rw [mn h2] at e;exact wt e
theorem Tr.bub{lo hi src d:Nat}{st:SortSt}(h1:lo<=src-d)(h2:src<hi)(h3:src<(arrOf st).size)(hd:d<=src): Tr lo hi st (setArr st (bubble (arrOf st) src d)):=
 ⟨rfl,rfl,rfl,bubble_perm _ _ _,fun k hk=>by show(bubble (arrOf st) src d)[k]? = _;rw [getElem?_bubble h3 d hd,mn (by lia),mn (by lia)]⟩
section
variable{prog:Program}{w:World}{A:Around}{E:Value->Shared->Prop}{s:Shared}{κ : SortKind}{G:Value->Prop}{lt:Value->Value->Bool}
theorem qoa(C:Cmp prog w A s κ G lt){st:SortSt}{lo n ok:Nat}{Q:Bool->SortSt->Prop}(hk:kindOf st = κ)(g:Gs G st)(hz:lo+n<=(arrOf st).size)(hok:ok<=n)(hs:Asc lt (arrOf st) lo (lo+ok))
  (h:∀st',Tr lo (lo+n) st st'->Asc lt (arrOf st') lo (lo+n)->Q true st'):wpS (model prog w) A E s (binarySort' lo n ok) Q st:=by
 rw [binarySort'_eq];refine m4 (um (g07 (I:=fun k c st'=>c=(none,())/\Tr lo (lo+n) st st'/\Asc lt (arrOf st') lo (lo+min k n))
  (Q:=fun c st'=>c=(none,())/\Tr lo (lo+n) st st'/\Asc lt (arrOf st') lo (lo+n)) ?_ ?_ ?_) ?_)
 ·rintro k c st' hk1 hk2 ⟨rfl,tr,as⟩
  rw [show min k n=k by lia] at as;have hk':=tr.kind.trans hk;have g':=tr.gs g;have hz':lo+n<=(arrOf st').size:=by rw [tr.size];exact hz
  refine m4 (um (g07 (I:=fun x c st''=>st''=st'/\∃l r,c=(none,l,r)/\l<=r/\r<=k/\r-l<=k-x /\
    (∀i,i<l->lt (Kz (arrOf st') (lo+k)) (Kz (arrOf st') (lo+i))=false)/\(∀i,r<=i->i<k->lt (Kz (arrOf st') (lo+k)) (Kz (arrOf st') (lo+i))=true))
   (Q:=fun c st''=>st''=st'/\∃l r,c=(none,l,r)/\l<=k /\
    (∀i,i<l->lt (Kz (arrOf st') (lo+k)) (Kz (arrOf st') (lo+i))=false)/\(∀i,l<=i->i<k->lt (Kz (arrOf st') (lo+k)) (Kz (arrOf st') (lo+i))=true)) ?_ ?_ ?_) ?_)
  ·rintro x c st'' _ hx ⟨rfl,l,r,rfl,h1,h2,h3,h4,h5⟩
   dsimp only
   by_cases hge:l>=r
   ·rw [mi hge]
    have:l=r:=by lia
    subst this;exact mm ⟨rfl,l,l,rfl,h2,h4,h5⟩
   ·rw [mn hge]
    refine m4 (wpS_ltK C hk' g' (by lia) (by lia) ?_);dsimp only;cases e:lt (Kz (arrOf st'') (lo+k)) (Kz (arrOf st'') (lo+(l+r) / 2))
    ·simp only [gh,nz]
     refine mm ⟨rfl,(l+r) / 2+1,r,rfl,by lia,by lia,by lia,fun i i1=>?_,h5⟩;exact C.tra _ _ _ (as (lo+i) (lo+(l+r) / 2) (by lia) (by lia) (by lia)) e
    ·simp only [nu]
     refine mm ⟨rfl,l,(l+r) / 2,rfl,by lia,by lia,by lia,h4,fun i i1 i2=>?_⟩;cases e2:lt (Kz (arrOf st'') (lo+k)) (Kz (arrOf st'') (lo+i))
     ·have:=C.tra _ _ _ (as (lo+(l+r) / 2) (lo+i) (by lia) (by lia) (by lia)) e2
      rw [this] at e;cases e
     ·rfl
  ·rintro c st'' ⟨rfl,l,r,rfl,h1,h2,h3,h4,h5⟩
   have:l=r:=by lia
   subst this;exact⟨rfl,l,l,rfl,h2,h4,h5⟩
  ·exact⟨rfl,0,k,rfl,by lia,by lia,by lia,fun i hi=>by lia,fun i i1 i2=>by lia⟩
  ·rintro c st'' ⟨rfl,l,r,rfl,h2,h4,h5⟩
   show wpS _ _ _ _ (do moveDown' (lo+k) (lo+l);pure (ForInStep.yield (none,()))) _ _;rw [moveDown'_eq];have hks:lo+k<(arrOf st'').size:=by lia
   refine m4 (g4e (mm ⟨rfl,tr.trans (Tr.bub (by lia) (by lia) hks (by lia)),?_⟩));rw [show min (k+1) n=k+1 by lia];intro i j i1 i2 i3;show lt (Kz (bubble (arrOf st'') (lo+k) (lo+k-(lo+l))) j) (Kz (bubble (arrOf st'') (lo+k) (lo+k-(lo+l))) i)=false;rw [qie hks (by lia),qie hks (by lia),show lo+k-(lo+k-(lo+l))=lo+l by lia];have q4:∀i,lo<=i->i<lo+l->lt (Kz (arrOf st'') (lo+k)) (Kz (arrOf st'') i)=false:=fun i a b=>by
    have:=h4 (i-lo) (by lia);rwa [show lo+(i-lo)=i by lia] at this
   have q5:∀i,lo+l<=i->i<lo+k->lt (Kz (arrOf st'') i) (Kz (arrOf st'') (lo+k))=false:=fun i a b=>by
    have:=C.asy _ _ (h5 (i-lo) (by lia) (by lia));rwa [show lo+(i-lo)=i by lia] at this
   repeat' split
   all_goals first
    | (exfalso;lia)
    | exact C.irr _
    | exact q4 _ (by lia) (by lia)
    | exact q5 _ (by lia) (by lia)
    | exact as _ _ (by lia) (by lia) (by lia)
 ·rintro c st' ⟨hc,tr,as⟩
  rw [show min (max (max ok 1) n) n=n by lia] at as;exact⟨hc,tr,as⟩
 ·refine⟨rfl,Tr.rfl' _ _ _,fun i j i1 i2 i3=>?_⟩
  by_cases h1:ok=0
  ·rw [show i=j by lia];exact C.irr _
  ·exact hs i j i1 i2 (by lia)
 ·rintro c st' ⟨rfl,tr,as⟩
  exact mm (h st' tr as)
end
theorem qob(i:Nat): mergeAt' i=(do
 let s <- get
 let(some (l,n,p),some (r,m,_)):=((pendingOf s)[i]?,(pendingOf s)[i+1]?)|unsupported "internal:list.sort.pending"
 set (setPending s (((pendingOf s).setIfInBounds i (l,n+m,p)).eraseIdxIfInBounds (i+1)))
 let some k <- q1f false (<- elem' (arrOf s) r) (arrOf s) l n 0|return false
 let(l,n):=(l+k,n-k)
 if n==0 then return true
 let some m <- q1f true (<- elem' (arrOf s) (l+n-1)) (arrOf s) r m (m-1)|return false
 if m==0 then return true
 let x:=(arrOf s).extract l r
 let y:=(arrOf s).extract r (r+m)
 let z <- if n<=m then qfu x y else qfv x y
 modify fun s=>setArr s (z.toList.zipIdx.foldl (fun a (p,j)=>a.setIfInBounds (l+j) p) (arrOf s))
 return (failedOf (<- get)).isNone):=rfl
theorem qbt{o:Nat}: ∀(l:List Keyed) (j:Nat) (xs:Array Keyed) (T Y R:List Keyed),xs.toList=T++Y++R->T.length=o+j->Y.length=l.length ->
  ((l.zipIdx j).foldl (fun a (p,j)=>a.setIfInBounds (o+j) p) xs).toList=T++l++R
 | [],j,xs,T,Y,R,h,h1,h2=>by
  have:Y=[]:=g3n.mp h2;subst this;exact h
 | p :: l,j,xs,T,y :: Y,R,h,h1,h2=>by
  rw [g5p,g61];have e:(xs.setIfInBounds (o+j) p).toList=(T++[p])++Y++R:=by
   rw [g55,h, <- h1];simp
  rw [qbt l (j+1) _ (T++[p]) Y R e (by simp;lia) (by simpa using h2)];simp
section
variable{prog:Program}{w:World}{A:Around}{E:Value->Shared->Prop}{s:Shared}{κ : SortKind}{G:Value->Prop}{lt:Value->Value->Bool}
theorem q1u(C:Cmp prog w A s κ G lt){xs:Array Keyed}{T X R:List Keyed}{lo hi:Nat}(h:xs.toList=T++X++R)(h1:lo=T.length)(h2:hi=lo+X.length): Asc lt xs lo hi↔X.Pairwise (le lt):=by
 have hz:xs.size=T.length+X.length+R.length:=by rw [<- nt,h];simp;lia
 have at_:∀i,(hi:i<X.length)->Kz xs (lo+i)=(X[i]).1:=by
  intro i hi;have hl:lo+i<xs.size:=by lia
  rw [jn hl, <- g4f]
  congr 1
  simp only [h];rw [g5r (by simp;lia),g5e (by lia)]
  congr 1;lia
 constructor
 ·intro as
  rw [g33];intro i j hi hj hij;have:=as (lo+i) (lo+j) (by lia) (by lia) (by lia);rw [at_ i hi,at_ j hj] at this;exact this
 ·intro pw i j i1 i2 i3
  have e1:=at_ (i-lo) (by lia);have e2:=at_ (j-lo) (by lia);rw [show lo+(i-lo)=i by lia] at e1;rw [show lo+(j-lo)=j by lia] at e2;rw [e1,e2];exact q7n C (fun x=>C.irr _) pw (by lia) (by lia)
theorem cut(l:List Keyed)(a b:Nat)(h1:a<=b)(h2:b<=l.length): l=l.take a++(l.drop a).take (b-a)++l.drop b:=by
 rw [my];have e:(l.drop a).take (b-a)++l.drop b=l.drop a:=by
  have:=ph (b-a) (l.drop a);rw [g4r,show a+(b-a)=b by lia] at this;exact this
 rw [e,ph]
structure Aft(i l n m p:Nat)(st st':SortSt)(lt:Value->Value->Bool): Prop where
 kind:kindOf st'=kindOf st
 fail:failedOf st'=failedOf st
 pend:pendingOf st'=((pendingOf st).setIfInBounds i (l,n+m,p)).eraseIdxIfInBounds (i+1)
 perm:(arrOf st').Perm (arrOf st)
 out:∀k,(k<l\/l+n+m<=k)->Kz (arrOf st') k=Kz (arrOf st) k
 asc:Asc lt (arrOf st') l (l+n+m)
theorem qoc(C:Cmp prog w A s κ G lt){st:SortSt}{i l n m p p':Nat}{Q:Bool->SortSt->Prop}(hk:kindOf st = κ)(hf:failedOf st=none)(g:Gs G st)
  (e1:(pendingOf st)[i]? = some (l,n,p)) (e2:(pendingOf st)[i+1]? = some (l+n,m,p')) (h1:1<=n) (h2:1<=m) (hz:l+n+m<=(arrOf st).size)
  (a1:Asc lt (arrOf st) l (l+n)) (a2:Asc lt (arrOf st) (l+n) (l+n+m)) (h:∀st',Aft i l n m p st st' lt->Q true st'):wpS (model prog w) A E s (mergeAt' i) Q st:=by
 rw [qob];refine m4 (g3k ?_);rw [e1,e2];dsimp only;obtain⟨st1,hst1⟩:∃st1,st1=setPending st (((pendingOf st).setIfInBounds i (l,n+m,p)).eraseIdxIfInBounds (i+1)):=⟨_,rfl⟩
 rw [<- hst1];have hset:∀ {R:PUnit->SortSt->Prop},R ⟨⟩ st1->wpS (model prog w) A E s (set st1:StateT SortSt Sem PUnit) R st:=by
  intro R hR;unfold wpS;rw [StateT.run_set];exact g9 ⟨rfl,hR⟩
 refine m4 (hset ?_);have k1:kindOf st1 = κ :=by rw [hst1];exact hk
 have f1:failedOf st1=none:=by rw [hst1];exact hf
 have r1:arrOf st1=arrOf st:=by rw [hst1]
 have p1:pendingOf st1=((pendingOf st).setIfInBounds i (l,n+m,p)).eraseIdxIfInBounds (i+1):=by rw [hst1]
 have ge:∀j,(hj:j<(arrOf st).size)->G ((arrOf st)[j]).1:=fun j hj=>g _ (by simp);have kle:∀i j,(hi:i<(arrOf st).size)->(hj:j<(arrOf st).size)->Kz (arrOf st) i=((arrOf st)[i]).1/\Kz (arrOf st) j=((arrOf st)[j]).1:=fun i j hi hj=>⟨jn hi,jn hj⟩
 refine m4 (zf (by lia) (m4 (q1t C k1 (ge _ (by lia)) g (by lia) (by lia) (fun x y hxy hy q1=>?_) fun k hk1 g1 g2=>?_)))
 ·simp only [far1,gh,nz,g2k] at q1 ⊢
  have:=a1 (l+x) (l+y) (by lia) (by lia) (by lia);rw [jn (by lia),jn (by lia)] at this;exact C.tra _ _ _ this q1
 dsimp only;have g1':∀x,l<=x->x<l+k->lt (Kz (arrOf st) (l+n)) (Kz (arrOf st) x)=false:=by
  intro x x1 x2;have:=g1 (x-l) (by lia) (by lia);simp only [far1,gh,nz,g2k] at this;rw [jn (by lia),jn (by lia)];rw [<- this];congr 3;lia
 have g2':∀x,l+k<=x->x<l+n->lt (Kz (arrOf st) (l+n)) (Kz (arrOf st) x)=true:=by
  intro x x1 x2;have:=g2 (x-l) (by lia) (by lia);simp only [far1,gh,nz,g3b] at this;rw [jn (by lia),jn (by lia)];rw [<- this];congr 3;lia
 by_cases hkn:k=n
 ·rw [mi (by first|(simp;done)|(simp;lia))]
  refine mm (h st1 ⟨k1.trans hk.symm,f1.trans hf.symm,p1,by rw [r1],fun _ _=>by rw [r1],?_⟩);rw [r1];intro x y x1 x2 x3
  by_cases hy:y<l+n
  ·exact a1 x y x1 x2 hy
  ·by_cases hx:x<l+n
   ·exact C.tra _ _ _ (g1' x x1 (by lia)) (a2 (l+n) y (by lia) (by lia) (by lia))
   ·exact a2 x y (by lia) x2 x3
 rw [mn (by simp;lia)];have hlast:l+k+(n-k)-1=l+n-1:=by lia
 refine m4 (zf (by lia) (m4 (q1t C k1 (ge _ (by lia)) g (by lia) (by lia) (fun x y hxy hy q1=>?_) fun j hj1 j1 j2=>?_)))
 ·simp only [far1,nu] at q1 ⊢
  have:=a2 (l+n+x) (l+n+y) (by lia) (by lia) (by lia);rw [jn (by lia),jn (by lia)] at this;cases e3:lt ((arrOf st)[l+n+x]'(by lia)).1 ((arrOf st)[l+k+(n-k)-1]'(by lia)).1
  ·rw [C.tra _ _ _ e3 this] at q1;cases q1
  ·rfl
 dsimp only;have j1':∀x,l+n<=x->x<l+n+j->lt (Kz (arrOf st) x) (Kz (arrOf st) (l+n-1))=true:=by
  intro x x1 x2;have:=j1 (x-(l+n)) (by lia) (by lia);simp only [far1,nu] at this;rw [jn (by lia),jn (by lia)];rw [<- this];congr 3 <;> lia
 have j2':∀x,l+n+j<=x->x<l+n+m->lt (Kz (arrOf st) x) (Kz (arrOf st) (l+n-1))=false:=by
  intro x x1 x2;have:=j2 (x-(l+n)) (by lia) (by lia);simp only [far1,nu] at this;rw [jn (by lia),jn (by lia)];rw [<- this];congr 3 <;> lia
 by_cases hj0:j=0
 ·rw [mi (by first|(simp;done)|(simp;lia))]
  refine mm (h st1 ⟨k1.trans hk.symm,f1.trans hf.symm,p1,by rw [r1],fun _ _=>by rw [r1],?_⟩);rw [r1];intro x y x1 x2 x3
  by_cases hy:y<l+n
  ·exact a1 x y x1 x2 hy
  ·by_cases hx:x<l+n
   ·exact C.tra _ _ _ (a1 x (l+n-1) x1 (by lia) (by lia)) (j2' y (by lia) (by lia))
   ·exact a2 x y (by lia) x2 x3
 rw [mn (by simp;lia)];obtain⟨a,ha⟩:∃a,a=(arrOf st).extract (l+k) (l+n):=⟨_,rfl⟩
 obtain⟨b,hb⟩:∃b,b=(arrOf st).extract (l+n) (l+n+j):=⟨_,rfl⟩
 rw [<- ha, <- hb];obtain⟨L,hL⟩:∃L,L=(arrOf st).toList:=⟨_,rfl⟩
 have hLz:L.length=(arrOf st).size:=by rw [hL];simp
 have la:a.toList=(L.drop (l+k)).take (l+n-(l+k)):=by rw [ha,hL,g0u]
 have lb:b.toList=(L.drop (l+n)).take (l+n+j-(l+n)):=by rw [hb,hL,g0u]
 have sza:a.size=n-k:=by rw [<- nt,la];simp;lia
 have szb:b.size=j:=by rw [<- nt,lb];simp;lia
 have ga:∀q∈a.toList,G q.1:=fun q hq=>g q (by rw [la] at hq;rw [<- hL];exact g2t (g1c hq));have gb:∀q∈b.toList,G q.1:=fun q hq=>g q (by rw [lb] at hq;rw [<- hL];exact g2t (g1c hq));have memA:∀q∈a.toList,∃x,l+k<=x/\x<l+n/\q.1=Kz (arrOf st) x:=by
  intro q hq;rw [la] at hq;obtain⟨y,hy,rfl⟩:=uj.mp hq;simp only [p0,uz] at hy;refine⟨l+k+y,by lia,by lia,?_⟩;rw [jn (by lia)];simp [hL]
 have memB:∀q∈b.toList,∃x,l+n<=x/\x<l+n+j/\q.1=Kz (arrOf st) x:=by
  intro q hq;rw [lb] at hq;obtain⟨y,hy,rfl⟩:=uj.mp hq;simp only [p0,uz] at hy;refine⟨l+n+y,by lia,by lia,?_⟩;rw [jn (by lia)];simp [hL]
 have sA:a.toList.Pairwise (le lt):=by
  rw [la];refine(q1u C (xs:=arrOf st) (lo:=l+k) (hi:=l+n) (T:=L.take (l+k)) (R:=L.drop (l+n)) (by rw [<- hL];exact cut L (l+k) (l+n) (by lia) (by lia)) (by simp;lia) (by simp;lia)).mp ?_;exact fun x y x1 x2 x3=>a1 x y (by lia) x2 x3
 have sB:b.toList.Pairwise (le lt):=by
  rw [lb];refine(q1u C (xs:=arrOf st) (lo:=l+n) (hi:=l+n+j) (T:=L.take (l+n)) (R:=L.drop (l+n+j)) (by rw [<- hL];exact cut L (l+n) (l+n+j) (by lia) (by lia)) (by simp;lia) (by simp;lia)).mp ?_;exact fun x y x1 x2 x3=>a2 x y (by lia) x2 (by lia)
 have H:Mh G lt a b:=by
  refine⟨ga,gb,sA,sB,by lia,by lia,fun q hq=>?_,fun q hq=>?_⟩
  ·obtain⟨x,x1,x2,e⟩:=memA q hq
   have e0:(b[0]'(by lia)).1=Kz (arrOf st) (l+n):=by
    rw [jn (by lia)];simp [hb]
   rw [e,e0];exact g2' x x1 x2
  ·obtain⟨x,x1,x2,e⟩:=memB q hq
   have e0:(a[a.size-1]'(by lia)).1=Kz (arrOf st) (l+n-1):=by
    rw [jn (by lia)];simp only [ha,Array.getElem_extract]
    congr 2
    simp;lia
   rw [e,e0];exact j1' x x1 x2
 have fin:∀z st2,Eg st1 st2->Rm lt a b z->wpS (model prog w) A E s (do
   modify fun s=>setArr s (z.toList.zipIdx.foldl (fun a (p,j)=>a.setIfInBounds (l+k+j) p) (arrOf s))
   return (failedOf (<- get)).isNone) Q st2:=by
  intro z st2 eg rm;refine m4 (g4e (m4 (g3k ?_)));obtain⟨Z,hZ⟩:∃Z,Z=z.toList.zipIdx.foldl (fun a (p,j)=>a.setIfInBounds (l+k+j) p) (arrOf st2):=⟨_,rfl⟩
  rw [<- hZ];show wpS (model prog w) A E s (pure (failedOf st2).isNone) Q (setArr st2 Z);rw [show(failedOf st2).isNone=true by rw [eg.2.2.2,f1];rfl];have r2:arrOf st2=arrOf st:=eg.2.1.trans r1;have zlen:z.toList.length=n-k+j:=by rw [rm.1.length_eq,pk,nt,nt,sza,szb]
  have zsz:z.size=n-k+j:=by rw [<- nt];exact zlen
  obtain⟨T,hT⟩:∃T,T=L.take l:=⟨_,rfl⟩
  obtain⟨P,hP⟩:∃P,P=(L.drop l).take k:=⟨_,rfl⟩
  obtain⟨S,hS⟩:∃S,S=(L.drop (l+n+j)).take (m-j):=⟨_,rfl⟩
  obtain⟨R,hR⟩:∃R,R=L.drop (l+n+m):=⟨_,rfl⟩
  have lenT:T.length=l:=by rw [hT];simp;lia
  have lenP:P.length=k:=by rw [hP];simp;lia
  have lenS:S.length=m-j:=by rw [hS];simp;lia
  have c1:L=T++P++a.toList++b.toList++S++R:=by
   have d1:=cut L l (l+k) (by lia) (by lia);have d2:L.drop (l+k)=a.toList++L.drop (l+n):=by
    have:=ph (l+n-(l+k)) (L.drop (l+k));rw [g4r,show l+k+(l+n-(l+k))=l+n by lia, <- la] at this;exact this.symm
   have d3:L.drop (l+n)=b.toList++L.drop (l+n+j):=by
    have:=ph (l+n+j-(l+n)) (L.drop (l+n));rw [g4r,show l+n+(l+n+j-(l+n))=l+n+j by lia, <- lb] at this;exact this.symm
   have d4:L.drop (l+n+j)=S++R:=by
    have:=ph (m-j) (L.drop (l+n+j));rw [g4r,show l+n+j+(m-j)=l+n+m by lia, <- hS, <- hR] at this;exact this.symm
   rw [d2,d3,d4,show l+k-l=k by lia, <- hT, <- hP] at d1;rw [d1];simp only [my]
  have c2:Z.toList=T++P++z.toList++S++R:=by
   have:=qbt (o:=l+k) z.toList 0 (arrOf st2) (T++P) (a.toList++b.toList) (S++R) (by rw [r2, <- hL,c1];simp only [my]) (by simp;lia) (by simp;lia);rw [<- hZ] at this;rw [this];simp only [my]
  have perm:Z.Perm (arrOf st):=by
   refine g13.mpr ?_;rw [c2, <- hL,c1];have:=rm.1;have q1:(T++P++z.toList++S++R).Perm (T++P++(a.toList++b.toList)++S++R):=((g0a _ this).append_right _).append_right _;rw [<- my (T++P)] at q1;exact q1
  have zs:Z.size=(arrOf st).size:=perm.size_eq;have kout:∀x,(x<l\/l+n+m<=x)->Kz Z x=Kz (arrOf st) x:=by
   intro x hx;refine wt ?_;rw [<- g0m, <- g0m,c2, <- hL,c1];rcases hx with hx|hx
   ·simp only [my]
    rw [uc (by lia),uc (by lia)]
   ·rw [uy (by simp;lia),uy (by simp;lia)]
    congr 1
    simp;lia
  have sP:∀q∈P,∃x,l<=x/\x<l+k/\q.1=Kz (arrOf st) x:=by
   intro q hq;rw [hP] at hq;obtain⟨y,hy,rfl⟩:=uj.mp hq;simp only [p0,uz] at hy;refine⟨l+y,by lia,by lia,?_⟩;rw [jn (by lia)];simp [hL]
  have sS:∀q∈S,∃x,l+n+j<=x/\x<l+n+m/\q.1=Kz (arrOf st) x:=by
   intro q hq;rw [hS] at hq;obtain⟨y,hy,rfl⟩:=uj.mp hq;simp only [p0,uz] at hy;refine⟨l+n+j+y,by lia,by lia,?_⟩;rw [jn (by lia)];simp [hL]
  have asc:Asc lt Z l (l+n+m):=by
   refine(q1u C (T:=T) (X:=P++z.toList++S) (R:=R) (by rw [c2];simp only [my]) lenT.symm (by simp;lia)).mpr ?_;have pP:P.Pairwise (le lt):=by
    refine(q1u C (xs:=arrOf st) (lo:=l) (hi:=l+k) (T:=T) (R:=a.toList++b.toList++S++R) (by rw [<- hL,c1];simp only [my]) lenT.symm (by lia)).mp ?_;exact fun x y x1 x2 x3=>a1 x y x1 x2 (by lia)
   have pS:S.Pairwise (le lt):=by
    refine(q1u C (xs:=arrOf st) (lo:=l+n+j) (hi:=l+n+m) (T:=T++P++a.toList++b.toList) (R:=R) (by rw [<- hL,c1]) (by simp;lia) (by lia)).mp ?_;exact fun x y x1 x2 x3=>a2 x y (by lia) x2 x3
   refine pb.mpr ⟨pb.mpr ⟨pP,rm.2,fun q hq r hr=>?_⟩,pS,fun q hq r hr=>?_⟩
   ·obtain⟨x,x1,x2,ex⟩:=sP q hq
    unfold le;rcases ny.mp (rm.1.mem_iff.mp hr) with hr|hr
    ·obtain⟨y,y1,y2,ey⟩:=memA r hr
     rw [ex,ey];exact a1 x y x1 (by lia) y2
    ·obtain⟨y,y1,y2,ey⟩:=memB r hr
     rw [ex,ey];exact C.tra _ _ _ (g1' x x1 x2) (a2 (l+n) y (by lia) y1 (by lia))
   ·obtain⟨y,y1,y2,ey⟩:=sS r hr
    unfold le;have fromA:∀x,l<=x->x<l+n->lt (Kz (arrOf st) y) (Kz (arrOf st) x)=false:=fun x x1 x2=>C.tra _ _ _ (a1 x (l+n-1) x1 (by lia) (by lia)) (j2' y y1 y2);rcases ny.mp hq with hq|hq
    ·obtain⟨x,x1,x2,ex⟩:=sP q hq
     rw [ex,ey];exact fromA x x1 (by lia)
    ·rcases ny.mp (rm.1.mem_iff.mp hq) with hq|hq
     ·obtain⟨x,x1,x2,ex⟩:=memA q hq
      rw [ex,ey];exact fromA x (by lia) x2
     ·obtain⟨x,x1,x2,ex⟩:=memB q hq
      rw [ex,ey];exact a2 x y x1 (by lia) y2
  exact mm (h _ ⟨(eg.1.trans k1).trans hk.symm,(eg.2.2.2.trans f1).trans hf.symm,eg.2.2.1.trans p1,perm,kout,asc⟩)
 by_cases hc:n-k<=j
 ·rw [mi hc]
  exact m4 (qo1 C H k1 fun z st2 eg rm=>fin z st2 eg rm)
 ·rw [mn hc]
  exact m4 (qo7 C H k1 fun z st2 eg rm=>fin z st2 eg rm)
end
abbrev Pd:=Nat×Nat×Nat
def Rn(lt:Value->Value->Bool)(xs:Array Keyed): Nat->List Pd->Nat->Prop
 | b,[],e=>b=e
 | b,q :: r,e=>q.1=b/\1<=q.2.1/\Asc lt xs b (b+q.2.1)/\Rn lt xs (b+q.2.1) r e
section
variable{lt:Value->Value->Bool}
theorem Rn.len{xs:Array Keyed}: ∀ {l:List Pd} {b e:Nat},Rn lt xs b l e->b+l.length<=e
 | [],b,e,h=>by have:b=e:=h;simp;lia
 | q :: r,b,e,h=>by have:=Rn.len h.2.2.2;have:=h.2.1;simp;lia
theorem Asc.same{xs ys:Array Keyed}{lo hi:Nat}(h:Asc lt xs lo hi)(hs:∀k,lo<=k->k<hi->Kz ys k=Kz xs k): Asc lt ys lo hi:=by
 intro i j i1 i2 i3;rw [hs i i1 (by lia),hs j (by lia) i3];exact h i j i1 i2 i3
theorem Rn.same{xs ys:Array Keyed}: ∀ {l:List Pd} {b e:Nat},Rn lt xs b l e->(∀k,b<=k->k<e->Kz ys k=Kz xs k)->Rn lt ys b l e
 | [],b,e,h,_=>h
 | q :: r,b,e,h,hs=>by
  have:=h.2.2.2.len;exact⟨h.1,h.2.1,h.2.2.1.same fun k k1 k2=>hs k k1 (by lia),h.2.2.2.same fun k k1 k2=>hs k (by lia) k2⟩
theorem Rn.push{xs:Array Keyed}: ∀ {l:List Pd} {b e n p:Nat},Rn lt xs b l e->1<=n->Asc lt xs e (e+n)->Rn lt xs b (l++[(e,n,p)]) (e+n)
 | [],b,e,n,p,h,hn,as=>by have:b=e:=h;subst this;exact⟨rfl,hn,as,rfl⟩
 | q :: r,b,e,n,p,h,hn,as=>⟨h.1,h.2.1,h.2.2.1,h.2.2.2.push hn as⟩
theorem Rn.modif{xs:Array Keyed}(f:Pd->Pd)(hf:∀q,(f q).1=q.1/\(f q).2.1=q.2.1): ∀ {l:List Pd} {i b e:Nat},Rn lt xs b l e->Rn lt xs b (l.modify i f) e
 | [],i,b,e,h=>by simpa using h
 | q :: r,0,b,e,h=>by
  rw [List.modify_zero_cons];unfold Rn at h ⊢;rw [(hf q).1,(hf q).2];exact h
 | q :: r,i+1,b,e,h=>by
  rw [List.modify_succ_cons];exact⟨h.1,h.2.1,h.2.2.1,h.2.2.2.modif f hf⟩
theorem Rn.two{xs:Array Keyed}: ∀ {l:List Pd} {i b e:Nat} {l0 n p r m p':Nat},Rn lt xs b l e->l[i]? = some (l0,n,p)->l[i+1]? = some (r,m,p') ->
  r=l0+n/\1<=n/\1<=m/\b<=l0/\l0+n+m<=e/\Asc lt xs l0 (l0+n)/\Asc lt xs (l0+n) (l0+n+m) /\
  ∀ys:Array Keyed,(∀k,(k<l0\/l0+n+m<=k)->Kz ys k=Kz xs k)->Asc lt ys l0 (l0+n+m)->Rn lt ys b ((l.set i (l0,n+m,p)).eraseIdx (i+1)) e
 | [],i,b,e,l0,n,p,r,m,p',h,e1,e2=>by simp at e1
 | [q],0,b,e,l0,n,p,r,m,p',h,e1,e2=>by simp at e2
 | q :: q2 :: r',0,b,e,l0,n,p,r,m,p',h,e1,e2=>by
  simp at e1 e2;subst e1;subst e2;obtain⟨h1,h2,h3,h4,h5,h6,h7⟩:=h;dsimp only at h1 h2 h3 h4 h5 h6 h7;subst h1;have hl:=h7.len;refine⟨h4,h2,h5,gw _,by lia,h3,h6,fun ys hs as=>?_⟩;rw [List.set_cons_zero,g3o,List.eraseIdx_cons_zero];refine⟨rfl,by show 1<=n+m;lia,by show Asc lt ys l0 (l0+(n+m));rw [<- Nat.add_assoc];exact as,?_⟩;show Rn lt ys (l0+(n+m)) r' e;rw [<- Nat.add_assoc];exact h7.same fun k k1 k2=>hs k (.inr k1)
 | q :: l,i+1,b,e,l0,n,p,r,m,p',h,e1,e2=>by
  rw [g3p] at e1 e2;obtain⟨h1,h2,h3,h4⟩:=h;obtain⟨a1,a2,a3,a4,a5,a6,a7,a8⟩:=Rn.two h4 e1 e2;refine⟨a1,a2,a3,by lia,a5,a6,a7,fun ys hs as=>?_⟩;rw [List.set_cons_succ,g3o];exact⟨h1,h2,h3.same fun k k1 k2=>hs k (.inl (by lia)),a8 ys hs as⟩
end
abbrev OU:=Option Unit×Unit
abbrev ON:=Option Unit×Nat
noncomputable def srM(sz pw:Nat): StateT SortSt Sem OU:=
 forIn [0:sz] ((none,()):OU) fun _ _=>do
  let z <- get
  match if(pendingOf z).size>1 then(pendingOf z)[(pendingOf z).size-2]? else none with
  | some (_,_,ol)=>
   if ol<=pw then pure (.done (none,())) else do
    let y <- mergeAt' ((pendingOf z).size-2)
    if(!y)=true then pure (.done (some (),())) else pure (.yield (none,()))
  | _=>pure (.done (none,()))
noncomputable def srP(lo n:Nat): StateT SortSt Sem (ForInStep ON):=do
 modify fun z=>setPending z ((pendingOf z).push (lo,n,0))
 pure (.yield (none,lo+n))
noncomputable def srK(sz lo n:Nat): StateT SortSt Sem (ForInStep ON):=do
 let z <- get
 match(pendingOf z).back? with
 | some (s1,n1,_)=>do
  let t <- srM sz (power' sz (2*s1+n1) (2*s1+n1+n1+n) sz)
  match t.1 with
  | some r=>pure (.done (some r,lo))
  | none=>do
   modify fun z=>setPending z ((pendingOf z).modify ((pendingOf z).size-1) fun x=>(x.1,x.2.1,power' sz (2*s1+n1) (2*s1+n1+n1+n) sz))
   srP lo n
 | _=>srP lo n
noncomputable def srL(sz:Nat)(t:ON): StateT SortSt Sem (ForInStep ON):=
 if t.2>=sz then pure (.done (none,t.2))
 else do
  match <- countRun' t.2 (sz-t.2) with
  | some fo=>
   if fo<minRun' sz sz 0 then do
    rule "list.sort.binary-insertion"
    let y <- binarySort' t.2 (min (sz-t.2) (minRun' sz sz 0)) fo
    if(!y)=true then pure (.done (some (),t.2)) else srK sz t.2 (min (sz-t.2) (minRun' sz sz 0))
   else srK sz t.2 fo
  | _=>pure (.done (some (),t.2))
def srI(z:SortSt): Nat:=if Option.any (fun x=>decide (x<(pendingOf z)[(pendingOf z).size-2+1]?.elim 0 fun x=>x.2.1)) (if(pendingOf z).size-2>0 then Option.map (fun x=>x.2.1) (pendingOf z)[(pendingOf z).size-2-1]? else none)=true then(pendingOf z).size-2-1 else(pendingOf z).size-2
noncomputable def srE(sz:Nat): StateT SortSt Sem OU:=
 forIn [0:sz] ((none,()):OU) fun _ _=>do
  let z <- get
  if(pendingOf z).size<=1 then pure (.done (none,())) else do
   let y <- mergeAt' (srI z)
   if(!y)=true then pure (.done (some (),())) else pure (.yield (none,()))
theorem qod:sortRuns'=(do
  let z <- get
  let t <- forIn [0:(arrOf z).size] ((none,0):ON) fun _=>srL (arrOf z).size
  match t.1 with
  | some r=>pure r
  | none=>do
   let u <- srE (arrOf z).size
   match u.1 with
   | some r=>pure r
   | none=>pure ()):=by
 rw [sortRuns'_eq];dsimp only;refine bc fun z=>bc2 (fc fun _ t=>?_) fun t=>?_
 ·unfold srL
  refine g0b rfl (fun _=>rfl) fun _=>bc fun x=>?_;have kk:∀n (m:StateT SortSt Sem (ForInStep ON)),m=srK (arrOf z).size t.2 n->m=srK (arrOf z).size t.2 n:=fun _ _ h=>h;cases x with
  | none=>rfl
  | some fo=>
   dsimp only;refine g0b rfl (fun _=>bc fun _=>bc fun y=>g0b rfl (fun _=>rfl) fun _=>?_) fun _=>?_
   all_goals
    unfold srK;refine bc fun z2=>?_;cases(pendingOf z2).back? with
    | none=>rfl
    | some q=>
     obtain⟨s1,n1,p1⟩:=q;dsimp only;refine bc2 rfl fun t2=>?_;obtain⟨r2,u2⟩:=t2;cases r2 <;> rfl
 ·obtain⟨r,n⟩:=t
  cases r with
  | some r=>rfl
  | none=>
   dsimp only;refine bc2 rfl fun u=>?_;obtain⟨r2,u2⟩:=u;cases r2 <;> rfl
section
variable{prog:Program}{w:World}{A:Around}{E:Value->Shared->Prop}{s:Shared}{κ : SortKind}{G:Value->Prop}{lt:Value->Value->Bool}{a₀:Array Keyed}
structure SI(κ : SortKind)(lt:Value->Value->Bool)(a₀:Array Keyed)(lo:Nat)(st:SortSt): Prop where
 kind:kindOf st = κ
 fail:failedOf st=none
 perm:(arrOf st).Perm a₀
 runs:Rn lt (arrOf st) 0 (pendingOf st).toList lo
theorem SI.gs{lo:Nat}{st:SortSt}(h:SI κ lt a₀ lo st)(g:∀p∈a₀.toList,G p.1): Gs G st:=fun p hp=>g p ((g13.mp h.perm).mem_iff.mp hp)
theorem SI.size{lo:Nat}{st:SortSt}(h:SI κ lt a₀ lo st): (arrOf st).size=a₀.size:=h.perm.size_eq
theorem SI.merge(C:Cmp prog w A s κ G lt)(g:∀p∈a₀.toList,G p.1){lo i:Nat}{st:SortSt}{Q:Bool->SortSt->Prop}(h:SI κ lt a₀ lo st)(hlo:lo<=a₀.size)(hi:i+1<(pendingOf st).size)
  (hq:∀st',SI κ lt a₀ lo st'->(pendingOf st').size+1=(pendingOf st).size->(∀k,lo<=k->Kz (arrOf st') k=Kz (arrOf st) k)->Q true st'):wpS (model prog w) A E s (mergeAt' i) Q st:=by
 obtain⟨l,n,p,e1⟩:∃l n p,(pendingOf st)[i]=(l,n,p):=⟨_,_,_,rfl⟩
 obtain⟨r,m,p',e2⟩:∃r m p',(pendingOf st)[i+1]=(r,m,p'):=⟨_,_,_,rfl⟩
 have f1:(pendingOf st)[i]? = some (l,n,p):=by rw [g23 _ i (by lia),e1]
 have f2:(pendingOf st)[i+1]? = some (r,m,p'):=by rw [g23 _ (i+1) hi,e2]
 obtain⟨a1,a2,a3,a4,a5,a6,a7,a8⟩:=Rn.two h.runs (by rw [g0m];exact f1) (by rw [g0m];exact f2);subst a1;have hz:=h.size;refine qoc C h.kind h.fail (h.gs g) f1 f2 a2 a3 (by lia) a6 a7 fun st' af=>?_;have ep:(pendingOf st').toList=((pendingOf st).toList.set i (l,n+m,p)).eraseIdx (i+1):=by
  rw [af.pend,Array.toList_eraseIdxIfInBounds,g55]
 refine hq st' ⟨af.kind.trans h.kind,af.fail.trans h.fail,af.perm.trans h.perm,?_⟩ ?_ (fun k hk=>af.out k (.inr (by lia)))
 ·rw [ep]
  exact a8 _ af.out af.asc
 ·rw [<- nt,ep,List.length_eraseIdx,mi (by simpa using hi),g05,nt]
  lia
theorem qoe(C:Cmp prog w A s κ G lt)(g:∀p∈a₀.toList,G p.1){lo sz pw:Nat}{st:SortSt}{Q:OU->SortSt->Prop}(h:SI κ lt a₀ lo st)(hlo:lo<=a₀.size)
  (hq:∀st',SI κ lt a₀ lo st'->(∀k,lo<=k->Kz (arrOf st') k=Kz (arrOf st) k)->Q (none,()) st'):wpS (model prog w) A E s (srM sz pw) Q st:=by
 unfold srM;refine g07 (I:=fun _ c st'=>c=(none,())/\SI κ lt a₀ lo st'/\∀k,lo<=k->Kz (arrOf st') k=Kz (arrOf st) k) ?_ ?_ ⟨rfl,h,fun _ _=>rfl⟩
 ·rintro x c st' _ _ ⟨rfl,hs,hf⟩
  refine m4 (g3k ?_)
  split
  ·rename_i q1 q2 ol eq
   by_cases hsz:(pendingOf st').size>1
   ·split
    ·exact mm (hq st' hs hf)
    ·refine m4 (hs.merge C g hlo (by lia) fun st2 hs2 _ hf2=>?_)
     simp only [g12,gh,nz];exact mm ⟨rfl,hs2,fun k hk=>(hf2 k hk).trans (hf k hk)⟩
   ·rw [mn hsz] at eq;cases eq
  ·exact mm (hq st' hs hf)
 ·rintro c st' ⟨rfl,hs,hf⟩
  exact hq st' hs hf
theorem qez{lo n:Nat}{st:SortSt}{Q:ForInStep ON->SortSt->Prop}(h:SI κ lt a₀ lo st)(hn:1<=n)(as:Asc lt (arrOf st) lo (lo+n))
  (hq:∀st',SI κ lt a₀ (lo+n) st'->Q (.yield (none,lo+n)) st'):wpS (model prog w) A E s (srP lo n) Q st:=by
 unfold srP;refine m4 (g4e (mm (hq _ ⟨h.kind,h.fail,h.perm,?_⟩)));show Rn lt (arrOf st) 0 ((pendingOf st).push (lo,n,0)).toList (lo+n);rw [Array.toList_push];exact h.runs.push hn as
theorem qf0(C:Cmp prog w A s κ G lt)(g:∀p∈a₀.toList,G p.1){lo n sz:Nat}{st:SortSt}{Q:ForInStep ON->SortSt->Prop}(h:SI κ lt a₀ lo st)(hlo:lo+n<=a₀.size)(hn:1<=n)(as:Asc lt (arrOf st) lo (lo+n))
  (hq:∀st',SI κ lt a₀ (lo+n) st'->Q (.yield (none,lo+n)) st'):wpS (model prog w) A E s (srK sz lo n) Q st:=by
 unfold srK;refine m4 (g3k ?_)
 split
 ·refine m4 (qoe C g h (by lia) fun st' hs hf=>?_)
  dsimp only;refine m4 (g4e ?_);refine qez (a₀:=a₀) (κ := κ) ⟨hs.kind,hs.fail,hs.perm,?_⟩ hn (as.same fun k k1 k2=>hf k k1) hq;show Rn lt (arrOf st') 0 ((pendingOf st').modify ((pendingOf st').size-1) _).toList lo;rw [Array.toList_modify];refine Rn.modif _ ?_ hs.runs;exact fun q=>⟨rfl,rfl⟩
 ·exact qez h hn as hq
theorem SI.tr{lo hi:Nat}{st st':SortSt}(h:SI κ lt a₀ lo st)(t:Tr lo hi st st'): SI κ lt a₀ lo st':=
 ⟨t.kind.trans h.kind,t.fail.trans h.fail,t.perm.trans h.perm,by rw [t.pend];exact h.runs.same fun k k1 k2=>wt (t.out k (.inl k2))⟩
theorem qbu(C:Cmp prog w A s κ G lt)(g:∀p∈a₀.toList,G p.1){st:SortSt}{Q:Unit->SortSt->Prop}(hk:kindOf st = κ)(hf:failedOf st=none)(ha:arrOf st=a₀)(hp:pendingOf st = #[])
  (hq:∀st',failedOf st'=none->(arrOf st').Perm a₀->(arrOf st').toList.Pairwise (le lt)->Q () st'):wpS (model prog w) A E s sortRuns' Q st:=by
 have h0:SI κ lt a₀ 0 st:=⟨hk,hf,by rw [ha],by rw [hp];rfl⟩
 rw [qod];refine m4 (g3k ?_);rw [ha];refine m4 (um (g07 (I:=fun x c st'=>∃lo,c=(none,lo)/\min x a₀.size<=lo/\lo<=a₀.size/\SI κ lt a₀ lo st')
  (Q:=fun c st'=>∃lo,c=(none,lo)/\lo=a₀.size/\SI κ lt a₀ lo st') ?_ ?_ ⟨0,rfl,by lia,by lia,h0⟩) ?_)
 ·rintro x c st' _ hx ⟨lo,rfl,h1,h2,hs⟩
  unfold srL;dsimp only
  split
  ·exact mm ⟨lo,rfl,by lia,hs⟩
  ·have hz:=hs.size
   refine m4 (qo9 C hs.kind (hs.gs g) (by lia) (by lia) fun m st2 tr m1 m2 as=>?_);have hs2:=hs.tr tr;have hz2:=hs2.size;dsimp only
   split
   ·refine m4 (wpS_lift (g02 ⟨rfl,?_⟩))
    refine m4 (qoa C hs2.kind (hs2.gs g) (by lia) (by lia) as fun st3 tr3 as3=>?_);simp only [g12,gh,nz];exact qf0 C g (hs2.tr tr3) (by lia) (by lia) as3 fun st4 hs4=>⟨_,rfl,by lia,by lia,hs4⟩
   ·exact qf0 C g hs2 (by lia) m1 as fun st4 hs4=>⟨_,rfl,by lia,by lia,hs4⟩
 ·rintro c st' ⟨lo,rfl,h1,h2,hs⟩
  exact⟨lo,rfl,by lia,hs⟩
 ·rintro c st' ⟨lo,rfl,rfl,hs⟩
  dsimp only;have fin:∀st2,SI κ lt a₀ a₀.size st2->(pendingOf st2).size<=1->Q () st2:=by
   intro st2 hs2 hp2;refine hq st2 hs2.fail hs2.perm ?_;have r:=hs2.runs;have hz:=hs2.size;have as:Asc lt (arrOf st2) 0 a₀.size:=by
    match e:(pendingOf st2).toList,r with
    | [],r=>
     have:0=a₀.size:=r;intro i j i1 i2 i3;lia
    | [q],r=>
     obtain⟨r1,r2,r3,r4⟩:=r;have:0+q.2.1=a₀.size:=r4;rw [<- this];exact r3
    | q :: q2 :: l,r=>
     have:=g0f List.length e;simp at this;lia
   exact(q1u C (T:=[]) (X:=(arrOf st2).toList) (R:=[]) (by simp) rfl (by simp;lia)).mp as
  unfold srE;refine m4 (um (g07 (I:=fun x c st2=>c=(none,())/\SI κ lt a₀ a₀.size st2/\((pendingOf st2).size<=1\/(pendingOf st2).size+x<=a₀.size))
   (Q:=fun c st2=>c=(none,())/\SI κ lt a₀ a₀.size st2/\(pendingOf st2).size<=1) ?_ ?_ ⟨rfl,hs,.inr (by have:=hs.runs.len;simp at this;lia)⟩) ?_)
  ·rintro x c st2 _ hx ⟨rfl,hs2,hp2⟩
   refine m4 (g3k ?_)
   split
   ·rename_i h1
    exact mm ⟨rfl,hs2,h1⟩
   ·rename_i h1
    have hI:srI st2+1<(pendingOf st2).size:=by
     unfold srI;generalize (if(pendingOf st2).size-2>0 then Option.map (fun x:Pd=>x.2.1) (pendingOf st2)[(pendingOf st2).size-2-1]? else none)=zz
     split <;> lia
    refine m4 (hs2.merge C g (gw _) hI fun st3 hs3 hp3 _=>?_);simp only [g12,gh,nz];exact mm ⟨rfl,hs3,.inr (by lia)⟩
  ·rintro c st2 ⟨rfl,hs2,hp2⟩
   exact⟨rfl,hs2,by lia⟩
  ·rintro c st2 ⟨rfl,hs2,hp2⟩
   exact mm (fin st2 hs2 hp2)
end
end Srt
namespace Srt
open PySem PySem.SeqAt PySem.AutoSeq1 PySem.MeetsSeq PySem.MeetsSeq2 PySem.MeetsSeq3 PySem.SeqRoads2
def LtAt(A:Around)(s:Shared)(y x:Value)(b:Bool): Prop:=∀(prog:Program) (w:World) (E:Value->Shared->Prop) (Q:Value->Shared->Prop),Q (.bool b) s->wpAny (model prog w) A (richCompare .Lt y x) Q E s
inductive LexAt(A:Around)(s:Shared)(f:Bool): List (Value×Value)->Bool->Prop
 | nil:LexAt A s f [] f
 | eq {x y r b}:EqAt A s x y true->LexAt A s f r b->LexAt A s f ((x,y) :: r) b
 | ne {x y r b}:EqAt A s x y false->LtAt A s x y b->LexAt A s f ((x,y) :: r) b
theorem qr3(l b:Addr)(is js:Array Value)(n n2:Nat)(dd dd2:Option Addr)(sl sl2:Array (Option Value)):
  Meets (Builtin.«tuple.__lt__» ⟨[.ref l,.ref b],[]⟩)
   (fun A R s=>s.heap.get? l=some {cls:=.type "tuple",dict:=dd,data:=.seq is n,slots:=sl}/\s.heap.get? b=some {cls:=.type "tuple",dict:=dd2,data:=.seq js n2,slots:=sl2} /\
    ∃c,LexAt A.in1 s (decide (is.size<js.size)) (is.toList.zip js.toList) c/\R (.ok (.ret (.bool c))) s):=
 .of_wp fun prog w A R s h=>by
  obtain⟨hp,g,d,tk,os⟩:=s;obtain⟨hl,hb,c,hc,h⟩:=h;have f2:=g22
  wp_walk using g32 hl,g32 hb,wpAny_forIn_list _ (fun rest b s'=>b.1=none/\s'=⟨hp,g,d,tk,os⟩/\LexAt A.in1 ⟨hp,g,d,tk,os⟩ (decide (is.size<js.size)) rest c) _
  case turn=>
   rintro⟨y,x⟩ rest b s' ⟨hb',rfl,hx⟩
   cases hx with
   | eq e r=>
    refine g0 (e prog w _ _ ?_)
    wp_walk
    exact⟨rfl,rfl,r⟩
   | ne e k=>
    refine g0 (e prog w _ _ ?_);have k':∀ {E:Value->Shared->Prop} {Q:Value->Shared->Prop},Q (.bool c) ⟨hp,g,d,tk,os⟩->wpAny (model prog w) A.in1 (richCompare .Lt y x) Q E ⟨hp,g,d,tk,os⟩:=fun h=>k prog w _ _ h
    wp_walk using k'
    exact⟨_,rfl,h⟩
  case fin=>
   rintro⟨b1,b2⟩ s' ⟨hb',rfl,hx⟩
   simp only at hb';subst hb';cases hx
   wp_walk
   exact⟨_,rfl,by simpa [Builtin.Tuple.tupleCompareSizes] using h⟩
  case h=>
   exact⟨rfl,rfl,hc⟩
theorem LtAt.tuples{A:Around}{s:Shared}{l b:Addr}{is js:Array Value}{c:Bool}(hl:s.heap.IsTuple l is)(hb:s.heap.IsTuple b js)(hu:A.units<cLine)
  (he:LexAt A.in1 s (decide (is.size<js.size)) (is.toList.zip js.toList) c):LtAt A s (.ref l) (.ref b) c:=fun prog w E Q h=>by
 obtain⟨⟨cls,dd,data,sl⟩,ho,hc,n,hd⟩:=id hl;obtain⟨⟨cls2,dd2,data2,sl2⟩,ho2,hc2,n2,hd2⟩:=id hb;simp only at hc hd hc2 hd2;subst hc hd hc2 hd2;exact richCompare_meets_room (op:=.Lt) ⟨_,ho,rfl⟩ ⟨_,ho2,rfl⟩ F.slot_tuple_lt F.entry_tuple_lt (F.args_tuple_lt_2 _ _) (qr3 l b is js n n2 dd dd2 sl sl2)
  ⟨ho,ho2,c,he,show Value.bool c≠Value.notImplemented/\Q (.bool c) s from⟨(fun x=>nomatch x),h⟩⟩ hu
end Srt
namespace Srt
open PySem PyProof.Rows
def ju(h:Heap)(a:Addr)(vs:List Value): Heap:=((h.update a (Obj.mapSeq fun _=> #[])).push (seqObj "tuple" vs.toArray 0)).push (seqObj "list" #[] 0)
section
variable{prog:Program}{w:World}{A:Around}{E:Value->Shared->Prop}{s:Shared}{κ : SortKind}{G:Value->Prop}{lt:Value->Value->Bool}
theorem qif{a:Addr}{vs:List Value}{n:Nat}{P:PySem.Fin->Shared->Prop}(ho:s.heap.get? a=some (seqObj "list" vs.toArray n))(hz:vs.length<=sizeLine)
  (hkind:2<=vs.length->∀Q:SortKind->Shared->Prop,Q κ {s with heap:=ju s.heap a vs}->wpAny (model prog w) A (keyKind' vs.toArray) Q E {s with heap:=ju s.heap a vs})
  (C:2<=vs.length->Cmp prog w A {s with heap:=ju s.heap a vs} κ G lt) (g:∀v∈vs,G v)
  (h:∀out:List Value,out.Perm vs->out.Pairwise (fun x y=>lt y x=false)->P (.done (.ret .none)) {s with heap:=sortedHeap s.heap a vs out.toArray}) :
  wpAny (model prog w) A (Builtin.«list.sort» ⟨[.ref a],[]⟩) P E s:=by
 rw [list_sort_plain];have ha:a<s.heap.objs.size:=gv ho;refine g0 (g4h ho rfl ?_);refine g0 (g1x ho rfl ?_ (by simpa using hz) (by simp));obtain⟨e1,ho1⟩:∃e1,(s.heap.update a (Obj.mapSeq fun _=> #[])).get? a=some (seqObj "list" #[] e1):=⟨_,g1d ho (fun _=> #[])⟩
 refine g0 (g4t ho1 rfl ?_);refine g0 (g4p ?_);refine g0 (g40 ?_);refine nh ?_;have ho6:(ju s.heap a vs).get? a=some (seqObj "list" #[] e1):=by
  unfold ju;rw [u6 _ _ _ (by rw [g0j,t7];exact gz (g0o ha)),u6 _ _ _ (by rw [t7];exact gz ha)];exact ho1
 show wpAny (model prog w) A _ P E {s with heap:=ju s.heap a vs};dsimp only;have hsz:vs.toArray.size=vs.length:=by simp
 by_cases h2:vs.toArray.size<2
 ·rw [mi h2,mi h2]
  refine g0 (g9 ?_);rw [StateT.run_pure];refine g0 (g9 ?_);dsimp only;refine g0 (g4t ho6 rfl ?_);have ez:(Array.map (fun x:Keyed=>x.2) (vs.toArray.zip vs.toArray))=vs.toArray:=by
   apply g6g;simp [g5s]
  refine g0 (g1x ho6 rfl ?_ (by simp) (by show(Array.map (fun x:Keyed=>x.2) (vs.toArray.zip vs.toArray)).size<=_;rw [ez,hsz];lia));simp only [g3s,gh,nz];refine g9 ?_;show P _ {s with heap:=sortedHeap s.heap a vs (Array.map (fun x:Keyed=>x.2) (vs.toArray.zip vs.toArray))};rw [ez];refine h vs (.refl _) ?_
  match vs,hsz,h2 with
  | [],_,_=>exact .nil
  | [_],_,_=>exact g2b _ _
  | _ :: _ :: _,_,h2=>simp at h2;lia
 ·rw [mn h2,mn h2]
  have h2':2<=vs.length:=by lia
  refine g0 (hkind h2' _ ?_);have gp:∀p∈(vs.toArray.zip vs.toArray).toList,G p.1:=fun p hp=>by
   have:p∈vs.zip vs:=by simpa using hp
   exact g _ (mem_zip_self this).2
  refine g0 (t5 (qbu (a₀:=vs.toArray.zip vs.toArray) (st:=SortSt.mk' κ (vs.toArray.zip vs.toArray) #[] 7 none)
   (Q:=fun _ st'=>failedOf st'=none/\(arrOf st').Perm (vs.toArray.zip vs.toArray)/\(arrOf st').toList.Pairwise (le lt)) (C h2') gp rfl rfl rfl rfl fun st' a1 a2 a3=>⟨a1,a2,a3⟩) ?_ fun _ _ e=>e)
  rintro⟨⟨⟩,st'⟩ s' ⟨rfl,hf,hp,hs⟩
  dsimp only;have hl:(arrOf st').toList.Perm (vs.zip vs):=by
   have:=g13.mp hp
   simpa using this
  have e2:(arrOf st').map (·.2)=((arrOf st').toList.map (·.1)).toArray:=by
   apply g6g;rw [Array.toList_map];exact g2z fun p hp'=>((mem_zip_self (hl.mem_iff.mp hp')).1).symm
  have hp2:((arrOf st').toList.map (·.1)).Perm vs:=by
   have:=hl.map (·.1);rwa [List.map_fst_zip (gw _)] at this
  refine g0 (g4t ho6 rfl ?_);refine g0 (g1x ho6 rfl ?_ (by simp) (by show(Array.map (fun x:Keyed=>x.2) (arrOf st')).size<=_;rw [e2,gr,hp2.length_eq];lia));rw [hf];simp only [g3s,gh,nz];refine g9 ?_;show P _ {s with heap:=sortedHeap s.heap a vs ((arrOf st').map (·.2))};rw [e2];exact h _ hp2 (g0d.mpr hs)
def srtH(h:Heap)(vs:List Value): Heap:=((h.push (seqObj "list" #[] 0)).update h.objs.size (Obj.mapSeq (· ++ vs.toArray))).push (seqObj "list" vs.toArray 0)
end
section
variable{prog:Program}{w:World}{A:Around}{E:Value->Shared->Prop}{s:Shared}
theorem qbv{kS:Addr}{f:Value}{vs:List Value}{J:List Value->Shared->Prop}{body:Value->PUnit->Sem (ForInStep PUnit)}(hz:vs.length<=sizeLine)
  (hb:∀x ks (s:Shared) (C:Value->Shared->Prop),ks.length<vs.length->wpAny (model prog w) A (call f [x]) (fun k s'=>(∃e,s'.heap.get? kS=some (seqObj "list" (List.toArray ks) e))/\C k {s' with heap:=s'.heap.update kS (Obj.mapSeq (·.push k))}) (fun _ _=>False) s ->
   wpAny (model prog w) A (body x ⟨⟩) (fun r s'=>r=.yield ⟨⟩/\∃k,C k s') E s)
  (hstep:∀l v r,vs=l++v :: r->∀ks s',ks.length=l.length->J ks s'->wpAny (model prog w) A (call f [v]) (fun k s''=>(∃e,s''.heap.get? kS=some (seqObj "list" (List.toArray ks) e))/\J (ks++[k]) {s'' with heap:=s''.heap.update kS (Obj.mapSeq (·.push k))}) (fun _ _=>False) s') :
  ∀(r l ks:List Value) (s:Shared),vs=l++r->ks.length=l.length->J ks s->wpAny (model prog w) A (forIn r PUnit.unit body) (fun _ s'=>∃ks,ks.length=vs.length/\J ks s') E s
 | [],l,ks,s,h1,h2,h3=>by
  rw [g3i];exact g9 ⟨ks,by rw [h2,h1];simp,h3⟩
 | x :: r,l,ks,s,h1,h2,h3=>by
  rw [g2c];refine g0 (t5 (hb x ks s (fun k s'=>J (ks++[k]) s') (by rw [h1,h2];simp) (hstep l x r h1 ks s h2 h3)) (fun q s' hq=>?_) fun _ _ x=>x);obtain⟨rfl,k,hk⟩:=hq;show wpAny (model prog w) A (forIn r PUnit.unit body) _ E s';exact qbv hz hb hstep r (l++[x]) (ks++[k]) s' (by rw [h1];simp) (by simp [h2]) hk
theorem ql8{a:Addr}{f:Value}{vs:List Value}{n:Nat}{P:PySem.Fin->Shared->Prop}(ho:s.heap.get? a=some (seqObj "list" vs.toArray n))(hz:vs.length<=sizeLine)(J:List Value->Shared->Prop)
  (h0:J [] {s with heap:=ju s.heap a vs})
  (hstep:∀l v r,vs=l++v :: r->∀ks s',ks.length=l.length->J ks s'->wpAny (model prog w) A (call f [v]) (fun k s''=>(∃e,s''.heap.get? (s.heap.objs.size+1)=some (seqObj "list" (List.toArray ks) e))/\J (ks++[k]) {s'' with heap:=s''.heap.update (s.heap.objs.size+1) (Obj.mapSeq (·.push k))}) (fun _ _=>False) s')
  (hfin:∀ks s',ks.length=vs.length->J ks s'->(∃e,s'.heap.get? (s.heap.objs.size+1)=some (seqObj "list" (List.toArray ks) e))/\s'.heap.get? a=(ju s.heap a vs).get? a /\
   ∃ κ G lt,(2<=vs.length->∀(E:Value->Shared->Prop) (Q:SortKind->Shared->Prop),Q κ s'->wpAny (model prog w) A (keyKind' ks.toArray) Q E s')/\(2<=vs.length->Cmp prog w A s' κ G lt)/\(∀k∈ks,G k) /\
    ∀T:List (Value×Value),T.Perm (ks.zip vs)->T.Pairwise (le lt)->P (.done (.ret .none)) {s' with heap:=(s'.heap.update (s.heap.objs.size+1) (Obj.mapSeq fun _=> #[])).update a (Obj.mapSeq fun _=>(T.map (·.2)).toArray)}) :
  wpAny (model prog w) A (ksk_tree a f false) P E s:=by
 have ha:a<s.heap.objs.size:=gv ho;obtain⟨e1,ho1⟩:∃e1,(s.heap.update a (Obj.mapSeq fun _=>(#[]:Array Value))).get? a=some (seqObj "list" #[] e1):=⟨_,g1d ho fun _=> #[]⟩
 have hkS:((s.heap.update a (Obj.mapSeq fun _=>(#[]:Array Value))).push (seqObj "tuple" vs.toArray 0)).objs.size=s.heap.objs.size+1:=by rw [g0j,t7]
 have ho6:(ju s.heap a vs).get? a=some (seqObj "list" #[] e1):=by
  unfold ju;rw [u6 _ _ _ (by rw [g0j,t7];exact gz (g0o ha)),u6 _ _ _ (by rw [t7];exact gz ha)];exact ho1
 have hsz:vs.toArray.size=vs.length:=by simp
 unfold ksk_tree;refine g0 (g4h ho rfl ?_);refine g0 (g1x ho rfl ?_ (by simpa using hz) (ug _));refine g0 (g4t ho1 rfl ?_);refine g0 (g4p ?_ (by simpa using hz));refine g0 (g40 ?_ (ug _));refine nh ?_;rw [hkS];show wpAny (model prog w) A (ksk_rest a f false vs.toArray e1 (.ref (s.heap.objs.size+1))) P E {s with heap:=ju s.heap a vs};unfold ksk_rest;refine g0 (g02 ?_);rw [List.forIn_toArray];refine g0 (t5 (qbv (vs:=vs) (J:=J) hz (fun x ks s' C hl hx=>?_) hstep vs [] [] _ rfl rfl h0) (fun _ s' hd=>?_) fun _ _ x=>x)
 ·refine g0 (g11 (t5 hx (fun k s'' hk=>?_) fun _ _ hF=>hF.elim))
  obtain⟨⟨e,he⟩,hc⟩:=hk;dsimp only;refine g0 (g1x he rfl ?_ (by rw [gr];lia) (mq (g6n (Array.size_push ..)) (by rw [gr];lia)));exact g9 ⟨rfl,k,hc⟩
 ·obtain⟨ks,hl,hJ⟩:=hd
  obtain⟨⟨e,he⟩,hA, κ,G,lt,hkind,C,g,fin⟩:=hfin ks s' hl hJ;rw [ho6] at hA;refine g0 (g4h he rfl ?_);unfold ksk_end;dsimp only;rw [mn (by simp)];have hks:a≠s.heap.objs.size+1:=gz (g0o ha);have tail:∀st':SortSt,failedOf st'=none->(arrOf st').toList.Perm (ks.zip vs)->(arrOf st').toList.Pairwise (le lt)->wpAny (model prog w) A (ksk_tail a false e1 (.ref (s.heap.objs.size+1)) st') P E s':=by
   intro st' hf hp hs;unfold ksk_tail;dsimp only;have eo:(arrOf st').map (·.2)=((arrOf st').toList.map (·.2)).toArray:=by
    apply g6g;rw [Array.toList_map]
   rw [eo];have hlen:((arrOf st').toList.map (·.2)).length=vs.length:=by rw [mj,hp.length_eq,g34,hl,g5o]
   refine g0 (g1x he rfl ?_ (by rw [gr,hl];exact hz) (ug _));refine g0 (g0t ?_);have hA2:(s'.heap.update (s.heap.objs.size+1) (Obj.mapSeq fun _=> #[])).get? a=some (seqObj "list" #[] e1):=by
    rw [g09 _ _ _ _ hks];exact hA
   refine g0 (g4t hA2 rfl ?_);refine g0 (g1x hA2 rfl ?_ (ug _) (by simp only [gh,nz];rw [gr,hlen];lia));rw [hf];simp only [g3s,gh,nz];exact g9 (fin _ hp hs)
  have ez:(ks.toArray.zip vs.toArray).toList=ks.zip vs:=by simp
  by_cases h2:vs.toArray.size<2
  ·rw [mi h2,mi h2]
   refine g0 (g9 ?_);rw [StateT.run_pure];refine g0 (g9 ?_);dsimp only;refine tail _ rfl ?_ ?_
   ·show(ks.toArray.zip vs.toArray).toList.Perm _
    rw [ez]
   ·show(ks.toArray.zip vs.toArray).toList.Pairwise _
    rw [ez];have:(ks.zip vs).length<2:=by rw [g34,hl,g5o];lia
    match ks.zip vs,this with
    | [],_=>exact .nil
    | [_],_=>exact g2b _ _
    | _ :: _ :: _,h=>simp at h;lia
  ·rw [mn h2,mn h2]
   have h2':2<=vs.length:=by lia
   refine g0 (hkind h2' _ _ ?_);have gp:∀p∈(ks.toArray.zip vs.toArray).toList,G p.1:=fun p hp=>by
    rw [ez] at hp;exact g _ (g31 hp).1
   refine g0 (t5 (qbu (a₀:=ks.toArray.zip vs.toArray) (st:=SortSt.mk' κ (ks.toArray.zip vs.toArray) #[] 7 none)
    (Q:=fun _ st'=>failedOf st'=none/\(arrOf st').Perm (ks.toArray.zip vs.toArray)/\(arrOf st').toList.Pairwise (le lt)) (C h2') gp rfl rfl rfl rfl fun st' a1 a2 a3=>⟨a1,a2,a3⟩) ?_ fun _ _ e=>e)
   rintro⟨⟨⟩,st'⟩ s'' ⟨rfl,hf,hp,hs⟩
   dsimp only;refine tail st' hf ?_ hs;rw [<- ez];exact g13.mp hp
theorem qdd{l fa:Addr}{vs:List Value}{Q:Value->Shared->Prop}(hl:s.heap.IsList l vs.toArray)(hz:vs.length<=sizeLine)(J:List Value->Shared->Prop)
  (h0:J [] {s with heap:=ju (srtH s.heap vs) (s.heap.objs.size+1) vs})
  (hstep:∀l v r,vs=l++v :: r->∀ks s',ks.length=l.length->J ks s'->wpAny (model prog w) A.in1.in1 (call (.ref fa) [v]) (fun k s''=>(∃e,s''.heap.get? (s.heap.objs.size+3)=some (seqObj "list" (List.toArray ks) e))/\J (ks++[k]) {s'' with heap:=s''.heap.update (s.heap.objs.size+3) (Obj.mapSeq (·.push k))}) (fun _ _=>False) s')
  (hfin:∀ks s',ks.length=vs.length->J ks s'->(∃e,s'.heap.get? (s.heap.objs.size+3)=some (seqObj "list" (List.toArray ks) e))/\s'.heap.get? (s.heap.objs.size+1)=(ju (srtH s.heap vs) (s.heap.objs.size+1) vs).get? (s.heap.objs.size+1) /\
   ∃ κ G lt,(2<=vs.length->∀(E:Value->Shared->Prop) (Q:SortKind->Shared->Prop),Q κ s'->wpAny (model prog w) A.in1.in1 (keyKind' ks.toArray) Q E s')/\(2<=vs.length->Cmp prog w A.in1.in1 s' κ G lt)/\(∀k∈ks,G k) /\
    ∀T:List (Value×Value),T.Perm (ks.zip vs)->T.Pairwise (le lt)->Q (.ref (s.heap.objs.size+1)) {s' with heap:=(s'.heap.update (s.heap.objs.size+3) (Obj.mapSeq fun _=> #[])).update (s.heap.objs.size+1) (Obj.mapSeq fun _=>(T.map (·.2)).toArray)}) :
  wpAny (model prog w) A (call (.builtin "sorted") [.ref l] [(Str.ofString "key",.ref fa)]) Q E s:=by
 refine call_function_entry_kw kind_sorted plain_sorted entry_sorted (ksk_s1 _ _) ?_;unfold Builtin.«sorted»;refine g0 (m:=checkCount "sorted" 1 1 _) (g9 ?_);refine g0 (collect_list hl ?_ hz);refine g0 (g40 ?_ (by simpa using hz));have hsz:((s.heap.push (seqObj "list" #[] 0)).update s.heap.objs.size (Obj.mapSeq (· ++ vs.toArray))).objs.size=s.heap.objs.size+1:=by
  rw [t7,g0j]
 have hsz2:(srtH s.heap vs).objs.size=s.heap.objs.size+2:=by unfold srtH;rw [g0j,hsz]
 have hoL:(srtH s.heap vs).get? (s.heap.objs.size+1)=some (seqObj "list" vs.toArray 0):=by
  unfold srtH;rw [<- hsz];exact gf _ rfl
 show wpAny _ _ _ _ _ {s with heap:=srtH s.heap vs};rw [hsz];refine g0 (nh (wpAny_call_entry_kw slot_list_sort ⟨_,hoL,rfl⟩ entry_list_sort ?_ (ksk_l1 _ _)));show wpAny (model prog w) A.in1.in1 (Builtin.«list.sort» ⟨[.ref (s.heap.objs.size+1)],[(Str.ofString "key",.ref fa)]⟩) _ _ _;rw [ksk_t1];refine ql8 (s:={s with heap:=srtH s.heap vs}) hoL hz J h0 ?_ ?_
 ·show ∀l v r,vs=l++v :: r->∀ks s',ks.length=l.length->J ks s'->wpAny (model prog w) A.in1.in1 (call (.ref fa) [v]) (fun k s''=>(∃e,s''.heap.get? ((srtH s.heap vs).objs.size+1)=some (seqObj "list" (List.toArray ks) e))/\J (ks++[k]) {s'' with heap:=s''.heap.update ((srtH s.heap vs).objs.size+1) (Obj.mapSeq (·.push k))}) (fun _ _=>False) s'
  rw [hsz2];exact hstep
 ·intro ks s' h1 h2
  show(∃e,s'.heap.get? ((srtH s.heap vs).objs.size+1)=some (seqObj "list" (List.toArray ks) e))/\s'.heap.get? (s.heap.objs.size+1)=(ju (srtH s.heap vs) (s.heap.objs.size+1) vs).get? (s.heap.objs.size+1)/\_;obtain⟨b1,b2, κ,G,lt,b3,b4,b5,b6⟩:=hfin ks s' h1 h2;rw [hsz2];exact⟨b1,b2, κ,G,lt,b3,b4,b5,fun T t1 t2=>⟨_,rfl,g9 ⟨_,rfl,b6 T t1 t2⟩⟩⟩
end
end Srt
namespace DL
open PySem PySem.Spec PyProof.Rows L2 Srt
variable[Lam]
theorem qig:∀n,(∀d e:D,sizeOf d<n->shD d e=true->okE d e=true/\eqD d e=(!ltT d e && !ltT e d))/\(∀ds es:List D,sizeOf ds<n->shL ds es=true->yx ds es=true/\eqL ds es=(!wd ds es && !wd es ds)):=by
 intro n
 induction n with
 | zero=>exact⟨fun d e h=>absurd h (tw _),fun d e h=>absurd h (tw _)⟩
 | succ n ih=>
  refine⟨fun d e hn h=>?_,fun ds es hn h=>?_⟩
  ·cases d <;> cases e <;> simp only [shD] at h <;> first|(cases h;done)|skip
   ·refine⟨by simp [okE,flat,flD],?_⟩
    rw [xc,xc];simp only [eqD,eqF];rename_i i j
    by_cases e1:i=j
    ·subst e1;simp
    ·have:(i==j)=false:=by simpa using e1
     rw [this]
     by_cases e2:i<j
     ·simp [e2]
     ·have e3:j<i:=by lia
      simp [e3]
   ·rw [kf,kf]
    simp only [okE,eqD];exact ih.2 _ _ (by simp at hn;lia) h
  ·cases ds with
   | nil=>cases es <;> simp [yx,eqL,q26,k5]
   | cons d ds=>
    cases es with
    | nil=>simp [yx,eqL,q26,k5]
    | cons e es=>
     simp only [shL,m6] at h;obtain⟨a1,a2⟩:=ih.1 d e (by simp at hn;lia) h.1;obtain⟨b1,b2⟩:=ih.2 ds es (by simp at hn;lia) h.2;refine⟨by simp only [yx,a1,b1,g41],?_⟩;rw [q01,q01];simp only [eqL,a2,b2];cases e1:ltT d e <;> cases e2:ltT e d <;> simp
theorem qsr{d e:D}(h:shD d e=true): okE d e=true:=((qig (sizeOf d+1)).1 d e (ue _) h).1
theorem qn0{d e:D}(h:shD d e=true): eqD d e=(!ltT d e && !ltT e d):=((qig (sizeOf d+1)).1 d e (ue _) h).2
section
variable{X:Cx}{pins:List (Addr×Obj)}{σ : St}{F H:Hp}{s:Shared}
theorem q8p{A:Around}(I:Inv X pins σ H s)(fh:Same F H)(f:Bool): ∀ {ds es:List D} {xs ys:List V} {us vs:List Value},(∀d∈ds,∀e x y u v,shD d e=true->A.units+yy d<cLine->Rep X.K F d x->Rep X.K F e y->RelV x u->RelV y v->LtAt A s u v (ltT d e)) ->
  shL ds es=true->A.units+y9 ds<cLine->RepL X.K F ds xs->RepL X.K F es ys->Vals xs us->Vals ys vs->f=decide (ds.length<es.length)->LexAt A s f (us.zip vs) (wd ds es)
 | [],es,xs,ys,us,vs,_,_,_,k1,k2,w1,w2,hf=>by
  cases k1.nil_inv;cases w1;cases es with
  | nil=>rw [q26];simp only [List.zip_nil_left];rw [show false=f by rw [hf];simp];exact .nil
  | cons e es=>rw [k5];simp only [List.zip_nil_left];rw [show true=f by rw [hf];simp];exact .nil
 | d :: ds,[],xs,ys,us,vs,_,_,_,k1,k2,w1,w2,hf=>by
  cases k2.nil_inv;cases w2;rw [q26];simp only [List.zip_nil_right];rw [show false=f by rw [hf];simp];exact .nil
 | d :: ds,e :: es,xs,ys,us,vs,ih,hs,hu,k1,k2,w1,w2,hf=>by
  obtain⟨x,r,rfl,a1,a2⟩:=k1.cons_inv;obtain⟨y,r',rfl,b1,b2⟩:=k2.cons_inv;cases w1 with
  | cons p1 p2=>
   cases w2 with
   | cons p3 p4=>
    simp only [shL,m6] at hs;simp only [y9] at hu;rw [List.zip_cons_cons];have he:=qbf I fh A (qsr hs.1) (by lia) a1 b1 p1 p3;have hl:=ih d gm e x y _ _ hs.1 (by lia) a1 b1 p1 p3;rw [qn0 hs.1] at he;rw [q01];cases e1:ltT d e
    ·cases e2:ltT e d
     ·rw [e1,e2] at he
      simp only [g6h,g2o,g6i];exact .eq he (q8p I fh f (fun d' hd'=>ih d' (gq _ hd')) hs.2 (by lia) a2 b2 p2 p4 (by rw [hf];simp))
     ·rw [e1,e2] at he
      rw [e1] at hl;exact .ne he hl
    ·rw [e1] at he hl
     exact .ne he hl
theorem qr4(I:Inv X pins σ H s)(fh:Same F H): ∀ {d e:D} {x y:V} {u v:Value} (A:Around),shD d e=true->A.units+yy d<cLine->Rep X.K F d x->Rep X.K F e y->RelV x u->RelV y v->LtAt A s u v (ltT d e):=by
 suffices hh:∀n,(∀d e x y u v (A:Around),sizeOf d<n->shD d e=true->A.units+yy d<cLine->Rep X.K F d x->Rep X.K F e y->RelV x u->RelV y v->LtAt A s u v (ltT d e)) from
  fun {d e x y u v} A=>hh (sizeOf d+1) d e x y u v A (ue _)
 intro n
 induction n with
 | zero=>intro d e x y u v A h;exact absurd h (tw _)
 | succ n ih=>
  intro d e x y u v A hn hs hu r1 r2 q1 q2;cases d <;> cases e <;> simp only [shD] at hs <;> first|(cases hs;done)|skip
  ·cases rep_int.mp r1
   cases rep_int.mp r2;obtain⟨t,rfl⟩:=q1;obtain⟨t',rfl⟩:=q2;rw [xc];intro prog w E Q h;exact lt_int h
  ·rename_i ds es
   obtain⟨a,xs,rfl,k1,k2⟩:=rep_tup.mp r1;obtain⟨b,ys,rfl,k3,k4⟩:=rep_tup.mp r2;cases q1;cases q2;obtain⟨i1,v1,t1,_⟩:=I.tuple (qj fh k1);obtain⟨i2,v2,t2,_⟩:=I.tuple (qj fh k3);simp only [yy] at hu;rw [kf];refine LtAt.tuples (show s.heap.IsTuple a i1.toArray from t1) (show s.heap.IsTuple b i2.toArray from t2) (by lia) ?_;refine q8p I fh _ (fun d hd e x y u v s1 s2 s3 s4 s5 s6=>ih d e x y u v A.in1 ?_ s1 s2 s3 s4 s5 s6) hs (by show A.units+1+y9 ds<cLine;lia) k2 k4 v1 v2 ?_
   ·have:=List.sizeOf_lt_of_mem hd
    simp at hn;lia
   ·rw [gr,gr, <- v1.length, <- v2.length, <- k2.length, <- k4.length]
theorem ql9(I:Inv X pins σ H s)(fh:Same F H): ∀ {d e:D} {x:V},kD d=true->kD e=true->Rep X.K F d x->Rep X.K F e x->d=e:=by
 suffices hh:∀n,(∀d e x,sizeOf d<n->kD d=true->kD e=true->Rep X.K F d x->Rep X.K F e x->d=e) from fun {d e x}=>hh (sizeOf d+1) d e x (ue _)
 intro n
 induction n with
 | zero=>intro d e x h;exact absurd h (tw _)
 | succ n ih=>
  intro d e x hn kd ke r1 r2;cases d <;> simp only [kD] at kd <;> first|(cases kd;done)|skip
  all_goals (cases e <;> simp only [kD] at ke <;> first|(cases ke;done)|skip)
  ·cases rep_int.mp r1
   cases rep_int.mp r2
   rfl
  ·cases rep_int.mp r1
   obtain⟨_,_,z,_⟩:=rep_tup.mp r2;cases z
  ·obtain⟨_,_,z,_⟩:=rep_tup.mp r1
   cases rep_int.mp r2;cases z
  ·rename_i ds es
   obtain⟨a,xs,rfl,k1,k2⟩:=rep_tup.mp r1;obtain⟨b,ys,z,k3,k4⟩:=rep_tup.mp r2;cases z;cases I.tuple_inj (qj fh k1) (qj fh k3);have seq:∀(ds es:List D) (xs:List V),sizeOf ds<n->kDL ds=true->kDL es=true->RepL X.K F ds xs->RepL X.K F es xs->ds=es:=by
    intro ds
    induction ds with
    | nil=>
     intro es xs _ _ _ k1 k2;cases k1.nil_inv;cases es with
     | nil=>rfl
     | cons e es=>obtain⟨_,_,z,_⟩:=k2.cons_inv;cases z
    | cons d ds ihd=>
     intro es xs hs h1 h2 k1 k2;obtain⟨x,r,rfl,a1,a2⟩:=k1.cons_inv;cases es with
     | nil=>cases k2.nil_inv
     | cons e es=>
      obtain⟨x',r',z,b1,b2⟩:=k2.cons_inv;cases z;simp only [kDL,m6] at h1 h2;rw [ih d e x (by simp at hs;lia) h1.1 h2.1 a1 b1,ihd es r (by simp at hs;lia) h1.2 h2.2 a2 b2]
   rw [seq ds es xs (by simp at hn;lia) kd ke k2 k4]
theorem qih{d e:D}{x y:V}{u:Value}{K:Frag}(kd:kD d=true)(ke:kD e=true)(r1:Rep K F d x)(r2:Rep K F e y)(q1:RelV x u)(q2:RelV y u): x=y:=by
 cases d <;> simp only [kD] at kd <;> first|(cases kd;done)|skip
 all_goals (cases e <;> simp only [kD] at ke <;> first|(cases ke;done)|skip)
 ·cases rep_int.mp r1
  cases rep_int.mp r2;obtain⟨t,rfl⟩:=q1;obtain⟨t',z⟩:=q2;cases z
  rfl
 ·cases rep_int.mp r1
  obtain⟨_,_,rfl,_⟩:=rep_tup.mp r2;obtain⟨t,rfl⟩:=q1;cases q2
 ·obtain⟨_,_,rfl,_⟩:=rep_tup.mp r1
  cases rep_int.mp r2;cases q1;obtain⟨t',z⟩:=q2;cases z
 ·obtain⟨_,_,rfl,_⟩:=rep_tup.mp r1
  obtain⟨_,_,rfl,_⟩:=rep_tup.mp r2;cases q1;cases q2
  rfl
def q27(K:Frag)(F:Hp)(d:D)(u:Value): Prop:=kD d=true/\∃x,Rep K F d x/\RelV x u
open Classical in
noncomputable def keyOf(K:Frag)(F:Hp)(u:Value): D:=if h:∃d,q27 K F d u then Classical.choose h else .non
theorem q3u(I:Inv X pins σ H s)(fh:Same F H){d:D}{u:Value}(h:q27 X.K F d u): keyOf X.K F u=d:=by
 unfold keyOf;rw [dif_pos ⟨d,h⟩];obtain⟨k1,x,a1,a2⟩:=Classical.choose_spec (⟨d,h⟩:∃d,q27 X.K F d u);obtain⟨k2,y,b1,b2⟩:=h;obtain rfl:=qih k1 k2 a1 b1 a2 b2;exact ql9 I fh k1 k2 a1 b1
theorem q9j{α β : Type}(f : α -> β){l:List β}{m:List β}(p:l.Perm m): ∀ {L:List α},m=L.map f->∃L':List α,L'.Perm L/\l=L'.map f:=by
 induction p with
 | nil=>intro L h;cases L with
  | nil=>exact⟨[],.refl _,rfl⟩
  | cons a L=>cases h
 | cons x p ih=>
  intro L h;cases L with
  | nil=>cases h
  | cons a L=>
   rw [gj] at h;injection h with h1 h2
   obtain⟨L',p',e⟩:=ih h2;exact⟨a :: L',p'.cons a,by rw [gj, <- e,h1]⟩
 | swap x y r=>
  intro L h
  match L,h with
  | [],h=>cases h
  | [a],h=>injection h with h1 h2;cases h2
  | a :: b :: L,h=>
   rw [gj,gj] at h;injection h with h1 h2
   injection h2 with h2 h3
   exact⟨b :: a :: L,.swap a b L,by rw [gj,gj, <- h1, <- h2, <- h3]⟩
 | trans p q ih1 ih2=>
  intro L h;obtain⟨L2,p2,e2⟩:=ih2 h;obtain⟨L1,p1,e1⟩:=ih1 e2;exact⟨L1,p1.trans p2,e1⟩
end
end DL
namespace DL
open PySem PySem.Spec PyProof.Rows L2 Srt PySem.W
variable[Lam]
def isI:D->Bool
 | .int _=>true
 | _=>false
def qn1:D->Bool
 | .tup (.int _ :: _)=>true
 | _=>false
def q0x(ks:List D): Bool:=ks.all kD&&(ks.all fun d=>ks.all fun e=>shD d e)&&(ks.all isI || (ks.all qn1&&ks.all fun d=>decide (yy d<=50)))
section
variable{X:Cx}{pins:List (Addr×Obj)}{σ : St}{F H:Hp}{s:Shared}
theorem qii{prog:Program}{w:World}{A:Around}{f c:Bool}{Q:Bool->Shared->Prop}{l:List (Value×Value)}(h:LexAt A s f l c): ∀i,1<=i->Q c s->KatLex prog w A true f Q l i s:=by
 induction h with
 | nil=>intro i _ q;exact kat_nil q
 | eq e _ ih=>intro i hi q;exact kat_cons (e prog w _ _ (kat_yes (ih (i+1) (by lia) q)))
 | ne e k=>
  intro i hi q;refine kat_cons (e prog w _ _ (kat_no ?_));have:(true&&i==0)=false:=by simp;lia
  rw [this];exact kat_one _ _ (k prog w _ _ q)
theorem q7p{h:Heap}: ∀ {vs:List Value},(∀v∈vs,∃a o xs n i t,v=.ref a/\h.get? a=some o/\o.cls=.type "tuple" /\ o.data=.seq xs n/\xs[0]? = some (Value.int i t)) ->
  ∃fs:List Value,KatTups h vs fs/\fs.length=vs.length/\∀v∈fs,∃i t,v=Value.int i t
 | [],_=>⟨[],.nil,rfl,fun v hv=>by cases hv⟩
 | v :: vs,hh=>by
  obtain⟨a,o,xs,n,i,t,rfl,h1,h2,h3,h4⟩:=hh v gm;obtain⟨fs,k1,k2,k3⟩:=q7p fun v hv=>hh v (gq _ hv);refine⟨.int i t :: fs,.cons h1 h2 h3 h4 k1,by simp [k2],fun v hv=>?_⟩;rcases mh.mp hv with rfl|hv
  ·exact⟨i,t,rfl⟩
  ·exact k3 v hv
theorem qn2(I:Inv X pins σ H s)(fh:Same F H)(A:Around)(hu:A.units+60<cLine){us:List Value}{ks:List D}(st:∀u∈us,∃d∈ks,q27 X.K F d u)(ok:q0x ks=true):
  ∃ κ,(2<=us.length->∀(E:Value->Shared->Prop) (Q:SortKind->Shared->Prop),Q κ s->wpAny (model X.prog X.w) A (keyKind' us.toArray) Q E s) /\
   Cmp X.prog X.w A s κ (fun u=>u∈us) (fun u v=>ltT (keyOf X.K F u) (keyOf X.K F v)):=by
 unfold q0x at ok;rw [m6,m6,g1b,m6] at ok;obtain⟨⟨_,o2⟩,o3⟩:=ok;have sh:∀d∈ks,∀e∈ks,shD d e=true:=fun d hd e he=>mr.mp (mr.mp o2 d hd) e he;rcases o3 with o3|⟨o3,o4⟩
 ·have hin:∀u∈us,∃n t,u=Value.int n t/\keyOf X.K F u=.int n:=fun u hu=>by
   obtain⟨d,hd,hs⟩:=st u hu;have hk:=q3u I fh hs;have:=mr.mp o3 d hd;cases d <;> simp only [isI] at this <;> first|(cases this;done)|skip
   obtain⟨_,x,r,q⟩:=hs;cases rep_int.mp r;obtain⟨t,rfl⟩:=q;exact⟨_,t,rfl,hk⟩
  refine⟨oneType',fun h2 E Q q=>?_,⟨fun x y gx gy Q q=>?_,fun x y h=>qbo h,fun x y z h k=>qbp h k⟩⟩
  ·match us,h2,hin with
   | v₁ :: v₂ :: vs,_,hin=>
    rw [keyKind_ints (intsAre_map _ fun v hv=>let⟨n,t,e,_⟩:=hin v hv; ⟨n,t,e⟩)];exact g9 q
  ·obtain⟨n,t,rfl,e1⟩:=hin x gx
   obtain⟨m,t',rfl,e2⟩:=hin y gy;rw [e1,e2,xc] at q;exact kat_lt_int q
 ·have tups:∀u∈us,∃d∈ks,q27 X.K F d u/\keyOf X.K F u=d/\yy d<=50/\∃i ds,d=.tup (.int i :: ds):=fun u hu=>by
   obtain⟨d,hd,hs⟩:=st u hu;have hk:=q3u I fh hs;have:=mr.mp o3 d hd;have h4:=g0c (mr.mp o4 d hd);unfold qn1 at this
   split at this
   ·exact⟨_,hd,hs,hk,h4,_,_,rfl⟩
   ·cases this
  refine⟨tuples' true,fun h2 E Q q=>?_,⟨fun x y gx gy Q q=>?_,fun x y h=>qbo h,fun x y z h k=>qbp h k⟩⟩
  ·obtain⟨fs,k1,k2,k3⟩:=q7p (h:=s.heap) (vs:=us) fun v hv=>by
    obtain⟨d,_,⟨_,x,r,qx⟩,_,_,i,ds,rfl⟩:=tups v hv;obtain⟨a,xs,rfl,q1,q2⟩:=rep_tup.mp r;cases qx;obtain⟨x0,r0,rfl,z1,z2⟩:=q2.cons_inv;cases rep_int.mp z1;obtain⟨its,r1,⟨o,ho,hc,n,hd⟩,_⟩:=I.tuple (qj fh q1);cases r1 with
    | cons p1 p2=>
     obtain⟨t,rfl⟩:=p1;exact⟨a,o,_,n,i,t,rfl,ho,hc,hd,by simp⟩
   refine kat_kind (T:=.type "int") k1 (by lia) (fun v hv=>?_) (by rfl) q;obtain⟨i,t,rfl⟩:=k3 v hv;exact Looks.of_pure rfl
  ·obtain⟨d,hd,⟨_,x',r,qx⟩,e1,dp,i,ds,rfl⟩:=tups x gx
   obtain⟨e,he,⟨_,y',r',qy⟩,e2,dp',j,es,rfl⟩:=tups y gy;rw [e1,e2] at q;have hs:=sh _ hd _ he;obtain⟨a,xs,rfl,q1,q2⟩:=rep_tup.mp r;obtain⟨b,ys,rfl,q3,q4⟩:=rep_tup.mp r';cases qx;cases qy;obtain⟨x0,r0,rfl,z1,z2⟩:=q2.cons_inv;obtain⟨y0,w0,rfl,z3,z4⟩:=q4.cons_inv;have z1':=z1;have z3':=z3;cases rep_int.mp z1;cases rep_int.mp z3;obtain⟨its,r1,⟨o,ho,hc,n,hdt⟩,_⟩:=I.tuple (qj fh q1);obtain⟨its2,r2,⟨o2,ho2,hc2,n2,hdt2⟩,_⟩:=I.tuple (qj fh q3);have l1:=r1.length;have l2:=r2.length;have m1:=q2.length;have m2:=q4.length;cases r1 with
   | cons p1 p2=>
    cases r2 with
    | cons p3 p4=>
     have hp1:=p1;have hp3:=p3;obtain⟨t,rfl⟩:=p1;obtain⟨t',rfl⟩:=p3;simp only [shD,shL,m6] at hs;simp only [yy,y9] at dp;refine kat_lt ho hdt ho2 hdt2 ?_;rw [kf,q01] at q;have hE:=qbf I fh A (d:=.int i) (e:=.int j) (by simp [okE,flat,flD]) (by simp only [yy];lia) z1' z3' hp1 hp3;rw [qn0 (by simp only [shD])] at hE;simp only [List.zip_cons_cons];have lex:=q8p I fh (A:=A) (decide (ds.length<es.length)) (fun d _ e x y u v s1 s2 s3 s4 s5 s6=>qr4 I fh A s1 s2 s3 s4 s5 s6) hs.2 (by lia) z2 z4 p2 p4 rfl;have ef:∀ {m1 m2:List Value},Paired RelV r0 m1->Paired RelV w0 m2->decide ((Value.int i t :: m1).toArray.size<(Value.int j t' :: m2).toArray.size)=decide (ds.length<es.length):=fun a3 a4=>by
      simp only [gr,p7];rw [<- g51 a3, <- g51 a4, <- z2.length, <- z4.length];simp
     rw [ef p2 p4];cases c1:ltT (.int i) (.int j)
     ·cases c2:ltT (.int j) (.int i)
      ·rw [c1,c2] at hE q
       simp only [g6h,g2o,g6i] at q;exact kat_cons (hE X.prog X.w _ _ (kat_yes (qii lex 1 (gw _) q)))
      ·rw [c1,c2] at hE q
       refine kat_cons (hE X.prog X.w _ _ (kat_no ?_));have c1':decide (i<j)=false:=by rw [<- xc];exact c1
       refine oneLt_int ?_;rw [c1'];exact q
     ·rw [c1] at hE q
      refine kat_cons (hE X.prog X.w _ _ (kat_no ?_));have c1':decide (i<j)=true:=by rw [<- xc];exact c1
      refine oneLt_int ?_;rw [c1'];exact q
theorem qla{K:Frag}: ∀ {ds:List D} {ys:List V} {its:List Value},RepL K F ds ys->Vals ys its->∃T:List (V×Value×D),T.map (·.1)=ys/\T.map (·.2.1)=its/\T.map (·.2.2)=ds/\∀t∈T,Rep K F t.2.2 t.1/\RelV t.1 t.2.1
 | [],ys,its,k2,r1=>by
  cases k2.nil_inv;cases r1;exact⟨[],rfl,rfl,rfl,fun t ht=>by cases ht⟩
 | d :: ds,ys,its,k2,r1=>by
  obtain⟨x,r,rfl,a1,a2⟩:=k2.cons_inv;cases r1 with
  | cons b1 b2=>
   rename_i u' us';obtain⟨T,t1,t2,t3,t4⟩:=qla a2 b2;refine⟨(x,u',d) :: T,by simp [t1],by simp [t2],by simp [t3],fun t ht=>?_⟩;rcases mh.mp ht with rfl|ht
   ·exact⟨a1,b1⟩
   ·exact t4 t ht
end
section
variable{X:Cx}{pins:List (Addr×Obj)}{σ : St}{F H:Hp}{s:Shared}
structure Late(X:Cx)(pins:List (Addr×Obj))(b:Addr): Prop where
 loc:b≠X.env.locals
 up:X.s₀.heap.objs.size<=b
 cel:∀x c,X.env.cells.lookup x=some c->c≠b
 pin:∀p∈X.pn++pins,p.1≠b
 frs:b∉frs X.stack
theorem qr5(I:Inv X pins σ H s){b:Addr}(hb:s.heap.objs.size<=b): Late X pins b where
 loc:=tq (gu I.lt hb)
 up:=mq I.sz hb
 cel:=fun x c e z=>by
  subst z;obtain⟨v,o,ho,_⟩:=I.cell x c e;exact absurd (gv ho) (g4i.mpr hb)
 pin:=fun p hp z=>by
  subst z;exact absurd (gv (I.pin p hp).1) (g4i.mpr hb)
 frs:=fun z=>(mh.mp (I.stkSub b z)).elim (tq (gu I.lt hb)) (I.nofs hb)
theorem qbw(I:Inv X pins σ H s){b:Addr}(l:Late X pins b){h':Heap}(k:∀c o,c≠b->s.heap.get? c=some o->h'.get? c=some o)(hn:H b=none): Inv X pins σ H {s with heap:=h'}:=
 I.turned (t':=s.toks) k hn l.loc (.inr l.up) l.cel l.pin
theorem qij(I:Inv X pins σ H s){b:Addr}(l:Late X pins b){h':Heap}{o:HO}(k:∀c o,c≠b->s.heap.get? c=some o->h'.get? c=some o)(hn:H b=none)(new:ObjOk X.prog X.w (upd H b o) h' b o):
  Inv X pins σ (upd H b o) {s with heap:=h'}:=by
 have nb:∀c u,H c=some u->c≠b:=fun c u e z=>by rw [z,hn] at e;cases e
 refine I.step (t':=s.toks) (g':=s.gens) (d':=s.drawn) (ch:=[b]) (fun c hc=>?_) (fun c u _ _ hc e _=>k c u (fun z=>hc (by simp [z])) e) (fun c u _ _ hc e _=>⟨u.slots,k c u (fun z=>hc (by simp [z])) e⟩)
  (fun c u hc _ n=>by rw [qk (fun z=>hc (by simp [z]))];exact n) (fun c u hc e=>⟨u,k c u (fun z=>hc (by simp [z])) e⟩) (fun c xs e=>by rw [qk (nb c _ e)];exact e) (fun c _ _ e=>by rw [qk (nb c _ e)];exact e)
  (fun c ps e=>⟨#[],by rw [qk (nb c _ e),e];simp⟩) (fun m hm=>?_) (fun c u e=>?_) I.bare
 ·have e:c=b:=by simpa using hc
  subst e;exact⟨.inr l.up,l.loc,l.cel,l.pin⟩
 ·obtain⟨u,es,ep,ho,r⟩:=hm
  exact⟨u,es,ep,k _ u (ng l.loc) ho,r⟩
 ·by_cases hc:c=b
  ·subst hc;rw [qq] at e;cases e;exact new
  ·rw [qk hc] at e
   refine(I.hok c u e).stay (fun d v hd q=>k d v ?_ q) (fun d q=>by rw [qk (nb d _ q)];exact q) fun d xs q=>by rw [qk (nb d _ q)];exact q
   rcases hd with z|z
   ·rw [z];exact hc
   ·exact nb d _ z
def yp(op:List D->Option D): List D->Option (List D)
 | []=>some []
 | d :: ds=>(op [d]).bind fun k=>(yp op ds).map fun ks=>k :: ks
def q4y:List D->Bool
 | []=>true
 | k :: r=>(r.all fun e=>ltT k e || ltT e k)&&q4y r
def q28(op:List D->Option D): D->Option (List D)
 | .lst ds=>(yp op ds).bind fun ks=>if q0x ks&&q4y ks then some ((kc (ks.zip ds)).map Prod.snd) else none
 | _=>none
theorem q7q{op:List D->Option D}: ∀ {l:List D} {d k:D} {ks:List D},yp op l=some ks->op [d]=some k->yp op (l++[d])=some (ks++[k])
 | [],d,k,ks,h,e=>by
  cases h;simp [yp,e]
 | x :: l,d,k,ks,h,e=>by
  simp only [yp] at h;obtain⟨k1,h1,h2⟩:=gd.mp h;obtain⟨ks1,h3,h4⟩:=m8.mp h2;subst h4;simp only [g43,yp,h1,m9,q7q h3 e,p9]
theorem q9k{op:List D->Option D}: ∀ {l ks:List D},yp op l=some ks->ks.length=l.length
 | [],ks,h=>by cases h;rfl
 | x :: l,ks,h=>by
  simp only [yp] at h;obtain⟨k1,h1,h2⟩:=gd.mp h;obtain⟨ks1,h3,h4⟩:=m8.mp h2;subst h4;simp [q9k h3]
theorem q9l{op:List D->Option D}: ∀ {l ks:List D} {d:D},yp op l=some ks->d∈l->∃k,op [d]=some k
 | x :: l,ks,d,h,hd=>by
  simp only [yp] at h;obtain⟨k1,h1,h2⟩:=gd.mp h;obtain⟨ks1,h3,h4⟩:=m8.mp h2;rcases mh.mp hd with rfl|hd
  ·exact⟨k1,h1⟩
  ·exact q9l h3 hd
theorem qf1:∀ {ks:List D},q4y ks=true->∀ {i j:Nat} (hi:i<ks.length) (hj:j<ks.length),ltT ks[i] ks[j]=false->ltT ks[j] ks[i]=false->i=j
 | k :: r,h,0,0,_,_,_,_=>rfl
 | k :: r,h,0,j+1,hi,hj,a,b=>by
  simp only [q4y,m6] at h;have:=mr.mp h.1 (r[j]'(by simpa using hj)) (by simp);simp only [g66,g2h] at a b;rw [a,b] at this;cases this
 | k :: r,h,i+1,0,hi,hj,a,b=>by
  simp only [q4y,m6] at h;have:=mr.mp h.1 (r[i]'(by simpa using hi)) (by simp);simp only [g66,g2h] at a b;rw [a,b] at this;cases this
 | k :: r,h,i+1,j+1,hi,hj,a,b=>by
  simp only [q4y,m6] at h;simp only [g2h] at a b;rw [qf1 h.2 (by simpa using hi) (by simpa using hj) a b]
theorem qbx{α β γ δ : Type}: ∀ {a:List α} {b:List β} {c:List γ} {d:List δ},a.length=b.length->b.length=c.length->c.length=d.length ->
  ∃T:List (α × β × γ × δ),T.map (·.1)=a/\T.map (·.2.1)=b/\T.map (·.2.2.1)=c/\T.map (·.2.2.2)=d
 | [],[],[],[],_,_,_=>⟨[],rfl,rfl,rfl,rfl⟩
 | x :: a,y :: b,z :: c,w :: d,h1,h2,h3=>by
  obtain⟨T,t1,t2,t3,t4⟩:=qbx (a:=a) (b:=b) (c:=c) (d:=d) (by simpa using h1) (by simpa using h2) (by simpa using h3);exact⟨(x,y,z,w) :: T,by simp [t1],by simp [t2],by simp [t3],by simp [t4]⟩
theorem qby{h:Heap}{a:Addr}{ks:List Value}{e:Nat}(ho:h.get? a=some (seqObj "list" ks.toArray e))(k:Value): ∃e',(h.update a (Obj.mapSeq (·.push k))).get? a=some (seqObj "list" (ks++[k]).toArray e'):=by
 have:=g1d ho (·.push k);have e2:(ks.toArray.push k)=(ks++[k]).toArray:=by simp
 rw [e2] at this;exact⟨_,this⟩
theorem qik{k k':Nat}{fn l:Addr}{fd:FuncData}{ps:List Str}{sp:Sp}{op:List D->Option D}{ds es:List D}{Q:VK}(Fk:FnOk X.prog X.w X.K X.mg X.base CX0 k fn fd ps sp)
  (hsp:∀(F' H':Hp) (dv kd:D) (x:V) (Q':VK),Grow F H F' H'->Rep X.K F' dv x->op [dv]=some kd->(∀v F'' H'',Grow F' H' F'' H''->Rep X.K F'' kd v->Q' v H'')->sp [x] H' Q' E0) (hb:Binds X.K fd ps []) (hr:Room k' X.A) (hk:k+2<=k')
  (I:Inv X pins σ H s) (fh:Same F H) (rl:Rep X.K F (.lst ds) (.ref l)) (ho:q28 op (.lst ds)=some es)
  (q:∀a ys F' H',Grow F H F' H'->F' a=none->H a=none->H' a=some (.lst ys)->RepL X.K F' es ys->Q (.ref a) H') :
  wpAny (model X.prog X.w) X.A (call (.builtin "sorted") [.ref l] [(Str.ofString "key",.ref fn)]) (EP X pins σ Q) X.xe s:=by
 unfold q28 at ho;dsimp only at ho;obtain⟨dks,hks,ho⟩:=gd.mp ho
 split at ho
 ·rename_i hok
  rw [m6] at hok;cases ho;obtain⟨a,ys,z,k1,k2⟩:=rep_lst.mp rl;cases z;obtain⟨its,r1,p1,hz⟩:=I.list (fh.seq k1);have hlen:its.length<=sizeLine:=by rw [<- r1.length];exact hz
  have hlds:ds.length=its.length:=by rw [k2.length,r1.length]
  have hlks:=q9k hks;have L1:Late X pins (s.heap.objs.size+1):=qr5 I (g17 _);have L3:Late X pins (s.heap.objs.size+3):=qr5 I (g24 _ _);have rm:Room k X.A.in1.in1:=((hr.mono hk).in1).in1;have hu:X.A.in1.in1.units+60<cLine:=by have:=rm.units;lia
  have z1:((s.heap.push (seqObj "list" #[] 0)).update s.heap.objs.size (Obj.mapSeq (· ++ its.toArray))).objs.size=s.heap.objs.size+1:=by rw [t7,g0j]
  have keep:∀b o,s.heap.get? b=some o->(ju (srtH s.heap its) (s.heap.objs.size+1) its).get? b=some o:=fun b o qb=>by
   have hlt:b<s.heap.objs.size:=gv qb;unfold ju srtH;have ne:∀k,b≠s.heap.objs.size+k:=fun k=>gz (gu hlt (g24 _ _));rw [u6 _ _ _ (by rw [g0j,t7,g0j,z1];exact ne 3),u6 _ _ _ (by rw [t7,g0j,z1];exact ne 2),g09 _ _ _ _ (ne 1),
    u6 _ _ _ (by rw [z1];exact ne 1),g09 _ _ _ _ (show b≠s.heap.objs.size from ne 0),u6 _ _ _ (show b≠s.heap.objs.size from ne 0)]
   exact qb
  have I6:Inv X pins σ H {s with heap:=ju (srtH s.heap its) (s.heap.objs.size+1) its}:=I.kept (t':=s.toks) keep;have hoL:(srtH s.heap its).get? (s.heap.objs.size+1)=some (seqObj "list" its.toArray 0):=by
   unfold srtH;rw [<- z1];exact gf _ rfl
  have zs:(srtH s.heap its).objs.size=s.heap.objs.size+2:=by unfold srtH;rw [g0j,z1]
  obtain⟨e1,ho1⟩:∃e1,((srtH s.heap its).update (s.heap.objs.size+1) (Obj.mapSeq fun _=>(#[]:Array Value))).get? (s.heap.objs.size+1)=some (seqObj "list" #[] e1):=⟨_,g1d hoL fun _=> #[]⟩
  have hoA:(ju (srtH s.heap its) (s.heap.objs.size+1) its).get? (s.heap.objs.size+1)=some (seqObj "list" #[] e1):=by
   unfold ju;rw [u6 _ _ _ (by rw [g0j,t7,zs];exact gz (by lia)),u6 _ _ _ (by rw [t7,zs];exact gz (by lia))];exact ho1
  have hoK:(ju (srtH s.heap its) (s.heap.objs.size+1) its).get? (s.heap.objs.size+3)=some (seqObj "list" ([]:List Value).toArray 0):=by
   unfold ju;have:s.heap.objs.size+3=(((srtH s.heap its).update (s.heap.objs.size+1) (Obj.mapSeq fun _=>(#[]:Array Value))).push (seqObj "tuple" its.toArray 0)).objs.size:=by rw [g0j,t7,zs]
   rw [this];exact gf _ rfl
  have hn1:H (s.heap.objs.size+1)=none:=I.hok.fresh (g17 _);have hn3:H (s.heap.objs.size+3)=none:=I.hok.fresh (g24 _ _);refine qdd p1.isList hlen (fun ks s'=>∃F' H' xks kds e,Inv X pins σ H' s'/\Grow F H F' H'/\RepL X.K F' kds xks/\Vals xks ks/\yp op (ds.take ks.length)=some kds /\
   s'.heap.get? (s.heap.objs.size+3)=some (seqObj "list" ks.toArray e)/\H' (s.heap.objs.size+3)=none/\s'.heap.get? (s.heap.objs.size+1)=some (seqObj "list" #[] e1)/\H' (s.heap.objs.size+1)=none)
   ⟨F,H,[],[],0,I6,.refl fh,.nil,.nil,rfl,hoK,hn3,hoA,hn1⟩ ?_ ?_
  ·rintro l0 v r0 hv ks s' hl ⟨F',H',xks,kds,e,I',g',rk,vk,hkd,hK,nK,hA,nA⟩
   -- the next item
   have hi:ks.length<ds.length:=by rw [hlds,hv,hl];simp
   have hvi:its[ks.length]? = some v:=by rw [hv,hl];simp
   obtain⟨dv,hdv⟩:∃dv,ds[ks.length]? = some dv:=⟨_,g23 ds _ hi⟩
   obtain⟨x,hx,rx⟩:=k2.get hdv;obtain⟨u,hu',ru⟩:=r1.get hx;rw [hvi] at hu';obtain rfl:v=u:=md hu';obtain⟨kd,hkd'⟩:=q9l hks (uh hdv);have hbs:BindsTo s' fd ⟨[v],[]⟩ (ps.zip ([v]++[])):=hb s' [v] I'.kIn (by
    have:=Fk.len [x] H' (fun v H''=>∃F'',Grow F' H' F'' H''/\Rep X.K F'' kd v) E0 (hsp F' H' dv kd x _ g' (rx.mono g'.ff) hkd' fun v F'' H'' g'' r''=>⟨F'',g'',r''⟩)
    simpa using this)
   refine g3h (g36 (Fk.run X.A.in1.in1 X.stack s' H' ⟨[v],[]⟩ [v] [x] (fun v H''=>∃F'',Grow F' H' F'' H''/\Rep X.K F'' kd v) E0 rm ⟨I'.ok.frames,I'.ok.mod,I'.bs,mq I'.ok.bsz I'.sz,I'.stack,I'.stkFree,I'.hok,I'.bare⟩ hbs (.cons ru .nil)
    (hsp F' H' dv kd x _ g' (rx.mono g'.ff) hkd' fun v F'' H'' g'' r''=>⟨F'',g'',r''⟩)) fun r s'' hq=>?_)
   cases r with
   | error er=>exact hq.elim
   | ok fl=>
    cases fl with
    | next=>exact False.elim hq
    | brk=>exact False.elim hq
    | cont=>exact False.elim hq
    | ret kv=>
     obtain⟨vv,H'',os,bare,un,hok',rv,F'',g'',rr⟩:=(show CE X.stack X.prog X.w H' s' _ kv s'' from hq)
     have hK2:=un.keep _ _ hK nK L3.frs (by simp);have hA2:=un.keep _ _ hA nA L1.frs (by simp);have nK2:=un.free _ _ hK nK (by simp);have nA2:=un.free _ _ hA nA (by simp);obtain⟨hh,gg,dd,tt,oo⟩:=s'';obtain rfl:oo=s'.os:=os;have I2:=I'.call (h':=hh) (g':=gg) (d':=dd) (t':=tt) (ch:=[]) un hok' bare (fun b z=>absurd z (by simp));obtain⟨e',hK3⟩:=qby hK2 kv;have I3:=qbw I2 L3 (h':=hh.update (s.heap.objs.size+3) (Obj.mapSeq (·.push kv))) (fun c o hc e=>by rw [g09 _ _ _ _ hc];exact e) nK2;refine⟨⟨e,hK2⟩,F'',H'',xks++[vv],kds++[kd],e',I3,g'.trans g'',(rk.mono g''.ff).append (.cons rr .nil),vk.append (.cons rv .nil),?_,hK3,nK2,?_,nA2⟩
     ·rw [pk,g44,t6 hi]
      refine q7q hkd ?_;have:ds[ks.length]=dv:=by rw [g23 ds _ hi] at hdv;exact md hdv
      rw [this];exact hkd'
     ·show(hh.update _ _).get? _=_
      rw [g09 _ _ _ _ (gz (by lia))];exact hA2
  ·rintro ks s' hl ⟨F',H',xks,kds,e,I',g',rk,vk,hkd,hK,nK,hA,nA⟩
   rw [hl, <- hlds,g5n,hks] at hkd;obtain rfl:dks=kds:=md hkd;refine⟨⟨e,hK⟩,by rw [hA,hoA],?_⟩;have hkl:ks.length=dks.length:=by rw [<- vk.length,rk.length]
   obtain⟨T,t1,t2,t3,t4⟩:=qla rk vk;have kdk:∀d∈dks,kD d=true:=by
    have:=hok.1;unfold q0x at this;rw [m6,m6] at this;exact mr.mp this.1.1
   have st:∀u∈ks,∃d∈dks,q27 X.K F' d u:=fun u hu=>by
    rw [<- t2] at hu;obtain⟨t,ht,rfl⟩:=ni.mp hu;have hm:t.2.2∈dks:=by rw [<- t3];exact g1m ht
    exact⟨t.2.2,hm,kdk _ hm,t.1,t4 t ht⟩
   obtain⟨κ,hkind,C⟩:=qn2 I' g'.fh X.A.in1.in1 hu st hok.1;refine⟨κ,_,_,fun h2=>hkind (by lia),fun _=>C,fun _ h=>h,fun Tz tp ts=>?_⟩
   -- all five rows together
   obtain⟨T,w1,w2,w3,w4⟩:=qbx (a:=xks.zip ks) (b:=dks) (c:=its) (d:=ys.zip ds) (by rw [g34,rk.length,vk.length];simp) (by rw [hlks,hlds]) (by rw [g34,r1.length,hlds];simp);have uT:ks.zip its=T.map fun t=>(t.1.2,t.2.2.1):=by
    rw [<- w3, <- g5s (l₁:=xks) (l₂:=ks) (by rw [vk.length];exact gw _), <- w1];simp [g6j,nj,g5a]
   obtain⟨T',pT,eT⟩:=q9j (fun t:(V×Value)×D×Value×V×D=>(t.1.2,t.2.2.1)) tp uT;have rel:∀t∈T,Rep X.K F' t.2.1 t.1.1/\RelV t.1.1 t.1.2/\Rep X.K F' t.2.2.2.2 t.2.2.2.1/\RelV t.2.2.2.1 t.2.2.1/\t.2.1∈dks:=by
    intro t ht;obtain⟨i,hi,rfl⟩:=uj.mp ht;have e1':(xks.zip ks)[i]? = some T[i].1:=by rw [<- w1];simp [hi]
    have e2':dks[i]? = some T[i].2.1:=by rw [<- w2];simp [hi]
    have e3':its[i]? = some T[i].2.2.1:=by rw [<- w3];simp [hi]
    have e4':(ys.zip ds)[i]? = some T[i].2.2.2:=by rw [<- w4];simp [hi]
    rw [List.getElem?_zip_eq_some] at e1' e4';obtain⟨x,hx,rx⟩:=rk.get e2';rw [e1'.1] at hx;obtain rfl:=md hx;obtain⟨u,hu2,ru⟩:=vk.get e1'.1;rw [e1'.2] at hu2;obtain rfl:=md hu2;obtain⟨y,hy,ry⟩:=k2.get e4'.2;rw [e4'.1] at hy;obtain rfl:=md hy;obtain⟨w,hw,rw'⟩:=r1.get e4'.1;rw [e3'] at hw;obtain rfl:=md hw;exact⟨rx,ru,ry.mono g'.ff,rw',uh e2'⟩
   have rel':∀t∈T',_:=fun t ht=>rel t (pT.mem_iff.mp ht);have hkey:∀t∈T',keyOf X.K F' t.1.2=t.2.1:=fun t ht=>q3u I' g'.fh ⟨kdk _ (rel' t ht).2.2.2.2,_,(rel' t ht).1,(rel' t ht).2.1⟩;have eD:T'.map (fun t=>t.2.2.2.2)=(kc (dks.zip ds)).map Prod.snd:=by
    have ez:dks.zip ds=T.map fun t=>(t.2.1,t.2.2.2.2):=by
     rw [<- w2, <- g5s (l₁:=ys) (l₂:=ds) (by rw [<- k2.length];exact gw _), <- w4];simp [g6j,nj,g5a]
    have e1:T'.map (fun t=>(t.2.1,t.2.2.2.2))=kc (dks.zip ds):=by
     refine q6g ?_ ?_ ?_
     ·rw [ez];exact pT.map _
     ·rw [g0d]
      rw [eT,g0d] at ts;refine g25 (fun {x y} hx hy h=>?_) ts;have h':ltT (keyOf X.K F' y.1.2) (keyOf X.K F' x.1.2)=false:=h;rw [hkey x hx,hkey y hy] at h';exact h'
     ·intro x hx y hy h1 h2
      obtain⟨i,hi,rfl⟩:=uj.mp hx;obtain⟨j,hj,rfl⟩:=uj.mp hy;rw [g34] at hi hj;simp only [List.getElem_zip] at h1 h2 ⊢;have:i=j:=qf1 hok.2 (by lia) (by lia) h1 h2;subst this;rfl
    rw [<- e1,nj]
    rfl
   have hout:Tz.map (·.2)=T'.map fun t=>t.2.2.1:=by rw [eT,nj];rfl
   have vo:Vals (T'.map fun t=>t.2.2.2.1) (Tz.map (·.2)):=by
    rw [hout];clear eT eD pT hkey hout
    induction T' with
    | nil=>exact .nil
    | cons t T' ih=>exact .cons (rel' t gm).2.2.2.1 (ih fun t ht=>rel' t (gq _ ht))
   have ro:RepL X.K F' (T'.map fun t=>t.2.2.2.2) (T'.map fun t=>t.2.2.2.1):=by
    clear eT eD pT hkey hout vo
    induction T' with
    | nil=>exact .nil
    | cons t T' ih=>exact .cons (rel' t gm).2.2.1 (ih fun t ht=>rel' t (gq _ ht))
   have ll:(T'.map fun t=>t.2.2.2.1).length<=sizeLine:=by
    rw [mj,pT.length_eq];have:=g0f List.length w3;rw [mj] at this;rw [this];exact hlen
   have I8:=qbw I' L3 (h':=s'.heap.update (s.heap.objs.size+3) (Obj.mapSeq fun _=> #[])) (fun c o hc e=>by rw [g09 _ _ _ _ hc];exact e) nK;have hA8:(s'.heap.update (s.heap.objs.size+3) (Obj.mapSeq fun _=> #[])).get? (s.heap.objs.size+1)=some (seqObj "list" #[] e1):=by
    rw [g09 _ _ _ _ (gz (by lia))];exact hA
   obtain⟨e9,hA9⟩:∃e9,((s'.heap.update (s.heap.objs.size+3) (Obj.mapSeq fun _=> #[])).update (s.heap.objs.size+1) (Obj.mapSeq fun _=>(Tz.map (·.2)).toArray)).get? (s.heap.objs.size+1)=some (seqObj "list" (Tz.map (·.2)).toArray e9):=⟨_,g1d hA8 fun _=>(Tz.map (·.2)).toArray⟩
   have I9:=qij I8 L1 (o:=.lst (T'.map fun t=>t.2.2.2.1)) (h':=(s'.heap.update (s.heap.objs.size+3) (Obj.mapSeq fun _=> #[])).update (s.heap.objs.size+1) (Obj.mapSeq fun _=>(Tz.map (·.2)).toArray))
    (fun c o hc e=>by rw [g09 _ _ _ _ hc];exact e) nA ⟨ll,_,e9,vo,hA9⟩
   refine⟨.ref (s.heap.objs.size+1),_,I9,rfl,?_⟩;have gg:Grow F' H' F' (upd H' (s.heap.objs.size+1) (.lst (T'.map fun t=>t.2.2.2.1))):=Grow.own g'.fh nA;exact q _ _ F' _ (g'.trans gg) (g'.fh.free nA) hn1 qq (by rw [<- eD];exact ro)
 ·cases ho
def q5n(op:List D->Option D): List D->Option (List D)
 | [d]=>q28 op d
 | _=>none
end
end DL
namespace Srt
end Srt
namespace DL
open PySem PySem.Spec PyProof.Rows L2 Srt PySem.W
variable[Lam]
structure ClsOk(K:Frag)(x:Str)(C:Addr): Prop where
 ns:PySem.W.nsIn K mainGlobals x=some (some (.ref C))
 makes:PySem.W.makesIn K C=true
 init:PySem.W.findIn K (.ref C) "__init__" = some (some (.builtin "object.__init__"))
 kp:PySem.W.keepIn K (.ref C)=true
 cls:Cls K C
 n:qkk K C
structure CalM(P:Program)(w:World)(K:Frag)(mg:Str->Option Value)(base:Heap)(x m:Str)(C:Addr)(k:Nat)(ps:List Str)(ar:Nat)(op:List D->Option D)(fn:Addr)(fd:FuncData): Prop where
 ok:FnOk P w K mg base CX0 k fn fd ps (spD K ar op)
 me:Meth K C m fn
theorem qil{K:Frag}{C:Addr}{T:String}(hm:PySem.W.kitMeta T=true)(h:PySem.W.subIn K (.ref C) (.type T)=some false): PySem.W.kitOne K (.ref C) (.type T)=some false:=by
 unfold PySem.W.kitOne PySem.W.kitCls;rw [mn (fun z=>by have:=eq_of_beq z;cases this)];dsimp only;rw [mi hm];exact h
theorem qof{K:Frag}{C:Addr}(h1:PySem.W.subIn K (.ref C) (.type "int")=some false)(h2:PySem.W.subIn K (.ref C) (.type "bool")=some false)(h3:PySem.W.subIn K (.ref C) (.type "tuple")=some false)
  (h4:PySem.W.subIn K (.ref C) (.type "list")=some false) (h5:PySem.W.subIn K (.ref C) (.type "str")=some false) (h6:PySem.W.subIn K (.ref C) (.type "dict")=some false) :
  ∀T:String,T∈["int","bool","tuple","list","str","dict"]->PySem.W.kitOne K (.ref C) (.type T)=some false:=by
 intro T hT;simp only [mh,g06,g21] at hT;rcases hT with rfl|rfl|rfl|rfl|rfl|rfl <;> exact qil (by decide +kernel) (by assumption)
section
variable{X:Cx}{pins:List (Addr×Obj)}{σ : St}{F H:Hp}{s:Shared}
theorem qim{C:Addr}{Q:VK}(makes:PySem.W.makesIn X.K C=true)(init:PySem.W.findIn X.K (.ref C) "__init__" = some (some (.builtin "object.__init__")))(I:Inv X pins σ H s)
  (h:Q (.ref (s.heap.objs.size+1)) (upd (upd H s.heap.objs.size (.own (s.heap.objs.size+1))) (s.heap.objs.size+1) (.ins C s.heap.objs.size []))):wpAny (model X.prog X.w) X.A (call (.ref C) []) (EP X pins σ Q) X.xe s:=by
 have I2:=Inv.made (C:=C) I;have kin:=I.kIn;obtain⟨hh,g,d,t,os⟩:=s;have Y:=makes_of (M:=model X.prog X.w) kin makes;refine g3h (make_core Y (looks_findIn kin init) (fun self=>Looks.of_pure (oi_bind self)) (.inr ⟨rfl,rfl⟩) ?_);have hx:((hh.push emptyDict).push (instObj C hh.objs.size)).get? (hh.objs.size+1)=some (instObj C hh.objs.size):=by
  have:hh.objs.size+1=(hh.push emptyDict).objs.size:=(g0j _ _).symm;rw [this];exact gf _ rfl
 have t1:Looks (model X.prog X.w) ((hh.push emptyDict).push (instObj C hh.objs.size)) (typeOf (.ref (hh.objs.size+1))) (.ref C):=(Looks.ld hx).andThen .now;have t2:Looks (model X.prog X.w) ((hh.push emptyDict).push (instObj C hh.objs.size)) (isInstance (.ref (hh.objs.size+1)) (.type "object")) true:=t1.andThen (Y.top.keeps fun b o e=>gc _ (gc _ e));refine g1y oi_plain entry_oi (@check_slot (model X.prog X.w) _ _ _ "object.__init__" "object" "__init__" (.ref (hh.objs.size+1)) [] [] _ oi_kind oi_split t2 (oi_args (.ref (hh.objs.size+1))) ?_);rw [oi_run];exact g9 (And.intro rfl ⟨V.ref (hh.objs.size+1),_,I2,rfl,h⟩)
theorem qin{x:Str}{C:Addr}{p pos:Pos}(O:ClsOk X.K x C)(hm:X.mg x=some (.ref C))(hg:Gl X x)(hdb:(x==("__debug__" : Str))=false:=by decide): PE X (.Call (.Name x p) [] [] pos) (tD X.K (eC (.obj x))):=by
 intro pins s σ H Q I h;obtain⟨F0,H0,F, ρ,d,r,hf,q⟩:=h;cases hf;refine g14 (qe7 I hg hm ?_ hdb);refine PySem.W.callWith_K0 I.kIn O.kp (qim O.makes O.init I ?_);have n0:H s.heap.objs.size=none:=I.hok.fresh (gw _);have n1:H (s.heap.objs.size+1)=none:=I.hok.fresh (g17 _);have fh:=r.fh;have g1:Grow F H F (upd H s.heap.objs.size (.own (s.heap.objs.size+1))):=Grow.own fh n0;have n1':upd H s.heap.objs.size (.own (s.heap.objs.size+1)) (s.heap.objs.size+1)=none:=by rw [qk (tq (ue _))];exact n1
 have g2:=Grow.new (o:=.ins C s.heap.objs.size []) g1.fh n1';exact q _ _ _ (g1.trans g2) (rep_obj.mpr ⟨s.heap.objs.size+1,s.heap.objs.size,C,rfl,qq,O.ns,O.n⟩)
def isO(x:Str): D->Bool
 | .obj y=>x==y
 | _=>false
def q6h(x:Str)(ar:Nat)(op:List D->Option D)(g:FE)(fa:FA): FE:=fun ρ =>(g ρ).bind fun d=>(fa ρ).bind fun ds=>if isO x d then qo ar [] op (d :: ds) else none
theorem qbz{x m:Str}{C:Addr}{o e:Expr}{es:List Expr}{apos pos:Pos}{k k' ar:Nat}{fn:Addr}{fd:FuncData}{ps:List Str}{op:List D->Option D}{g:FE}{fa:FA}{pl:Sem Bool}(O:ClsOk X.K x C)
  (M:CalM X.prog X.w X.K X.mg X.base x m C k ps ar op fn fd) (b:Binds X.K fd ps []) (hr:Room k' X.A) (hk:k<=k') (ho:PE X o (tD X.K g)) (ha:PA X (e :: es) (tDA X.K fa))
  (hst:starEach (e :: es) X.env=(false,eval e X.env) :: starEach es X.env:=by rfl) (hpl:(backTo pos (starEach es X.env)).any (·.1)=false:=by rfl)
  (ht:eval (.Call (.Attribute o m apos) (e :: es) [] pos) X.env=(do
   let ov <- eval o X.env
   standAt apos.atName
   let(f,first) <- holding [ov] (getMethod ov m pl)
   callWith pos f first (backTo pos (starEach (e :: es) X.env)) (backToKw pos (keywordEach [] X.env))):=by rfl) :
  PE X (.Call (.Attribute o m apos) (e :: es) [] pos) (tD X.K (q6h x ar op g fa)):=
 j9 (qnh (pl:=pl) ho O.cls M.me M.ok (hr.mono hk) b .nil qmu ha hst hpl ht) fun σ H Q ⟨F0,H0,F, ρ,d,r,hf,q⟩=>by
  obtain⟨d1,h1,hf⟩:=gd.mp hf;obtain⟨ds,h2,hf⟩:=gd.mp hf
  split at hf
  ·rename_i hi
   obtain rfl:d1=.obj x:=by
    cases d1 <;> simp only [isO] at hi <;> first|(cases hi;done)|skip
    rw [(by simpa using hi:x=_)]
   refine⟨F0,H0,F, ρ,.obj x,r,h1,fun v F1 H1 g1 r1=>?_⟩;obtain⟨a,dx,C',rfl,e1,e2,e3⟩:=rep_obj.mp r1;have hC:C'=C:=by
    have:=e2.symm.trans O.ns;cases this;rfl
   subst hC;refine⟨a,dx,[],rfl,g1.fh _ _ e1,rfl,F0,H0,F1, ρ,ds,r.grow g1,h2,fun vs F2 H2 g2 r2=>?_⟩;unfold qo at hf
   split at hf
   ·rename_i hl
    refine⟨F2,(.obj x :: ds)++[],d,r.sameT (g1.trans g2),(RepL.cons (r1.mono g2.ff) r2).append .nil,hl,hf,fun v F3 H3 g3 r3=>q v F3 H3 (g1.trans (g2.trans g3)) r3⟩
   ·cases hf
  ·cases hf
end
end DL
namespace DL
open PySem PySem.Spec PyProof.Rows L2
variable[Lam]
theorem qio{P:Program}{w:World}{K:Frag}{mg:Str->Option Value}{base:Heap}{k ar:Nat}{f:Addr}{fd:FuncData}{ps:List Str}: FnOk P w K mg base CX0 k f fd ps (spD K ar fun _=>none):=
 FnOk.mk (fun vs H Q E z=>by
   obtain⟨F,ds,d,_,_,_,h,_⟩:=z;cases h)
  (fun A outer s H args us vs Q E _ _ _ _ z=>by
   obtain⟨F,ds,d,_,_,_,h,_⟩:=z;cases h)
end DL
namespace DL
open PySem PySem.Spec PyProof.Rows L2 Srt PySem.W
variable[Lam]
def q1n(mg:Str->Option Value)(base:Heap): Prop:=∃bm ob,mg "__builtins__" = some (.ref bm)/\bm≠builtinsNs/\base.get? bm=some ob/\ob.cls=.type "module" /\ ob.dict=some builtinsNs/\ob.data=.plain
def tabOf(o:Obj): Option Addr:=match o.data with
 | .fields vs=>(match(vs[11]? : Option Value) with
  | some (.ref P)=>some P
  | _=>none)
 | _=>none
omit [Lam] in
theorem qlb{K:Frag}{x:Str}{f c P:Addr}{oc:Value}{od:Option Addr}{fd:FuncData}{sl:Array (Option Value)}{o:Obj}(h1:nsIn K mainGlobals x=some (some (.ref f)))(h2:K.lookup f=some ⟨oc,od,.func fd,sl⟩)(h3:fd.code=.ref c)(h4:K.lookup c=some o)(h5:tabOf o=some P): tabIn K x=some (c,P):=by
 unfold tabIn;rw [h1];dsimp only;rw [h2];dsimp only;rw [h3];dsimp only;rw [h4];obtain⟨a,b,d,e⟩:=o;unfold tabOf at h5;dsimp only at h5;cases d <;> simp only at h5 ⊢ <;> first|(cases h5;done)|skip
 split at h5
 ·rename_i hv
  rw [hv];cases h5
  rfl
 ·cases h5
omit [Lam] in
theorem qde{K:Frag}{c P:Addr}{o:Obj}(h1:K.lookup c=some o)(h2:codeHdIn [(c,o)] c P=true): codeHdIn K c P=true:=by
 have e:List.lookup c [(c,o)]=some o:=by simp [List.lookup]
 unfold codeHdIn at h2 ⊢;rw [h1];rw [e] at h2;exact h2
def qss(K:Frag)(ar:Nat)(op:List D->Option D)(f c:Addr)(φ ψ : Heap->Prop): Sp:=fun vs H Q E=>H f=some (.ext φ)/\H c=some (.ext ψ)/\spD K ar op vs H Q E
theorem qr6{P:Program}{w:World}{K:Frag}{mg:Str->Option Value}{base:Heap}{k:Nat}{f c:Addr}{qual:Str}{params:Arguments}{body:Expr}{scope:Scope}{pm ct:Value}{N ps:List Str}{u:FE}{φ ψ : Heap->Prop}
  (hφ : ∀h, φ h->h.get? f=some (kla_obj "<lambda>" qual params body scope [] pm c ct)) (hψ : ∀h, ψ h->h.CodeRec (.ref c) qual) (S:FnScope N ps scope)
  (hb:∀(A:Around) (outer:List Env) (s:Shared) (H:Hp) (E:XK),Room k (A.deeper (envOfC qual scope s.heap.objs.size f (.ref c)))->PE (zo CX0 P w K mg base N qual scope f (.ref c) A outer s H E).nox body (tD K u)) :
  FnOk P w K mg base CX0 (k+1) f (kla_fn "<lambda>" qual params body scope [] pm (.ref c) ct) ps (qss K ps.length (z7 N.length (zj u)) f c φ ψ):=by
 have hpl:ps.length<=N.length:=by have:=g0f List.length S.pre;rw [p0] at this;omega
 refine⟨fun vs H Q E h=>?_,fun A outer s H args us vs Q E hr e0 hbd r ⟨h1,h2,hsp⟩=>?_⟩
 ·obtain⟨_,_,F,ds,d,_,rl,el,_⟩:=h
  rw [<- rl.length];exact el
 have hl:vs.length=ps.length:=by
  obtain⟨F,ds,d,_,rl,el,_⟩:=id hsp;rw [<- rl.length];exact el
 have lim:s.heap.NoLimit:=e0.mod.nolimit.keeps fun b o e=>(e0.bs b o e).1;have hkind:∀y∈ps.zip us,scope.names.lookup y.1=some .local\/(scope.names.lookup y.1=some .cell/\((cellsFrom (s.heap.objs.size+1) scope.names []).lookup y.1).isSome=true):=fun⟨n,v⟩ hy=>by
  rcases S.par n (g31 hy).1 with q|q
  ·exact .inl q
  ·exact .inr ⟨q,g3w _ _ _ (.inl q)⟩
 have ho:=hφ _ (e0.hok f _ h1).1;have hcd:=hψ _ (e0.hok c _ h2).1;refine kla_callFunE hr.depth ho rfl S.co S.gen rfl hcd (hbd _ _ _ _ ?_);refine wpAny_newFunctionEnv_cells S.kind hkind fun env he s1 x=>?_;subst he;refine⟨lim.keeps x.toInCall.keep,kla_codeExpr ?_⟩;have I:Inv (zo CX0 P w K mg base N qual scope f (.ref c) A outer s H E) [] (start N vs) H s1:=q9a S hr.hd e0 hl r x;have hD:tD K u (start N vs) H Q:=by
  obtain⟨F0,H0,F, ρ,fl, ρ',r',hf,q⟩:=qi2 (P:=P) (w:=w) hpl hsp;obtain⟨d,h3,h4⟩:=m8.mp hf;cases h4;exact⟨F0,H0,F, ρ,d,r',h3,fun v F' H' g' r''=>q v F' H' (r'.g.trans g') r''⟩
 refine t5 ((hb A outer s H E (hr.deeper _)).nox [] s1 (start N vs) H Q I hD) (fun v s' hs=>?_) fun e s' hs=>hs;obtain⟨v',H',J,rv,q⟩:=hs;exact⟨v',H',J.os,J.bare,J.base,J.hok,rv,q⟩
theorem qfw{pos pos':Pos}{c cv:Value}: ∀(l:List Value),TriplesOk l->codeAmong pos' (l++[rawInt pos.line,rawInt pos.col,c])=some cv->codeAmong pos' l=some cv\/cv=c:=fun l h e=>by
 fun_induction TriplesOk l with
 | case1=>
  simp only [g0p,codeAmong,rawInt] at e
  split at e
  ·exact .inr (md e).symm
  ·cases e
 | case2 a t b u x rest ih=>
  simp only [g43,codeAmong] at e ⊢
  split at e
  ·rename_i hc;rw [mi hc];exact .inl e
  ·rename_i hc;rw [mn hc];exact ih h e
 | case3 l h1 h2=>exact h.elim
section
variable{X:Cx}{pins:List (Addr×Obj)}{σ : St}{F H:Hp}{s:Shared}
theorem qlc{c P:Addr}{q:Str}{params:Arguments}{body:Expr}{scope:Scope}{pos:Pos}{Q:Value->Shared->Prop}(hcode:X.env.code=.ref c)(hd:codeHdIn X.K c P=true)(hP:(P,q)∈Lam.tab)(hU:∀p∈Lam.tab,p.1=P->p.2=q)
  (hq:X.env.qual++"<lambda>" = q) (B:q1n X.mg X.base) (hdef:defaultsOf params X.env=([],[])) (hcl:closureFor scope X.env=pure []) (I:Inv X pins σ H s) (st:SameT F H)
  (h:∀f c' φ ψ ct pm s' H',Inv X pins σ H' s'->Grow F H F H'->H' f=some (.ext φ)->H' c'=some (.ext ψ)->(∀h, φ h->h.get? f=some (kla_obj "<lambda>" q params body scope [] pm c' ct))->(∀h, ψ h->h.CodeRec (.ref c') q)->Q (.ref f) s') :
  wpAny (model X.prog X.w) X.A (eval (.Lambda params body scope pos) X.env) Q X.xe s:=by
 refine kla_eval hdef ?_;rw [hq];obtain⟨ps,e,ht,k⟩:=st.t _ hP;have hPg:s.heap.get? P=some (tabObj ps):=I.hok P _ e;have C:CodeHd s.heap c P:=codeHd_of_K I.kIn hd;have hg:s.heap.Ns mainGlobals X.mg:=I.mod.glob.keeps I.bk;obtain⟨bm,ob,B1,B2,B3,B4,B5,B6⟩:=B;have hbo:=I.bk _ _ B3;have hbP:bm≠P:=fun z=>by
  have e1:=hbo;rw [z,hPg] at e1;have e2:=B4;rw [<- md e1] at e2;cases e2
 have hgP:mainGlobals≠P:=fun z=>by
  obtain⟨o,es,ep,e1,e2,_⟩:=hg;rw [z,hPg] at e1;rw [<- md e1] at e2;cases e2
 have hb:s.heap.BuiltinsAt X.mg P:=⟨bm,ob,B1,B2,fun z=>(by
  obtain⟨o,es,ep,e1,e2,_⟩:=hg;rw [<- z,hbo] at e1;rw [<- md e1,B6] at e2;cases e2),hbP,hbo,B4,B5,B6⟩
 cases hf:codeAmong pos ps.toList with
 | some cv=>
  obtain⟨c', ψ,rfl,e2,e3⟩:=k pos cv hf;refine kla_makeFunctionHit hcl I.ok.glob hg hcode C hPg ht hf hb fun ctv h' tk hk hsz=>?_;have I1:Inv X pins σ H {s with heap:=h',toks:=tk}:=I.kept (t':=tk) hk;have hn:H h'.objs.size=none:=I1.hok.fresh (gw _);have I2:=I1.laid (t':=tk) (a:=h'.objs.size) (o:=.ext fun g=>g.get? h'.objs.size=some (kla_obj "<lambda>" q params body scope [] ((X.mg "__name__").getD .none) c' ctv)) (h':=h'.push (kla_obj "<lambda>" q params body scope [] ((X.mg "__name__").getD .none) c' ctv))
   (fun b u z=>gc _ z) (gw _) ⟨gf _ rfl,⟨_,gf _ rfl⟩,fun h1 h2 z1 z2=>z2 _ z1⟩
  exact h _ c' _ ψ ctv _ _ _ I2 (Grow.own st.s hn) qq ((Kept.new hn).ext _ _ e2) (fun g z=>z) e3
 | none=>
  refine kla_makeFunction hcl I.ok.glob hg hcode C hPg ht hf hgP hb fun c' ctv h' tk hx hge hlt hrec htb=>?_;have hnc:H c'=none:=I.hok.fresh hge;have hcP:c'≠P:=fun z=>by rw [z,e] at hnc;cases hnc
  have nP:∀b o,H b=some o->(∀ps,o ≠ .tbl ps)->b≠P:=fun b o z n y=>by rw [y,e] at z;exact n _ (md z).symm
  have nP':∀b,H b=none->b≠P:=fun b z y=>by rw [y,e] at z;cases z
  have nc:∀b o,H b=some o->b≠c':=fun b o z y=>by rw [y,hnc] at z;cases z
  have ncs:∀b o,s.heap.get? b=some o->b≠c':=fun b o z y=>absurd (gv z) (by rw [y];exact g4i.mpr hge)
  let H1:Hp:=upd (upd H P (.tbl (ps ++ #[rawInt pos.line,rawInt pos.col,.ref c']))) c' (.ext fun g=>g.CodeRec (.ref c') q)
  have a1:∀b,b≠P->b≠c'->H1 b=H b:=fun b z1 z2=>by show upd (upd H P _) c' _ b=_;rw [qk z2,qk z1]
  have a2:H1 P=some (.tbl (ps ++ #[rawInt pos.line,rawInt pos.col,.ref c'])):=by show upd (upd H P _) c' _ P=_;rw [qk (ng hcP),qq]
  have a3:H1 c'=some (.ext fun g=>g.CodeRec (.ref c') q):=qq;have un:Un X.fs [] H H1 s.heap h':=⟨fun b o z n _ _=>hx b o (nP' b n) z,fun b o z n _ _=>⟨o.slots,hx b o (nP' b n) z⟩,fun b o z n _=>by rw [a1 b (nP' b n) (ncs b o z)];exact n,
   fun b o z _=>by
    by_cases y:b=P
    ·exact⟨_,by rw [y];exact htb⟩
    ·exact⟨o,hx b o y z⟩,fun b xs z=>by rw [a1 b (nP b _ z nofun) (nc b _ z)];exact z,fun b o' u z=>by rw [a1 b (nP b _ z nofun) (nc b _ z)];exact z,
   fun b ps' z=>by
    by_cases y:b=P
    ·subst y
     rw [e] at z;cases z;exact⟨_,a2⟩
    ·exact⟨#[],by rw [a1 b y (nc b _ z),z];simp⟩⟩
  have hok:HOk X.prog X.w H1 h':=fun b o z=>by
   by_cases y:b=P
   ·subst y
    rw [a2] at z;cases z;exact htb
   by_cases y2:b=c'
   ·subst y2
    rw [a3] at z;cases z;obtain⟨c2,oc,vs,t,e2,hoc,r⟩:=hrec;cases e2;exact⟨⟨_,oc,vs,t,rfl,hoc,r⟩,⟨_,hoc⟩,fun h1 h2 ⟨c3,o3,v3,t3,e3,h3,r3⟩ z2=>by cases e3;exact⟨_,o3,v3,t3,rfl,z2 _ h3,r3⟩⟩
   rw [a1 b y y2] at z;refine(I.hok b o z).stay (fun b' u hb' z'=>hx b' u ?_ z') (fun b' z'=>by rw [a1 b' (nP b' _ z' nofun) (nc b' _ z')];exact z') fun b' xs z'=>by rw [a1 b' (nP b' _ z' nofun) (nc b' _ z')];exact z'
   rcases hb' with z1|z1
   ·rw [z1];exact y
   ·exact nP b' _ z1 nofun
  have I1:Inv X pins σ H1 {s with heap:=h',toks:=tk}:=I.un (t':=tk) un hok;have hn:H1 h'.objs.size=none:=I1.hok.fresh (gw _);have I2:=I1.laid (t':=tk) (a:=h'.objs.size) (o:=.ext fun g=>g.get? h'.objs.size=some (kla_obj "<lambda>" q params body scope [] ((X.mg "__name__").getD .none) c' ctv)) (h':=h'.push (kla_obj "<lambda>" q params body scope [] ((X.mg "__name__").getD .none) c' ctv))
   (fun b u z=>gc _ z) (gw _) ⟨gf _ rfl,⟨_,gf _ rfl⟩,fun h1 h2 z1 z2=>z2 _ z1⟩
  have hfP:h'.objs.size≠P:=fun z=>by rw [z,a2] at hn;cases hn
  have kp:Kept H H1:=⟨fun b xs z=>by rw [a1 b (nP b _ z nofun) (nc b _ z)];exact z,fun b φ z=>by rw [a1 b (nP b _ z nofun) (nc b _ z)];exact z,fun {b} z=>by
    by_cases y:b=P
    ·subst y;rw [a2] at z;cases z
    by_cases y2:b=c'
    ·rw [y2];exact hnc
    rw [a1 b y y2] at z;exact z,fun t p hp=>by
    obtain⟨ps1,e1,t1,k1⟩:=t p hp
    by_cases y:p.1=P
    ·have e2:=hU p hp y
     rw [y,e] at e1;cases e1;rw [y];refine⟨_,a2,by simpa using TriplesOk_snoc pos.line pos.col (.ref c') ps.toList ht,fun pos' cv z=>?_⟩;rw [pz] at z;rcases qfw ps.toList ht (by simpa using z) with z|z
     ·obtain⟨c2, φ,z1,z2,z3⟩:=k1 pos' cv z
      exact⟨c2, φ,z1,by rw [a1 c2 (nP _ _ z2 nofun) (nc _ _ z2)];exact z2,z3⟩
     ·exact⟨c',_,z,a3,fun g z=>by rw [e2];exact z⟩
    ·refine⟨ps1,by rw [a1 _ y (nc _ _ e1)];exact e1,t1,fun pos' cv z=>?_⟩
     obtain⟨c2, φ,z1,z2,z3⟩:=k1 pos' cv z;exact⟨c2, φ,z1,by rw [a1 c2 (nP _ _ z2 nofun) (nc _ _ z2)];exact z2,z3⟩,fun b φ z=>by rw [a1 b (nP b _ z nofun) (nc b _ z)];exact z⟩
  have g1:Grow F H F H1:=⟨.refl _,kp,fun b o z=>by
    have y:b≠P:=fun y=>by have:=st.f _ hP;rw [show b=P from y] at z;rw [z] at this;cases this
    rw [a1 b y (nc b _ (st.s b o z))];exact st.s b o z,fun _ z=>.inl z⟩
  exact h _ c' _ _ ctv _ _ _ I2 (g1.trans (Grow.own g1.fh hn)) qq ((Kept.new hn).ext _ _ a3) (fun g z=>z) fun g z=>z
end
section
variable{X:Cx}{pins:List (Addr×Obj)}{σ : St}{F H:Hp}{s:Shared}
theorem qld{e:Expr}{p kp pos lpos:Pos}{params:Arguments}{body:Expr}{scope:Scope}{k k':Nat}{c P:Addr}{q:Str}{N ps:List Str}{u:FE}{fa:FA}(hcode:X.env.code=.ref c)(hd:codeHdIn X.K c P=true)(hP:(P,q)∈Lam.tab)
  (hU:∀p∈Lam.tab,p.1=P->p.2=q) (B:q1n X.mg X.base) (hr:Room k' X.A) (hgs:Gl X "sorted") (hms:X.mg "sorted" = none) (ha:PA X [e] (tDA X.K fa)) (S:FnScope N ps scope)
  (hb:∀(f c':Addr) (A:Around) (outer:List Env) (s:Shared) (H:Hp) (E:XK),Room k (A.deeper (envOfC q scope s.heap.objs.size f (.ref c')))->PE (zo CX0 X.prog X.w X.K X.mg X.base N q scope f (.ref c') A outer s H E).nox body (tD X.K u))
  (hbd:∀(pm cdv ct:Value) (us:List Value),us.length=ps.length->bindArgs (kla_fn "<lambda>" q params body scope [] pm cdv ct) ⟨us,[]⟩=pure (ps.zip us)) (hk:k+3<=k') (h1:ps.length=1)
  (hq:X.env.qual++"<lambda>" = q:=by rfl) (hdef:defaultsOf params X.env=([],[]):=by rfl) (hcl:closureFor scope X.env=pure []:=by rfl) (he:backTo pos (starEach [e] X.env)=(false,eval e X.env) :: backTo pos (starEach [] X.env):=by rfl)
  (hpl:(backTo pos (starEach [e] X.env)).any (·.1)=false:=by rfl):PE X (.Call (.Name "sorted" p) [e] [⟨some "key",.Lambda params body scope lpos,kp⟩] pos) (tL X.K (q2p (q5n (z7 N.length (zj u))) fa)):=by
 intro pins s σ H Q I h;obtain⟨F0,H0,F, ρ,ds,r,hf,q'⟩:=h;obtain⟨es,h3,h2⟩:=gd.mp hf;unfold q5n at h2
 split at h2
 ·rename_i d
  refine g14 (q05 I hgs hms boot_sorted ?_ (by decide) (by decide));refine callWith_kw (thn (ha pos pins s σ H (fun vs H1=>∃F1,Grow F H F1 H1/\RepL X.K F1 [d] vs) I ⟨F0,H0,F, ρ,[d],r,h3,fun vs F1 H1 g1 r1=>⟨F1,g1,r1⟩⟩) fun us s1 ⟨vs,H1,I1,rv,F1,g1,r1⟩=>?_) he hpl rfl rfl;refine kws_cons (qlc hcode hd hP hU hq B hdef hcl I1 (r.sameT g1) fun f c' φ ψ ct pm s2 H2 I2 g2 hf' hc' hφ hψ =>kws_nil ?_);obtain⟨x,rfl,rx⟩:=rep1 r1;obtain⟨v,rfl,ru⟩:=vals1 rv;cases d <;> simp only [q28] at h2 <;> first|(cases h2;done)|skip
  rename_i ds';obtain⟨a,ys,rfl,_⟩:=rep_lst.mp rx;cases ru;exact qik (qr6 hφ hψ S (hb f c')) (fun F' H' dv kd x Q' g' rx' hk' q''=>⟨g'.hh.ext _ _ hf',g'.hh.ext _ _ hc',F',[dv],kd,((r.sameT g1).grow g2).grow g',.cons rx' .nil,h1.symm,hk',q''⟩) (.all (hbd pm _ ct)) hr (by omega) I2 g2.fh (rx.mono g2.ff) (by simp only [q28];exact h2)
   fun a ys F3 H3 g3 k1 k2 k3 k4=>q' a ys F3 H3 (g1.trans (g2.trans g3)) k1 (g1.hh.free (g2.hh.free k2)) k3 k4
 ·cases h2
end
structure Fun3(K:Frag)(x qual:Str)(st:Stmt)(dV:Value)(f:Addr)(fd:FuncData)(c P:Addr): Prop where
 ex:∃(oc:Value) (od:Option Addr) (kV doc pm:Value) (an:Option Addr) (ct:Value) (osl:Array (Option Value)),
  fd=PySem.W.fnOf x qual (v5 st) (qt st) (qc st) dV kV doc pm an (.ref c) ct/\K.lookup f=some ⟨oc,od,.func fd,osl⟩/\PySem.W.codeIn K (.ref c) qual=true
 hd:codeHdIn K c P=true
 kp:PySem.W.keepIn K (.ref f)=true
section
variable{P:Program}{w:World}{K:Frag}{mg:Str->Option Value}{base:Heap}{x qual:Str}{st:Stmt}{dV:Value}{f c T:Addr}{fd:FuncData}{N ps:List Str}
theorem Fun3.okn{k n ar k1:Nat}{u:FS}(F:Fun3 K x qual st dV f fd c T)(S:FnScope N ps (qc st))(hn:N.length=n)(ha:ps.length=ar)(hk:k+1=k1)
  (hb:∀(A:Around) (outer:List Env) (s:Shared) (H:Hp) (E:XK),Room k (A.deeper (envOfC qual (qc st) s.heap.objs.size f (.ref c)))->PSs (zo CX0 P w K mg base N qual (qc st) f (.ref c) A outer s H E).nox (qt st) (tDS K u)) :
  FnOk P w K mg base CX0 k1 f fd ps (spD K ar (z7 n u)):=by
 subst hn ha hk;obtain⟨oc,od,kV,doc,pm,an,ct,osl,rfl,lk,hcd⟩:=F.ex;exact qmx lk hcd S fun A outer s H E hr=>hb A outer s H E hr
theorem qog{oc:Value}{od an:Option Addr}{osl:Array (Option Value)}{kV doc pm ct:Value}(l:K.lookup f=some ⟨oc,od,.func (PySem.W.fnOf x qual (v5 st) (qt st) (qc st) dV kV doc pm an (.ref c) ct),osl⟩)
  (cd:PySem.W.codeIn K (.ref c) qual=true) (hd:codeHdIn K c T=true) (k:PySem.W.keepIn K (.ref f)=true):Fun3 K x qual st dV f (PySem.W.fnOf x qual (v5 st) (qt st) (qc st) dV kV doc pm an (.ref c) ct) c T:=⟨⟨oc,od,kV,doc,pm,an,ct,osl,rfl,l,cd⟩,hd,k⟩
theorem Fun3.bindsTo(F:Fun3 K x qual st dV f fd c T){P:FuncData->Prop}(h:∀(kV doc pm:Value) (an:Option Addr) (cdv ct:Value),P (PySem.W.fnOf x qual (v5 st) (qt st) (qc st) dV kV doc pm an cdv ct)): P fd:=by
 obtain⟨oc,od,kV,doc,pm,an,ct,osl,rfl,lk,hcd⟩:=F.ex;exact h kV doc pm an _ ct
end
theorem qip{P:Program}{w:World}{K:Frag}{mg mb:Str->Option Value}{k:Nat}{fa a:Addr}{fd:FuncData}{x:Str}{s₁:Shared}{vs:List Value}{ns:List Int}{tabs:List (Addr×Addr)}(hT:TabsAt tabs s₁.heap)(hL:∀p∈Lam.tab,p.1∈tabs.map (·.2))(hKT:∀p∈tabs,K.lookup p.2=none)
  (KX:K.In s₁.heap) (hns:s₁.heap.Ns mainGlobals mg) (hb:s₁.heap.Ns builtinsNs mb) (hbb:∀x:Str,x≠"__name__" -> mb x=bootBuiltins x) (hlim:s₁.heap.NoLimit) (hg:s₁.gens = #[])
  (ha:s₁.heap.get? a=some {cls:=.type "list",data:=.seq vs.toArray}) (hi:IntsAre vs ns) (hl:ns.length<=63) (hr:Room k callerA)
  (hB:q1n mg s₁.heap) (Fn:∀base:Heap,K.In base->base.Ns mainGlobals mg->q1n mg base->FnOk P w K mg base CX0 k fa fd [x] (qak K)) (hbind:∀(s:Shared) (u:Value),BindsTo s fd ⟨[u],[]⟩ [(x,u)]) :
  codeAny (model P w) callerA (.call (.ref fa) ⟨[.ref a],[]⟩) (fun r s'=>r=.ok (.ret (.bool true))/\OldK s₁.heap s'.heap/\s'.os=s₁.os/\AllBare s'.gens) s₁:=by
 have rv:=q10 hi;have lenV:=hi.length;have aT:a∉tabs.map (·.2):=fun z=>by
  obtain⟨p,hp,e⟩:=ni.mp z;have e1:=(hT p hp).2;rw [e,ha] at e1;cases e1
 let G:Hp:=fun b=>if b=a/\K.lookup a=none then some (.frz {cls:=.type "list",data:=.seq vs.toArray} (.lst (ns.map V.int))) else none
 let H:Hp:=fun b=>if b∈tabs.map (·.2) then some (.tbl #[]) else G b
 have hG:∀b o,G b=some o->b=a/\K.lookup a=none/\o=.frz {cls:=.type "list",data:=.seq vs.toArray} (.lst (ns.map V.int)):=fun b o z=>by
  by_cases y:b=a/\K.lookup a=none
  ·exact⟨y.1,y.2,(md ((mi y).symm.trans z)).symm⟩
  ·have:=(mn y).symm.trans z;cases this
 have hH1:∀b,b∈tabs.map (·.2)->H b=some (.tbl #[]):=fun b z=>mi z;have hH2:∀b,b∉tabs.map (·.2)->H b=G b:=fun b z=>mn z;have tabAt:∀b,b∈tabs.map (·.2)->∃c,CodeHd s₁.heap c b/\s₁.heap.get? b=some (tabObj #[])/\K.lookup b=none:=fun b z=>by
  obtain⟨p,hp,rfl⟩:=ni.mp z;exact⟨p.1,(hT p hp).1,(hT p hp).2,hKT p hp⟩
 have gH:Same G H:=fun b o z=>by
  obtain⟨rfl,_,_⟩:=hG b o z;rw [hH2 _ aT];exact z
 have hok:HOk P w H s₁.heap:=fun b u z=>by
  by_cases y:b∈tabs.map (·.2)
  ·rw [hH1 b y] at z
   cases z;exact(tabAt b y).elim fun c z=>z.2.1
  ·rw [hH2 b y] at z
   obtain⟨rfl,_,rfl⟩:=hG b u z;exact⟨ha,by rw [mj];exact mq hl (by decide),vs,_,rv,ha⟩
 have base_of:∀ {b:Addr} {o:Obj},s₁.heap.get? b=some o->H b=none->(q2u s₁.heap H).get? b=some o:=fun e n=>qjy e n;have noA:∀ {b:Addr} {o:Obj} {es:Array DictEntry} {ep:Nat},s₁.heap.get? b=some o->o.data=.dict es ep->H b=none:=fun {b o es ep} e d=>by
  by_cases y:b∈tabs.map (·.2)
  ·obtain⟨c,_,e1,_⟩:=tabAt b y
   rw [e] at e1;rw [md e1] at d;cases d
  ·rw [hH2 b y]
   cases q:G b with
   | none=>rfl
   | some u=>
    obtain⟨rfl,_,_⟩:=hG b u q;rw [ha] at e;rw [<- md e] at d;cases d
 have nsK:∀ {b:Addr} {m:Str->Option Value},s₁.heap.Ns b m->(q2u s₁.heap H).Ns b m:=fun {b m} ⟨o,es,ep,e,d,r⟩=>⟨o,es,ep,base_of e (noA e d),d,r⟩
 have hKb:K.In (q2u s₁.heap H):=fun b o e=>base_of (KX b o e) (by
  by_cases y:b∈tabs.map (·.2)
  ·obtain⟨c,_,_,e1⟩:=tabAt b y
   rw [e1] at e;cases e
  ·rw [hH2 b y]
   cases q:G b with
   | none=>rfl
   | some u=>
    obtain⟨rfl,e1,_⟩:=hG b u q;rw [e1] at e;cases e)
 have hM:Mod K mg (q2u s₁.heap H):=⟨hKb,nsK hns,⟨mb,nsK hb,hbb⟩,let⟨mc,h1,h2⟩:=hlim; ⟨mc,nsK h1,h2⟩⟩
 have e0:Env0 P w K mg (q2u s₁.heap H) callerA [] s₁ H:=⟨rfl,hM,fun b o e=>qn7 e,g6n (qh9 _ _),trivial,fun b hb=>absurd (show b∈([]:List Addr) from hb) (by simp),hok,.of_eq hg⟩
 have hS:SqL K G a (ns.map V.int):=by
  cases hk:K.lookup a with
  | some o=>
   have e:=KX a o hk;rw [ha] at e;cases e;exact .inr ⟨_,vs.toArray,_,hk,rfl,rfl,rfl,by rw [gr,lenV];exact mq hl (by decide),by simpa using rv⟩
  | none=>exact .inl (.inr ⟨{cls:=.type "list",data:=.seq vs.toArray},mi ⟨rfl,hk⟩⟩)
 have sT:SameT G H:=⟨gH,fun p hp=>⟨#[],hH1 _ (hL p hp),trivial,fun pos cv z=>by simp [codeAmong] at z⟩,fun p hp=>by
  cases q:G p.1 with
  | none=>rfl
  | some u=>
   obtain⟨e,_,_⟩:=hG _ u q;exact absurd (e ▸ hL p hp) aT⟩
 have hBb:q1n mg (q2u s₁.heap H):=by
  obtain⟨bm,ob,B1,B2,B3,B4,B5,B6⟩:=hB;refine⟨bm,ob,B1,B2,base_of B3 ?_,B4,B5,B6⟩
  by_cases y:bm∈tabs.map (·.2)
  ·obtain⟨c,_,e1,_⟩:=tabAt bm y
   rw [B3] at e1;rw [md e1] at B4;cases B4
  ·rw [hH2 bm y]
   cases q:G bm with
   | none=>rfl
   | some u=>
    obtain⟨rfl,_,_⟩:=hG bm u q;rw [ha] at B3;rw [<- md B3] at B6;cases B6
 refine g36 ((Fn _ hKb (nsK hns) hBb).run callerA [] s₁ H ⟨[.ref a],[]⟩ [.ref a] [.ref a] (fun v _=>v=.bl true) E0 hr e0 (hbind s₁ (.ref a)) (.cons rfl .nil) ⟨a,ns,G,rfl,sT,hS,hl,fun _=>rfl⟩) fun r s' h=>?_;cases r with
 | error e=>exact h.elim
 | ok fl=>
  cases fl with
  | next=>exact False.elim h
  | brk=>exact False.elim h
  | cont=>exact False.elim h
  | ret u=>
   obtain⟨v,H',os,bare,un,hok',r',q⟩:=h;have q':v=.bl true:=q;subst q';obtain rfl:u=Value.bool true:=r';have tab':∀b,b∈tabs.map (·.2)->∃more,s'.heap.get? b=some (tabObj (#[]++more)):=fun b y=>by
    obtain⟨more,e⟩:=un.tbls b #[] (hH1 b y);exact⟨more,hok' b _ e⟩
   have keep:∀b o,b∉tabs.map (·.2)->s₁.heap.get? b=some o->s'.heap.get? b=some o:=fun b o y e=>by
    cases q:H b with
    | none=>exact un.keep b o e q (by intro z;exact absurd (show b∈([]:List Addr) from z) (by simp)) (by simp)
    | some u=>
     have q2:=q;rw [hH2 b y] at q2;obtain⟨rfl,_,rfl⟩:=hG b u q2;obtain⟨e2,_⟩:=hok' _ _ (un.frzs _ _ _ q);rw [ha] at e;rw [<- md e];exact e2
   refine⟨rfl,⟨fun b o e=>?_,fun b o e=>?_⟩,os,bare⟩
   ·by_cases y:b∈tabs.map (·.2)
    ·obtain⟨c,C,e1,_⟩:=tabAt b y
     rw [e] at e1;obtain rfl:=md e1;obtain⟨more,e2⟩:=tab' b y;exact .inr (.inl ⟨(C.tab e).isCodeTable,rfl, #[],more,rfl,e2⟩)
    ·exact .inl (keep b o y e)
   ·by_cases y:b∈tabs.map (·.2)
    ·obtain⟨more,e2⟩:=tab' b y
     exact⟨_,e2⟩
    ·exact⟨o,keep b o y e⟩
omit [Lam] in
theorem qoh{l:PySem.W.OpenLaw}{k:Nat}{x:Str}{q:Program}{loose:List Str}{XP:(Str->Option Value)->Heap->Prop}{YP:World->Heap->Prop}{d:DefRec}{K:Params->Frag}(hn:l.most=some 63)(hdf:d.params.defaults=[])(hk:Room k callerA)
  (hY:∀(w:World) (h:Heap),YP w h->(K w.params).In h)
  (F:∀(w:World) (mg:Str->Option Value) (fa:Addr) (h:Heap),(K w.params).In h->h.Ns mainGlobals mg->mg d.name=some (.ref fa) ->
   ∃(L:Lam) (tabs:List (Addr×Addr)) (fd:FuncData),(∀p∈L.tab,p.1∈tabs.map (·.2))/\(∀p∈tabs,(K w.params).lookup p.2=none/\∃y:Str,((recsOf q).find? (fun e=>e.name==y)).isSome=true/\tabIn (K w.params) y=some p) /\
    (∀(s:Shared) (u:Value),BindsTo s fd ⟨[u],[]⟩ [(x,u)])/\∀base:Heap,(K w.params).In base->base.Ns mainGlobals mg->q1n mg base->FnOk l.prog w (K w.params) mg base CX0 k fa fd [x] (qak (K w.params))) :
  PySem.W.WalkO q loose XP YP l.row.toRowW d [] (fun f vs=>PySem.call f vs):=by
 refine Att.attach_call hn hdf fun w s₀ s₁ mg mb fa o pm cd doc a vs ns G Y ho hd hcd hmg hobj hints hlen hg=>?_;have KX:=hY w _ Y;obtain⟨L,tabs,fd,hL,hT,hb,hF⟩:=F w mg fa _ KX G.T.g hmg;refine qip (tabs:=tabs) (fun p hp=>?_) hL (fun p hp=>(hT p hp).1) KX G.T.g G.T.b G.T.builtins G.T.nolimit hg hobj hints hlen hk (let⟨bm,ob,b1,b2,b3,b4,b5,b6⟩:=G.T.bmain; ⟨bm,ob,b1,b2,b3,b4,b5,b6⟩) hF hb;obtain⟨_,y,e1,e2⟩:=hT p hp;obtain⟨d',e3⟩:=g19.mp e1;exact tab_of G.T KX e3 e2
end DL
namespace Srt
end Srt
namespace DL
open PySem PySem.Spec PyProof.Rows L2 Srt PySem.W
variable[Lam]
set_option maxRecDepth 8000 in
omit [Lam] in
theorem qle(l:Addr)(items:Array Value)(n:Nat)(b:Addr)(items2:Array Value)(n2:Nat)(sl:Array (Option Value))(hc0:¬(!items.isEmpty&&Builtin.List.listTooLong (items.size+items2.size))=true)(hc1:items.size<=sizeLine)(hs2:items.size+items2.size<=sizeLine+1):
  Meets (Builtin.«list.extend» ⟨[.ref l,.ref b],[]⟩) (fun _ R s=>s.heap.get? l=some {cls:=.type "list",dict:=none,data:=.seq items n,slots:= #[]}/\s.heap.get? b=some {cls:=.type "list",dict:=none,data:=.seq items2 n2,slots:=sl} /\
   R (.ok (.ret Value.none)) {s with heap:=s.heap.update l (Obj.mapSeq fun x=>x++items2),toks:=s.toks}):=
 .of_wp fun prog w A R s h=>by
  obtain⟨hp,g,d,tk,os⟩:=s;obtain⟨hl,hb,h⟩:=h;have hz':(items++items2).size<=sizeLine+1:=by rw [Array.size_append];exact hs2
  have f3:=sub_list_list
  wp_walk using(g1v hl rfl (hz:=hc1) (_hz':=hz')),g32 hl,g32 hb
  exact⟨_,rfl,h⟩
section
variable{X:Cx}
omit [Lam] in
theorem qoi:MtM X "list.extend" (fun x vs H Q=>∃l b xs zs,x=.ref l/\vs=[.ref b]/\H l=some (.lst xs)/\SqL X.K H b zs/\xs.length+zs.length<=sizeLine/\Q .non (upd H l (.lst (xs++zs)))):=by
 intro pins s σ H x vs v us Q I rx rv h;obtain⟨l,b,xs,zs,rfl,rfl,hH,hB,hz,q⟩:=h;cases rx;obtain⟨u,rfl,ru⟩:=rv.one;cases ru;obtain⟨z,its,n,r,hl,e⟩:=I.lstM hH;obtain⟨its2,r2,⟨o,n2,e2,c1,c2,c3⟩,hl2⟩:=I.list hB;obtain⟨oc,od,oda,osl⟩:=o;dsimp only at c1 c2 c3;subst c1 c2 c3;have hl1:=r.length;have hl3:=r2.length;have hsz:its.toArray.size+its2.toArray.size<=sizeLine:=by rw [gr,gr];lia
 have hlong:¬(!its.toArray.isEmpty&&Builtin.List.listTooLong (its.toArray.size+its2.toArray.size))=true:=by
  rw [qkb hsz,Bool.and_false];exact mf
 refine g4a F.slot_list_extend ⟨_,e,rfl⟩ F.entry_list_extend (F.args_list_extend_2 _ _)
  (qle l its.toArray n b its2.toArray n2 osl hlong (by rw [gr];lia) (by lia)) ⟨e,e2,?_⟩
 refine⟨.non,_,I.lset (its':=its++its2) hH e (by simp) (r.append r2) ?_,rfl,q⟩;rw [pk];lia
def qlf(i:Nat)(f:FE): FS:=fun ρ =>(q6d i ρ).bind fun ds=>(f ρ).bind fun d=>match d with
 | .lst es=>if ds.length+es.length<=lim then some (.nx, ρ.set i (some (.ow (ds++es)))) else none
 | _=>none
theorem qr7{i:Nat}{x:Str}{e:Expr}{f:FE}{px apos cpos pos:Pos}(hv:PE X (.Name x px) (q6a i))(he:PE X e (tD X.K f))
  (hbase:attributeBase (.Name x px) "extend" X.env (eval (.Name x px) X.env)=eval (.Name x px) X.env:=by rfl)
  (hfew:((backTo cpos (starEach [e] X.env)).all (fun x=> !x.1)&&(backToKw cpos (keywordEach [] X.env)).all (fun x=>x.1.isSome)&&decide ([e].length+([]:List Keyword).length+(if([]:List Keyword).isEmpty then 0 else 1)<30))=true:=by rfl)
  (hline:(apos.endLine==cpos.line)=true:=by rfl) (hse:starEach [e] X.env=(false,eval e X.env) :: starEach [] X.env:=by rfl)
  (hs:swapsWith (.Call (.Attribute (.Name x px) "extend" apos) [e] [] cpos) none pos.line X.env=pure false:=by rfl):PS X (.Expr (.Call (.Attribute (.Name x px) "extend" apos) [e] [] cpos) pos) (tDS X.K (qlf i f)):=
 q06 (qe9 (qmt g5x PySem.F.slot_list_extend PySem.F.type_list_extend qoi hv (wy he q1y hse) hbase hfew hline hse rfl) hs) fun D σ H ⟨F0,H0,F, ρ,fl, ρ',r,hf,q⟩=>by
  obtain⟨ds,h1,hf⟩:=gd.mp hf;obtain⟨d,h2,h3⟩:=gd.mp hf;have h1:=q9d h1;cases d <;> simp only at h3 <;> first|(cases h3;done)|skip
  rename_i es
  split at h3
  ·rename_i hl
   cases h3;obtain⟨a,xs,e1,e2,e3,e4,e5⟩:=r.ow i ds h1;refine⟨.ref a,e1,.inl ⟨rfl,xs,SqL.of e2⟩,F0,H0,F, ρ,_,r,h2,fun v F' H' g' r'=>?_⟩;have r2:=r.grow g';obtain⟨b,zs,rfl,k1,k2⟩:=rep_lst.mp r';refine⟨a,b,xs,zs,rfl,rfl,g'.hh.lst _ _ e2,g'.fh.seq k1,mq (by rw [<- e5.length, <- k2.length];exact hl) (by decide),?_⟩;exact q _ F' _ g'.ff (r2.wrt h1 e1 ((e5.mono g'.ff).append k2))
  ·cases h3
end
end DL
namespace Js
open PySem
theorem qfx(A B:List Nat)(j:Nat)(hA:∀x∈A,x<j)(hB:∀x∈B,j<=x): ∀fuel lo hi,lo<=A.length->A.length<=hi->hi<=A.length+B.length->hi-lo<=fuel ->
  SetTable.below.go (A++B).toArray j fuel lo hi=A.length
 | 0,lo,hi,h1,h2,_,h3=>by unfold SetTable.below.go;lia
 | fuel+1,lo,hi,h1,h2,h4,h3=>by
  unfold SetTable.below.go
  by_cases c:lo<hi
  ·rw [mi c]
   show(if(A++B).toArray.getD ((lo+hi) / 2) j<j then _ else _)=_;have hm:(lo+hi) / 2<hi:=by lia
   have hm2:lo<=(lo+hi) / 2:=by lia
   by_cases d:(lo+hi) / 2<A.length
   ·have e:(A++B).toArray.getD ((lo+hi) / 2) j=A[(lo+hi) / 2]:=by
     simp [Array.getD,g5r d];lia
    rw [e,mi (hA _ (g26 d))];exact qfx A B j hA hB fuel _ _ (by lia) h2 h4 (by lia)
   ·have hb:(lo+hi) / 2-A.length<B.length:=by lia
    have e:(A++B).toArray.getD ((lo+hi) / 2) j=B[(lo+hi) / 2-A.length]:=by
     have hlt:(lo+hi) / 2<A.length+B.length:=by lia
     simp [Array.getD,g5e (Nat.le_of_not_lt d),hlt]
    rw [e,mn (g4i.mpr (hB _ (g26 hb)))];exact qfx A B j hA hB fuel _ _ h1 (by lia) (by lia) (by lia)
  ·rw [mn c];lia
theorem below_at{A B:List Nat}{j:Nat}(hA:∀x∈A,x<j)(hB:∀x∈B,j<=x): SetTable.below (A++B).toArray j=A.length:=by
 unfold SetTable.below;exact qfx A B j hA hB _ 0 _ (ug _) (by simp) (by simp) (by simp)
theorem cut(j:Nat): ∀l:List Nat,l.Pairwise (· < ·)->∃A B,l=A++B/\(∀x∈A,x<j)/\(∀x∈B,j<=x)
 | [],_=>⟨[],[],rfl,by simp,by simp⟩
 | x :: l,h=>by
  by_cases c:x<j
  ·obtain⟨A,B,e,a,b⟩:=cut j l (g1r.mp h).2
   exact⟨x :: A,B,by rw [e];rfl,by intro y hy;rcases mh.mp hy with rfl|hy;exact c;exact a y hy,b⟩
  ·exact⟨[],x :: l,rfl,by simp,by
    intro y hy;rcases mh.mp hy with rfl|hy
    ·lia
    ·have:=(g1r.mp h).1 y hy;lia⟩
theorem q5u{α : Type}(A B:List α)(x : α): SetTable.insertAt (A++B).toArray A.length x=(A++x :: B).toArray:=by
 unfold SetTable.insertAt;apply g6g;simp
theorem has_none(j:Nat): SetTable.has #[] j=false:=by unfold SetTable.has;simp
theorem qc0{t:SetTable}{l:List Nat}{j:Nat}(ep:t.place=l.toArray)(ed:t.dummies = #[])(hr:l.Pairwise (· < ·))(h:j∉l): t.slot j=.empty:=by
 obtain⟨A,B,rfl,hA,hB⟩:=cut j l hr;unfold SetTable.slot;rw [ep,ed,below_at hA hB,has_none];have:((A++B).toArray[A.length]? == some j)=false:=by
  cases B with
  | nil=>simp
  | cons b B=>
   have:b≠j:=fun e=>h (by simp [e]);simp [this]
 simp only [this];rfl
theorem qoj{t:SetTable}{l:List Nat}{j:Nat}(ep:t.place=l.toArray)(ed:t.dummies = #[])(hr:l.Pairwise (· < ·))(h:j∈l): ∃i,t.slot j=.live i:=by
 obtain⟨A,B,rfl,hA,hB⟩:=cut j l hr;unfold SetTable.slot;rw [ep,below_at hA hB];have:((A++B).toArray[A.length]? == some j)=true:=by
  rcases ny.mp h with h|h
  ·have:=hA j h;lia
  ·cases B with
   | nil=>simp at h
   | cons b B=>
    have hb:=hB b (gm ..);have:b=j:=by
     rcases mh.mp h with rfl|h
     ·rfl
     ·have:=(g1r.mp (pb.mp hr).2.1).1 j h;lia
    simp [this]
 simp only [this, ↓reduceIte];exact⟨_,rfl⟩
def orb:Nat->Nat->Nat
 | 0,i=>i
 | d+1,i=>orb d ((i*5+1)%8)
theorem qok:∀i<8,∀j<8,∃d<8,orb d i=j:=by decide
theorem qtq{t:SetTable}(hm:t.mask=7){i pt:Nat}(hp:pt<32)(hi:i<8): t.advance {j:=i,more:=0,i:=i,perturb:=pt,dummy:=none} = {j:=(i*5+1)%8,more:=0,i:=(i*5+1)%8,perturb:=0,dummy:=none}:=by
 have e0:pt / 32=0:=by lia
 have e1:SetTable.runEnd 7 ((i*5+1)%8)=(i*5+1)%8:=by unfold SetTable.runEnd;rw [mn (by lia)]
 unfold SetTable.advance;rw [mn (by simp),hm];unfold SetTable.leap;simp only [e0,Nat.add_zero];show({j:=(i*5+1)%8,more:=SetTable.runEnd 7 ((i*5+1)%8)-(i*5+1)%8,i:=(i*5+1)%8,perturb:=0,dummy:=none}:SetTable.Probe)=_;rw [e1,Nat.sub_self]
theorem go7{t:SetTable}{l:List Nat}{h:Int}(ep:t.place=l.toArray)(ed:t.dummies = #[])(hr:l.Pairwise (· < ·))(hm:t.mask=7): ∀(k:Nat) (i pt:Nat),pt<32->i<8->(∃d<k,orb d i∉l) ->
  ∃j,SetTable.probe.go t (fun _=>h+1) h k {j:=i,more:=0,i:=i,perturb:=pt,dummy:=none}=some (.empty j none)/\j∉l/\j<8
 | 0,i,pt,_,_,⟨d,hd,_⟩=>by lia
 | k+1,i,pt,hp,hi,⟨d,hd,hn⟩=>by
  unfold SetTable.probe.go
  by_cases c:i∈l
  ·obtain⟨x,e⟩:=qoj ep ed hr c
   have hne:(h+1==h)=false:=by simp;lia
   simp only [e,hne,gh, ↓reduceIte];rw [qtq hm hp hi];refine go7 ep ed hr hm k _ 0 (by lia) (Nat.mod_lt _ (by lia)) ?_;cases d with
   | zero=>exact absurd c hn
   | succ d=>exact⟨d,by lia,hn⟩
  ·simp only [qc0 ep ed hr c]
   exact⟨i,rfl,c,hi⟩
theorem q6i{α : Type}[DecidableEq α]: ∀ {a l:List α},a.Nodup->a ⊆ l->a.length<=l.length
 | [],_,_,_=>by simp
 | x :: a,l,hn,hs=>by
  have hx:x∈l:=hs (gm ..);have h2:a ⊆ l.erase x:=fun y hy=>(List.mem_erase_of_ne (fun e:y=x=>(g18.mp hn).1 (e ▸ hy))).mpr (hs (gq _ hy));have:=q6i (g18.mp hn).2 h2;rw [List.length_erase_of_mem hx] at this;have:0<l.length:=List.length_pos_of_mem hx;simp only [p7];lia
theorem qfy:∀(l:List Nat),(∀j<8,j∈l)->8<=l.length:=by
 intro l h;have:(List.range 8) ⊆ l:=fun j hj=>h j (uo.mp hj);have h2:=q6i g2u this
 simpa using h2
theorem qst{t:SetTable}{l:List Nat}{n:Nat}(ep:t.place=l.toArray)(ed:t.dummies = #[])(hr:l.Pairwise (· < ·))(hm:t.mask=7)(hl:l.length<8)(hn:n<12):
  ∃j,t.freeSlot (n:Int)=some (j,false)/\j∉l/\j<8:=by
 have hb:SetTable.bits (n:Int)=n:=by unfold SetTable.bits;lia
 have hi:n%8<8:=Nat.mod_lt _ (by lia);have hex:∃d<10*SetTable.turns t.mask,orb d (n%8)∉l:=by
  have:∃j,j<8/\j∉l:=g1z fun c=>by
   have:=qfy l (fun j hj=>g1z fun d=>c ⟨j,hj,d⟩);lia
  obtain⟨j,hj,hnj⟩:=this;obtain⟨d,hd,e⟩:=qok _ hi j hj;refine⟨d,?_,by rw [e];exact hnj⟩;rw [hm];unfold SetTable.turns;lia
 have hst:t.probeStart (n:Int) = {j:=n%8,more:=0,i:=n%8,perturb:=n,dummy:=none}:=by
  unfold SetTable.probeStart;rw [hb,hm];have e1:SetTable.runEnd 7 (n%(7+1))=n%8:=by unfold SetTable.runEnd;rw [mn (by lia)]
  simp only [e1];simp
 obtain⟨j,e,h1,h2⟩:=go7 (h:=(n:Int)) ep ed hr hm (10*SetTable.turns t.mask) (n%8) n (by lia) hi hex;refine⟨j,?_,h1,h2⟩;unfold SetTable.freeSlot SetTable.probe;rw [hst,e]
 rfl
theorem qr8{t:SetTable}{l:List Nat}{n:Nat}(ep:t.place=l.toArray)(ed:t.dummies = #[])(hr:l.Pairwise (· < ·))(hm:15<=t.mask)(hn:n<12)(hnl:n∉l):
  t.freeSlot (n:Int)=some (n,false):=by
 have hb:SetTable.bits (n:Int)=n:=by unfold SetTable.bits;lia
 have hmod:n%(t.mask+1)=n:=Nat.mod_eq_of_lt (by lia);unfold SetTable.freeSlot SetTable.probe SetTable.probeStart;rw [hb];simp only [hmod];have:10*SetTable.turns t.mask=(10*SetTable.turns t.mask-1)+1:=by unfold SetTable.turns;lia
 rw [this];unfold SetTable.probe.go;simp only [qc0 ep ed hr hnl]
 rfl
def el(p:Nat×Nat): Int×Value:=((p.1:Int),.int (p.1:Int) p.2)
structure Tb(t:SetTable)(ks:List (Nat×Nat)): Prop where
 dm:t.dummies = #[]
 pl:t.plain=true
 nd:(ks.map Prod.fst).Nodup
 lt:∀p∈ks,p.1<12
 sz:t.place.toList.length=ks.length
 rs:t.place.toList.Pairwise (· < ·)
 mz:(t.mask=7/\(∀p∈t.place.toList,p<8))\/((t.mask=15\/t.mask=31\/t.mask=63)/\t.place.toList=ks.map Prod.fst)
theorem Tb.n12{t:SetTable}{ks:List (Nat×Nat)}(T:Tb t ks): ks.length<=12:=by
 have:=q6i (l:=List.range 12) T.nd (fun x hx=>by
  obtain⟨p,hp,rfl⟩:=ni.mp hx;exact uo.mpr (T.lt p hp))
 simpa using this
theorem Tb.fits{t:SetTable}{ks:List (Nat×Nat)}(T:Tb t ks)(h:t.mask=7->ks.length<8): t.fits ks.length=true:=by
 have h1:t.place.size=ks.length:=by rw [<- T.sz];simp
 have h2:=T.n12;unfold SetTable.fits SetTable.fill;rw [T.dm,h1];have:ks.length<=t.mask:=by
  rcases T.mz with⟨e,_⟩|⟨e,_⟩
  ·have:=h e;lia
  ·lia
 simp [this]
theorem toArr(a:Array Nat): a=a.toList.toArray:=by simp
theorem qr9{A B:List Nat}{j:Nat}(h:(A++B).Pairwise (· < ·))(hA:∀x∈A,x<j)(hB:∀x∈B,j<=x)(hj:j∉A++B): (A++j :: B).Pairwise (· < ·):=by
 have hB':∀x∈B,j<x:=fun x hx=>by
  have:=hB x hx;have:x≠j:=fun e=>hj (by rw [<- e];exact nk _ hx);lia
 obtain⟨a,b,c⟩:=pb.mp h;refine pb.mpr ⟨a,g1r.mpr ⟨hB',b⟩,fun x hx y hy=>?_⟩;rcases mh.mp hy with rfl|hy
 ·exact hA x hx
 ·exact c x hx y hy
theorem qlg:∀ {l:List Nat},l.Pairwise (· < ·)->l.Nodup:=fun h=>g3t (fun a=>gz a) h
theorem lay{t:SetTable}{ks:List (Nat×Nat)}(T:Tb t ks){n k:Nat}(hn:n<12)(hnk:n∉ks.map Prod.fst)(h7:t.mask=7->ks.length<7):
  ∃t' ks',layNew t (ks.map el).toArray (n:Int) (.int (n:Int) k)=((ks'.map el).toArray,t',false,false)/\Tb t' ks'/\ks'.Perm ((n,k) :: ks)/\t'.mask=t.mask/\t'.led=t.led/\t'.finger=t.finger/\t'.moves=t.moves:=by
 have key:∃j,t.freeSlot (n:Int)=some (j,false)/\j∉t.place.toList/\((t.mask=7/\j<8)\/((t.mask=15\/t.mask=31\/t.mask=63)/\j=n)):=by
  rcases T.mz with⟨e,_⟩|⟨e,ep⟩
  ·obtain⟨j,h1,h2,h3⟩:=qst (n:=n) (toArr t.place) T.dm T.rs e (by rw [T.sz];have:=h7 e;lia) hn
   exact⟨j,h1,h2,.inl ⟨e,h3⟩⟩
  ·exact⟨n,qr8 (toArr t.place) T.dm T.rs (by lia) hn (by rw [ep];exact hnk),by rw [ep];exact hnk,.inr ⟨e,rfl⟩⟩
 obtain⟨j,hf,hj,hm⟩:=key;obtain⟨A,B,eAB,hA,hB⟩:=cut j _ T.rs;have hp:t.place=(A++B).toArray:=by rw [<- eAB]
 have hbel:SetTable.below t.place j=A.length:=by rw [hp];exact below_at hA hB
 have hlen:A.length<=ks.length:=by have:=T.sz;rw [eAB,pk] at this;lia
 let ks':=ks.take A.length++(n,k) :: ks.drop A.length
 let t':SetTable:={t with place:=(A++j :: B).toArray,dummies:= #[]}
 have hput:t.put j=(t',A.length):=by
  unfold SetTable.put;simp only [hbel,T.dm,has_none,gh, ↓reduceIte];rw [hp,q5u]
 have hins:SetTable.insertAt (ks.map el).toArray A.length ((n:Int),Value.int (n:Int) k)=(ks'.map el).toArray:=by
  have e:ks.map el=(ks.take A.length).map el++(ks.drop A.length).map el:=by rw [<- ud,ph]
  have el1:((ks.take A.length).map el).length=A.length:=by simp [hlen]
  have:=q5u ((ks.take A.length).map el) ((ks.drop A.length).map el) ((n:Int),Value.int (n:Int) k);rw [el1] at this;rw [e,this];simp [ks',el]
 have hperm:ks'.Perm ((n,k) :: ks):=by
  have:=@List.perm_middle _ (n,k) (ks.take A.length) (ks.drop A.length);rwa [ph] at this
 have hrs:(A++j :: B).Pairwise (· < ·):=qr9 (by rw [<- eAB];exact T.rs) hA hB (by rw [<- eAB];exact hj);have T':Tb t' ks':=by
  refine⟨rfl,T.pl,?_,?_,?_,by simpa [t'] using hrs,?_⟩
  ·refine((hperm.map Prod.fst).nodup_iff).mpr ?_
   exact g18.mpr ⟨hnk,T.nd⟩
  ·intro p hp
   rcases mh.mp (hperm.mem_iff.mp hp) with rfl|h
   ·exact hn
   ·exact T.lt p h
  ·rw [hperm.length_eq]
   have:=T.sz;rw [eAB] at this;simp only [pk] at this;simp [t'];lia
  ·rcases hm with⟨e,hj8⟩|⟨e,rfl⟩
   ·refine .inl ⟨e,fun p hp=>?_⟩
    have hp':p∈A++j :: B:=by simpa [t'] using hp
    rcases T.mz with⟨_,hq⟩|⟨e',_⟩
    ·rw [eAB] at hq
     rcases ny.mp hp' with h|h
     ·exact hq p (g2q _ h)
     ·rcases mh.mp h with rfl|h
      ·exact hj8
      ·exact hq p (nk _ h)
    ·lia
   ·refine .inr ⟨e,?_⟩
    rcases T.mz with⟨e',_⟩|⟨_,ep⟩
    ·lia
    ·have e1:A=(ks.map Prod.fst).take A.length:=by rw [<- ep,eAB];simp
     have e2:B=(ks.map Prod.fst).drop A.length:=by rw [<- ep,eAB];simp
     show(A++j :: B).toArray.toList=ks'.map Prod.fst;simp only [ks',ud,gj,g6k,g56];rw [<- e1, <- e2]
 have h7':t'.mask=7->ks'.length<8:=fun e=>by rw [hperm.length_eq];have:=h7 e;simp;lia
 have hfit:t'.fits (ks'.map el).toArray.size=true:=by
  have:=T'.fits h7'
  simpa using this
 refine⟨t',ks',?_,T',hperm,rfl,rfl,rfl,rfl⟩;unfold layNew;simp only [hf,hput,hins];unfold SetTable.orStandIn;rw [mi hfit,hfit]
 rfl
theorem qlh{mask:Nat}{owner:Array (Option Nat)}{i pt f:Nat}(h:owner.getD i (some 0)=none): SetTable.layClean.free mask owner (f+1) i pt=some i:=by
 unfold SetTable.layClean.free;have hr:SetTable.runEnd mask i+1-i=(SetTable.runEnd mask i-i)+1:=by
  unfold SetTable.runEnd;split <;> lia
 rw [hr,g2g];have:(List.find? (fun k=>(owner.getD (i+k) (some 0)).isNone) (0 :: List.map Nat.succ (List.range (SetTable.runEnd mask i-i))))=some 0:=by
  rw [List.find?_cons];simp only [Nat.add_zero,h,Option.isNone_none]
 rw [this];rfl
def Own(mask:Nat)(hs:List Nat)(c:Nat)(owner:Array (Option Nat)): Prop:=owner.size=mask+1/\∀j,j<=mask->∀k,owner[j]? = some (some k)↔(k<c/\hs[k]? = some j)
theorem qc1(mask:Nat)(hm:15<=mask)(hs:List Nat)(hnd:hs.Nodup)(hlt:∀x∈hs,x<12): ∀(r:List Nat) (c:Nat) (owner:Array (Option Nat)),hs.drop c=r->c<=hs.length->Own mask hs c owner ->
  ∃ ow,(r.map (Int.ofNat)).foldl (fun acc h=>do
    let(owner,k) <- acc
    let j <- SetTable.layClean.free mask owner (SetTable.turns mask) (SetTable.bits h%(mask+1)) (SetTable.bits h)
    pure (owner.setIfInBounds j (some k),k+1)) (some (owner,c))=some (ow,hs.length)/\Own mask hs hs.length ow
 | [],c,owner,hd,hc,ho=>by
  have:c=hs.length:=by have:=g0f List.length hd;simp at this;lia
  subst this;exact⟨owner,rfl,ho⟩
 | x :: r,c,owner,hd,hc,ho=>by
  have hcl:c<hs.length:=by have:=g0f List.length hd;simp at this;lia
  have hx:hs[c]? = some x:=by
   have:=g0f (fun l=>l[0]?) hd
   simpa using this
  have hxm:x∈hs:=uh hx;have hx12:=hlt x hxm;have hb:SetTable.bits (Int.ofNat x)=x:=by unfold SetTable.bits;simp;lia
  have hmod:x%(mask+1)=x:=Nat.mod_eq_of_lt (by lia);have hnone:owner.getD x (some 0)=none:=by
   have hlt':x<owner.size:=by rw [ho.1];lia
   simp only [Array.getD,hlt', ↓reduceDIte,Array.getInternal_eq_getElem];cases e:owner[x] with
   | none=>rfl
   | some k=>
    have:owner[x]? = some (some k):=by rw [g5f hlt',e]
    obtain⟨h1,h2⟩:=(ho.2 x (by lia) k).mp this;have hkl:k<hs.length:=by lia
    rw [ma hkl] at h2;rw [ma hcl] at hx;have:=(g5j hnd).mp ((md h2).trans (md hx).symm);lia
  have hfree:SetTable.layClean.free mask owner (SetTable.turns mask) (SetTable.bits (Int.ofNat x)%(mask+1)) (SetTable.bits (Int.ofNat x))=some x:=by
   rw [hb,hmod];have:SetTable.turns mask=(mask+14)+1:=by unfold SetTable.turns;lia
   rw [this];exact qlh hnone
  rw [gj,g61];have hstep:(do
    let(owner,k) <- some (owner,c)
    let j <- SetTable.layClean.free mask owner (SetTable.turns mask) (SetTable.bits (Int.ofNat x)%(mask+1)) (SetTable.bits (Int.ofNat x))
    pure (owner.setIfInBounds j (some k),k+1):Option (Array (Option Nat)×Nat))=some (owner.setIfInBounds x (some c),c+1):=by
   show(SetTable.layClean.free mask owner (SetTable.turns mask) (SetTable.bits (Int.ofNat x)%(mask+1)) (SetTable.bits (Int.ofNat x))).bind _=_;rw [hfree];rfl
  refine qc1 mask hm hs hnd hlt r (c+1) (owner.setIfInBounds x (some c)) ?_ hcl ⟨by simp [ho.1],fun j hj k=>?_⟩ |> fun⟨ow,a,b⟩=>⟨ow,?_,b⟩
  ·rw [<- List.tail_drop,hd];rfl
  ·rw [Array.getElem?_setIfInBounds]
   have hxs:x<owner.size:=by rw [ho.1];lia
   by_cases e:x=j
   ·subst e
    rw [mi rfl,mi hxs]
    constructor
    ·intro h;have:c=k:=by simpa using h
     subst this;exact⟨by lia,hx⟩
    ·rintro⟨h1,h2⟩
     have hkl:k<hs.length:=by lia
     rw [ma hkl] at h2;rw [ma hcl] at hx;have:=(g5j hnd).mp ((md h2).trans (md hx).symm);rw [this]
   ·rw [mn e,ho.2 j hj k]
    constructor
    ·rintro⟨h1,h2⟩;exact⟨by lia,h2⟩
    ·rintro⟨h1,h2⟩
     refine⟨?_,h2⟩;have:k≠c:=fun e2=>by subst e2;rw [hx] at h2;exact e (md h2)
     lia
  ·rw [<- a];exact g0f (fun z=>List.foldl _ z _) hstep
theorem qc2{mask:Nat}(hm:15<=mask){hs:List Nat}(hnd:hs.Nodup)(hlt:∀x∈hs,x<12): ∃ow,SetTable.layClean mask (hs.map Int.ofNat).toArray=some ow/\Own mask hs hs.length ow:=by
 obtain⟨ow,a,b⟩:=qc1 mask hm hs hnd hlt hs 0 (Array.replicate (mask+1) none) rfl (ug _) ⟨by simp,fun j hj k=>by simp [Array.getElem?_replicate]⟩;refine⟨ow,?_,b⟩;unfold SetTable.layClean;rw [List.foldl_toArray',a]
 ·rfl
 ·simp
theorem qli{mask:Nat}{hs:List Nat}(hnd:hs.Nodup)(hlt:∀x∈hs,x<=mask){ow:Array (Option Nat)}(ho:Own mask hs hs.length ow):
  let live:=(List.range (mask+1)).filterMap fun j=>(ow.getD j none).map (j, ·)
  (live.map Prod.fst).Pairwise (· < ·)/\(∀p∈live,hs[p.2]? = some p.1)/\(live.map Prod.snd).Perm (List.range hs.length):=by
 intro live;have hmem:∀p:Nat×Nat,p∈live↔hs[p.2]? = some p.1:=by
  intro p;obtain⟨j,k⟩:=p;simp only [live,g4u,uo,m8];have hg:∀j,j<=mask->(ow.getD j none=some k↔hs[k]? = some j):=fun j hj=>by
   have hlt':j<ow.size:=by rw [ho.1];lia
   have:ow.getD j none=some k↔ow[j]? = some (some k):=by
    simp [Array.getD,hlt']
   rw [this,ho.2 j hj k];exact⟨fun h=>h.2,fun h=>⟨(n8.mp h).1,h⟩⟩
  constructor
  ·rintro⟨j',hj',k',e,e2⟩
   injection e2 with e3 e4
   subst e3;subst e4;exact(hg _ (by lia)).mp e
  ·intro h
   have hj:=hlt j (uh h);exact⟨j,by lia,k,(hg j hj).mpr h,rfl⟩
 have hf:live.map Prod.fst=(List.range (mask+1)).filter (fun j=>(ow.getD j none).isSome):=by
  simp only [live];generalize List.range (mask+1)=l
  induction l with
  | nil=>rfl
  | cons a l ih=>
   rw [g1k,p8];cases e:ow.getD a none with
   | none=>simpa using ih
   | some k=>simpa using ih
 have hpw:(live.map Prod.fst).Pairwise (· < ·):=by
  rw [hf];exact g0v _ g3y
 refine⟨hpw,fun p hp=>(hmem p).mp hp,?_⟩;have hn2:(live.map Prod.snd).Nodup:=by
  have h1:=qlg hpw;refine g0d.mpr ?_;have h1':=g0d.mp h1;refine g25 ?_ h1';intro p q hp hq hne e;have a:=(hmem p).mp hp;have b:=(hmem q).mp hq;rw [e,b] at a;exact hne (md a).symm
 refine(g57 hn2 g2u).mpr fun k=>?_;rw [uo,ni]
 constructor
 ·rintro⟨p,hp,rfl⟩
  exact(n8.mp ((hmem p).mp hp)).1
 ·intro hk
  exact⟨(hs[k],k),(hmem _).mpr (ma hk),rfl⟩
theorem range_all{α : Type}: ∀l:List α,(List.range l.length).filterMap (l[·]?)=l
 | []=>rfl
 | a :: l=>by
  rw [p7,g2g,g1k];simp only [g3q,g38];have:((fun x=>(a :: l)[x]?) ∘ Nat.succ)=(l[·]?):=by funext i;simp
  rw [this,range_all l]
theorem q6j{mask f m:Nat}{led:Bool}(hm:mask=15\/mask=31\/mask=63){ks:List (Nat×Nat)}(hnd:(ks.map Prod.fst).Nodup)(hlt:∀p∈ks,p.1<12):
  ∃t order ks',SetTable.laid mask f m led true ((ks.map el).toArray.map (·.1))=some (t,order)/\order.filterMap ((ks.map el).toArray[·]?)=(ks'.map el).toArray/\ks'.Perm ks/\Tb t ks'/\t.mask=mask/\t.led=led /\
   coversAll order ks.length=true:=by
 have hlt':∀x∈ks.map Prod.fst,x<12:=fun x hx=>by obtain⟨p,hp,rfl⟩:=ni.mp hx;exact hlt p hp
 obtain⟨ow,a,b⟩:=qc2 (mask:=mask) (by lia) hnd hlt';obtain⟨h1,h2,h3⟩:=qli hnd (fun x hx=>by have:=hlt' x hx;lia) b;generalize hlv:((List.range (mask+1)).filterMap fun j=>(ow.getD j none).map (j, ·))=live at h1 h2 h3;have ehs:(ks.map el).toArray.map (·.1)=((ks.map Prod.fst).map Int.ofNat).toArray:=by
  simp [el,g5a]
 have h3':(live.map Prod.snd).Perm (List.range ks.length):=by simpa using h3
 let ks':=live.filterMap (fun p=>ks[p.2]?)
 have hk2:∀p∈live,∃q,ks[p.2]? = some q/\q.1=p.1:=fun p hp=>by
  have:=h2 p hp;rw [mv,m8] at this;exact this
 have hfst:ks'.map Prod.fst=live.map Prod.fst:=by
  simp only [ks'];clear h3 h3' h1 hlv h2
  induction live with
  | nil=>rfl
  | cons p l ih=>
   obtain⟨q,e,e2⟩:=hk2 p (gm ..);rw [g1k,e,gj,gj,e2,ih (fun r hr=>hk2 r (gq _ hr))]
 have hperm:ks'.Perm ks:=by
  have e1:ks'=(live.map Prod.snd).filterMap (ks[·]?):=by rw [g38];rfl
  rw [e1];refine(List.Perm.filterMap _ h3').trans ?_;rw [range_all]
 refine⟨{mask:=mask,place:=(live.map (·.1)).toArray,dummies:= #[],finger:=f,led:=led,moves:=m,plain:=true},(live.map (·.2)).toArray,ks',?_,?_,hperm,?_,rfl,rfl,?_⟩
 ·unfold SetTable.laid
  rw [ehs,a];simp only [Option.bind_eq_bind,m9,hlv]
  rfl
 ·rw [List.filterMap_toArray]
  congr 1
  rw [g38];have e3:((fun x=>(ks.map el).toArray[x]?) ∘ fun x:Nat×Nat=>x.2)=fun p=>(ks[p.2]?).map el:=by
   funext p;simp
  rw [e3];simp only [ks'];rw [List.map_filterMap]
 ·refine⟨rfl,rfl,?_,?_,?_,?_,.inr ⟨hm,?_⟩⟩
  ·exact((hperm.map Prod.fst).nodup_iff).mpr hnd
  ·exact fun p hp=>hlt p (hperm.mem_iff.mp hp)
  ·have:=g0f List.length hfst
   simpa using this.symm
  ·simpa using h1
  ·simpa using hfst.symm
 ·unfold coversAll
  rw [List.isPerm_iff]
  simpa using h3'
theorem q7r{α : Type}: ∀(l:List α) {i:Nat} (hi:i<l.length),([l[i]]++l.eraseIdx i).Perm l
 | [],i,hi=>by simp at hi
 | a :: l,0,hi=>by simp
 | a :: l,i+1,hi=>by
  have:=q7r l (i:=i) (by simpa using hi);simp only [g2h,g3o,g43,g0p] at this ⊢;exact(List.Perm.swap _ _ _).trans (List.Perm.cons _ this)
theorem q9m{α : Type}(nx:Nat->Nat): ∀(f k:Nat) (l:List α) (out:Array α),l.length<=f->((pickOrder.go nx f k l out).toList).Perm (out.toList++l)
 | 0,k,l,out,h=>by
  have:l=[]:=by cases l <;> simp_all
  subst this;simp [pickOrder.go]
 | f+1,k,[],out,h=>by simp [pickOrder.go]
 | f+1,k,a :: l,out,h=>by
  have hi:nx k%(a :: l).length<(a :: l).length:=Nat.mod_lt _ (by simp);unfold pickOrder.go;rw [ma hi];refine(q9m nx f (k+1) _ _ (by rw [List.length_eraseIdx];simp only [hi,nu];simp at h ⊢;lia)).trans ?_;rw [Array.toList_push,my];exact g0a _ (q7r _ hi)
theorem q3f{α : Type}(nx:Nat->Nat)(xs:Array α): ((pickOrder nx xs).toList).Perm xs.toList:=by
 unfold pickOrder;have:=q9m nx xs.size 0 xs.toList #[] (by simp)
 simpa using this
theorem q2w{n:Nat}(h:8<=n)(h2:n<64): (SetTable.sizeAbove n=16/\n<16)\/(SetTable.sizeAbove n=32/\16<=n/\n<32)\/(SetTable.sizeAbove n=64/\32<=n):=by
 have:∀n<64,8<=n->((SetTable.sizeAbove n=16/\n<16)\/(SetTable.sizeAbove n=32/\16<=n/\n<32)\/(SetTable.sizeAbove n=64/\32<=n)):=by decide +kernel
 exact this n h2 h
abbrev byT(w:World): Bool:=w.params.followText "set-order"
structure SI(w:World)(h:Heap)(a:Addr)(t:SetTable)(ks:List (Nat×Nat)): Prop where
 ob:∃o ep,h.get? a=some o/\o.ExactSet/\o.data=.set (ks.map el).toArray ep t
 tb:Tb t ks
 ld:t.led = !byT w
section
variable{prog:Program}{w:World}{A:Around}{E:Value->Shared->Prop}{s:Shared}{a:Addr}{t:SetTable}{ks:List (Nat×Nat)}
theorem q3v{n:Nat}(h:n<12): (intKind prog w).hash (n:Int)=(n:Int):=by
 have:∀n<12,hashInt ((n:Nat):Int)=((n:Nat):Int):=by decide
 exact this n h
theorem elems(hl:∀p∈ks,p.1<12): ElemsOf (intKind prog w) (ks.map el):=by
 intro e he;obtain⟨p,hp,rfl⟩:=ni.mp he;exact⟨⟨(p.1:Int),g4j _ _ _ _,(q3v (hl p hp)).symm⟩,rfl⟩
theorem q3w(T:Tb t ks)(h7:t.mask=7->ks.length<8): t.fits (ks.map el).toArray.size=true:=by
 have:=T.fits h7;simpa using this
theorem qol{n:Nat}(h:n∈ks.map Prod.fst): ∃j,List.findIdx? (fun e=>(intKind prog w).is (n:Int) e.2) (ks.map el)=some j:=by
 obtain⟨p,hp,rfl⟩:=ni.mp h;cases e:List.findIdx? (fun e=>(intKind prog w).is (p.1:Int) e.2) (ks.map el) with
 | some j=>exact⟨j,rfl⟩
 | none=>
  have:=g5g.mp e (el p) (g1m hp);have h2:(intKind prog w).is (p.1:Int) (el p).2=true:=g4j _ _ _ _;rw [h2] at this;exact absurd this (by decide)
theorem qlj{n:Nat}(h:n∉ks.map Prod.fst): List.findIdx? (fun e=>(intKind prog w).is (n:Int) e.2) (ks.map el)=none:=by
 refine g5g.mpr fun e he=>?_;obtain⟨p,hp,rfl⟩:=ni.mp he;cases e:(intKind prog w).is (n:Int) (el p).2 with
 | false=>rfl
 | true=>
  have:=(intKind prog w).inj (el p).2 _ _ e (g4j _ _ (p.1:Int) p.2);have:n=p.1:=by lia
  exact absurd (g1m hp) (this ▸ h)
def Step(t:SetTable)(ks:List (Nat×Nat))(p:Nat×Nat)(t':SetTable)(ks':List (Nat×Nat)): Prop:=
 Tb t' ks'/\t'.led=t.led/\if p.1∈ks.map Prod.fst then ks'=ks/\t'=t else
  ks'.Perm (p :: ks)/\t'.mask=(if(ks.length+1)*5>=t.mask*3 then SetTable.sizeAbove ((ks.length+1)*4)-1 else t.mask)
theorem qom{h:Heap}{o:Obj}{es es':Array (Int×Value)}{ep:Nat}{t t':SetTable}(ho:h.get? a=some o)(hd:o.data=.set es ep t):
  (h.update a (Obj.putSet es' t')).get? a=some {o with data:=.set es' (ep+1) t'}:=by
 have:=g0q (Obj.putSet es' t') ho (by rw [putSet_of es' t' hd];rfl);rw [putSet_of es' t' hd] at this;exact this
theorem SI.put{h:Heap}{t':SetTable}{ks':List (Nat×Nat)}(S:SI w h a t ks)(T':Tb t' ks')(hl:t'.led=t.led): SI w (h.update a (Obj.putSet (ks'.map el).toArray t')) a t' ks':=by
 obtain⟨o,ep,ho,hx,hd⟩:=S.ob;exact⟨⟨_,_,qom ho hd,hx,rfl⟩,T',by rw [hl];exact S.ld⟩
theorem size_le(T:Tb t ks): (ks.map el).toArray.size<=sizeLine:=by
 have:=T.n12;rw [g2f];simp;lia
theorem qiq{n k:Nat}{Q:Bool->Shared->Prop}(S:SI w s.heap a t ks)(hn:n<12)(h7:t.mask=7->ks.length<7)
  (h:∀h' t' ks',Heap.SameBut a s.heap h'->SI w h' a t' ks'->Step t ks (n,k) t' ks'->Q (!(decide (n∈ks.map Prod.fst))) {s with heap:=h'}) :
  wpAny (model prog w) A (setAddHashed a (.int (n:Int) k) (n:Int)) Q E s:=by
 obtain⟨o,ep,ho,hx,hd⟩:=id S.ob;have T:=S.tb;have hf:t.fits (ks.map el).toArray.size=true:=q3w T (fun e=>by have:=h7 e;lia);have hel:ElemsOf (intKind prog w) (ks.map el).toArray.toList:=by simpa using elems T.lt
 have hn12:=T.n12;unfold setAddHashed setAddHashedIn;refine nh (g0 (g3u ho hd hf ?_));dsimp only;rw [byScan_of (knd:=intKind prog w) rfl (by unfold scanBound;simp;lia) hel];simp only [↓reduceIte];unfold setAddByScan;refine g0 ?_;refine g0 (g02 ?_);have hsc:=@wpAny_setScan_of prog w Int _ (intKind prog w) A E s a o (ks.map el).toArray ep t (.int (n:Int) k) (n:Int) true;rw [q3v hn] at hsc;refine g0 (hsc (g4j _ _ _ _) ho hd hf hel ?_)
 by_cases hm:n∈ks.map Prod.fst
 ·obtain⟨j,hj⟩:=qol (prog:=prog) (w:=w) hm
  have hj':List.findIdx? (fun e=>(intKind prog w).is (n:Int) e.2) (ks.map el).toArray.toList=some j:=by simpa using hj
  rw [hj'];dsimp only;refine g9 (g9 ?_);have e:s = {s with heap:=s.heap}:=by cases s;rfl
  have:=h s.heap t ks (g2i a s.heap) S ⟨T,rfl,by rw [mi hm];exact⟨rfl,rfl⟩⟩;rw [nv hm] at this;rw [e];exact this
 ·have hj':List.findIdx? (fun e=>(intKind prog w).is (n:Int) e.2) (ks.map el).toArray.toList=none:=by simpa using qlj (prog:=prog) (w:=w) hm
  rw [hj'];dsimp only;obtain⟨t1,ks1,hL,T1,p1,m1,l1,f1,v1⟩:=lay T (k:=k) hn hm h7;rw [hL];dsimp only;have hgw:∀(b:Bool) {s₁:Shared} {Q':Unit->Shared->Prop},Q' () s₁->wpAny (model prog w) A (match b with|true=>rule "set.scan.the-table-gave-way" | false=>pure ()) Q' E s₁:=
   fun b s₁ Q' hq=>by cases b <;> first|exact g9 hq|exact g02 hq
  refine g0 (hgw false ?_);rw [T1.pl];simp only [↓reduceIte];rw [hashByValue_scannable 8 rfl];refine g0 (g9 ?_);simp only [plainKind, ↓reduceIte];have S1:SI w (s.heap.update a (Obj.putSet (ks1.map el).toArray t1)) a t1 ks1:=S.put T1 l1;have hsb1:=g08 s.heap a (Obj.putSet (ks1.map el).toArray t1);have hlen:ks1.length=ks.length+1:=by rw [p1.length_eq];rfl
  have htf:t1.tooFull=decide ((ks.length+1)*5>=t.mask*3):=by
   unfold SetTable.tooFull SetTable.fill;have:t1.place.size=ks.length+1:=by rw [<- hlen, <- T1.sz];simp
   rw [T1.dm,this,m1];simp
  refine g0 (g2l ho hd ?_ (size_le T1))
  by_cases hfull:(ks.length+1)*5>=t.mask*3
  ·rw [htf,nv hfull]
   simp only [g2o,g6l, ↓reduceIte];have hn1:=T1.n12;have hg:SetTable.grown (ks1.map el).toArray.size=(ks.length+1)*4:=by
    unfold SetTable.grown;simp only [gr,mj,hlen];rw [mn (by lia)]
   have hsa:SetTable.sizeAbove ((ks.length+1)*4)-1=15\/SetTable.sizeAbove ((ks.length+1)*4)-1=31\/SetTable.sizeAbove ((ks.length+1)*4)-1=63:=by
    have hm7:7<=t.mask:=by rcases T.mz with⟨e,_⟩|⟨e,_⟩ <;> lia
    rcases q2w (n:=(ks.length+1)*4) (by lia) (by lia) with h|h|h <;> lia
   obtain⟨t2,ord,ks2,e2,f2,p2,T2,m2,l2,c2⟩:=q6j (f:=t1.finger) (m:=t1.movedTo (SetTable.sizeAbove ((ks.length+1)*4)-1)) (led:=t1.led) hsa T1.nd T1.lt;have hrl:t1.relaid ((ks1.map el).toArray.map (·.1)) (SetTable.grown (ks1.map el).toArray.size)=some (t2,ord):=by
    unfold SetTable.relaid;rw [hg,T1.pl];exact e2
   have hlen2:ks2.length=ks1.length:=p2.length_eq;have hra:relayAll t1 (ks1.map el).toArray (SetTable.grown (ks1.map el).toArray.size)=((ks2.map el).toArray,t2,false):=by
    unfold relayAll;rw [hrl];dsimp only;rw [f2];have hc:coversAll ord (ks1.map el).toArray.size=true:=by simpa using c2
    have hft:t2.fits (ks2.map el).toArray.size=true:=q3w T2 (fun e=>by lia);rw [hc,hft];rfl
   rw [hra];dsimp only;refine g0 (hgw false ?_);obtain⟨o1,ep1,ho1,hx1,hd1⟩:=id S1.ob;refine g0 (g2l ho1 hd1 ?_ (size_le T2));refine g9 ?_;dsimp only;refine g9 ?_;have:=h _ t2 ks2 (hsb1.trans (g08 _ a _)) (S1.put T2 l2) ⟨T2,l2.trans l1,by
    rw [mn hm,mi hfull];exact⟨p2.trans p1,m2⟩⟩
   rw [tm hm] at this;exact this
  ·rw [htf,tm hfull]
   simp only [g2o,g6i,gh, ↓reduceIte];refine g9 ?_;have:=h _ t1 ks1 hsb1 S1 ⟨T1,l1,by rw [mn hm,mn hfull];exact⟨p1,m1⟩⟩;rw [tm hm] at this;exact g9 this
end
theorem q6k{α β : Type}[DecidableEq α]{f : α -> β}: ∀ {l:List β} {ks:List α},l.Perm (ks.map f)->∃ls:List α,ls.Perm ks/\l=ls.map f
 | [],ks,h=>by
  have:ks=[]:=by simpa using h.symm
  exact⟨[],by rw [this],rfl⟩
 | x :: l,ks,h=>by
  have hx:x∈ks.map f:=h.mem_iff.mp (gm ..);obtain⟨p,hp,rfl⟩:=ni.mp hx;have h1:=List.perm_cons_erase hp;have h2:(f p :: l).Perm (f p :: (ks.erase p).map f):=h.trans (h1.map f);obtain⟨ls,a,e⟩:=q6k (List.Perm.cons_inv h2);exact⟨p :: ls,(List.Perm.cons _ a).trans h1.symm,by rw [e];rfl⟩
section
variable{prog:Program}{w:World}{A:Around}{E:Value->Shared->Prop}{s:Shared}{a b:Addr}{t u:SetTable}{ks ls:List (Nat×Nat)}
theorem SI.state{Q:(Array (Int×Value)×Nat×SetTable)->Shared->Prop}(S:SI w s.heap a t ks)(h7:t.mask=7->ks.length<8)
  (h:∀ep,(∃o,s.heap.get? a=some o/\o.ExactSet/\o.data=.set (ks.map el).toArray ep t)->Q ((ks.map el).toArray,ep,t) s):wpAny (model prog w) A (setState a) Q E s:=by
 obtain⟨o,ep,ho,hx,hd⟩:=S.ob;exact g3u ho hd (q3w S.tb h7) (h ep ⟨o,ho,hx,hd⟩)
theorem SI.keep{h h':Heap}(S:SI w h a t ks)(e:∀o,h.get? a=some o->h'.get? a=some o): SI w h' a t ks:=by
 obtain⟨o,ep,ho,r⟩:=S.ob;exact⟨⟨o,ep,e o ho,r⟩,S.tb,S.ld⟩
theorem q7s{es:Array (Int×Value)}{t':SetTable}{ord:Array Nat}{es':Array (Int×Value)}{α : Type}{F:Array (Int×Value)×SetTable->Sem α}{Q : α -> Shared->Prop}(e:ord.filterMap (es[·]?)=es')(hs:es'.size=es.size)
  (h:wpAny (model prog w) A (F (es',t')) Q E s) :
  wpAny (model prog w) A ((do
   let some (t,order):=some (t',ord)|unsupported "internal:set-table-without-room"
   let es':=order.filterMap (es[·]?)
   if es'.size != es.size then unsupported "internal:set-table-lost-an-element"
   pure (es',t):Sem (Array (Int×Value)×SetTable)) >>= F) Q E s:=by
 refine g0 ?_;dsimp only;rw [e];have:(es'.size != es.size)=false:=by simp [hs]
 rw [this];simp only [gh, ↓reduceIte];exact g9 h
theorem qlk{wanted:Nat}{Q:Unit->Shared->Prop}(S:SI w s.heap a t ks)(h7:t.mask=7->ks.length<8)(hw:8<=wanted)(hw2:wanted<64)
  (h:∀h' t' ks',Heap.SameBut a s.heap h'->SI w h' a t' ks'->t'.mask=SetTable.sizeAbove wanted-1->ks'.Perm ks->Q () {s with heap:=h'}) :
  wpAny (model prog w) A (setRelay a wanted) Q E s:=by
 unfold setRelay;refine g0 (S.state h7 fun ep ⟨o,ho,hx,hd⟩=>?_);dsimp only;have hc:=q2w hw hw2;have hsz:¬(SetTable.sizeAbove wanted>sizeLine):=by rw [g2f];lia
 rw [mn hsz];obtain⟨t2,ord,ks2,e2,f2,p2,T2,m2,l2,c2⟩:=q6j (f:=t.finger) (m:=t.movedTo (SetTable.sizeAbove wanted-1)) (led:=t.led) (mask:=SetTable.sizeAbove wanted-1) (by lia) S.tb.nd S.tb.lt;have hrl:t.relaid ((ks.map el).toArray.map (·.1)) wanted=some (t2,ord):=by
  unfold SetTable.relaid;rw [S.tb.pl];exact e2
 rw [hrl];refine q7s f2 (by simp [p2.length_eq]) ?_;dsimp only;refine g2l ho hd ?_ (size_le T2);exact h _ t2 ks2 (g08 _ a _) (S.put T2 l2) m2 p2
theorem wp_walk{Q:Array (Int×Value)->Shared->Prop}(S:SI w s.heap a t ks)(h7:t.mask=7->ks.length<8)
  (h:∀ls:List (Nat×Nat),ls.Perm ks->Q (ls.map el).toArray s):wpAny (model prog w) A (setWalk a) Q E s:=by
 unfold setWalk;refine g0 (S.state h7 fun ep _=>?_);dsimp only;unfold setsByText;refine g0 (g0 (g00 (g9 ?_)))
 by_cases hb:byT w=true
 ·refine tx (fun _=>?_) (fun c=>absurd hb c)
  refine g0 (g00 (g9 ?_));have hp:=q3f ((⟨(model prog w).prog,(model prog w).w.params⟩:Setting).params.setOrder a ep) (ks.map el).toArray;generalize pickOrder ((⟨(model prog w).prog,(model prog w).w.params⟩:Setting).params.setOrder a ep) (ks.map el).toArray=xs at hp;have hp':xs.toList.Perm (ks.map el):=by simpa using hp
  obtain⟨ls,hl,e⟩:=q6k hp';have:=h ls hl;rw [<- e] at this;exact this
 ·refine tx (fun c=>absurd c hb) (fun _=>?_)
  refine tx (fun c=>?_) (fun _=>?_)
  ·have c':(!t.plain&&decide ((ks.map el).toArray.size>1))=true:=c
   rw [S.tb.pl] at c';simp at c'
  ·have hld:t.led=true:=by rw [S.ld];simpa using hb
   show wpAny _ _ ((do if !t.led&&(ks.map el).toArray.size>1 then unsupported "set:maker-not-led" : Sem Unit) >>= fun _=>pure (ks.map el).toArray) _ _ _;rw [hld];simp only [g12,g4m,gh, ↓reduceIte];exact g0 (g9 (g9 (h ks (g4q _))))
end
section
variable{prog:Program}{w:World}{A:Around}{E:Value->Shared->Prop}{s:Shared}{a b:Addr}{t u:SetTable}{ks ls:List (Nat×Nat)}
theorem qir{os:List Addr}{f:Option Addr}{Q:Array (Int×Value)->Shared->Prop}(S:SI w s.heap a t ks)(h7:t.mask=7->ks.length<8)
  (h:∀ls:List (Nat×Nat),ls.Perm ks->Q (ls.map el).toArray s):wpAny (model prog w) A (setWalkUnseen a os f) Q E s:=by
 unfold setWalkUnseen;refine g0 (S.state h7 fun ep _=>?_);dsimp only;refine g0 ?_;unfold setsByText;refine g0 (g00 (g9 ?_));dsimp only;refine tx (fun _=>?_) (fun c=>?_)
 ·exact wp_walk S h7 h
 ·refine absurd ?_ c
  have:t.led = !(model prog w).w.params.followText "set-order" :=S.ld;rw [this,S.tb.pl];cases(model prog w).w.params.followText "set-order" <;> simp
theorem qf2{ep:Nat}{ob:Obj}{each:Sem Unit}(hab:a≠b)(hob:∀ {s':Shared} {Q:(Array (Int×Value)×Nat×SetTable)->Shared->Prop},s'.heap.get? b=some ob->Q ((ls.map el).toArray,ep,u) s'->wpAny (model prog w) A (setState b) Q E s')
  (hea:∀ {s':Shared} {Q:Unit->Shared->Prop},s'.heap.get? b=some ob->Q () s'->wpAny (model prog w) A each Q E s') :
  ∀(r:List (Nat×Nat)) (s:Shared) (t:SetTable) (ks:List (Nat×Nat)) (Q:Unit->Shared->Prop),(∀p∈r,p.1<12)->SI w s.heap a t ks->(ks.length+r.length)*5<t.mask*3->s.heap.get? b=some ob ->
  (∀h' t' ks',Heap.SameBut a s.heap h'->SI w h' a t' ks'->t'.mask=t.mask->(∀n,n∈ks'.map Prod.fst↔n∈ks.map Prod.fst\/n∈r.map Prod.fst)->ks'.length<=ks.length+r.length->Q () {s with heap:=h'}) ->
  wpAny (model prog w) A (forIn (r.map el) PUnit.unit fun(x:Int×Value) (_:PUnit)=>do
   let _ <- holding [x.2] (setAddHashed a x.2 x.1)
   each
   if(<- setState b).2.1 != ep then unsupported "set.changed-during-merge"
   pure (ForInStep.yield PUnit.unit)) Q E s
 | [],s,t,ks,Q,hr,S,hm,hb,h=>by
  simp only [g10,g3i];refine g9 ?_;have:=h s.heap t ks (g2i _ _) S rfl (fun n=>by simp) (by simp);exact this
 | p :: r,s,t,ks,Q,hr,S,hm,hb,h=>by
  simp only [gj,g2c];have hp:=hr p (gm ..);have hml:(ks.length+1+r.length)*5<t.mask*3:=by simp only [p7] at hm;lia
  refine g0 ?_;refine g0 (nh (qiq (n:=p.1) (k:=p.2) S hp (fun e=>by lia) fun h' t' ks' hsb S' st=>?_));have hb':h'.get? b=some ob:=by rw [hsb.2 b (fun e=>hab e.symm)];exact hb
  obtain⟨T',l',c⟩:=st;have hlen:ks'.length<=ks.length+1/\t'.mask=t.mask/\(∀n,n∈ks'.map Prod.fst↔n∈ks.map Prod.fst\/n=p.1):=by
   split at c
   ·rename_i hin
    obtain⟨rfl,rfl⟩:=c;exact⟨by lia,rfl,fun n=>⟨.inl,fun h=>h.elim id (fun e=>e ▸ hin)⟩⟩
   ·obtain⟨c1,c2⟩:=c
    rw [mn (by lia)] at c2;refine⟨by rw [c1.length_eq];simp,c2,fun n=>?_⟩;rw [(c1.map Prod.fst).mem_iff,gj,mh];exact Or.comm
  refine g0 (hea (s':={s with heap:=h'}) hb' ?_);refine g0 (hob (s':={s with heap:=h'}) hb' ?_);dsimp only;rw [mn (by simp)];refine g9 ?_;refine qf2 hab hob hea r {s with heap:=h'} t' ks' Q (fun q hq=>hr q (gq _ hq)) S' (by rw [hlen.2.1];lia) hb' fun h2 t2 ks2 sb2 S2 m2 i2 l2=>?_;refine h h2 t2 ks2 (hsb.trans sb2) S2 (m2.trans hlen.2.1) (fun n=>?_) (by simp only [p7];lia);rw [i2 n,hlen.2.2 n,gj,mh,or_assoc]
theorem qon{m:Nat}{Q:Unit->Shared->Prop}(S:SI w s.heap a t ks)(h7:t.mask=7->ks.length<8)(hm:m<=12)
  (h:∀h' t' ks',Heap.SameBut a s.heap h'->SI w h' a t' ks'->ks'.Perm ks->(ks.length+m)*5<t'.mask*3 ->
   ((ks.length+m)*5<t.mask*3/\t'.mask=t.mask\/t'.mask=SetTable.sizeAbove ((ks.length+m)*2)-1/\t.mask*3<=(ks.length+m)*5)->Q () {s with heap:=h'}) :
  wpAny (model prog w) A (setRoomFor a m) Q E s:=by
 unfold setRoomFor;refine g0 (S.state h7 fun ep _=>?_);dsimp only;have hsz:t.place.size=ks.length:=by rw [<- S.tb.sz];simp
 have hfl:t.fill=ks.length:=by unfold SetTable.fill;rw [S.tb.dm,hsz];simp
 have hn:=S.tb.n12;unfold SetTable.roomFor;rw [hfl,hsz];have hmk:=S.tb.mz
 by_cases c:(ks.length+m)*5>=t.mask*3
 ·rw [mi c]
  dsimp only;refine qlk S h7 (by rcases hmk with⟨e,_⟩|⟨e,_⟩ <;> lia) (by lia) fun h' t' ks' sb S' m' p'=>?_;have hc:=q2w (n:=(ks.length+m)*2) (by rcases hmk with⟨e,_⟩|⟨e,_⟩ <;> lia) (by lia);exact h h' t' ks' sb S' p' (by lia) (.inr ⟨m',c⟩)
 ·rw [mn c]
  dsimp only;refine g9 ?_;exact h s.heap t ks (g2i _ _) S (g4q _) (by lia) (.inl ⟨by lia,rfl⟩)
theorem qc3{each:Sem Unit}{Q:Unit->Shared->Prop}(hab:a≠b)(S:SI w s.heap a t ks)(hbm:ks=[]->t.mask=7)(h7:t.mask=7->ks.length<8)(U:SI w s.heap b u ls)(hu:ls.length<5->u.mask=7)(hu7:u.mask=7->ls.length<8)
  (hea:∀ {s':Shared} {Q:Unit->Shared->Prop},s'.heap.get? b=s.heap.get? b->Q () s'->wpAny (model prog w) A each Q E s')
  (h:∀h' t' ks',Heap.SameBut a s.heap h'->SI w h' a t' ks'->(t'.mask=7->ks'.length<8)->(∀n,n∈ks'.map Prod.fst↔n∈ks.map Prod.fst\/n∈ls.map Prod.fst)->(ks=[]->ks'=[]->t'.mask=7)->Q () {s with heap:=h'}) :
  wpAny (model prog w) A (setMerge a b each) Q E s:=by
 unfold setMerge;have hne:(a==b)=false:=by simpa using hab
 rw [hne];simp only [gh, ↓reduceIte];have hn:=S.tb.n12;have hnu:=U.tb.n12;refine g0 (U.state hu7 fun ep ⟨o,ho,hx,hd⟩=>?_);dsimp only
 by_cases he:ls=[]
 ·subst he
  have:((([]:List (Nat×Nat)).map el).toArray).isEmpty=true:=rfl;rw [mi this];refine g9 ?_;exact h s.heap t ks (g2i _ _) S h7 (fun n=>by simp) (fun e _=>hbm e)
 ·have:((ls.map el).toArray).isEmpty=false:=by cases ls <;> simp_all
  rw [this];simp only [gh, ↓reduceIte];have hsz:((ls.map el).toArray).size=ls.length:=by simp
  rw [hsz];refine g0 (qon S h7 hnu fun h1 t1 ks1 sb1 S1 p1 r1 q1=>?_);have U1:SI w h1 b u ls:=U.keep fun o e=>by rw [sb1.2 b (fun e=>hab e.symm)];exact e
  have ho1:h1.get? b=some o:=by rw [sb1.2 b (fun e=>hab e.symm)];exact ho
  have hl1:ks1.length=ks.length:=p1.length_eq;have hpos:0<ls.length:=List.length_pos_iff.mpr he;refine g0 (SI.state (s:={s with heap:=h1}) S1 (fun e=>by lia) fun ep1 ⟨o1,ho1',hx1,hd1⟩=>?_);dsimp only;have hfl:t1.fill=ks.length:=by unfold SetTable.fill;rw [S1.tb.dm, <- hl1, <- S1.tb.sz];simp
  unfold SetTable.road;rw [hfl,U.tb.dm]
  by_cases hk:ks=[]
  ·subst hk
   have hk1:ks1=[]:=by simpa using hl1
   subst hk1;simp only [g2d,g3s,gh, ↓reduceIte];have hld:(t1.led&&u.led) = !byT w:=by rw [S1.ld,U.ld];simp
   have hpl:(t1.plain&&u.plain)=true:=by rw [S1.tb.pl,U.tb.pl];rfl
   by_cases hmk:t1.mask=u.mask
   ·have hc:((t1.mask==u.mask)&&(#[]:Array Nat).isEmpty)=true:=by simp [hmk]
    rw [hc];simp only [↓reduceIte];refine g2l (s:={s with heap:=h1}) ho1' hd1 ?_ (size_le U.tb);rw [hld,hpl];have T':Tb {u with dummies:= #[],finger:=t1.finger,led:= !byT w,moves:=t1.moves,plain:=true} ls:=⟨rfl,rfl,U.tb.nd,U.tb.lt,U.tb.sz,U.tb.rs,U.tb.mz⟩
    refine h _ _ ls (sb1.trans (g08 _ a _)) (S1.put T' (by rw [S1.ld])) hu7 (fun n=>by simp) (fun _ e=>absurd e he)
   ·have hc:((t1.mask==u.mask)&&(#[]:Array Nat).isEmpty)=false:=by simp [hmk]
    rw [hc];simp only [gh, ↓reduceIte];have ht7:=hbm rfl;have hm1:t1.mask=15\/t1.mask=31\/t1.mask=63:=by
     rcases S1.tb.mz with⟨e,_⟩|⟨e,_⟩
     ·exfalso
      have:ls.length<5:=by rw [e] at r1;simp at r1;lia
      exact hmk (e.trans (hu this).symm)
     ·exact e
    obtain⟨t2,ord,ks2,e2,f2,p2,T2,m2,l2,c2⟩:=q6j (f:=t1.finger) (m:=t1.moves) (led:=t1.led&&u.led) (mask:=t1.mask) hm1 U.tb.nd U.tb.lt;rw [hpl,e2];refine q7s f2 (by simp [p2.length_eq]) ?_;dsimp only;refine g2l (s:={s with heap:=h1}) ho1' hd1 ?_ (size_le T2);refine h _ t2 ks2 (sb1.trans (g08 _ a _)) (S1.put T2 (by rw [l2,hld,S1.ld])) (fun e=>by lia) (fun n=>?_) (fun _ e=>?_)
    ·rw [(p2.map Prod.fst).mem_iff];simp
    ·rw [e] at p2;exact absurd (by simpa using p2.symm) he
  ·have hfn:(ks.length != 0)=true:=by simp [hk]
   rw [hfn];simp only [↓reduceIte];refine g0 (qir (s:={s with heap:=h1}) U1 hu7 fun xs px=>?_);rw [<- Array.forIn_toList];have hxl:xs.length=ls.length:=px.length_eq;have key:=qf2 (prog:=prog) (w:=w) (A:=A) (E:=E) (ls:=ls) (u:=u) (ep:=ep) (ob:=o) (each:=each) hab (fun {s'} {Q'} e q=>g3u e hd (q3w U.tb hu7) q) (fun {s'} {Q'} e q=>hea (by rw [e,ho]) q)
    xs {s with heap:=h1} t1 ks1 (fun _ s'=>wpAny (model prog w) A (pure ()) Q E s') (fun p hp=>U.tb.lt p (px.mem_iff.mp hp)) S1 (by rw [hl1,hxl];exact r1) ho1 (fun h2 t2 ks2 sb2 S2 m2 i2 l2=>?_)
   ·exact g0 key
   ·refine g9 ?_
    refine h h2 t2 ks2 (sb1.trans sb2) S2 (fun e=>by lia) (fun n=>?_) (fun e=>absurd e hk);rw [i2 n,(p1.map Prod.fst).mem_iff,(px.map Prod.fst).mem_iff]
end
theorem qc4:entryFor table "set.__or__" = some Builtin.«frozenset.__or__» :=
 entryFor_alias (id':="frozenset.__or__") (by kernel_rfl) rfl (by decide +kernel) (by kernel_rfl)
theorem qf3:isSubtype (.type "set") (.type "set")=pure true:=by rw [g2p];kernel_rfl
section
variable{prog:Program}{w:World}{A:Around}{E:Value->Shared->Prop}{s:Shared}{a b:Addr}{t u:SetTable}{ks ls:List (Nat×Nat)}
theorem SI.typeIs(S:SI w s.heap a t ks): s.TypeIs (.ref a) "set" :=let⟨o,_,ho,hc,_⟩:=S.ob; ⟨o,ho,hc.1⟩
def vd(w:World): Obj:={cls:=.type "set",dict:=none,data:=.set #[] 0 (.fresh 0 0 (!byT w))}
theorem qll{led:Bool}: Tb (.fresh 0 0 led) []:=⟨rfl,rfl,by simp,by simp,by simp [SetTable.fresh],by simp [SetTable.fresh],.inl ⟨rfl,by simp [SetTable.fresh]⟩⟩
theorem qc5{h:Heap}(ho:h.get? a=some (vd w)): SI w h a (.fresh 0 0 (!byT w)) []:=⟨⟨_,0,ho,⟨rfl,rfl,rfl⟩,rfl⟩,qll,rfl⟩
theorem qis{Q:Value->Shared->Prop}(h:Q (.ref s.heap.objs.size) {s with heap:=s.heap.push (vd w)}): wpAny (model prog w) A (newSet (.type "set")) Q E s:=by
 unfold newSet setsByText;refine g0 (g0 (g00 (g9 ?_)));dsimp only;simp only [newObj];exact g0 (wpAny_alloc (g9 h))
theorem qc6(S:SI w s.heap a t ks){Q:Bool->Shared->Prop}(h:Q true s): wpAny (model prog w) A (Builtin.Frozenset.isAnySet (.ref a)) Q E s:=by
 unfold Builtin.Frozenset.isAnySet;show wpAny _ _ (isInstance (.ref a) (.type "set") >>= fun b=>_) _ _ _;refine g0 (g2r S.typeIs qf3 ?_);exact g9 h
theorem qsu{Q:Value->Shared->Prop}(hab:a≠b)(S:SI w s.heap a t ks)(hs:ks.length<5->t.mask=7)(hs7:t.mask=7->ks.length<8)(U:SI w s.heap b u ls)(hu:ls.length<5->u.mask=7)(hu7:u.mask=7->ls.length<8)
  (h:∀h' t' ks',(∀c o,c<s.heap.objs.size->s.heap.get? c=some o->h'.get? c=some o)->SI w h' s.heap.objs.size t' ks'->(t'.mask=7->ks'.length<8)->(∀n,n∈ks'.map Prod.fst↔n∈ks.map Prod.fst\/n∈ls.map Prod.fst)->Q (.ref s.heap.objs.size) {s with heap:=h'}) :
  wpAny (model prog w) A (binaryOp .BitOr (.ref a) (.ref b)) Q E s:=by
 refine wpAny_binaryOp_same S.typeIs U.typeIs F.fills_set_or F.slot_set_or (p6 F.slot_set_or S.typeIs qc4 ?_ (F.args_set_or_2 _ _));have hla:a<s.heap.objs.size:=let⟨o,_,ho,_⟩:=S.ob;gv ho
 have hlb:b<s.heap.objs.size:=let⟨o,_,ho,_⟩:=U.ob;gv ho
 show wpAny _ _ ((Builtin.Frozenset.slot1 "__or__" ⟨[.ref a,.ref b],[]⟩) >>= _) _ _ _;refine g0 (g9 ?_);dsimp only;refine g0 ?_;show wpAny _ _ (Builtin.Frozenset.isAnySet (.ref a) >>= _) _ _ _;refine g0 (qc6 S ?_);refine qc6 U ?_;simp only [g12,gh, ↓reduceIte];refine g0 (g9 ?_);refine g0 ?_;show wpAny _ _ (Builtin.Frozenset.copyOf a >>= _) _ _ _;refine g0 ?_;unfold Builtin.Frozenset.copyOf Builtin.Frozenset.baseOf;refine g0 (g0 (g2r S.typeIs qf3 (g9 ?_)));simp only [↓reduceIte];refine g0 (qis ?_);refine g0 (g9 ?_);have hget:(s.heap.push (vd w)).get? s.heap.objs.size=some (vd w):=gf _ rfl;have old:∀c o,s.heap.get? c=some o->(s.heap.push (vd w)).get? c=some o:=fun c o e=>gc _ e;refine g0 (qc3 (s:={s with heap:=s.heap.push (vd w)}) (tq hla) (qc5 hget) (fun _=>rfl) (fun _=>by simp) (S.keep (old a)) hs hs7 (fun _ q=>g9 q) fun h1 t1 ks1 sb1 S1 z1 i1 g1=>?_);refine g9 ?_;have old1:∀c o,c<s.heap.objs.size->s.heap.get? c=some o->h1.get? c=some o:=fun c o hc e=>by
  rw [sb1.2 c (gz hc)];exact old c o e
 have hbne:((Value.ref b) != (Value.ref a))=true:=by simp [ng hab]
 rw [mi hbne];have U1:SI w h1 b u ls:=U.keep fun o e=>old1 b o hlb e;refine g0 (g9 ?_);refine g0 (nh ?_);unfold Builtin.Frozenset.updateFrom;refine g0 (qc6 (s:={s with heap:=h1}) U1 ?_);simp only [↓reduceIte];refine g0 (g9 ?_);unfold Builtin.Frozenset.merge;obtain⟨ob,ep,hob,hxb,hdb⟩:=id U1.ob;refine g0 (wpAny_setEpoch_of (s:={s with heap:=h1}) hob hdb (q3w U.tb hu7) ?_);refine qc3 (s:={s with heap:=h1}) (tq hlb) S1 (fun e=>g1 rfl e) z1 U1 hu hu7 (fun {s'} {Q'} e q=>?_) fun h2 t2 ks2 sb2 S2 z2 i2 g2=>?_
 ·unfold Builtin.Frozenset.unchanged
  have e':s'.heap.get? b=some ob:=e.trans hob;refine g0 (wpAny_setEpoch_of e' hdb (q3w U.tb hu7) ?_);rw [mn (by simp)];exact g9 q
 ·refine g9 (g9 ⟨_,rfl,by simp,?_⟩)
  refine h h2 t2 ks2 (fun c o hc e=>?_) S2 z2 (fun n=>?_)
  ·rw [sb2.2 c (gz hc)];exact old1 c o hc e
  ·rw [i2 n,i1 n];simp
end
def MR(t:SetTable)(ks:List (Nat×Nat)): Prop:=(ks.length<5->t.mask=7)/\(5<=ks.length->t.mask=31)
theorem MR.step{t t':SetTable}{ks ks':List (Nat×Nat)}{p:Nat×Nat}(m:MR t ks)(st:Step t ks p t' ks'): MR t' ks':=by
 obtain⟨T',l',c⟩:=st
 split at c
 ·obtain⟨rfl,rfl⟩:=c;exact m
 ·obtain⟨c1,c2⟩:=c
  have hl:ks'.length=ks.length+1:=by rw [c1.length_eq];rfl
  have h12:=T'.n12
  by_cases h5:ks.length<4
  ·rw [m.1 (by lia),mn (by lia)] at c2
   exact⟨fun _=>c2,fun h=>by lia⟩
  ·by_cases h6:ks.length=4
   ·rw [m.1 (by lia),h6] at c2
    have:t'.mask=31:=by rw [c2];decide
    exact⟨fun h=>by lia,fun _=>this⟩
   ·rw [m.2 (by lia),mn (by lia)] at c2
    exact⟨fun h=>by lia,fun _=>c2⟩
theorem Step.mem{t t':SetTable}{ks ks':List (Nat×Nat)}{p:Nat×Nat}(st:Step t ks p t' ks')(n:Nat): n∈ks'.map Prod.fst↔n∈ks.map Prod.fst\/n=p.1:=by
 obtain⟨T',l',c⟩:=st
 split at c
 ·rename_i hin
  obtain⟨rfl,rfl⟩:=c;exact⟨.inl,fun h=>h.elim id (fun e=>e ▸ hin)⟩
 ·rw [(c.1.map Prod.fst).mem_iff,gj,mh]
  exact Or.comm
def iv(p:Nat×Nat): Value:=.int (p.1:Int) p.2
section
variable{prog:Program}{w:World}{A:Around}{R:Result->Shared->Prop}{I:Addr}{fp wr:List Addr}{G:Array GenState->Array GenState->Prop}{P:Nat->Value->Prop}{St:Nat->Shared->Prop}
theorem qlm(qs:List (Nat×Nat))(hq:∀p∈qs,p.1<12)(W:WalksS prog w A.in1 I fp wr G qs.length P St)(S:Addr)(hSf:S∉fp)
  (hval:∀i v,P i v->∃p,qs[i]? = some p/\v=iv p) :
  ∀(k i:Nat) (s:Shared) (t:SetTable) (ks:List (Nat×Nat)),qs.length-i=k->i<=qs.length->St i s ->
   SI w s.heap S t ks->MR t ks->(∀n,n∈ks.map Prod.fst↔n∈(qs.take i).map Prod.fst) ->
   (∀s' t' ks',Moved (S :: wr) G s s'->SI w s'.heap S t' ks'->MR t' ks'->(∀n,n∈ks'.map Prod.fst↔n∈qs.map Prod.fst)->R (.ok (.ret .none)) s') ->
   codeAny (model prog w) A (.builtin "set.update.loop" ⟨[.ref S,.ref I],[]⟩) R s:=by
 have hSw:S∉wr:=fun h=>hSf (W.sub _ h);have hsub:∀b∈wr,b∈S :: wr:=fun b hb=>gq _ hb;intro k
 induction k with
 | zero=>
  intro i s t ks hk hi hst hS hM hmem hR;have hin:i=qs.length:=by lia
  subst hin;refine t9 g3e ?_;rw [pd g1s _];show wpAny _ A.in1 (pyNext (.ref I) >>= _) _ _ s;refine g0 (W.done s _ _ hst fun s' hm=>?_);show wpAny _ A.in1 (ret Value.none) _ _ s';exact g9 (hR s' t ks (hm.mono hsub) (hS.keep fun o e=>hm.heap S _ hSw e) hM (by simpa using hmem))
 | succ k ih=>
  intro i s t ks hk hi hst hS hM hmem hR;have hlt:i<qs.length:=by lia
  refine t9 g3e ?_;rw [pd g1s _];show wpAny _ A.in1 (pyNext (.ref I) >>= _) _ _ s;refine g0 (W.item i s _ _ hlt hst fun v s' hP hst' hm=>?_);obtain⟨p,hp,rfl⟩:=hval i v hP;have hp12:=hq p (uh hp);have hS':SI w s'.heap S t ks:=hS.keep fun o e=>hm.heap S _ hSw e;show wpAny _ A.in1 (holding [iv p] (setAdd S (iv p)) >>= _) _ _ s';refine g0 (nh ?_);unfold setAdd;refine nh ?_;refine g0 ((intKind prog w).pyHash (k:=(p.1:Int)) (g4j _ _ _ _) ?_);rw [q3v hp12];refine qiq (s:={s' with toks:=s'.toks+1}) hS' hp12 (fun e=>g1z fun c=>by have:=hM.2 (by lia);lia) fun h' t' ks' hsb S2 st=>?_;refine g9 ⟨uf g1s _,ih (i+1) _ t' ks' (by lia) hlt (W.frame _ s' _ _ hst' (g17 _) fun b hb o e=>?_) S2 (hM.step st) (fun n=>?_) fun s'' t'' ks'' hm'' hS'' hM'' hi''=>?_⟩
  ·rw [hsb.2 b (fun h:b=S=>hSf (by rw [<- h];exact hb))];exact e
  ·rw [st.mem n,hmem n]
   have:qs.take (i+1)=qs.take i++[p]:=by
    rw [g3l,hp];rfl
   rw [this,ud,ny];simp
  ·refine hR s'' t'' ks'' (Moved.trans W.gtrans ((hm.mono hsub).then_heap (g17 _) fun b o hb e=>?_) hm'') hS'' hM'' hi''
   rw [hsb.2 b (fun h:b=S=>hb (by rw [h];exact gm))];exact e
end
theorem sub_tuple_set:isSubtype (.type "tuple") (.type "set")=pure false:=by rw [g2p];kernel_rfl
theorem sub_tuple_frozenset:isSubtype (.type "tuple") (.type "frozenset")=pure false:=by rw [g2p];kernel_rfl
section
variable{prog:Program}{w:World}{A:Around}{E:Value->Shared->Prop}{s:Shared}
theorem qit(a:Value){Q₁:Value->Shared->Prop}(h:Q₁ (.ref s.heap.objs.size) {s with heap:=s.heap.push (vd w)}):
  codeAny (model prog w) A (.call (.builtin "set.__new__") ⟨[.type "set",a],[]⟩) (wants Q₁ E) s:=by
 refine codeAny_of_tree ?_;show wpAny _ A.in1 (do checkBuiltinCall "set.__new__" ⟨[.type "set",a],[]⟩;again (.builtin "set.__new__" ⟨[.type "set",a],[]⟩)) _ _ s;refine g0 (g2w (F.newCall_set_1 a) (g9 ⟨uf F.plain_set_new _,t9 F.entry_set_new ?_⟩));rw [pd F.plain_set_new _];unfold Builtin.«set.__new__» Builtin.Frozenset.newClass;have hsub:=sub_set_self;obtain⟨hp,g,d,tk,os⟩:=s;dsimp only
 wp_walk
 refine g00 (g9 ?_);dsimp only;simp only [newObj];refine g0 (wpAny_alloc (g9 ?_));exact g9 h
set_option maxHeartbeats 3200000 in
theorem q8q{l:Addr}(qs:List (Nat×Nat))(hq:∀p∈qs,p.1<12){Q:Value->Shared->Prop}
  (hh:A.handled=none) (hl:s.heap.IsTuple l (qs.map iv).toArray)
  (h:∀(h':Heap) (tk:Nat) t ks,SI w h' s.heap.objs.size t ks->MR t ks->(∀n,n∈ks.map Prod.fst↔n∈qs.map Prod.fst)->s.toks<=tk ->
   (∀b o,b<s.heap.objs.size->s.heap.get? b=some o->h'.get? b=some o)->Q (.ref s.heap.objs.size) {s with heap:=h',toks:=tk}) :
  wpAny (model prog w) A (call (.type "set") [.ref l]) Q E s:=by
 obtain⟨c,tl,hmro⟩:=g27.mro;have hmade:=g27.made;have hsub:=g27.sub;refine g3h (codeAny_of_tree ?_);show wpAny _ _ (callAny (.type "set") _) _ _ _;refine g9 ⟨Code.quiet_builtin _ (by decide +kernel),t9 F.entry_type_call ?_⟩;rw [Around.under_plain (weight_type_call_type "set" [.ref l] []) rfl];have h1:=g27.notType;have h2:=g27.canCreate;have hct:=F.typeCall_set_1 (.ref l)
 repeat (any_goals (first|assumption|wp_step))
 refine g36 (qit (.ref l) (E:=E) (Q₁:=fun obj s₁=>obj=.ref s.heap.objs.size/\s₁ = {s with heap:=s.heap.push (vd w)}) ⟨rfl,rfl⟩) fun r s₁ hr=>?_;cases r with
 | error e=>exact hr
 | ok fl=>
  cases fl with
  | ret obj=>
   obtain⟨rfl,rfl⟩:=hr;have hS:(s.heap.push (vd w)).get? s.heap.objs.size=some (vd w):=gf _ rfl;have hT:Shared.TypeIs {s with heap:=s.heap.push (vd w)} (.ref s.heap.objs.size) "set" :=⟨_,hS,rfl⟩
   have hli:=g27.init.lookup;have hbi:=g27.init.bind (.ref s.heap.objs.size)
   repeat (any_goals (first|assumption|wp_step))
   refine g36 (g1y (R:=wants (fun r s₂=>r=.none/\∃h' tk t ks,s₂ = {s with heap:=h',toks:=tk}/\SI w h' s.heap.objs.size t ks/\MR t ks/\(∀n,n∈ks.map Prod.fst↔n∈qs.map Prod.fst)/\s.toks<=tk /\
     (∀b o,b<s.heap.objs.size->s.heap.get? b=some o->h'.get? b=some o)) E) g27.init.plain F.entry_set_init (check_set_init_1 hT ?_)) fun r₂ s₂ hr₂=>?_
   ·have hl1:(s.heap.push (vd w)).IsTuple l (qs.map iv).toArray:=hl.push _
    obtain⟨ol,hol,hcl,hdl⟩:=id hl1;have hsls:=sub_tuple_set;have hslf:=sub_tuple_frozenset;have hne:(Value.type "tuple" == Value.type "dict")=false:=by decide
    have hTl:Shared.TypeIs {s with heap:=s.heap.push (vd w)} (.ref l) "tuple" :=⟨_,hol,hcl⟩
    unfold Builtin.«set.__init__» noKeywords Builtin.Frozenset.updateFrom;generalize hPI:pyIter=PI
    wp_walk
    subst hPI;refine g39 hl1 ?_;refine g0 (wpAny_runValue ?_);have hlS:l<s.heap.objs.size:=let⟨_,h0,_⟩:=hl;gv h0
    have hh3:A.in1.in1.in1.handled=none:=by simp [hh]
    have hneI:l≠(s.heap.push (vd w)).objs.size:=by
     rw [pf];exact gz (g0o hlS)
    have hSf:s.heap.objs.size∉[(s.heap.push (vd w)).objs.size,l]:=by
     rw [pf];simp only [mh,n9,g06,g21,g69];exact⟨gz (ue _),tq hlS⟩
    have hval:∀(i:Nat) (v:Value),(qs.map iv).toArray[i]? = some v->∃p,qs[i]? = some p/\v=iv p:=fun i v hv=>by
     simp only [List.getElem?_toArray,mv,m8] at hv;obtain⟨p,e1,e2⟩:=hv;exact⟨p,e1,e2.symm⟩
    have W:=(Walks.tuple (prog:=prog) (w:=w) hh3 (s.heap.push (vd w)).objs.size l hneI (qs.map iv).toArray).toS;have hsz:(qs.map iv).toArray.size=qs.length:=by simp
    rw [hsz] at W;refine qlm qs hq W s.heap.objs.size hSf hval (qs.length-0) 0 _ (.fresh 0 0 (!byT w)) [] (by lia) (ug _)
     ⟨⟨_,gf _ rfl,rfl,rfl⟩,(hl1.push _)⟩ (qc5 (gc _ hS)) ⟨fun _=>rfl,fun h=>by simp at h⟩ (fun n=>by simp) fun s' t' ks' hm hS' hM' hi'=>?_
    obtain⟨h',g',d',tk',os'⟩:=s';have eg:g'=s.gens:=hm.gens;have ed:d'=s.drawn:=hm.drawn;have eo:os'=s.os:=hm.os;have etk:s.toks<=tk':=hm.toks;subst eg;subst ed;subst eo;show wpAny _ _ _ _ _ _;refine g9 ?_;show wpAny _ _ (ret Value.none) _ _ _;refine g9 ⟨rfl,h',tk',t',ks',rfl,hS',hM',hi',etk,fun b o hb e=>?_⟩;have hb1:b≠s.heap.objs.size:=gz hb;have hb2:b≠(s.heap.push (vd w)).objs.size:=by
     rw [pf];exact gz (g0o hb)
    exact hm.heap b o (by simp only [mh,n9,g06,g21,g69];exact⟨hb1,hb2⟩) (gc _ (gc _ e))
   ·cases r₂ with
    | error e=>exact hr₂
    | ok fl₂=>
     cases fl₂ with
     | ret r=>
      obtain⟨rfl,h',tk,t,ks,rfl,hS',hM',hi',htk',hk'⟩:=hr₂
      repeat (any_goals (first|assumption|wp_step))
      exact h _ _ _ _ hS' hM' hi' htk' hk'
     | _=>exact hr₂.elim
  | _=>exact hr.elim
end
theorem qc7:Manifest.owners.lookup (String.ofList ['r','o','t','a','r','e','t','i','_','t','e','s'].reverse)=some Manifest.sig_set_iterator:=by kernel_rfl
theorem slot_si_next:Slot "set_iterator" "__next__" "set_iterator.__next__" :=
 .of (owner:="set_iterator") (n:="__next__") (by rw [g2e,g15];kernel_rfl) (by decide +kernel) (by decide +kernel) (by decide +kernel)
  (by first|exact .inl (by decide +kernel)|exact .inr (by decide +kernel)) (by rw [g2p];kernel_rfl)
theorem q4e:entryFor table "set_iterator.__next__" = some Builtin.«set_iterator.__next__» :=entryFor_of_tree (by kernel_rfl)
theorem q4z(a:Value): argsOk "set_iterator.__next__" ⟨[a],[]⟩:=by
 unfold argsOk;rw [signature?_of (id:="set_iterator.__next__") (n:=['_','_','t','x','e','n','_','_']) (o:=['r','o','t','a','r','e','t','i','_','t','e','s']) (by kernel_rfl) qc7];kernel_rfl
theorem q50:Slot "set_iterator" "__iter__" "set_iterator.__iter__" :=
 .of (owner:="set_iterator") (n:="__iter__") (by rw [g2e,g15];kernel_rfl) (by decide +kernel) (by decide +kernel) (by decide +kernel)
  (by first|exact .inl (by decide +kernel)|exact .inr (by decide +kernel)) (by rw [g2p];kernel_rfl)
theorem qae:entryFor table "set_iterator.__iter__" = some Builtin.«dict_keyiterator.__iter__» :=
 entryFor_alias (id':="dict_keyiterator.__iter__") (by kernel_rfl) rfl (by decide +kernel) (by kernel_rfl)
theorem qc8(a:Value): argsOk "set_iterator.__iter__" ⟨[a],[]⟩:=by
 unfold argsOk;rw [signature?_of (id:="set_iterator.__iter__") (n:=['_','_','r','e','t','i','_','_']) (o:=['r','o','t','a','r','e','t','i','_','t','e','s']) (by kernel_rfl) qc7];kernel_rfl
theorem q8r:entryFor table "set.__iter__" = some Builtin.«frozenset.__iter__» :=
 entryFor_alias (id':="frozenset.__iter__") (by kernel_rfl) rfl (by decide +kernel) (by kernel_rfl)
def SIt(h:Heap)(it a:Addr)(slot i n ep:Nat): Prop:=∃o,h.get? it=some o/\o.cls=.type "set_iterator" /\ o.data=.fields #[.int slot 0,.int i 0,.ref a,.int n 0,.int ep 0]
def Row(w:World)(a:Addr)(ep:Nat)(ks vals:List (Nat×Nat)): Prop:=
 (byT w=true->(vals.map el).toArray=pickOrder (w.params.setOrder a ep) (ks.map el).toArray)/\(byT w=false->vals=ks)
theorem qra(w:World)(a:Addr)(ep:Nat)(ks:List (Nat×Nat)): ∃vals,Row w a ep ks vals/\vals.Perm ks:=by
 cases hb:byT w
 ·exact⟨ks,⟨by simp [hb],fun _=>rfl⟩,g4q _⟩
 ·have hp:=q3f (w.params.setOrder a ep) (ks.map el).toArray
  generalize hx:pickOrder (w.params.setOrder a ep) (ks.map el).toArray=xs at hp;have hp':xs.toList.Perm (ks.map el):=by simpa using hp
  obtain⟨ls,hl,e⟩:=q6k hp';refine⟨ls,⟨fun _=>?_,by simp [hb]⟩,hl⟩;rw [hx, <- e]
def SAt(w:World)(h:Heap)(a:Addr)(t:SetTable)(ks:List (Nat×Nat))(ep:Nat): Prop:=
 (∃o,h.get? a=some o/\o.ExactSet/\o.data=.set (ks.map el).toArray ep t)/\Tb t ks/\t.led=(!byT w)/\(t.mask=7->ks.length<8)
def Far(w:World)(t:SetTable)(slot i:Nat): Prop:=byT w=false->(∀x∈t.place.toList.take i,x<slot)/\(∀x∈t.place.toList.drop i,slot<=x)
section
variable{prog:Program}{w:World}{A:Around}{E:Value->Shared->Prop}{s:Shared}{a it:Addr}{t:SetTable}{ks vals:List (Nat×Nat)}{ep slot i:Nat}
theorem SAt.typeIs(S:SAt w s.heap a t ks ep): s.TypeIs (.ref a) "set" :=let⟨⟨o,ho,hc,_⟩,_⟩:=S; ⟨o,ho,hc.1⟩
theorem SIt.typeIs{n:Nat}(S:SIt s.heap it a slot i n ep): s.TypeIs (.ref it) "set_iterator" :=let⟨o,ho,hc,_⟩:=S; ⟨o,ho,hc⟩
theorem SAt.state{Q:(Array (Int×Value)×Nat×SetTable)->Shared->Prop}(S:SAt w s.heap a t ks ep)(h:Q ((ks.map el).toArray,ep,t) s): wpAny (model prog w) A (setState a) Q E s:=by
 obtain⟨⟨o,ho,hc,hd⟩,T,l,h7⟩:=S;exact g3u ho hd (q3w T h7) h
theorem SAt.keep{h h':Heap}(S:SAt w h a t ks ep)(e:∀o,h.get? a=some o->h'.get? a=some o): SAt w h' a t ks ep:=by
 obtain⟨⟨o,ho,r⟩,q⟩:=S;exact⟨⟨o,e o ho,r⟩,q⟩
theorem qln{Q:Value->Shared->Prop}(S:SAt w s.heap a t ks ep)(h:Q (.ref s.heap.objs.size) {s with heap:=s.heap.push {cls:=.type "set_iterator",data:=.fields #[.int 0 0,.int 0 0,.ref a,.int ks.length 0,.int ep 0]} }):
  wpAny (model prog w) A (pyIter (.ref a)) Q E s:=by
 refine g5b S.typeIs F.slot_set_iter (p6 F.slot_set_iter S.typeIs q8r ?_ (F.args_set_iter_1 _));unfold Builtin.«frozenset.__iter__»;refine g0 (m:=Builtin.Frozenset.slot0 "__iter__" _) (g9 ?_);refine g0 ?_;unfold Builtin.Frozenset.sizeOf setEntries;refine g0 (g0 (S.state (g9 (g9 ?_))));refine g0 ?_;unfold setDrawn setsByText;refine g0 (S.state ?_);dsimp only;refine g0 (g0 (g00 (g9 (g9 ?_))));refine tx (fun c=>?_) (fun _=>?_)
 ·have c':(!byT w&&(!t.plain&&decide ((ks.map el).toArray.size>1)))=true:=c
  rw [S.2.1.pl] at c';simp at c'
 refine g0 (g9 ?_);refine g0 ?_;unfold setEpoch;refine g0 (S.state (g9 ?_));have hsz:(ks.map el).toArray.size=ks.length:=by simp
 rw [hsz];refine g0 (pj (g9 ⟨_,rfl,"set_iterator",_,⟨_,gf _ rfl,rfl⟩,slot_si_next.lookup,?_⟩));exact h
theorem q7t{h:Heap}{o:Obj}{vs:Array Value}{x:Value}{j:Nat}(ho:h.get? it=some o)(hd:o.data=.fields vs):
  ∃o',(h.update it (Obj.mapFields (·.setIfInBounds j x))).get? it=some o'/\o'.cls=o.cls/\o'.data=.fields (vs.setIfInBounds j x):=
 ⟨_,g0q _ ho (Obj.isFreed_of_fields (g3a hd _)),Obj.cls_mapFields ..,g3a hd _⟩
theorem next_item{Q:Option Value->Shared->Prop}{p:Nat×Nat}(I:SIt s.heap it a slot i ks.length ep)(S:SAt w s.heap a t ks ep)(R:Row w a ep ks vals)(F:Far w t slot i)(hp:vals[i]? = some p)
  (h:∀h' slot',SIt h' it a slot' (i+1) ks.length ep->Far w t slot' (i+1)->Heap.SameBut it s.heap h'->Q (some (.int (p.1:Int) p.2)) {s with heap:=h'}) :
  wpAny (model prog w) A (pyNext (.ref it)) Q E s:=by
 obtain⟨o,ho,hc,hd⟩:=id I;unfold pyNext;refine g0 (g11 (u9 (name:=Str.ofString "__next__") I.typeIs slot_si_next
  (p6 slot_si_next I.typeIs q4e ?_ (q4z _))))
 unfold Builtin.«set_iterator.__next__»;refine g0 (m:=slotArgs "__next__" 0 _) (g9 ?_);dsimp only;refine g0 (g4s ho hd ?_);dsimp only;unfold setEntries;refine g0 (g0 (S.state (g9 ?_)));have hsz:(((ks.map el).toArray.size:Int) != (ks.length:Int))=false:=by simp
 dsimp only;rw [hsz];simp only [gh, ↓reduceIte,g0k];have key:∃slot',Far w t slot' (i+1)/\∀ {Q':Option (Value×Nat)->Shared->Prop} {E':Value->Shared->Prop},Q' (some (.int (p.1:Int) p.2,slot')) s->wpAny (model prog w) A.in1 (setNext a slot i ep) Q' E' s:=by
  cases hb:byT w
  ·have hv:vals=ks:=R.2 hb
   rw [hv] at hp;obtain⟨f1,f2⟩:=F hb;have hpl:t.place=(t.place.toList.take i++t.place.toList.drop i).toArray:=by simp
   have hi:i<ks.length:=(n8.mp hp).1;have hi':i<t.place.toList.length:=by rw [S.2.1.sz];exact hi
   have hbel:SetTable.below t.place slot=i:=by
    rw [hpl,below_at f1 f2];simp at hi' ⊢;lia
   have hpj:t.place[i]? = some (t.place.toList[i]):=by rw [<- g0m];exact ma hi'
   have hei:(ks.map el).toArray[i]? = some (el p):=by simp [hp]
   have hdr:t.place.toList.drop i=t.place.toList[i] :: t.place.toList.drop (i+1):=td hi';have htk:t.place.toList.take (i+1)=t.place.toList.take i++[t.place.toList[i]]:=by
    rw [g3l,ma hi'];rfl
   have hrs:=S.2.1.rs;rw [<- ph i t.place.toList,hdr] at hrs;obtain⟨r1,r2,r3⟩:=pb.mp hrs;refine⟨t.place.toList[i]+1,fun _=>⟨fun x hx=>?_,fun x hx=>?_⟩,fun {Q'} {E'} q=>?_⟩
   ·rw [htk] at hx
    rcases ny.mp hx with h|h
    ·have:=r3 x h _ (gm ..);lia
    ·have:=n9.mp h;lia
   ·have:=(g1r.mp r2).1 x hx;lia
   ·unfold setNext setsByText
    refine g0 (S.state ?_);dsimp only;refine g0 (g0 (g00 (g9 ?_)));refine tx (fun c=>?_) (fun _=>?_)
    ·have c':byT w=true:=c
     rw [hb] at c';exact absurd c' (by decide)
    refine tx (fun c=>?_) (fun _=>?_)
    ·have c':(!t.plain&&decide ((ks.map el).toArray.size>1))=true:=c
     rw [S.2.1.pl] at c';simp at c'
    have hld:t.led=true:=by rw [S.2.2.1,hb];rfl
    show wpAny _ _ ((do if !t.led && !(ks.map el).toArray.isEmpty then unsupported "set:maker-not-led" : Sem Unit) >>= fun _=>_) _ _ _;rw [hld];simp only [g12,g4m,gh, ↓reduceIte];refine g0 (g9 (g9 ?_));rw [hbel,hei,hpj];exact q
  ·have hv:=R.1 hb
   refine⟨slot,fun c=>?_,fun {Q'} {E'} q=>?_⟩
   ·rw [hb] at c;exact absurd c (by decide)
   ·unfold setNext setsByText
    refine g0 (S.state ?_);dsimp only;refine g0 (g0 (g00 (g9 ?_)));refine tx (fun _=>?_) (fun c=>absurd hb c);rw [mn (by simp)];refine g0 ?_;unfold setWalk setsByText;refine g0 (S.state ?_);dsimp only;refine g0 (g0 (g00 (g9 ?_)));refine tx (fun _=>?_) (fun c=>absurd hb c);refine g0 (g00 (g9 (g9 ?_)));have:(pickOrder (w.params.setOrder a ep) (ks.map el).toArray)[i]? = some (el p):=by rw [<- hv];simp [hp]
    show Q' (((pickOrder (w.params.setOrder a ep) (ks.map el).toArray)[i]?).map fun e=>(e.2,slot)) s;rw [this];exact q
 obtain⟨slot',F',kn⟩:=key;refine g0 (kn ?_);dsimp only;refine g0 (g3j ho hd (by simp) ?_);obtain⟨o1,ho1,hc1,hd1⟩:=q7t (x:=rawInt slot') (j:=0) ho hd;refine g0 (g3j (s:={s with heap:=s.heap.update it (Obj.mapFields (·.setIfInBounds 0 (rawInt slot')))}) ho1 hd1 (by simp) (g9 ⟨_,rfl,g9 (h _ slot' ?_ F' ((g08 ..).trans (g08 ..)))⟩));obtain⟨o2,ho2,hc2,hd2⟩:=q7t (x:=rawInt (i+1)) (j:=1) ho1 hd1;exact⟨o2,ho2,hc2.trans (hc1.trans hc),by rw [hd2];simp [rawInt]⟩
theorem next_end{Q:Option Value->Shared->Prop}(hh:A.handled=none)(hi:i=ks.length)(I:SIt s.heap it a slot i ks.length ep)(S:SAt w s.heap a t ks ep)(R:Row w a ep ks vals)(hvl:vals.length=ks.length)(F:Far w t slot i)
  (h:∀h',Heap.ExtBut it s.heap h'->Q none {s with heap:=h'}) :
  wpAny (model prog w) A (pyNext (.ref it)) Q E s:=by
 obtain⟨o,ho,hc,hd⟩:=id I;unfold pyNext;refine g0 (g11 (u9 (name:=Str.ofString "__next__") I.typeIs slot_si_next
  (p6 slot_si_next I.typeIs q4e ?_ (q4z _))))
 unfold Builtin.«set_iterator.__next__»;refine g0 (m:=slotArgs "__next__" 0 _) (g9 ?_);dsimp only;refine g0 (g4s ho hd ?_);dsimp only;unfold setEntries;refine g0 (g0 (S.state (g9 ?_)));have hsz:(((ks.map el).toArray.size:Int) != (ks.length:Int))=false:=by simp
 dsimp only;rw [hsz];simp only [gh, ↓reduceIte,g0k];have key:∀ {Q':Option (Value×Nat)->Shared->Prop} {E':Value->Shared->Prop},Q' none s->wpAny (model prog w) A.in1 (setNext a slot i ep) Q' E' s:=by
  intro Q' E' q;unfold setNext setsByText;refine g0 (S.state ?_);dsimp only;refine g0 (g0 (g00 (g9 ?_)));cases hb:byT w
  ·refine tx (fun c=>?_) (fun _=>?_)
   ·have c':byT w=true:=c
    rw [hb] at c';exact absurd c' (by decide)
   refine tx (fun c=>?_) (fun _=>?_)
   ·have c':(!t.plain&&decide ((ks.map el).toArray.size>1))=true:=c
    rw [S.2.1.pl] at c';simp at c'
   have hld:t.led=true:=by rw [S.2.2.1,hb];rfl
   show wpAny _ _ ((do if !t.led && !(ks.map el).toArray.isEmpty then unsupported "set:maker-not-led" : Sem Unit) >>= fun _=>_) _ _ _;rw [hld];simp only [g12,g4m,gh, ↓reduceIte];refine g0 (g9 (g9 ?_));obtain⟨f1,f2⟩:=F hb;have hpl:t.place=(t.place.toList.take i++t.place.toList.drop i).toArray:=by simp
   have hbel:SetTable.below t.place slot=i:=by
    rw [hpl,below_at f1 f2];have:=S.2.1.sz;simp at this ⊢;lia
   have hei:(ks.map el).toArray[i]? = none:=by simp [hi]
   rw [hbel,hei];exact q
  ·refine tx (fun _=>?_) (fun c=>absurd hb c)
   rw [mn (by simp)];refine g0 ?_;unfold setWalk setsByText;refine g0 (S.state ?_);dsimp only;refine g0 (g0 (g00 (g9 ?_)));refine tx (fun _=>?_) (fun c=>absurd hb c);refine g0 (g00 (g9 (g9 ?_)));have:(pickOrder (w.params.setOrder a ep) (ks.map el).toArray)[i]? = none:=by rw [<- R.1 hb];simp [hi,hvl]
   show Q' (((pickOrder (w.params.setOrder a ep) (ks.map el).toArray)[i]?).map fun e=>(e.2,slot)) s;rw [this];exact q
 refine g0 (key ?_);dsimp only;refine g0 (g3j ho hd (by simp) ?_);show wpAny _ _ (newExc (.type "StopIteration") [] >>= _) _ _ _;refine g0 ?_;simp only [newExc,newTuple];refine g0 (pj ?_ (by size_fits));refine g0 (m:=firstArgMember _ _) (g2w (a:=Value.none) (by first|rfl|(simp only [firstArgMember];rfl)) ?_);refine pj ?_ (by size_fits);simp only [raiseNew];refine g0 (g53 ?_)
 first|rw [show A.in1.handled=none from hh]|rw [hh]
 refine g0 (g9 (wpAny_throw ?_));refine g0 (g2r (T:="StopIteration") (b:=true) ⟨_,gf _ rfl,rfl⟩ isSubtype_stop ?_);exact g9 (h _ (((g08 ..).extBut.push _).push _))
theorem qiu(hh:A.handled=none)(hne:a≠it)(R:Row w a ep ks vals)(hvl:vals.length=ks.length):
  Walks prog w A it [it,a] [it] ks.length (fun i v=>∃p,vals[i]? = some p/\v=.int (p.1:Int) p.2) (fun i h=>∃slot,SIt h it a slot i ks.length ep/\SAt w h a t ks ep/\Far w t slot i) where
 sub:=fun b hb=>by simp at hb;simp [hb]
 frame:=fun i h h' st hk=>by
  obtain⟨slot,⟨o,ho,r⟩,S,F⟩:=st;exact⟨slot,⟨o,hk it (by simp) o ho,r⟩,S.keep (fun o e=>hk a (by simp) o e),F⟩
 item:=fun i s Q E hi st hQ=>by
  obtain⟨slot,I,S,F⟩:=st;have hi':i<vals.length:=by lia
  refine next_item I S R F (ma hi') fun h' slot' I' F' sb=>?_;exact hQ _ h' s.toks ⟨_,ma hi',rfl⟩ ⟨slot',I',S.keep (fun o e=>sb.extBut a o hne e),F'⟩ fun b o hb e=>sb.extBut b o (fun h=>hb (by simp [h])) e
 done:=fun s Q E st hQ=>by
  obtain⟨slot,I,S,F⟩:=st;exact next_end hh rfl I S R hvl F fun h' he=>hQ h' s.toks fun b o hb e=>he b o (fun h=>hb (by simp [h])) e
 self:=fun i s Q E st hQ=>by
  obtain⟨slot,I,S,F⟩:=st;refine g5b I.typeIs q50 (p6 q50 I.typeIs qae ?_ (qc8 _));show wpAny _ _ (ret (.ref it)) _ _ s;exact g9 ⟨_,rfl,"set_iterator",_,I.typeIs,slot_si_next.lookup,hQ⟩
end
end Js
namespace Js
open PySem PyProof.Rows
section
variable{prog:Program}{w:World}{A:Around}{E:Value->Shared->Prop}{s:Shared}{a:Addr}{t:SetTable}{ks vals:List (Nat×Nat)}{ep:Nat}
theorem qlo{Q:Bool->Shared->Prop}(hT:s.TypeIs (.ref a) "set")(h:Q false s): wpAny (model prog w) A (Builtin.List.listLengthHint (.ref a)) Q E s:=by
 unfold Builtin.List.listLengthHint;refine g0 (wpAny_specialOf hT F.slot_set_len.lookup ?_);generalize hid:("set.__len__" : String)=id0;dsimp only;rw [show splitId id0=some ("set","__len__") from by subst hid;decide +kernel];subst hid;dsimp only;refine g0 (g2r (T:="set") (b:=true) hT (by rw [g2p];kernel_rfl) ?_);refine tx (fun hab=>absurd hab (by decide)) (fun _=>?_);refine tx (fun _=>?_) (fun hab=>absurd (by decide +kernel) hab);refine g0 (g1a hT ?_);exact g9 h
def iv'(p:Nat×Nat): Value:=.int (p.1:Int) p.2
theorem qlp{vals:List (Nat×Nat)}{n:Nat}{acc:Array Value}(hn:vals.length=n)(h:ItemsOf (fun i v=>∃p,vals[i]? = some p/\v=.int (p.1:Int) p.2) acc n): acc.toList=vals.map iv':=by
 apply List.ext_getElem?;intro i
 by_cases hi:i<n
 ·have h1:i<acc.size:=by rw [h.1];exact hi
  have e:acc[i]? = some acc[i]:=g5f h1;obtain⟨p,hp,hv⟩:=h.2 i _ e;rw [g0m,e,mv,hp,hv];rfl
 ·rw [g0m,Array.getElem?_eq_none (by rw [h.1];omega),mv,g6c (by omega)];rfl
theorem qdf{Q:List Value->Shared->Prop}(hh:A.handled=none)(S:SAt w s.heap a t ks ep)
  (h:∀(s':Shared) (vals:List (Nat×Nat)),vals.Perm ks->(∀b o,b<s.heap.objs.size->s.heap.get? b=some o->s'.heap.get? b=some o)->s.heap.objs.size<=s'.heap.objs.size->s'.gens=s.gens->s'.drawn=s.drawn->s'.os=s.os->s.toks<=s'.toks->Q (vals.map iv') s') :
  wpAny (model prog w) A (collect (.ref a)) Q E s:=by
 have hla:a<s.heap.objs.size:=let⟨⟨o,ho,_⟩,_⟩:=S;gv ho
 unfold collect;refine g0 (wpAny_runValue (t9 F.entry_proto_collect ?_));rw [pd F.plain_proto_collect _];show wpAny _ A.in1 (newList [] >>= fun l=>again (.builtin "list.__iadd__" ⟨[l,.ref a],[]⟩)) _ _ s;refine g0 (pj ?_);refine g9 ⟨uf g3v _,t9 F.entry_list_iadd ?_⟩;rw [pd g3v _]
 let lo:Obj:={cls:=.type "list",data:=.seq ([]:List Value).toArray}
 have S1:SAt w (s.heap.push lo) a t ks ep:=S.keep fun o e=>gc _ e;show wpAny _ A.in1 (Builtin.List.listExtendWith (.ref s.heap.objs.size) (.ref a) (.ref s.heap.objs.size)) _ _ _;unfold Builtin.List.listExtendWith;refine g0 (g1a S1.typeIs ?_);have h1:Builtin.List.listSameRef (.ref s.heap.objs.size) (.ref a)=false:=by simp [Builtin.List.listSameRef];exact tq hla
 have h2:(Value.type "set" == Value.type "list")=false:=by decide
 have h3:(Value.type "set" == Value.type "tuple")=false:=by decide
 simp only [h1,h2,h3,Bool.or_false,gh,nz]
 let io:Obj:={cls:=.type "set_iterator",data:=.fields #[.int 0 0,.int 0 0,.ref a,.int ks.length 0,.int ep 0]}
 refine g0 (qln (s:={s with heap:=s.heap.push lo}) S1 ?_);have hsz1:(s.heap.push lo).objs.size=s.heap.objs.size+1:=pf ..;have S2:SAt w ((s.heap.push lo).push io) a t ks ep:=S1.keep fun o e=>gc _ e;refine g0 (nh (qlo (s:={s with heap:=(s.heap.push lo).push io}) S2.typeIs ?_));refine tx (fun _=>?_) (fun hab=>absurd (by decide +kernel) hab);refine g0 (g02 ?_);have hL1:((s.heap.push lo).push io).get? s.heap.objs.size=some lo:=gc _ (gf _ rfl);refine g0 ?_;show wpAny _ A.in1 (updateSeq s.heap.objs.size (·.push .none) >>= fun _=>updateSeq s.heap.objs.size (·.pop)) _ _ _;refine g0 (g1v (s:={s with heap:=(s.heap.push lo).push io}) hL1 rfl ?_);have hL2:=g0q (Obj.mapSeq (·.push Value.none)) hL1 rfl;refine g1v hL2 rfl ?_;have hL3:=g0q (Obj.mapSeq (·.pop)) hL2 rfl
 let h3':=(((s.heap.push lo).push io).update s.heap.objs.size (Obj.mapSeq (·.push Value.none))).update s.heap.objs.size (Obj.mapSeq (·.pop))
 have oth:∀b o,b≠s.heap.objs.size->((s.heap.push lo).push io).get? b=some o->h3'.get? b=some o:=
  fun b o hb e=>(tf _ _ (ng hb)).trans ((tf _ _ (ng hb)).trans e)
 obtain⟨vals,hR,hvp⟩:=qra w a ep ks;have hvl:vals.length=ks.length:=hvp.length_eq;have W:=(qiu (prog:=prog) (w:=w) (A:=A.in1) (it:=(s.heap.push lo).objs.size) (t:=t) (vals:=vals) (by simpa using hh) (by rw [hsz1];exact gz (g0o hla)) hR hvl).toS;have hIt:SIt h3' (s.heap.push lo).objs.size a 0 0 ks.length ep:=⟨io,oth _ _ (by rw [hsz1];exact g5t _) (gf _ rfl),rfl,rfl⟩
 have hn12:=S.2.1.n12;refine g9 ⟨uf F.plain_extend_loop _,codeAny_extend_loopS W (by rw [g2f];omega) s.heap.objs.size (by rw [hsz1];simp only [mh,g06,g21,g69];exact⟨gz (ue _),tq hla⟩) _ ks.length 0 _ _ _ rfl (ug _)
  ⟨0,hIt,S2.keep fun o e=>oth a o (gz hla) e,fun _=>⟨by simp,by simp⟩⟩ hL3 (ItemsOf.nil _) fun s' acc' c' hm hS' hacc=>?_⟩
 show wpAny _ A (load s.heap.objs.size >>= _) _ _ s';refine g0 (wpAny_load hS' ?_);refine g9 ?_;rw [qlp hvl hacc];refine h s' vals hvp (fun b o hb e=>hm.heap b o (by rw [hsz1];simp only [mh,g06,g21,g69];exact⟨gz hb,gz (g0o hb)⟩) (oth b o (gz hb) (gc _ (gc _ e)))) (g5i (gv hS')) hm.gens hm.drawn hm.os hm.toks
theorem qfz{Q:Value->Shared->Prop}(hh:A.handled=none)(S:SAt w s.heap a t ks ep)
  (h:∀(h':Heap) (tk:Nat) (c:Addr) (out:List Value) (ns':List Int) (e:Nat),IntsAre out ns'->ns'.Perm (ks.map fun p=>(p.1:Int))->ns'.Pairwise (· <= ·)->(∀b o,b<s.heap.objs.size->s.heap.get? b=some o->h'.get? b=some o) ->
   s.heap.objs.size<=c->h'.get? c=some (seqObj "list" out.toArray e)->s.toks<=tk->Q (.ref c) {s with heap:=h',toks:=tk}) :
  wpAny (model prog w) A (call (.builtin "sorted") [.ref a]) Q E s:=by
 refine Calls.call_function_entry kind_sorted plain_sorted entry_sorted (args_sorted1 _) ?_;unfold Builtin.«sorted»;refine g0 (m:=checkCount "sorted" 1 1 _) (g9 ?_);have hn12:=S.2.1.n12;refine g0 (qdf (A:=A.in1) (by simpa using hh) S fun s1 vals hp hk hz hg hd ho ht=>?_);have hvl:vals.length=ks.length:=hp.length_eq;refine g0 (g40 ?_);have hoL:(s1.heap.push (seqObj "list" (vals.map iv').toArray 0)).get? s1.heap.objs.size=some (seqObj "list" (vals.map iv').toArray 0):=gf _ rfl;have hI:IntsAre (vals.map iv') (vals.map fun p=>(p.1:Int)):=by
  clear hoL hvl hp
  induction vals with
  | nil=>exact .nil
  | cons p l ih=>exact .cons _ _ ih
 refine g0 (nh (p6 slot_list_sort ⟨_,hoL,rfl⟩ entry_list_sort (list_sort_tree (s:={s1 with heap:=s1.heap.push (seqObj "list" (vals.map iv').toArray 0)}) hoL hI (by simp;omega) fun out ns' a1 a2 a3=>⟨_,rfl,?_⟩) (args_list_sort _)));refine g9 ⟨_,rfl,?_⟩;obtain⟨h1,g1,d1,t1,o1⟩:=s1;dsimp only at hk hz hg hd ho ht hoL;subst hg;subst hd;subst ho;have hz1:(h1.push (seqObj "list" (vals.map iv').toArray 0)).objs.size=h1.objs.size+1:=pf ..;have e1:=g1d hoL (fun _=> #[]);have e2:=gc (seqObj "tuple" (vals.map iv').toArray 0) e1;have e3:=gc (seqObj "list" #[] 0) e2;have e4:=g1d e3 (fun _=>out);refine h (sortedHeap (h1.push (seqObj "list" (vals.map iv').toArray 0)) h1.objs.size (vals.map iv') out) t1 h1.objs.size out.toList ns' _ a1 (a2.trans (hp.map _)) a3 (fun b ob hb e=>?_) hz (by unfold sortedHeap;simpa using e4) ht;have nb:b≠h1.objs.size:=gz (gu hb hz);unfold sortedHeap;refine(tf _ _ (ng nb)).trans ?_;refine gc _ (gc _ ?_);refine(tf _ _ (ng nb)).trans ?_;exact gc _ (hk b ob hb e)
end
end Js
namespace DL
open PySem PySem.Spec PyProof.Rows L2
variable[Lam]
def q2x:List D->Option (List Nat)
 | []=>some []
 | .int i :: r=>if 0<=i/\i<12 then(q2x r).map (i.toNat :: ·) else none
 | _ :: _=>none
def qg0:D->D->Option (List D)
 | .tup ds,.tup es=>(q2x ds).bind fun a=>(q2x es).bind fun b=>some (((List.range 12).filter fun n=>decide (n∈a\/n∈b)).map fun n=>D.int (n:Nat))
 | _,_=>none
def qg1(f g:FE): FA:=fun ρ =>(f ρ).bind fun x=>(g ρ).bind fun y=>qg0 x y
def q3x(w:World)(a:Addr)(ns:List Nat): HO:=.ext fun h=>∃t ks,Js.SI w h a t ks/\Js.MR t ks/\∀n,n∈ks.map Prod.fst↔n∈ns
def qg2(w:World)(a:Addr)(ns:List Nat): HO:=.ext fun h=>∃t ks,Js.SI w h a t ks/\(t.mask=7->ks.length<8)/\∀n,n∈ks.map Prod.fst↔n∈ns
def qtr(K:Frag)(w:World): List V->Hp->VK->Prop:=fun xs H Q=>∃F ds ns,Same F H/\RepL K F [.tup ds] xs/\q2x ds=some ns/\∀a,H a=none->Q (.ref a) (upd H a (q3x w a ns))
def rOr(w:World): R2:=fun x y H Q=>∃a b ns ms,x=.ref a/\y=.ref b/\a≠b/\H a=some (q3x w a ns)/\H b=some (q3x w b ms)/\∀c,H c=none->Q (.ref c) (upd H c (qg2 w c (ns++ms)))
def qsv(w:World): List V->Hp->VK->Prop:=fun xs H Q=>∃a ns,xs=[.ref a]/\H a=some (qg2 w a ns)/\∀c,H c=none->Q (.ref c) (upd H c (.lst (((List.range 12).filter fun n=>decide (n∈ns)).map fun n=>V.int (n:Nat))))
omit [Lam] in
theorem q9n{K:Frag}{F:Hp}: ∀ {ds:List D} {ys:List V} {its:List Value} {ns:List Nat},q2x ds=some ns->RepL K F ds ys->Vals ys its->∃qs:List (Nat×Nat),its=qs.map Js.iv/\(∀p∈qs,p.1<12)/\qs.map Prod.fst=ns
 | [],ys,its,ns,h,k,r=>by
  cases h;cases k.nil_inv;cases r;exact⟨[],rfl,by simp,rfl⟩
 | .int i :: ds,ys,its,ns,h,k,r=>by
  unfold q2x at h
  split at h
  ·rename_i hi
   obtain⟨ms,h1,rfl⟩:=m8.mp h;obtain⟨x,ys',rfl,a1,a2⟩:=k.cons_inv;cases rep_int.mp a1;cases r with
   | cons b1 b2=>
    obtain⟨qs,e1,e2,e3⟩:=q9n h1 a2 b2;obtain⟨tk,rfl⟩:=b1;refine⟨(i.toNat,tk) :: qs,?_,?_,by simp [e3]⟩
    ·rw [e1,gj]
     congr 1
     show _=Value.int ((i.toNat:Nat):Int) tk;rw [g2y hi.1]
    ·intro p hp
     rcases mh.mp hp with rfl|hp
     ·show i.toNat<12
      lia
     ·exact e2 p hp
  ·cases h
 | .non :: _,_,_,_,h,_,_=>by cases h
 | .bl _ :: _,_,_,_,h,_,_=>by cases h
 | .str _ :: _,_,_,_,h,_,_=>by cases h
 | .tup _ :: _,_,_,_,h,_,_=>by cases h
 | .lst _ :: _,_,_,_,h,_,_=>by cases h
 | .dct _ _ :: _,_,_,_,h,_,_=>by cases h
 | .dtt _ _ :: _,_,_,_,h,_,_=>by cases h
 | .obj _ :: _,_,_,_,h,_,_=>by cases h
 | .exc _ :: _,_,_,_,h,_,_=>by cases h
section
variable{X:Cx}
theorem qiv(hc:X.calm=true): jt X (.type "set") (qtr X.K X.w):=fun pins s σ H xs us Q I rv ⟨F,ds,ns,fh,rl,hn,q⟩=>by
 obtain⟨x,rfl,rx⟩:=rep1 rl;obtain⟨a,ys,rfl,k1,k2⟩:=rep_tup.mp rx;obtain⟨u,rfl,ru⟩:=vals1 rv;cases ru;obtain⟨its,r1,p1,hz⟩:=I.tuple (qj fh k1);obtain⟨qs,rfl,hq,rfl⟩:=q9n hn k2 r1;refine Js.q8q qs hq (I.ok.hd hc) p1 fun h' tk t ks S M m ht old=>?_;have hnn:H s.heap.objs.size=none:=I.hok.fresh (gw _);obtain⟨o,ep,ho,hx,hd⟩:=id S.ob;refine⟨.ref _,_,I.laid (t':=tk) (a:=s.heap.objs.size) (o:=q3x X.w s.heap.objs.size (qs.map Prod.fst)) (fun b ob qb=>old b ob (gv qb) qb) (gw _) ⟨⟨t,ks,S,M,m⟩,⟨o,ho⟩,fun h1 h2 ⟨t,ks,S,M,m⟩ e=>⟨t,ks,S.keep e,M,m⟩⟩,rfl,q _ hnn⟩
theorem qrb:OpR X (binaryOp .BitOr) (rOr X.w):=fun pins s σ H x y v u Q I rx ry ⟨a,b,ns,ms,e1,e2,hab,ha,hb,q⟩=>by
 subst e1;subst e2;cases rx;cases ry;obtain⟨⟨t,ks,S,M,m⟩,_,_⟩:=I.hok a _ ha;obtain⟨⟨t',ks',S',M',m'⟩,_,_⟩:=I.hok b _ hb;have m7:∀ {t:SetTable} {ks:List (Nat×Nat)},Js.MR t ks->t.mask=7->ks.length<8:=fun M e=>g1z fun c=>by
  have:=M.2 (by lia);lia
 refine Js.qsu hab S M.1 (m7 M) S' M'.1 (m7 M') fun h2 t2 ks2 old S2 h72 m2=>?_;have hnn:H s.heap.objs.size=none:=I.hok.fresh (gw _);obtain⟨o,ep,ho,hx,hd⟩:=id S2.ob;refine⟨.ref _,_,I.laid (t':=s.toks) (a:=s.heap.objs.size) (o:=qg2 X.w s.heap.objs.size (ns++ms)) (fun c ob qb=>old c ob (gv qb) qb) (gw _) ⟨⟨t2,ks2,S2,h72,fun n=>?_⟩,⟨o,ho⟩,fun h1 h2 ⟨t,ks,S,M,m⟩ e=>⟨t,ks,S.keep e,M,m⟩⟩,rfl,q _ hnn⟩;rw [m2 n,m n,m' n,ny]
theorem qoo(hc:X.calm=true): jt X (.builtin "sorted") (qsv X.w):=fun pins s σ H xs us Q I rv ⟨a,ns,e1,ha,q⟩=>by
 subst e1;obtain⟨u,rfl,ru⟩:=vals1 rv;cases ru;obtain⟨⟨t,ks,S,h7,m⟩,_,_⟩:=I.hok a _ ha;obtain⟨o,ep,ho,hx,hd⟩:=id S.ob;refine Js.qfz (I.ok.hd hc) ⟨⟨o,ho,hx,hd⟩,S.tb,S.ld,h7⟩ fun h' tk c out ns' e hI hp hs old hc' hget ht=>?_;have hnn:H c=none:=I.hok.fresh hc';have hL:ns'=((List.range 12).filter fun n=>decide (n∈ns)).map fun n:Nat=>(n:Int):=by
  refine q4v (hp.trans ?_) hs ?_
  ·have:(ks.map Prod.fst).Perm ((List.range 12).filter fun n=>decide (n∈ns)):=by
    refine(g57 S.tb.nd (g0v _ g2u)).mpr fun n=>?_;rw [g0h,uo,g16, <- m n];refine⟨fun h=>⟨?_,h⟩,fun h=>h.2⟩;obtain⟨p,hp,rfl⟩:=ni.mp h;exact S.tb.lt p hp
   have h2:=this.map fun n:Nat=>(n:Int)
   rw [nj] at h2;exact h2
  ·rw [g0d]
   refine g3t (fun {a b} h=>?_) (g0v _ (g3y (n:=12)));lia
 subst hL;have vo:=q10 hI;rw [nj] at vo;refine⟨.ref c,_,I.laid (t':=tk) (a:=c) (o:=.lst (((List.range 12).filter fun n=>decide (n∈ns)).map fun n=>V.int (n:Nat))) (fun b ob qb=>old b ob (gv qb) qb) hc' ⟨?_,out,e,vo,hget⟩,rfl,q _ hnn⟩;rw [mj];exact mq (ur _ _) (jd (by simp;decide))
theorem qop{a b:Expr}{f g:FE}{p p1 p2 q1 q2 q3 pos:Pos}(hc:X.calm=true)(hgs:Gl X "sorted")(hms:X.mg "sorted" = none)(hgt:Gl X "set")(hmt:X.mg "set" = none)(ha:PE X a (tD X.K f))(hb:PE X b (tD X.K g))
  (s1:starEach [a] X.env=(false,eval a X.env) :: starEach [] X.env:=by rfl) (s2:starEach [b] X.env=(false,eval b X.env) :: starEach [] X.env:=by rfl)
  (s3:starEach [.BinOp (.Call (.Name "set" p1) [a] [] q1) .BitOr (.Call (.Name "set" p2) [b] [] q2) q3] X.env=(false,eval (.BinOp (.Call (.Name "set" p1) [a] [] q1) .BitOr (.Call (.Name "set" p2) [b] [] q2) q3) X.env) :: starEach [] X.env:=by rfl)
  (h1:∀pos,(backTo pos (starEach [] X.env)).any (·.1)=false:=by intro _;rfl) :
  PE X (.Call (.Name "sorted" p) [.BinOp (.Call (.Name "set" p1) [a] [] q1) .BitOr (.Call (.Name "set" p2) [b] [] q2) q3] [] pos) (tL X.K (qg1 f g)):=by
 refine j9 (q3l (qoo hc) hgs hms boot_sorted (wy (qmr qrb (q4i (qiv hc) hgt hmt (T:="set") (by rfl) (wy ha q1y s1) (he:=s1) (hpl:=h1 _)) (q4i (qiv hc) hgt hmt (T:="set") (by rfl) (wy hb q1y s2) (he:=s2) (hpl:=h1 _))) q1y s3) (he:=s3) (hpl:=h1 _)) fun σ H Q ⟨F0,H0,F, ρ,ds,r,hf,q⟩=>?_;obtain⟨x,hx,hf⟩:=gd.mp hf;obtain⟨y,hy,hj⟩:=gd.mp hf;unfold qg0 at hj
 split at hj
 ·rename_i xs ys
  obtain⟨ns,hn,hj⟩:=gd.mp hj;obtain⟨ms,hm,hj⟩:=gd.mp hj;cases hj;refine⟨F0,H0,F, ρ,.tup xs,r,hx,fun v F1 H1 g1 r1=>?_⟩;refine⟨F1,xs,ns,g1.fh,.cons r1 .nil,hn,fun c1 hc1=>?_⟩;have g2:Grow F1 H1 F1 (upd H1 c1 (q3x X.w c1 ns)):=Grow.own g1.fh hc1;refine⟨F0,H0,F1, ρ,.tup ys,r.grow (g1.trans g2),hy,fun u F3 H3 g3 r3=>?_⟩;refine⟨F3,ys,ms,g3.fh,.cons r3 .nil,hm,fun c2 hc2=>?_⟩;have g4:Grow F3 H3 F3 (upd H3 c2 (q3x X.w c2 ms)):=Grow.own g3.fh hc2;have e1:H3 c1=some (q3x X.w c1 ns):=g3.hh.ext _ _ qq;have hne:c1≠c2:=jg e1 hc2;refine⟨c1,c2,ns,ms,rfl,rfl,hne,by rw [qk hne];exact e1,qq,fun c3 hc3=>?_⟩;have g5:Grow F3 (upd H3 c2 (q3x X.w c2 ms)) F3 (upd (upd H3 c2 (q3x X.w c2 ms)) c3 (qg2 X.w c3 (ns++ms))):=Grow.own g4.fh hc3;refine⟨c3,ns++ms,rfl,qq,fun c4 hc4=>?_⟩;have g6:=Grow.own (o:=.lst (((List.range 12).filter fun n=>decide (n∈ns++ms)).map fun n=>V.int (n:Nat))) g5.fh hc4;have gg:=g1.trans (g2.trans (g3.trans (g4.trans (g5.trans g6))));refine q c4 _ F3 _ gg (g5.fh.free hc4) ((g1.trans (g2.trans (g3.trans (g4.trans g5)))).hh.free hc4) qq ?_
  ·have e:((List.range 12).filter fun n=>decide (n∈ns++ms))=(List.range 12).filter fun n=>decide (n∈ns\/n∈ms):=by
    congr 1;funext n;simp [ny]
   rw [e];have:=(RepL.ints (K:=X.K) (H:=F3) (ns:=((List.range 12).filter fun n=>decide (n∈ns\/n∈ms)).map fun n:Nat=>(n:Int)) (xs:=((List.range 12).filter fun n=>decide (n∈ns\/n∈ms)).map fun n=>V.int (n:Nat))).mpr (by rw [nj];rfl);rw [nj] at this;exact this
 ·cases hj
end
end DL
namespace Js
open PySem
open Sem (wp)
theorem qc9:typeLookup (.type "list") "keys" = pure none:=by rw [g2e,g15];kernel_rfl
theorem q7u:typeLookup (.type "list") "__getattr__" = pure none:=by rw [g2e,g15];kernel_rfl
section
variable{prog:Program}{w:World}{A:Around}{E:Value->Shared->Prop}{s:Shared}{a:Addr}
theorem qiw{xs:Array Value}{n:Nat}{u:Tok}{Q:Value->Shared->Prop}{sl:Array (Option Value)}(hx:s.heap.get? a=some {cls:=.type "list",dict:=none,data:=.seq xs n,slots:=sl})(hh:A.handled=none)
  (h:∀h' tk e,Heap.NewAttrErr s.heap h' e (.ref a) "keys" -> E (.ref e) {s with heap:=h',toks:=tk}) :
  wpAny (model prog w) A (call (.builtin "list.__getattribute__") [.ref a,.str "keys" u]) Q E s:=by
 refine p6 g3f ⟨_,hx,rfl⟩ F.entry_list_ga ?_ (F.args_list_getattribute_2 _ _);obtain⟨hp,g,d,tk,os⟩:=s;have hT:(⟨hp,g,d,tk,os⟩:Shared).TypeIs (.ref a) "list" :=⟨_,hx,rfl⟩
 have f4:=qc9;unfold Builtin.«object.__getattribute__»
 repeat (any_goals (first|assumption|wp_step))
 exact wpAny_raiseAttrError (by simpa using hh) (fun h' tk e x=>h h' tk e x) (attrMsg_fits (by decide +kernel) (by size_fits))
theorem qix{xs:Array Value}{n:Nat}{Q:Option Value->Shared->Prop}{sl:Array (Option Value)}(hx:s.heap.get? a=some {cls:=.type "list",dict:=none,data:=.seq xs n,slots:=sl})(hh:A.handled=none)
  (h:∀h' tk,(∀b o,s.heap.get? b=some o->h'.get? b=some o)->Q none {s with heap:=h',toks:=tk}) :
  wpAny (model prog w) A (getAttr? (.ref a) "keys") Q E s:=by
 obtain⟨hp,g,d,tk,os⟩:=s;have hT:(⟨hp,g,d,tk,os⟩:Shared).TypeIs (.ref a) "list" :=⟨_,hx,rfl⟩
 have f1:=sub_AttributeError;have f3:=g3f.lookup;have f4:=g3f.bind (.ref a);have f5:=q7u;unfold getAttr? getAttrBy? getAttrBy
 repeat (any_goals (first|assumption|((with_reducible show wpAny _ _ (call (Value.builtin "list.__getattribute__") _ _) _ _ _);refine qiw hx (by first|exact hh|simpa using hh) fun h' tk' e x=>?_)|wp_step))
 obtain⟨t',u',he⟩:=x.there
 repeat (any_goals (first|assumption|wp_step))
 exact h _ _ x.keeps
end
end Js
namespace Js
open PySem
theorem q2q:entryFor table "dict.update.loop" = some Builtin.«dict.update.loop» :=entryFor_of_tree (by kernel_rfl)
theorem y6:plainId "dict.update.loop" = true:=by decide +kernel
abbrev TK(prog:Program)(w:World):=tupleKind (intKind prog w)
structure Prs(prog:Program)(w:World)(h:Heap)(vs:List Value)(ps:List (List Int×Addr×Value)): Prop where
 len:vs.length=ps.length
 pair:∀(i:Nat) (p:List Int×Addr×Value),ps[i]? = some p->∃q,vs[i]? = some (.ref q)/\h.IsTuple q #[.ref p.2.1,p.2.2]
 key:∀p∈ps,(TK prog w).is h p.1 p.2.1
theorem q0o{prog:Program}{w:World}{h h':Heap}{k:List Int}{a:Addr}(x:(TK prog w).is h k a)(e:∀o,h.get? a=some o->h'.get? a=some o): (TK prog w).is h' k a:=by
 obtain⟨o,items,n,ho,r⟩:=x;exact⟨o,items,n,e o ho,r⟩
section
variable{prog:Program}{w:World}{A:Around}{R:Result->Shared->Prop}
theorem qiy{vs:List Value}{ps:List (List Int×Addr×Value)}{N I S L:Addr}(hu:A.units+1<cLine)(hh:A.in1.handled=none)(hSN:N<=S)(hIN:N<=I)(hLN:L<N)(hSI:S≠I)(h0:Heap)(hN:∀b o,h0.get? b=some o->b<N)(P0:Prs prog w h0 vs ps)(hl0:h0.IsList L vs.toArray)(hnd:(ps.map (·.1)).Nodup)(hz:ps.length<=sizeLine):
  ∀(k i:Nat) (s:Shared) (j:Int) (tj:Tok),ps.length-i=k->i<=ps.length->s.heap.IsListIter I L i->(∀b o,h0.get? b=some o->s.heap.get? b=some o)->s.heap.DictOfH (TK prog w) S (ps.take i) ->
   (∀s',s'.gens=s.gens->s'.drawn=s.drawn->s'.os=s.os->s.toks<=s'.toks->(∀b o,h0.get? b=some o->s'.heap.get? b=some o)->s'.heap.DictOfH (TK prog w) S ps->R (.ok (.ret .none)) s') ->
   codeAny (model prog w) A (.builtin "dict.update.loop" ⟨[.ref S,.ref I,.int j tj,.none],[]⟩) R s:=by
 intro k
 induction k with
 | zero=>
  intro i s j tj hk hi hit hkeep hd hR;have hin:i=ps.length:=by lia
  subst hin;refine t9 q2q ?_;rw [pd y6 _];have hls:s.heap.IsList L vs.toArray:=let⟨o,ho,r⟩:=hl0; ⟨o,hkeep L o ho,r⟩
  show wpAny _ A.in1 (pyNext (.ref I) >>= _) _ _ s;refine g0 (wpAny_pyNext_list_end hh hit hls (by simp [P0.len]) fun h' he=>?_);show wpAny _ A.in1 (Builtin.Dict.addKeywords S [] >>= _) _ _ _;refine g0 (g9 (g9 ?_));rw [ui (gw _)] at hd;refine hR _ rfl rfl rfl (gw _) (fun b o e=>he b o (gz (gu (hN b o e) hIN)) (hkeep b o e)) ?_;obtain⟨o,es,ep,ho,hc,hdd,hes,his,hn⟩:=hd;exact⟨o,es,ep,he S o hSI ho,hc,hdd,hes,fun x hx=>q0o (P0.key x hx) fun o' e=>he _ o' (gz (gu (hN _ o' e) hIN)) (hkeep _ o' e),hn⟩
 | succ k ih=>
  intro i s j tj hk hi hit hkeep hd hR;have hlt:i<ps.length:=by lia
  have hp:ps[i]? = some ps[i]:=ma hlt;obtain⟨q,hq,hqt⟩:=P0.pair i _ hp;have hkey:=P0.key _ (g26 hlt);generalize ps[i]=p at hp hq hqt hkey;refine t9 q2q ?_;rw [pd y6 _];have hls:s.heap.IsList L vs.toArray:=let⟨o,ho,r⟩:=hl0; ⟨o,hkeep L o ho,r⟩
  show wpAny _ A.in1 (pyNext (.ref I) >>= _) _ _ s;refine g0 (wpAny_pyNext_list_item hit hls (x:=.ref q) (by simpa using hq) fun h' hit' hs'=>?_);have keep1:∀b o,h0.get? b=some o->h'.get? b=some o:=fun b o e=>hs'.extBut b o (gz (gu (hN b o e) hIN)) (hkeep b o e);have hqt1:h'.IsTuple q #[.ref p.2.1,p.2.2]:=let⟨o,ho,r⟩:=hqt; ⟨o,keep1 q o ho,r⟩
  have hkey1:(TK prog w).is h' p.1 p.2.1:=q0o hkey fun o e=>keep1 _ o e;have hd1:h'.DictOfH (TK prog w) S (ps.take i):=by
   obtain⟨o,es,ep,ho,hc,hdd,hes,his,hn⟩:=hd;exact⟨o,es,ep,hs'.extBut S o hSI ho,hc,hdd,hes,fun x hx=>q0o (P0.key x (g1c hx)) fun o' e=>keep1 _ o' e,hn⟩
  dsimp only;refine g0 (nh ?_);refine g0 (g1n ?_);unfold Builtin.Dict.pairItems;obtain⟨oq,hoq,hcq,nq,hdq⟩:=hqt1;refine g0 (g1a (s:={s with heap:=h'}) (T:="tuple") ⟨oq,hoq,hcq⟩ ?_);rw [mi (by decide)];refine g0 (g03 (s:={s with heap:=h'}) hoq hdq (g9 ?_));dsimp only [Option.getD_some];refine nh ?_;have hnone:atKey (ps.take i) p.1=none:=by
   refine g5c fun jj pp e=>?_;have hjj:jj<i:=by
    have:=(n8.mp e).1;rw [p0] at this;lia
   have e':ps[jj]? = some (p.1,pp):=by rw [g20 hjj] at e;exact e
   have:=idxH_unique hnd e' (show ps[i]? = some (p.1,p.2) from hp);lia
  refine wpAny_dictSet_heap (s:={s with heap:=h'}) (show(TK prog w).room A.in1 from hu) hkey1 hd1 (fun h2 hd2 hs2=>?_) (by rw [p0];lia);rw [storedH_new hnone,show ps.take i++[(p.1,p.2.1,p.2.2)]=ps.take (i+1) by rw [g3l,hp];rfl] at hd2;have ne2:∀b o,h0.get? b=some o->b≠S:=fun b o e=>gz (gu (hN b o e) hSN);refine g9 ⟨uf y6 _,ih (i+1) _ _ _ (by lia) hlt ?_ (fun b o e=>?_) hd2 fun s' a1 a2 a3 a4 a5 a6=>?_⟩
  ·obtain⟨o,ho,r⟩:=hit'
   exact⟨o,hs2.extBut I o (ng hSI) ho,r⟩
  ·exact hs2.extBut b o (ne2 b o e) (keep1 b o e)
  ·exact hR s' a1 a2 a3 (mq (g24 _ _) a4) a5 a6
end
section
variable{prog:Program}{w:World}{A:Around}{E:Value->Shared->Prop}{s:Shared}
theorem q7v{L:Addr}{vs:List Value}{n0:Nat}{ps:List (List Int×Addr×Value)}{Q:Value->Shared->Prop}(hu:A.units+4<cLine)(hh:A.handled=none){sl:Array (Option Value)}(hL:s.heap.get? L=some {cls:=.type "list",dict:=none,data:=.seq vs.toArray n0,slots:=sl})(P0:Prs prog w s.heap vs ps)(hnd:(ps.map (·.1)).Nodup)(hz:ps.length<=sizeLine)
  (h:∀h' tk,(∀b o,s.heap.get? b=some o->h'.get? b=some o)->h'.DictOfH (TK prog w) s.heap.objs.size ps->Q (.ref s.heap.objs.size) {s with heap:=h',toks:=tk}) :
  wpAny (model prog w) A (call (.type "dict") [.ref L]) Q E s:=by
 refine callType_codes (Q₁:=fun obj s₁=>obj=.ref s.heap.objs.size/\s₁ = {s with heap:=s.heap.push {cls:=.type "dict",data:=.dict #[]} }) F.kt_called_dict (F.kt_typeCall_dict_1 _) F.entry_dict_init (kt_code_dict_new _ ⟨rfl,rfl⟩) ?_
 rintro obj s₁ ⟨rfl,rfl⟩
 let dO:Obj:={cls:=.type "dict",data:=.dict #[]}
 have hnew:(s.heap.push dO).DictOfH (TK prog w) s.heap.objs.size []:=Heap.DictOfH.new s.heap;have hTd:Shared.TypeIs {s with heap:=s.heap.push dO} (.ref s.heap.objs.size) "dict" :=⟨dO,gf _ rfl,rfl⟩
 have hL1:(s.heap.push dO).get? L=some {cls:=.type "list",dict:=none,data:=.seq vs.toArray n0,slots:=sl}:=gc _ hL;refine⟨hTd,F.args_dict_init_2 _ _,?_⟩;unfold Builtin.«dict.__init__»;refine g0 ?_;unfold Builtin.Dict.selfAndRest;refine g0 (g46 hTd ?_);show wpAny _ _ (pure (s.heap.objs.size,[Value.ref L])) _ _ _;refine g9 ?_;show wpAny _ _ (Builtin.Dict.updateFrom "dict.__init__" s.heap.objs.size (.ref L) [] .none) _ _ _;unfold Builtin.Dict.updateFrom;refine g0 (g1a (T:="list") ⟨_,hL1,rfl⟩ ?_);rw [mi (by decide)];refine g0 (qix (s:={s with heap:=s.heap.push dO}) hL1 (by simpa using hh) fun h1 tk1 k1=>?_);rw [mi (by rfl)];refine g0 (g02 ?_);have hL2:h1.IsList L vs.toArray:=⟨_,k1 _ _ hL1,rfl,n0,rfl⟩
 refine g0 (g1g (s:={s with heap:=h1,toks:=tk1}) hL2 ?_)
 let iO:Obj:={cls:=.type "list_iterator",data:=.fields #[.ref L,.int 0 0]}
 have hz1:s.heap.objs.size+1<=h1.objs.size:=gv (k1 _ _ (gf s.heap (o:=dO) rfl));have hLs:L<s.heap.objs.size:=gv hL;have keep:∀b o,s.heap.get? b=some o->(h1.push iO).get? b=some o:=fun b o e=>gc _ (k1 b o (gc _ e));have hd0:(h1.push iO).DictOfH (TK prog w) s.heap.objs.size []:=by
  obtain⟨o,es,ep,ho,hc,hdd,hes,his,hn⟩:=hnew;exact⟨o,es,ep,gc _ (k1 _ _ ho),hc,hdd,hes,fun x hx=>(nomatch hx),hn⟩
 refine g9 ⟨uf y6 _,qiy (A:=A.in1) (N:=s.heap.objs.size) (I:=h1.objs.size) (S:=s.heap.objs.size) (L:=L) (vs:=vs) (ps:=ps) (by show A.units+1+1<cLine;lia) (by simpa using hh) (gw _) (g1f hz1) hLs (gz hz1) s.heap (fun b o e=>gv e) P0 ⟨_,hL,rfl,n0,rfl⟩ hnd hz
  ps.length 0 _ _ _ rfl (ug _) ⟨iO,gf _ rfl,rfl,rfl⟩ keep hd0 fun s' a1 a2 a3 a4 a5 a6=>?_⟩
 obtain⟨h',g',d',tk',os'⟩:=s';dsimp only at a1 a2 a3 a4 a5 a6;subst a1;subst a2;subst a3;exact⟨rfl,h h' tk' a5 a6⟩
end
end Js
namespace DL
open PySem PySem.Spec PyProof.Rows L2
variable[Lam]
def q29:List D->Option (List (List Int)×List D)
 | []=>some ([],[])
 | .tup [.tup kd,v] :: r=>(xb kd).bind fun k=>(q29 r).map fun p=>(k :: p.1,v :: p.2)
 | _ :: _=>none
def qal:List D->Option D
 | [.lst ds]=>(q29 ds).bind fun p=>if p.1.Nodup/\ds.length<=lim then some (.dtt p.1 p.2) else none
 | _=>none
def q2y:D->D->Option D
 | .tup kd,.dtt ks _=>(xb kd).map fun k=>.bl (decide (k∈ks))
 | _,_=>none
omit [Lam] in
theorem ints_rep{K:Frag}{F:Hp}: ∀ {kd:List D} {xs:List V} {k:List Int},xb kd=some k->RepL K F kd xs->xs=k.map V.int
 | [],xs,k,h,r=>by cases h;exact r.nil_inv
 | .int i :: kd,xs,k,h,r=>by
  obtain⟨k',h1,rfl⟩:=m8.mp h;obtain⟨x,ys,rfl,a1,a2⟩:=r.cons_inv;rw [rep_int.mp a1,ints_rep h1 a2];rfl
 | .non :: _,_,_,h,_=>by cases h
 | .bl _ :: _,_,_,h,_=>by cases h
 | .str _ :: _,_,_,h,_=>by cases h
 | .tup _ :: _,_,_,h,_=>by cases h
 | .lst _ :: _,_,_,h,_=>by cases h
 | .dct _ _ :: _,_,_,h,_=>by cases h
 | .dtt _ _ :: _,_,_,h,_=>by cases h
 | .obj _ :: _,_,_,h,_=>by cases h
 | .exc _ :: _,_,_,h,_=>by cases h
omit [Lam] in
theorem items_int{P:Program}{w:World}: ∀ {k:List Int} {us:List Value},Vals (k.map V.int) us->ItemsAre (intKind P w) k us
 | [],_,r=>by cases r;exact .nil
 | i :: k,_,r=>by
  cases r with
  | cons h t=>
   obtain⟨tk,rfl⟩:=h;exact .cons (g4j _ _ _ _) (items_int t)
section
variable{X:Cx}{pins:List (Addr×Obj)}{σ : St}{H F:Hp}{s:Shared}
omit [Lam] in
theorem q2a(I:Inv X pins σ H s)(fh:Same F H){k:List Int}{a:Addr}(h:SqT X.K F a (k.map V.int)): (Js.TK X.prog X.w).is s.heap k a:=by
 obtain⟨its,r,⟨o,ho,hc,n,hd⟩,_⟩:=I.tuple (qj fh h);exact⟨o,its.toArray,n,ho,hc,hd,by simpa using items_int r⟩
omit [Lam] in
theorem qca (I:Inv X pins σ H s) (fh:Same F H):∀ {ds:List D} {ys:List V} {its:List Value} {ks:List (List Int)} {vs:List D},q29 ds=some (ks,vs)->RepL X.K F ds ys->Vals ys its ->
  ∃(ps:List (List Int×Addr×Value)) (ws:List V),Js.Prs X.prog X.w s.heap its ps/\ps.map (·.1)=ks/\(∀p∈ps,SqT X.K F p.2.1 (p.1.map V.int))/\Vals ws (ps.map fun p=>p.2.2)/\RepL X.K F vs ws
 | [],ys,its,ks,vs,h,k,r=>by
  cases h;cases k.nil_inv;cases r;exact⟨[],[],⟨rfl,fun i p e=>by simp at e,fun p hp=>(nomatch hp)⟩,rfl,fun p hp=>(nomatch hp),.nil,.nil⟩
 | d :: ds,ys,its,ks,vs,h,k,r=>by
  unfold q29 at h
  split at h
  ·cases ‹_ :: _=[]›
  ·rename_i kd v r' e
   injection e with e1 e2
   subst e1;subst e2;obtain⟨kk,h1,h2⟩:=gd.mp h;obtain⟨p,h3,h4⟩:=m8.mp h2;cases h4;obtain⟨x,ys',rfl,a1,a2⟩:=k.cons_inv;obtain⟨q,qs,rfl,b1,b2⟩:=rep_tup.mp a1;obtain⟨x1,z1,rfl,c1,c2⟩:=b2.cons_inv;obtain⟨x2,z2,rfl,d1,d2⟩:=c2.cons_inv;cases d2.nil_inv;obtain⟨ka,kxs,rfl,k1,k2⟩:=rep_tup.mp c1;rw [ints_rep h1 k2] at k1;cases r with
   | cons r1 r2=>
    cases r1;obtain⟨uu,hu,⟨oq,hoq,hcq,nq,hdq⟩,_⟩:=I.tuple (qj fh b1);cases hu with
    | cons u1 u2=>
     cases u1;cases u2 with
     | cons u3 u4=>
      cases u4;rename_i uv;obtain⟨ps,ws,P,e1,e2,e3,e4⟩:=qca I fh h3 a2 r2;refine⟨(kk,ka,uv) :: ps,x2 :: ws,⟨by simp [P.len],fun i p e=>?_,fun p hp=>?_⟩,by simp [e1],fun p hp=>?_,.cons u3 e3,.cons d1 e4⟩
      ·cases i with
       | zero=>
        simp only [g3q,g3r] at e;subst e;exact⟨q,rfl,oq,hoq,hcq,nq,hdq⟩
       | succ i=>exact P.pair i p (by simpa using e)
      ·rcases mh.mp hp with rfl|hp
       ·exact q2a I fh k1
       ·exact P.key p hp
      ·rcases mh.mp hp with rfl|hp
       ·exact k1
       ·exact e2 p hp
  ·cases h
end
section
variable{X:Cx}
theorem qoq(hc:X.calm=true)(hu:X.A.units+64<cLine): jt X (.type "dict") (rC X.K qal):=fun pins s σ H xs us Q I rv ⟨F,ds,d,fh,rl,ho,q⟩=>by
 unfold qal at ho
 split at ho
 ·rename_i ds'
  obtain⟨⟨ks,vs⟩,h1,h2⟩:=gd.mp ho
  split at h2
  ·rename_i hok
   cases h2;obtain⟨x,rfl,rx⟩:=rep1 rl;obtain⟨a,ys,rfl,k1,k2⟩:=rep_lst.mp rx;obtain⟨u,rfl,ru⟩:=vals1 rv;cases ru;obtain⟨its,r1,⟨o,n,e1,e2,e3,e4⟩,hz⟩:=I.list (fh.seq k1);obtain⟨oc,od,oda,osl⟩:=o;dsimp only at e2 e3 e4;subst e2;subst e3;subst e4;obtain⟨ps,ws,P,p1,p2,p3,p4⟩:=qca I fh h1 k2 r1;have hl:ps.length<=lim:=by
    rw [<- P.len, <- r1.length, <- k2.length];exact hok.2
   refine Js.q7v (by lia) (I.ok.hd hc) e1 P (by rw [p1];exact hok.1) (jd hl) fun h' tk old hd=>?_;have hnn:H s.heap.objs.size=none:=I.hok.fresh (gw _);obtain⟨o,es,ep,g1,g2,g3,g4,_,g5⟩:=hd;have de:DE s.heap.objs.size ps ep h':=⟨o,es,g1,g2,g3,g4⟩
   refine⟨.ref _,_,I.laid (t':=tk) (a:=s.heap.objs.size) (o:=.ext (DE s.heap.objs.size ps ep)) old (gw _) ⟨de,⟨o,g1⟩,fun h1 h2 ⟨o,es,z,r⟩ e=>⟨o,es,e o z,r⟩⟩,rfl,?_⟩;have g:=Grow.new (o:=.ext (DE s.heap.objs.size ps ep)) fh hnn;refine q _ _ _ g (rep_dtt.mpr ⟨_,ps,ws,ep,rfl,qq,p1,hok.1,jd hl,g1j.mpr (tq (q8k I)),fun x hx=>qj g.ff (p2 x hx),p3,p4.mono g.ff⟩)
  ·cases h2
 ·cases ho
theorem qiz(hu:X.A.units+64<cLine): OpR X (compareOp .In) (rD X.K q2y):=fun pins s σ H x y v u Q I rx ry ⟨F,d1,d2,d,fh,r1,r2,ho,q⟩=>by
 unfold q2y at ho
 split at ho
 ·rename_i kd ks vs
  obtain⟨k,h1,rfl⟩:=m8.mp ho;obtain⟨b,kxs,rfl,k1,k2⟩:=rep_tup.mp r1;obtain⟨a,xs,ys,ep,rfl,e1,e2,e3,e4,e5,e6,e7,e8⟩:=rep_dtt.mp r2;cases rx;cases ry;rw [ints_rep h1 k2] at k1;obtain⟨⟨o,es,g1,g2,g3,g4⟩,_,_⟩:=(show ObjOk X.prog X.w H s.heap a _ from I.hok a _ (fh _ _ e1))
  have dd:s.heap.DictOfH (Js.TK X.prog X.w) a xs:=⟨o,es,ep,g1,g2,g3,g4,fun x hx=>q2a I fh (e6 x hx),by rw [e2];exact e3⟩
  refine wpAny_in_heap (g4z (by lia)) (q2a I fh k1) e5 dd ?_;have:(atKey xs k).isSome=decide (k∈ks):=by
   rw [<- e2,g04,g01]
   constructor
   ·intro h
    obtain⟨p,hp⟩:=g19.mp h;obtain⟨z,hz,rfl⟩:=m8.mp hp;have:=List.find?_some hz;exact ni.mpr ⟨z,List.mem_of_find?_eq_some hz,by simpa using this⟩
   ·intro h
    obtain⟨z,hz,rfl⟩:=ni.mp h;obtain⟨i,hi⟩:=g45.mp hz;rw [atKey_of_get (by rw [e2];exact e3) (show xs[i]? = some (z.1,z.2) from hi)]
    rfl
  rw [this];exact⟨.bl _,H,I.tok _,rfl,q _ F H (.refl fh) (rep_bl.mpr rfl)⟩
 ·cases ho
end
section
variable{X:Cx}
end
section
variable{X:Cx}{e:Expr}{pos:Pos}{f:FE}
end
section
variable{X:Cx}{N':List Str}{scope:Scope}{cap:List (Option Nat)}{tg iter elt:Expr}{ifs:List Expr}{it:FA}{b:FB}{c:FT}{f:FE}{pos:Pos}
theorem zm(hc:X.calm=true)(co:CapOkC X N' scope cap)(fr:q7g b cap)(hi:PI X tg iter (tDI X.K it))
  (hg:∀cl C s₀ H₀ fp,PG (j4 X N' scope cl C s₀ H₀ fp) tg (tDG X.K b)) (hcs:∀cl C s₀ H₀ fp,q1c (j4 X N' scope cl C s₀ H₀ fp) ifs (tDT X.K c)) (he:∀cl C s₀ H₀ fp,PE (j4 X N' scope cl C s₀ H₀ fp) elt (tD X.K f))
  (hs:∀x,foldedSetIterable iter X.env x=pure x:=by intro _;rfl):PE X (.ListComp elt [⟨tg,iter,ifs,0⟩] scope pos) (tL X.K (qw it cap b c f)):=
 j9 (qkf hc co hi hg hcs he hs) fun σ H Q h=>qi5 fr h
end
def qn3 (outer:List (Str×NameKind)) (N N':List Str) (scope:Scope) (cap:List (Option Nat)):Bool:=
 scope.names.all (fun y=> !(y.2 == .cell) || (scope.names.lookup y.1==some .cell))&&(scope.names.all (fun y=> !(y.2 == .local) || (scope.names.lookup y.1==some .local))&&(scope.names.all (fun y=> !(y.2 == .free) || (outer.lookup y.1==some .cell) || (outer.lookup y.1==some .free)) &&
  (cap.length==N'.length&&(List.range cap.length).all fun i=>match(cap[i]?).join with
   | none=>true
   | some j=>match N'[i]? with
    | none=>false
    | some x=>N[j]? == some x&&scope.names.lookup x==some .free)))
omit [Lam] in
theorem zb{X:Cx}{N':List Str}{scope:Scope}{cap:List (Option Nat)}(hk:scope.kind=.function)(h:qn3 X.env.scope.names X.N N' scope cap=true): CapOkC X N' scope cap:=by
 unfold qn3 at h;simp only [m6,mr] at h;obtain⟨h1,h2,h3,h4,h5⟩:=h;refine⟨hk,fun y hy e=>?_,fun y hy e=>?_,fun y hy e=>?_,by simpa using h4,fun i j e=>?_⟩
 ·have:=h1 y hy;rw [e] at this;simpa using this
 ·have:=h2 y hy;rw [e] at this;simpa using this
 ·have:=h3 y hy
  rw [e] at this;simp only [beq_self_eq_true,g12,g6h,g1b,g49] at this;exact this
 ·have hi:i<cap.length:=(n8.mp e).1
  have:=h5 i (uo.mpr hi);rw [e] at this;simp only [g42] at this
  split at this
  ·cases this
  ·rename_i x hx
   simp only [m6,g49] at this;exact⟨x,hx,this.1,this.2⟩
end DL
namespace Js
open PySem PyProof.Rows
section
variable{prog:Program}{w:World}{A:Around}{E:Value->Shared->Prop}{s:Shared}
end
end Js
namespace DL
open PySem PySem.Spec PyProof.Rows L2
variable[Lam]
section
variable{X:Cx}{pos:Pos}
def q2r:D->D->Option D
 | .dtt ks vs,.tup kd=>(xb kd).bind fun k=>if k∈ks then vs[ks.idxOf k]? else none
 | _,_=>none
theorem qrc(hu:X.A.units+64<cLine): IxR X (rD X.K q2r):=by
 intro value slice pins s σ H x y v u Q I rx ry ⟨F,d1,d2,d,fh,r1,r2,ho,q⟩ hs;unfold q2r at ho
 split at ho
 ·rename_i ks vs kd
  obtain⟨k,h1,ho⟩:=gd.mp ho
  split at ho
  ·rename_i hk
   obtain⟨b,kxs,rfl,k1,k2⟩:=rep_tup.mp r2;obtain⟨a,xs,ys,ep,rfl,e1,e2,e3,e4,e5,e6,e7,e8⟩:=rep_dtt.mp r1;cases rx;cases ry;rw [ints_rep h1 k2] at k1;obtain⟨⟨o,es,g1,g2,g3,g4⟩,_,_⟩:=(show ObjOk X.prog X.w H s.heap a _ from I.hok a _ (fh _ _ e1))
   have dd:s.heap.DictOfH (Js.TK X.prog X.w) a xs:=⟨o,es,ep,g1,g2,g3,g4,fun x hx=>q2a I fh (e6 x hx),by rw [e2];exact e3⟩
   obtain⟨w,ew,rw'⟩:=e8.get ho;obtain⟨uu,eu,ruu⟩:=e7.get ew;rw [mv] at eu;obtain⟨z,hz,rfl⟩:=m8.mp eu;have hzk:z.1=k:=by
    have h2:(xs.map (·.1))[ks.idxOf k]? = some z.1:=by rw [mv,hz];rfl
    rw [e2,ma (g50 hk),List.getElem_idxOf] at h2;exact(md h2).symm
   refine tail_any (ops:=[.ref a,.ref b]) (T:="dict") ⟨o,g1,g2.1⟩ PySem.F.slot_dict_getitem.lookup ?_ hs;refine wpAny_getItem_heap (g4z (by lia)) (q2a I fh k1) dd (p:=z.2) ?_ ⟨w,H,I.tok _,ruu,q w F H (.refl fh) rw'⟩;rw [<- hzk];exact atKey_of_get (by rw [e2];exact e3) (show xs[ks.idxOf k]? = some (z.1,z.2) from hz)
  ·cases ho
 ·cases ho
theorem qj0{a b:Expr}{f g:FE}(hu:X.A.units+64<cLine)(ha:PE X a (tD X.K f))(hb:PE X b (tD X.K g))(hs:q8d b:=by intro _ _;rfl): PE X (.Subscript a b pos) (tD X.K (eOp q2r f g)):=j9 (qms (qrc hu) ha hb hs) fun σ H Q h=>two h
end
abbrev DX:=List (List Int×Addr×Value)
section
variable{X:Cx}{pos:Pos}{tg e:Expr}
end
section
variable{X:Cx}{pos:Pos}
theorem qj1:PE X (.Dict [] [] pos) (fun σ H Q=>∀a,H a=none->(a==sysModules)=false->Q (.ref a) (upd H a (.ext (DE a [] 0)))):=fun pins s σ H Q I q=>by
 have hn:H s.heap.objs.size=none:=I.hok.fresh (gw _);have hb:=g1j.mpr (ng (gz (q8k I)));refine wpAny_Dict_empty ⟨.ref s.heap.objs.size,_,I.laid (a:=s.heap.objs.size) (o:=.ext (DE s.heap.objs.size [] 0)) (t':=s.toks) (fun _ _ z=>gc _ z) (gw _)
  ⟨⟨_, #[],gf _ rfl,⟨rfl,rfl,rfl⟩,rfl,rfl⟩,⟨_,gf _ rfl⟩,fun h1 h2 ⟨o,es,z,r⟩ e=>⟨o,es,e o z,r⟩⟩,rfl,q _ hn hb⟩
def qn4(K:Frag): V->V->V->Hp->(Hp->Prop)->Prop:=fun o i v H Q=>∃a b k xs ep,o=.ref a/\i=.ref b/\H a=some (.ext (DE a xs ep))/\SqT K H b (k.map V.int)/\(∀x∈xs,SqT K H x.2.1 (x.1.map V.int)) /\
 (xs.map (·.1)).Nodup/\k∉xs.map (·.1)/\xs.length<=sizeLine/\∀u ep',RelV v u->(∃h,DE a xs ep h)->Q (upd H a (.ext (DE a (xs++[(k,b,u)]) ep')))
theorem qdg{xs:DX}{k:List Int}{b:Addr}{u:Value}(h:k∉xs.map (·.1)): storedH xs k b u=xs++[(k,b,u)]:=by
 have hn:atKey xs k=none:=g5c fun jj pp e=>h (ni.mpr ⟨_,uh e,rfl⟩);exact storedH_new hn b u
theorem qor(hu:X.A.units+64<cLine): qpr X (qn4 X.K):=by
 intro pins s σ H o i v ov iv u Q I ro ri rv h;obtain⟨a,b,k,xs,ep,rfl,rfl,e1,k1,e6,nd,hk,hz,q⟩:=h;cases ro;cases ri;obtain⟨⟨o,es,g1,g2,g3,g4⟩,_,_⟩:=(show ObjOk X.prog X.w H s.heap a _ from I.hok a _ e1)
 have dd:s.heap.DictOfH (Js.TK X.prog X.w) a xs:=⟨o,es,ep,g1,g2,g3,g4,fun x hx=>q2a I (.refl _) (e6 x hx),nd⟩
 refine wpAny_setItem_heap (g4z (by lia)) (q2a I (.refl _) k1) dd (fun h' dd' sb=>?_) hz;rw [qdg hk] at dd';obtain⟨o',es',ep',z1,z2,z3,z4,_,_⟩:=dd';refine⟨_,I.write (x:=a) (e:=a) (o:=.ext (DE a (xs++[(k,b,u)]) ep')) (by rw [e1];trivial) (.inl rfl) (fun c w hc e=>(sb.2 c hc).trans e) ⟨_,z1⟩ ?_,q u ep' rv ⟨_,o,es,g1,g2,g3,g4⟩⟩;exact⟨⟨o',es',z1,z2,z3,z4⟩,⟨o',z1⟩,fun h1 h2 ⟨o,es,z,r⟩ e=>⟨o,es,e o z,r⟩⟩
omit [Lam] in
theorem qlq{a c:Addr}{xs:DX}{ep:Nat}{h:Heap}{b:Str}(d:DE a xs ep h)(k:h.CodeRec (.ref c) b): a≠c:=fun z=>by
 subst z;obtain⟨o,es,g1,g2,g3,g4⟩:=d;obtain⟨c,o',vs,t,e0,e1,e2,_⟩:=k;cases e0;rw [g1] at e1;cases e1;rw [g3] at e2;cases e2
theorem qlr{H:Hp}(t:Tab H){p:Addr}{o:HO}{xs:DX}{ep:Nat}(h:H p=some (.ext (DE p xs ep)))(hx:∃h,DE p xs ep h): Tab (upd H p o):=fun q hq=>by
 obtain⟨ps,e,ht,k⟩:=t q hq;obtain⟨h0,hd⟩:=hx;refine⟨ps,by rw [qk (fun z=>by subst z;rw [h] at e;cases e)];exact e,ht,fun pos cv z=>?_⟩;obtain⟨c, φ,e1,e2,e3⟩:=k pos cv z;refine⟨c, φ,e1,?_,e3⟩
 by_cases hc:c=p
 ·subst hc
  rw [h] at e2;cases e2;exact absurd rfl (qlq hd (e3 h0 hd))
 ·rw [qk hc];exact e2
end
section
variable{K:Frag}{F0 H0 F H F' H':Hp}{σ : St}{ρ : Rho}
theorem q13{i:Nat}(no:xn ρ): xn (ρ.set i none):=fun j b h=>by
 by_cases q:j=i
 ·subst q
  obtain⟨z,_⟩:=qu h;cases z
 ·rw [m5 (ng q)] at h
  exact no j b h
theorem qrd(r:RS K F0 H0 F H σ ρ)(no:xn ρ)(i:Nat)(v:Option V): RS K F0 H0 F H (σ.set i v) (ρ.set i none) where
 t0:=r.t0
 g:=r.g
 len:=by rw [g05,g05];exact r.len
 fz:=fun j e h1=>by
  by_cases q:j=i
  ·subst q
   obtain⟨z,l⟩:=qu h1;cases z
  ·rw [m5 (ng q)] at h1 ⊢
   exact r.fz j e h1
 ow:=fun i ds h=>(vq (q13 no) h).elim
 dj:=fun i j ds es a _ h=>(vq (q13 no) h).elim
 od:=fun i ds h=>(vt (q13 no) h).elim
 o1:=fun i j ds es h=>(vt (q13 no) h).elim
theorem qn5(r:RS K F0 H0 F H σ ρ)(no:xn ρ){p:Addr}{o:HO}(h1:F p=none)(h2:H0 p=none)(h3:Tab (upd H p o)): RS K F0 H0 F (upd H p o) σ ρ where
 t0:=r.t0
 g :=⟨r.g.ff,⟨fun b u e=>by rw [qk (fun z=>by subst z;rw [h2] at e;cases e)];exact r.g.hh.lst b u e,fun b u e=>by rw [qk (fun z=>by subst z;rw [h2] at e;cases e)];exact r.g.hh.ext b u e,fun {b} e=>by
   by_cases z:b=p
   ·subst z;exact h2
   ·rw [qk z] at e;exact r.g.hh.free e,fun _=>h3,fun b u e=>by rw [qk (fun z=>by subst z;rw [h2] at e;cases e)];exact r.g.hh.dk b u e⟩,fun b u e=>by rw [qk (fun z=>by subst z;rw [h1] at e;cases e)];exact r.g.fh b u e,r.g.nw⟩
 len:=r.len
 fz:=r.fz
 ow:=fun i ds h=>(vq no h).elim
 dj:=fun i j ds es a _ h=>(vq no h).elim
 od:=fun i ds h=>(vt no h).elim
 o1:=fun i j ds es h=>(vt no h).elim
theorem qre(r:RS K F0 H0 F H σ ρ)(no:xn ρ){p:Addr}{o:HO}(h1:F p=none)(h2:H0 p=none)(h3:H p=some o): RS K F0 H0 (upd F p o) H σ ρ where
 t0:=r.t0
 g :=⟨r.g.ff.trans (yq h1),r.g.hh,fun b u e=>by
   by_cases q:b=p
   ·subst q;rw [qq] at e;cases e;exact h3
   ·rw [qk q] at e;exact r.g.fh b u e,fun b hb=>by
   by_cases q:b=p
   ·subst q;exact .inr h2
   ·rw [qk q] at hb;exact r.g.nw b hb⟩
 len:=r.len
 fz:=fun i d e=>let⟨v,e1,e2⟩:=r.fz i d e; ⟨v,e1,e2.mono (yq h1)⟩
 ow:=fun i ds h=>(vq no h).elim
 dj:=fun i j ds es a _ h=>(vq no h).elim
 od:=fun i ds h=>(vt no h).elim
 o1:=fun i j ds es h=>(vt no h).elim
theorem qrf(r:RS K F0 H0 F H σ ρ){i:Nat}{d:D}{v:V}(hv : σ[i]? = some (some v))(h:Rep K F d v): RS K F0 H0 F H σ (ρ.set i (some (.fz d))):=by
 have e : σ.set i (some v) = σ :=by
  apply List.ext_getElem?;intro j
  by_cases q:j=i
  ·subst q
   rw [hv,g1o (n8.mp hv).1]
  ·rw [m5 (ng q)]
 have:=r.set i h;rw [e] at this;exact this
structure GD(K:Frag)(F H:Hp)(a:Addr)(ks:List (List Int))(vs:List D): Prop where
 ex:∃xs ys ep,H a=some (.ext (DE a xs ep))/\xs.map (·.1)=ks/\(∀x∈xs,SqT K F x.2.1 (x.1.map V.int))/\Vals ys (xs.map fun x=>x.2.2)/\RepL K F vs ys
 f:F a=none
theorem GD.grow{a:Addr}{ks:List (List Int)}{vs:List D}(d:GD K F H a ks vs)(g:Grow F H F' H'): GD K F' H' a ks vs:=by
 obtain⟨⟨xs,ys,ep,e1,e2,e3,e4,e5⟩,f⟩:=d;exact⟨⟨xs,ys,ep,g.hh.ext _ _ e1,e2,fun x hx=>qj g.ff (e3 x hx),e4,e5.mono g.ff⟩,q2o g f e1⟩
theorem GD.rep{a:Addr}{ks:List (List Int)}{vs:List D}(d:GD K F H a ks vs)(hs:(a==sysModules)=false)(nd:ks.Nodup)(hl:ks.length<=sizeLine): ∃o,H a=some o/\Rep K (upd F a o) (.dtt ks vs) (.ref a):=by
 obtain⟨⟨xs,ys,ep,e1,e2,e3,e4,e5⟩,f⟩:=d;have s:=yq (o:=.ext (DE a xs ep)) f;exact⟨_,e1,rep_dtt.mpr ⟨a,xs,ys,ep,rfl,qq,e2,nd,by rw [<- mj (·.1),e2];exact hl,hs,fun x hx=>qj s (e3 x hx),e4,e5.mono s⟩⟩
theorem GD.push{a b:Addr}{ks:List (List Int)}{vs:List D}{k:List Int}{dv:D}{v:V}{u:Value}{xs:DX}{ys:List V}{ep':Nat}(f:F a=none)(e2:xs.map (·.1)=ks)(e3:∀x∈xs,SqT K F x.2.1 (x.1.map V.int))(e4:Vals ys (xs.map fun x=>x.2.2))(e5:RepL K F vs ys)
  (hb:SqT K F b (k.map V.int)) (hv:Rep K F dv v) (hu:RelV v u):GD K F (upd H a (.ext (DE a (xs++[(k,b,u)]) ep'))) a (ks++[k]) (vs++[dv]):=by
 refine⟨⟨xs++[(k,b,u)],ys++[v],ep',qq,by rw [ud,e2];rfl,fun x hx=>?_,?_,e5.append (.cons hv .nil)⟩,f⟩
 ·rcases ny.mp hx with hx|hx
  ·exact e3 x hx
  ·rw [n9.mp hx];exact hb
 ·rw [ud]
  exact e4.append (.cons hu .nil)
def qcb:D->Option (List Int)
 | .tup kd=>xb kd
 | _=>none
def q7w:List D->Option (List (List Int))
 | []=>some []
 | d :: ds=>(qcb d).bind fun k=>(q7w ds).map (k :: ·)
def q3y(f:FE)(ρ : Rho)(j:Nat): List D->Option (List D)
 | []=>some []
 | d :: ds=>(f (ρ.set j (some (.fz d)))).bind fun v=>(q3y f ρ j ds).map (v :: ·)
def q6l(ρ : Rho)(j:Nat)(ds:List D): Rho:=match ds.getLast? with
 | some d=> ρ.set j (some (.fz d))
 | none=> ρ
def qj2(ρ : Rho): Bool:= ρ.all fun b=>match b with
 | some (.ow _)=>false
 | some (.od _)=>false
 | _=>true
omit [Lam] in
theorem qls(h:qj2 ρ = true): xn ρ :=fun i b e=>by
 have:=mr.mp h _ (uh e);cases b with
 | fz d=>exact⟨d,rfl⟩
 | ow _=>cases this
 | od _=>cases this
omit [Lam] in
theorem q9o:∀ {ds:List D} {ks:List (List Int)},q7w ds=some ks->ks.length=ds.length/\∀(k:Nat) (d:D),ds[k]? = some d->∃q,ks[k]? = some q/\qcb d=some q
 | [],ks,h=>by cases h;exact⟨rfl,fun k d e=>by cases e⟩
 | d :: ds,ks,h=>by
  obtain⟨q,h1,h2⟩:=gd.mp h;obtain⟨r,h3,rfl⟩:=m8.mp h2;obtain⟨e1,e2⟩:=q9o h3;refine⟨by rw [p7,p7,e1],fun k x e=>?_⟩;cases k with
  | zero=>cases e;exact⟨q,rfl,h1⟩
  | succ k=>exact e2 k x e
omit [Lam] in
theorem q9p{f:FE}{j:Nat}: ∀ {ds vs:List D},q3y f ρ j ds=some vs->vs.length=ds.length/\∀(k:Nat) (d:D),ds[k]? = some d->∃q,vs[k]? = some q/\f (ρ.set j (some (.fz d)))=some q
 | [],ks,h=>by cases h;exact⟨rfl,fun k d e=>by cases e⟩
 | d :: ds,ks,h=>by
  obtain⟨q,h1,h2⟩:=gd.mp h;obtain⟨r,h3,rfl⟩:=m8.mp h2;obtain⟨e1,e2⟩:=q9p h3;refine⟨by rw [p7,p7,e1],fun k x e=>?_⟩;cases k with
  | zero=>cases e;exact⟨q,rfl,h1⟩
  | succ k=>exact e2 k x e
end
abbrev qsw:TE:=fun σ H Q=>∀a,H a=none->(a==sysModules)=false->Q (.ref a) (upd H a (.ext (DE a [] 0)))
theorem take_snoc{α : Type}{l:List α}{k:Nat}{x : α}(h:l[k]? = some x): l.take (k+1)=l.take k++[x]:=by rw [g3l,h];rfl
section
variable{X:Cx}{pos:Pos}
theorem qos{K:Frag}{F:Hp}{d:D}{q:List Int}{x:V}(hq:qcb d=some q)(hr:Rep K F d x): ∃b,x=.ref b/\SqT K F b (q.map V.int):=by
 unfold qcb at hq
 split at hq
 ·obtain⟨b,xs,rfl,h1,h2⟩:=rep_tup.mp hr
  rw [ints_rep hq h2] at h1;exact⟨b,rfl,h1⟩
 ·cases hq
end
section
variable{X:Cx}{pos:Pos}{e:Expr}
end
end DL
namespace Srt
open PySem PyProof.Rows
section
variable{prog:Program}{w:World}{A:Around}{E:Value->Shared->Prop}{s:Shared}{κ : SortKind}{G:Value->Prop}{lt:Value->Value->Bool}
theorem qdh{l:Addr}{vs:List Value}{Q:List Value->Shared->Prop}(hl:s.heap.IsTuple l vs.toArray)
  (hQ:Q vs {s with heap:=(s.heap.push (seqObj "list" #[] 0)).update s.heap.objs.size (Obj.mapSeq fun x=>x++vs.toArray)}) (hn:vs.length<=sizeLine):wpAny (model prog w) A (collect (.ref l)) Q E s:=by
 have hlt:l<s.heap.objs.size:=by obtain⟨o,ho,_⟩:=hl;exact gv ho
 unfold collect;refine g0 (wpAny_runValue (t9 F.entry_proto_collect ?_));rw [pd F.plain_proto_collect _];show wpAny _ A.in1 (newList [] >>= fun x=>again (.builtin "list.__iadd__" ⟨[x,.ref l],[]⟩)) _ _ s;refine g0 (pj ?_);refine g9 ⟨uf g3v _,t9 F.entry_list_iadd ?_⟩;rw [pd g3v _];have h1:Builtin.List.listSameRef (.ref s.heap.objs.size) (.ref l)=false:=by simp [Builtin.List.listSameRef,tq hlt]
 show wpAny _ A.in1 (Builtin.List.listExtendWith (.ref s.heap.objs.size) (.ref l) (.ref s.heap.objs.size)) _ _ _;unfold Builtin.List.listExtendWith;have hl1:(s.heap.push {cls:=.type "list",data:=.seq ([]:List Value).toArray}).IsTuple l vs.toArray:=by obtain⟨o,ho,r⟩:=hl;exact⟨o,gc _ ho,r⟩
 have hT:Shared.TypeIs {s with heap:=s.heap.push {cls:=.type "list",data:=.seq ([]:List Value).toArray} } (.ref l) "tuple" :=by obtain⟨o,ho,hc,_⟩:=hl1;exact⟨o,ho,hc⟩
 refine g0 (g1a hT ?_);rw [mi (by simp)];obtain⟨o,ho,hc,n,hd⟩:=hl1;have hS:(s.heap.push {cls:=.type "list",data:=.seq ([]:List Value).toArray}).get? s.heap.objs.size=some (seqObj "list" #[] 0):=gf _ rfl;refine g0 (g4h ho hd ?_);refine g0 (g4h hS rfl ?_);rw [mn (by simp)];refine g0 (g1x hS rfl ?_ (ug _) (by simp;exact Nat.le_succ_of_le hn));refine g9 ?_;have e:=g1d hS fun x=>x++vs.toArray;refine g0 (wpAny_load e ?_);show wpAny _ _ (pure (#[]++vs.toArray).toList) _ _ _;rw [show((#[]:Array Value)++vs.toArray).toList=vs by simp];exact g9 hQ
theorem qdi{l:Addr}{vs:List Value}{Q:Value->Shared->Prop}(hl:s.heap.IsTuple l vs.toArray)(hz:vs.length<=sizeLine)
  (hkind:2<=vs.length->∀Q:SortKind->Shared->Prop,Q κ {s with heap:=ju (srtH s.heap vs) (s.heap.objs.size+1) vs}->wpAny (model prog w) A.in1.in1 (keyKind' vs.toArray) Q E {s with heap:=ju (srtH s.heap vs) (s.heap.objs.size+1) vs})
  (C:2<=vs.length->Cmp prog w A.in1.in1 {s with heap:=ju (srtH s.heap vs) (s.heap.objs.size+1) vs} κ G lt) (g:∀v∈vs,G v)
  (h:∀out:List Value,out.Perm vs->out.Pairwise (fun x y=>lt y x=false)->Q (.ref (s.heap.objs.size+1)) {s with heap:=sortedAll s.heap vs out.toArray}) :
  wpAny (model prog w) A (call (.builtin "sorted") [.ref l]) Q E s:=by
 refine Calls.call_function_entry kind_sorted plain_sorted entry_sorted (args_sorted1 _) ?_;unfold Builtin.«sorted»;refine g0 (m:=checkCount "sorted" 1 1 _) (g9 ?_);refine g0 (qdh hl ?_ hz);refine g0 (g40 ?_);have hsz:((s.heap.push (seqObj "list" #[] 0)).update s.heap.objs.size (Obj.mapSeq (· ++ vs.toArray))).objs.size=s.heap.objs.size+1:=by
  rw [t7,g0j]
 have hoL:(srtH s.heap vs).get? (s.heap.objs.size+1)=some (seqObj "list" vs.toArray 0):=by
  unfold srtH;rw [<- hsz];exact gf _ rfl
 show wpAny _ _ _ _ _ {s with heap:=srtH s.heap vs};rw [hsz];refine g0 (nh (p6 slot_list_sort ⟨_,hoL,rfl⟩ entry_list_sort (qif (κ := κ) (G:=G) (lt:=lt) hoL hz hkind C g fun out a1 a2=>⟨_,rfl,?_⟩) (args_list_sort _)));exact g9 ⟨_,rfl,h out a1 a2⟩
end
end Srt
namespace DL
open PySem PySem.Spec PyProof.Rows L2 Srt PySem.W
variable[Lam]
section
variable{X:Cx}{F H:Hp}{pos:Pos}
def q0p:List D->Option (List D)
 | [.tup ds]=>if q0x ds then some ((kc (ds.map fun d=>(d,d))).map Prod.snd) else none
 | _=>none
theorem qj3(hu:X.A.units+64<cLine): jt X (.builtin "sorted") (rCL X.K q0p):=fun pins s σ H xs us Q I rv ⟨F,ds,es,fh,rl,ho,q⟩=>by
 unfold q0p at ho
 split at ho
 ·rename_i ds
  split at ho
  ·rename_i hok
   cases ho;obtain⟨x,rfl,rx⟩:=rep1 rl;obtain⟨a,ys,rfl,k1,k2⟩:=rep_tup.mp rx;obtain⟨u,rfl,ru⟩:=vals1 rv;cases ru;obtain⟨its,r1,p1,hz⟩:=I.tuple (qj fh k1);obtain⟨T,t1,t2,t3,t4⟩:=qla k2 r1;have kds:∀d∈ds,kD d=true:=by
    unfold q0x at hok;rw [m6,m6] at hok;exact mr.mp hok.1.1
   have st:∀t∈T,q27 X.K F t.2.2 t.2.1:=fun t ht=>⟨kds _ (by rw [<- t3];exact g1m ht),t.1,t4 t ht⟩
   have hlen:its.length<=sizeLine:=by rw [<- r1.length];exact hz
   have keep:∀b o,s.heap.get? b=some o->(ju (srtH s.heap its) (s.heap.objs.size+1) its).get? b=some o:=fun b o qb=>by
    have hlt:b<s.heap.objs.size:=gv qb;unfold ju srtH;have z1:((s.heap.push (seqObj "list" #[] 0)).update s.heap.objs.size (Obj.mapSeq (· ++ its.toArray))).objs.size=s.heap.objs.size+1:=by rw [t7,g0j]
    have ne:∀k,b≠s.heap.objs.size+k:=fun k=>gz (gu hlt (g24 _ _));rw [u6 _ _ _ (by rw [g0j,t7,g0j,z1];exact ne 3),u6 _ _ _ (by rw [t7,g0j,z1];exact ne 2),g09 _ _ _ _ (ne 1),
     u6 _ _ _ (by rw [z1];exact ne 1),g09 _ _ _ _ (show b≠s.heap.objs.size from ne 0),u6 _ _ _ (show b≠s.heap.objs.size from ne 0)]
    exact qb
   have I6:Inv X pins σ H {s with heap:=ju (srtH s.heap its) (s.heap.objs.size+1) its}:=I.kept (t':=s.toks) keep;obtain⟨κ,hk,C⟩:=qn2 I6 fh X.A.in1.in1 (by show X.A.units+1+1+60<cLine;lia) (us:=its) (ks:=ds) (fun u hu=>by
    rw [<- t2] at hu;obtain⟨t,ht,rfl⟩:=ni.mp hu;exact⟨t.2.2,by rw [<- t3];exact g1m ht,st t ht⟩) hok
   refine qdi p1 hlen (fun h2 Q q=>hk h2 _ Q q) (fun _=>C) (fun v hv=>hv) fun out a1 a2=>?_;obtain⟨T',pT,eT⟩:=q9j (fun t:V×Value×D=>t.2.1) a1 t2.symm;have hT':∀t∈T',Rep X.K F t.2.2 t.1/\RelV t.1 t.2.1:=fun t ht=>t4 t (pT.mem_iff.mp ht);have hk':∀t∈T',keyOf X.K F t.2.1=t.2.2:=fun t ht=>q3u I fh (st t (pT.mem_iff.mp ht));have eD:T'.map (·.2.2)=(kc (ds.map fun d=>(d,d))).map Prod.snd:=by
    have e1:T'.map (fun t=>(t.2.2,t.2.2))=kc (ds.map fun d=>(d,d)):=by
     refine q6g ?_ ?_ ?_
     ·have:=pT.map (fun t:V×Value×D=>(t.2.2,t.2.2))
      rw [<- t3,nj];exact this
     ·rw [g0d]
      rw [eT,g0d] at a2;refine g25 (fun {x y} hx hy h=>?_) a2;rw [hk' x hx,hk' y hy] at h;exact h
     ·intro x hx y hy h1 h2
      obtain⟨d,hd,rfl⟩:=ni.mp hx;obtain⟨e,he,rfl⟩:=ni.mp hy;rw [lt_eq (kds d hd) (kds e he) h1 h2]
    rw [<- e1,nj]
    rfl
   have hn:H (s.heap.objs.size+1)=none:=I.hok.fresh (g17 _);have vo:Vals (T'.map (·.1)) out:=by
    rw [eT];clear eT eD pT hk'
    induction T' with
    | nil=>exact .nil
    | cons t T' ih=>exact .cons (hT' t gm).2 (ih fun t ht=>hT' t (gq _ ht))
   have ro:RepL X.K F (T'.map (·.2.2)) (T'.map (·.1)):=by
    clear eT eD pT hk' vo
    induction T' with
    | nil=>exact .nil
    | cons t T' ih=>exact .cons (hT' t gm).1 (ih fun t ht=>hT' t (gq _ ht))
   obtain⟨e,he⟩:=sortedAll_at s.heap its out.toArray;have ll:(T'.map (·.1)).length<=sizeLine:=by
    rw [mj,pT.length_eq, <- mj (f:=fun t:V×Value×D=>t.1) (as:=T),t1];exact hz
   refine⟨.ref (s.heap.objs.size+1),_,I.laid (t':=s.toks) (a:=s.heap.objs.size+1) (o:=.lst (T'.map (·.1))) (fun b ob q=>sortedAll_old q) (g17 _) ⟨ll,out,e,vo,he⟩,rfl,?_⟩;exact q _ _ F _ (Grow.own fh hn) (fh.free hn) hn qq (by rw [<- eD];exact ro)
  ·cases ho
 ·cases ho
end
end DL
namespace DL
open PySem PySem.Spec PyProof.Rows L2
variable[Lam]
section
variable{X:Cx}{N':List Str}{scope:Scope}{cap:List (Option Nat)}{tg iter elt:Expr}{ifs:List Expr}{it:FA}{b:FB}{c:FT}{f:FE}{pos:Pos}
theorem q6m{i:Nat}{x:Str}{px pe:Pos}(hc:X.calm=true)(hN:X.N.Nodup)(hx0:X.N[i]? = some x)(hx:X.env.scope.names.lookup x=some .local)(co:CapOkC X N' scope cap)(fr:q7g b cap)(hi:PI X tg iter (tDI X.K it))
  (hg:∀cl C s₀ H₀ fp,PG (j4 X N' scope cl C s₀ H₀ fp) tg (tDG X.K b)) (hcs:∀cl C s₀ H₀ fp,q1c (j4 X N' scope cl C s₀ H₀ fp) ifs (tDT X.K c)) (he:∀cl C s₀ H₀ fp,PE (j4 X N' scope cl C s₀ H₀ fp) elt (tD X.K f))
  (hsw:swapsWith (.ListComp elt [⟨tg,iter,ifs,0⟩] scope pe) (some (.Name x px)) pos.line X.env=pure true:=by rfl)
  (hs:∀x,foldedSetIterable iter X.env x=pure x:=by intro _;rfl):PS X (.Assign [.Name x px] (.ListComp elt [⟨tg,iter,ifs,0⟩] scope pe) pos) (tDS X.K (q0m i (qw it cap b c f))):=
 q06 (qdc hc hN hx0 hx co hi hg hcs he hsw hs) fun D σ H h=>qi5 fr (qmw h)
end
end DL
namespace Rv
open PySem PyProof.Rows
section
variable{prog:Program}{w:World}{A:Around}{E:Value->Shared->Prop}{s:Shared}{I:Addr}{fp wr:List Addr}{G:Array GenState->Array GenState->Prop}{n:Nat}{P:Nat->Value->Prop}{St:Nat->Shared->Prop}
end
end Rv
namespace DL
open PySem PySem.Spec PyProof.Rows L2
variable[Lam]
section
variable{X:Cx}{pos:Pos}{tg:Expr}
end
end DL
namespace Rv
open PySem PyProof.Rows
section
variable{prog:Program}{w:World}{A:Around}{s:Shared}{R:Result->Shared->Prop}
variable{I:Addr}{fp wr:List Addr}{G:Array GenState->Array GenState->Prop}{n:Nat}{P:Nat->Value->Prop}{St:Nat->Shared->Prop}
end
section
variable{prog:Program}{w:World}{A:Around}{E:Value->Shared->Prop}{s:Shared}
variable{I:Addr}{fp wr:List Addr}{G:Array GenState->Array GenState->Prop}{n:Nat}{P:Nat->Value->Prop}{St:Nat->Shared->Prop}
end
end Rv
namespace Js
open PySem
open Sem (wp)
theorem qdj:typeLookup (.type "tuple") "keys" = pure none:=by rw [g2e,g15];kernel_rfl
theorem q8s:typeLookup (.type "tuple") "__getattr__" = pure none:=by rw [g2e,g15];kernel_rfl
section
variable{prog:Program}{w:World}{A:Around}{E:Value->Shared->Prop}{s:Shared}{a:Addr}
theorem qg3{xs:Array Value}{n:Nat}{u:Tok}{Q:Value->Shared->Prop}{sl:Array (Option Value)}(hx:s.heap.get? a=some {cls:=.type "tuple",dict:=none,data:=.seq xs n,slots:=sl})(hh:A.handled=none)
  (h:∀h' tk e,Heap.NewAttrErr s.heap h' e (.ref a) "keys" -> E (.ref e) {s with heap:=h',toks:=tk}) :
  wpAny (model prog w) A (call (.builtin "tuple.__getattribute__") [.ref a,.str "keys" u]) Q E s:=by
 refine p6 g35 ⟨_,hx,rfl⟩ F.entry_tuple_ga ?_ (F.args_tuple_getattribute_2 _ _);obtain⟨hp,g,d,tk,os⟩:=s;have hT:(⟨hp,g,d,tk,os⟩:Shared).TypeIs (.ref a) "tuple" :=⟨_,hx,rfl⟩
 have f4:=qdj;unfold Builtin.«object.__getattribute__»
 repeat (any_goals (first|assumption|wp_step))
 exact wpAny_raiseAttrError (by simpa using hh) (fun h' tk e x=>h h' tk e x) (attrMsg_fits (by decide +kernel) (by size_fits))
theorem qg4{xs:Array Value}{n:Nat}{Q:Option Value->Shared->Prop}{sl:Array (Option Value)}(hx:s.heap.get? a=some {cls:=.type "tuple",dict:=none,data:=.seq xs n,slots:=sl})(hh:A.handled=none)
  (h:∀h' tk,(∀b o,s.heap.get? b=some o->h'.get? b=some o)->Q none {s with heap:=h',toks:=tk}) :
  wpAny (model prog w) A (getAttr? (.ref a) "keys") Q E s:=by
 obtain⟨hp,g,d,tk,os⟩:=s;have hT:(⟨hp,g,d,tk,os⟩:Shared).TypeIs (.ref a) "tuple" :=⟨_,hx,rfl⟩
 have f1:=sub_AttributeError;have f3:=g35.lookup;have f4:=g35.bind (.ref a);have f5:=q8s;unfold getAttr? getAttrBy? getAttrBy
 repeat (any_goals (first|assumption|((with_reducible show wpAny _ _ (call (Value.builtin "tuple.__getattribute__") _ _) _ _ _);refine qg3 hx (by first|exact hh|simpa using hh) fun h' tk' e x=>?_)|wp_step))
 obtain⟨t',u',he⟩:=x.there
 repeat (any_goals (first|assumption|wp_step))
 exact h _ _ x.keeps
end
section
variable{prog:Program}{w:World}{A:Around}{R:Result->Shared->Prop}
theorem qg5{vs:List Value}{ps:List (List Int×Addr×Value)}{N I S L:Addr}(hu:A.units+1<cLine)(hh:A.in1.handled=none)(hSN:N<=S)(hIN:N<=I)(hLN:L<N)(hSI:S≠I)(h0:Heap)(hN:∀b o,h0.get? b=some o->b<N)(P0:Prs prog w h0 vs ps)(hl0:h0.IsTuple L vs.toArray)(hnd:(ps.map (·.1)).Nodup)(hz:ps.length<=sizeLine):
  ∀(k i:Nat) (s:Shared) (j:Int) (tj:Tok),ps.length-i=k->i<=ps.length->s.heap.IsTupleIter I L i->(∀b o,h0.get? b=some o->s.heap.get? b=some o)->s.heap.DictOfH (TK prog w) S (ps.take i) ->
   (∀s',s'.gens=s.gens->s'.drawn=s.drawn->s'.os=s.os->s.toks<=s'.toks->(∀b o,h0.get? b=some o->s'.heap.get? b=some o)->s'.heap.DictOfH (TK prog w) S ps->R (.ok (.ret .none)) s') ->
   codeAny (model prog w) A (.builtin "dict.update.loop" ⟨[.ref S,.ref I,.int j tj,.none],[]⟩) R s:=by
 intro k
 induction k with
 | zero=>
  intro i s j tj hk hi hit hkeep hd hR;have hin:i=ps.length:=by lia
  subst hin;refine t9 q2q ?_;rw [pd y6 _];have hls:s.heap.IsTuple L vs.toArray:=let⟨o,ho,r⟩:=hl0; ⟨o,hkeep L o ho,r⟩
  show wpAny _ A.in1 (pyNext (.ref I) >>= _) _ _ s;refine g0 (wpAny_pyNext_tuple_end hh hit hls (by simp [P0.len]) fun h' he=>?_);show wpAny _ A.in1 (Builtin.Dict.addKeywords S [] >>= _) _ _ _;refine g0 (g9 (g9 ?_));rw [ui (gw _)] at hd;refine hR _ rfl rfl rfl (gw _) (fun b o e=>he b o (gz (gu (hN b o e) hIN)) (hkeep b o e)) ?_;obtain⟨o,es,ep,ho,hc,hdd,hes,his,hn⟩:=hd;exact⟨o,es,ep,he S o hSI ho,hc,hdd,hes,fun x hx=>q0o (P0.key x hx) fun o' e=>he _ o' (gz (gu (hN _ o' e) hIN)) (hkeep _ o' e),hn⟩
 | succ k ih=>
  intro i s j tj hk hi hit hkeep hd hR;have hlt:i<ps.length:=by lia
  have hp:ps[i]? = some ps[i]:=ma hlt;obtain⟨q,hq,hqt⟩:=P0.pair i _ hp;have hkey:=P0.key _ (g26 hlt);generalize ps[i]=p at hp hq hqt hkey;refine t9 q2q ?_;rw [pd y6 _];have hls:s.heap.IsTuple L vs.toArray:=let⟨o,ho,r⟩:=hl0; ⟨o,hkeep L o ho,r⟩
  show wpAny _ A.in1 (pyNext (.ref I) >>= _) _ _ s;refine g0 (wpAny_pyNext_tuple_item hit hls (x:=.ref q) (by simpa using hq) fun h' hit' hs'=>?_);have keep1:∀b o,h0.get? b=some o->h'.get? b=some o:=fun b o e=>hs'.extBut b o (gz (gu (hN b o e) hIN)) (hkeep b o e);have hqt1:h'.IsTuple q #[.ref p.2.1,p.2.2]:=let⟨o,ho,r⟩:=hqt; ⟨o,keep1 q o ho,r⟩
  have hkey1:(TK prog w).is h' p.1 p.2.1:=q0o hkey fun o e=>keep1 _ o e;have hd1:h'.DictOfH (TK prog w) S (ps.take i):=by
   obtain⟨o,es,ep,ho,hc,hdd,hes,his,hn⟩:=hd;exact⟨o,es,ep,hs'.extBut S o hSI ho,hc,hdd,hes,fun x hx=>q0o (P0.key x (g1c hx)) fun o' e=>keep1 _ o' e,hn⟩
  dsimp only;refine g0 (nh ?_);refine g0 (g1n ?_);unfold Builtin.Dict.pairItems;obtain⟨oq,hoq,hcq,nq,hdq⟩:=hqt1;refine g0 (g1a (s:={s with heap:=h'}) (T:="tuple") ⟨oq,hoq,hcq⟩ ?_);rw [mi (by decide)];refine g0 (g03 (s:={s with heap:=h'}) hoq hdq (g9 ?_));dsimp only [Option.getD_some];refine nh ?_;have hnone:atKey (ps.take i) p.1=none:=by
   refine g5c fun jj pp e=>?_;have hjj:jj<i:=by
    have:=(n8.mp e).1;rw [p0] at this;lia
   have e':ps[jj]? = some (p.1,pp):=by rw [g20 hjj] at e;exact e
   have:=idxH_unique hnd e' (show ps[i]? = some (p.1,p.2) from hp);lia
  refine wpAny_dictSet_heap (s:={s with heap:=h'}) (show(TK prog w).room A.in1 from hu) hkey1 hd1 (fun h2 hd2 hs2=>?_) (by rw [p0];lia);rw [storedH_new hnone,show ps.take i++[(p.1,p.2.1,p.2.2)]=ps.take (i+1) by rw [g3l,hp];rfl] at hd2;have ne2:∀b o,h0.get? b=some o->b≠S:=fun b o e=>gz (gu (hN b o e) hSN);refine g9 ⟨uf y6 _,ih (i+1) _ _ _ (by lia) hlt ?_ (fun b o e=>?_) hd2 fun s' a1 a2 a3 a4 a5 a6=>?_⟩
  ·obtain⟨o,ho,r⟩:=hit'
   exact⟨o,hs2.extBut I o (ng hSI) ho,r⟩
  ·exact hs2.extBut b o (ne2 b o e) (keep1 b o e)
  ·exact hR s' a1 a2 a3 (mq (g24 _ _) a4) a5 a6
end
section
variable{prog:Program}{w:World}{A:Around}{E:Value->Shared->Prop}{s:Shared}
theorem q6n{L:Addr}{vs:List Value}{n0:Nat}{ps:List (List Int×Addr×Value)}{Q:Value->Shared->Prop}(hu:A.units+4<cLine)(hh:A.handled=none){sl:Array (Option Value)}(hL:s.heap.get? L=some {cls:=.type "tuple",dict:=none,data:=.seq vs.toArray n0,slots:=sl})(P0:Prs prog w s.heap vs ps)(hnd:(ps.map (·.1)).Nodup)(hz:ps.length<=sizeLine)
  (h:∀h' tk,(∀b o,s.heap.get? b=some o->h'.get? b=some o)->h'.DictOfH (TK prog w) s.heap.objs.size ps->Q (.ref s.heap.objs.size) {s with heap:=h',toks:=tk}) :
  wpAny (model prog w) A (call (.type "dict") [.ref L]) Q E s:=by
 refine callType_codes (Q₁:=fun obj s₁=>obj=.ref s.heap.objs.size/\s₁ = {s with heap:=s.heap.push {cls:=.type "dict",data:=.dict #[]} }) F.kt_called_dict (F.kt_typeCall_dict_1 _) F.entry_dict_init (kt_code_dict_new _ ⟨rfl,rfl⟩) ?_
 rintro obj s₁ ⟨rfl,rfl⟩
 let dO:Obj:={cls:=.type "dict",data:=.dict #[]}
 have hnew:(s.heap.push dO).DictOfH (TK prog w) s.heap.objs.size []:=Heap.DictOfH.new s.heap;have hTd:Shared.TypeIs {s with heap:=s.heap.push dO} (.ref s.heap.objs.size) "dict" :=⟨dO,gf _ rfl,rfl⟩
 have hL1:(s.heap.push dO).get? L=some {cls:=.type "tuple",dict:=none,data:=.seq vs.toArray n0,slots:=sl}:=gc _ hL;refine⟨hTd,F.args_dict_init_2 _ _,?_⟩;unfold Builtin.«dict.__init__»;refine g0 ?_;unfold Builtin.Dict.selfAndRest;refine g0 (g46 hTd ?_);show wpAny _ _ (pure (s.heap.objs.size,[Value.ref L])) _ _ _;refine g9 ?_;show wpAny _ _ (Builtin.Dict.updateFrom "dict.__init__" s.heap.objs.size (.ref L) [] .none) _ _ _;unfold Builtin.Dict.updateFrom;refine g0 (g1a (T:="tuple") ⟨_,hL1,rfl⟩ ?_);rw [mi (by decide)];refine g0 (qg4 (s:={s with heap:=s.heap.push dO}) hL1 (by simpa using hh) fun h1 tk1 k1=>?_);rw [mi (by rfl)];refine g0 (g02 ?_);have hL2:h1.IsTuple L vs.toArray:=⟨_,k1 _ _ hL1,rfl,n0,rfl⟩
 refine g0 (g39 (s:={s with heap:=h1,toks:=tk1}) hL2 ?_)
 let iO:Obj:={cls:=.type "tuple_iterator",data:=.fields #[.ref L,.int 0 0]}
 have hz1:s.heap.objs.size+1<=h1.objs.size:=gv (k1 _ _ (gf s.heap (o:=dO) rfl));have hLs:L<s.heap.objs.size:=gv hL;have keep:∀b o,s.heap.get? b=some o->(h1.push iO).get? b=some o:=fun b o e=>gc _ (k1 b o (gc _ e));have hd0:(h1.push iO).DictOfH (TK prog w) s.heap.objs.size []:=by
  obtain⟨o,es,ep,ho,hc,hdd,hes,his,hn⟩:=hnew;exact⟨o,es,ep,gc _ (k1 _ _ ho),hc,hdd,hes,fun x hx=>(nomatch hx),hn⟩
 refine g9 ⟨uf y6 _,qg5 (A:=A.in1) (N:=s.heap.objs.size) (I:=h1.objs.size) (S:=s.heap.objs.size) (L:=L) (vs:=vs) (ps:=ps) (by show A.units+1+1<cLine;lia) (by simpa using hh) (gw _) (g1f hz1) hLs (gz hz1) s.heap (fun b o e=>gv e) P0 ⟨_,hL,rfl,n0,rfl⟩ hnd hz
  ps.length 0 _ _ _ rfl (ug _) ⟨iO,gf _ rfl,rfl,rfl⟩ keep hd0 fun s' a1 a2 a3 a4 a5 a6=>?_⟩
 obtain⟨h',g',d',tk',os'⟩:=s';dsimp only at a1 a2 a3 a4 a5 a6;subst a1;subst a2;subst a3;exact⟨rfl,h h' tk' a5 a6⟩
end
end Js
namespace DL
open PySem PySem.Spec PyProof.Rows L2
variable[Lam]
section
variable{X:Cx}{pos:Pos}
def q7x:List D->Option D
 | [.tup ds]=>(q29 ds).bind fun p=>if p.1.Nodup/\ds.length<=lim then some (.dtt p.1 p.2) else none
 | _=>none
theorem qlt(hc:X.calm=true)(hu:X.A.units+64<cLine): jt X (.type "dict") (rC X.K q7x):=fun pins s σ H xs us Q I rv ⟨F,ds,d,fh,rl,ho,q⟩=>by
 unfold q7x at ho
 split at ho
 ·rename_i ds'
  obtain⟨⟨ks,vs⟩,h1,h2⟩:=gd.mp ho
  split at h2
  ·rename_i hok
   cases h2;obtain⟨x,rfl,rx⟩:=rep1 rl;obtain⟨a,ys,rfl,k1,k2⟩:=rep_tup.mp rx;obtain⟨u,rfl,ru⟩:=vals1 rv;cases ru;obtain⟨its,r1,⟨o,e1,e2,e3,n,e4⟩,hz⟩:=I.tupleX (qj fh k1);obtain⟨oc,od,oda,osl⟩:=o;dsimp only at e2 e3 e4;subst e2;subst e3;subst e4;obtain⟨ps,ws,P,p1,p2,p3,p4⟩:=qca I fh h1 k2 r1;have hl:ps.length<=lim:=by
    rw [<- P.len, <- r1.length, <- k2.length];exact hok.2
   refine Js.q6n (by lia) (I.ok.hd hc) e1 P (by rw [p1];exact hok.1) (jd hl) fun h' tk old hd=>?_;have hnn:H s.heap.objs.size=none:=I.hok.fresh (gw _);obtain⟨o,es,ep,g1,g2,g3,g4,_,g5⟩:=hd;have de:DE s.heap.objs.size ps ep h':=⟨o,es,g1,g2,g3,g4⟩
   refine⟨.ref _,_,I.laid (t':=tk) (a:=s.heap.objs.size) (o:=.ext (DE s.heap.objs.size ps ep)) old (gw _) ⟨de,⟨o,g1⟩,fun h1 h2 ⟨o,es,z,r⟩ e=>⟨o,es,e o z,r⟩⟩,rfl,?_⟩;have g:=Grow.new (o:=.ext (DE s.heap.objs.size ps ep)) fh hnn;refine q _ _ _ g (rep_dtt.mpr ⟨_,ps,ws,ep,rfl,qq,p1,hok.1,jd hl,g1j.mpr (tq (q8k I)),fun x hx=>qj g.ff (p2 x hx),p3,p4.mono g.ff⟩)
  ·cases h2
 ·cases ho
end
end DL
namespace Js
open PySem PyProof.Rows
section
variable{prog:Program}{w:World}{A:Around}{E:Value->Shared->Prop}{hp:Heap}{g:Array GenState}{dr:Drawn}{tk:Nat}{os:OsState}
theorem qg6{it d:Addr}{i n ep:Nat}{ok ov ky vl:Value}{Q:Value->Shared->Prop}(hit:IsItemIter hp it d i n ep ok ov)
  (hQ:∀h',IsItemIterOut h' it d i n ep ky vl hp.objs.size->h'.get? hp.objs.size=some {cls:=.type "tuple",data:=.seq #[ky,vl]}->(∀b o,b≠it->hp.get? b=some o->h'.get? b=some o)->Q (.ref hp.objs.size) ⟨h',g,dr,tk,os⟩) :
  wpAny (model prog w) A (Builtin.Dict_items.pairFromOwner (.ref it) 6 ky vl) Q E ⟨hp,g,dr,tk,os⟩:=by
 have lt:hp.objs.size≠it:=tq (gv hit);unfold Builtin.Dict_items.pairFromOwner Builtin.Dict_items.ownedTupleIsFree;refine g0 (g4p ?_);have p1:IsItemIter (hp.push {cls:=.type "tuple",data:=.seq #[ky,vl]}) it d i n ep ok ov:=gc _ hit;have t1:(hp.push {cls:=.type "tuple",data:=.seq #[ky,vl]}).get? hp.objs.size=some {cls:=.type "tuple",data:=.seq #[ky,vl]}:=gf _ rfl;have k1:∀b o,b≠it->hp.get? b=some o->(hp.push {cls:=.type "tuple",data:=.seq #[ky,vl]}).get? b=some o:=fun b o _ e=>gc _ e;show wpAny _ _ _ _ _ ⟨hp.push {cls:=.type "tuple",data:=.seq #[ky,vl]},g,dr,tk,os⟩;generalize hp.push {cls:=.type "tuple",data:=.seq #[ky,vl]}=q1 at p1 t1 k1 ⊢;refine g0 (g0 (uw p1 rfl (x:=.none) rfl (g9 ?_)));rw [mi rfl];refine g0 (uw p1 rfl (x:=ok) rfl ?_);refine g0 (uw p1 rfl (x:=ov) rfl ?_);refine g0 (uk p1 (by simp) fun q2 p2 b2=>?_);refine g0 (uk p2 (by simp) fun q3 p3 b3=>?_);refine g0 (uk p3 (by simp) fun q4 p4 b4=>?_);refine g0 (uk p4 (by simp) fun q5 p5 b5=>?_);have kk:∀b o,b≠it->q1.get? b=some o->q5.get? b=some o:=fun b o hb e=>b5.extBut b o hb (b4.extBut b o hb (b3.extBut b o hb (b2.extBut b o hb e)));exact g0 (g0t (g9 (hQ q5 p5 (kk _ _ lt t1) fun b o hb e=>kk b o hb (k1 b o hb e))))
theorem qg7{it d:Addr}{i ep:Nat}{od:Obj}{es:Array DictEntry}{ok ov:Value}{Q:Option Value->Shared->Prop}(hit:IsItemIter hp it d i es.size ep ok ov)(hod:hp.get? d=some od)(hdd:od.data=.dict es ep)(hlt:i<es.size)
  (hQ:∀h',IsItemIterOut h' it d (i+1) es.size ep (es[i]'hlt).key (es[i]'hlt).val hp.objs.size->h'.get? hp.objs.size=some {cls:=.type "tuple",data:=.seq #[(es[i]'hlt).key,(es[i]'hlt).val]} ->
   (∀b o,b≠it->hp.get? b=some o->h'.get? b=some o)->Q (some (.ref hp.objs.size)) ⟨h',g,dr,tk,os⟩):wpAny (model prog w) A (pyNext (.ref it)) Q E ⟨hp,g,dr,tk,os⟩:=by
 have hT:Shared.TypeIs ⟨hp,g,dr,tk,os⟩ (.ref it) "dict_itemiterator" :=⟨_,hit,rfl⟩
 unfold pyNext;refine g0 (g11 (u9 hT g0r (p6 g0r hT g4k ?_ (g47 _))));unfold Builtin.«dict_itemiterator.__next__»
 wp_delta
 wp_walk using g1e hT,wpAny_typeNameOf_itemiter hT,g4s hit rfl,g5d hod hdd,g62 hod hdd,g1p hT
 rw [mn (by omega:¬((i:Int)<0)),show((i:Int)).toNat=i from by simp,g23 es i hlt];refine g0 (g0 (g1e hT (g9 ?_)));refine g0 (g1p hT ?_);show wpAny _ _ (setField (.ref it) 3 (rawInt ((i:Int)+1)) >>= _) _ _ _;refine g0 (uk hit (by simp) fun h1 p1 b1=>?_);have p1:IsItemIter h1 it d (i+1) es.size ep ok ov:=p1;have hT1:Shared.TypeIs ⟨h1,g,dr,tk,os⟩ (.ref it) "dict_itemiterator" :=⟨_,p1,rfl⟩
 have hz:h1.objs.size=hp.objs.size:=b1.1;refine g0 (nh (g0 (g1p hT1 (g0 (g1p hT1 ?_)))));refine qg6 p1 fun h' a1 a2 a3=>?_;rw [hz] at a1 a2 ⊢;exact g9 ⟨_,rfl,g9 (hQ h' a1 a2 fun b o hb e=>a3 b o hb (b1.extBut b o hb e))⟩
theorem qj4{it d:Addr}{ep:Nat}{od:Obj}{es:Array DictEntry}{ok ov:Value}{Q:Option Value->Shared->Prop}(hh:A.handled=none)(hit:IsItemIter hp it d es.size es.size ep ok ov)(hod:hp.get? d=some od)(hdd:od.data=.dict es ep)
  (hQ:∀h',Heap.ExtBut it hp h'->Q none ⟨h',g,dr,tk,os⟩):wpAny (model prog w) A (pyNext (.ref it)) Q E ⟨hp,g,dr,tk,os⟩:=by
 have hT:Shared.TypeIs ⟨hp,g,dr,tk,os⟩ (.ref it) "dict_itemiterator" :=⟨_,hit,rfl⟩
 unfold pyNext;refine g0 (g11 (u9 hT g0r (p6 g0r hT g4k ?_ (g47 _))));unfold Builtin.«dict_itemiterator.__next__»
 wp_delta
 wp_walk using g1e hT,wpAny_typeNameOf_itemiter hT,g4s hit rfl,g5d hod hdd,g62 hod hdd,g1p hT
 rw [mn (by omega:¬((es.size:Int)<0)),show((es.size:Int)).toNat=es.size from by simp,Array.getElem?_size];refine g0 (g0 (g1e hT (g9 ?_)));show wpAny _ _ (setField (.ref it) 2 .none >>= _) _ _ _;refine g0 (uk hit (by simp) fun h1 p1 b1=>?_);have hA1:A.in1.handled=none:=hh
 wp_walk using pj,g53 hA1
 ·dsimp only
  unfold raiseNew
  wp_walk using g53 hA1,wpAny_throw
  refine g2w isSubtype_stop (g9 ?_);exact hQ _ ((b1.extBut.push _).push _)
 ·exact sizeOk_excFields _ _ _ _ _ _ _ _
 ·show(0:Nat)<=_
  exact ug _
theorem qg8{v d:Addr}{ep:Nat}{od:Obj}{es:Array DictEntry}{Q:Value->Shared->Prop}(hv:hp.IsItemsView v d)(hod:hp.get? d=some od)(hdd:od.data=.dict es ep)
  (hQ:Q (.ref hp.objs.size) ⟨hp.push {cls:=.type "dict_itemiterator",data:=.fields #[.none,.bool false,.ref d,.int 0 0,.int es.size 0,.int ep 0,.none,.none]},g,dr,tk,os⟩):wpAny (model prog w) A (pyIter (.ref v)) Q E ⟨hp,g,dr,tk,os⟩:=by
 have hT:Shared.TypeIs ⟨hp,g,dr,tk,os⟩ (.ref v) "dict_items" :=hv.typeIs;obtain⟨o,ho,hc,hd⟩:=hv;refine g5b hT F.slot_dict_items_iter (p6 F.slot_dict_items_iter hT F.entry_dict_items_iter ?_ (F.args_dict_items_iter_1 _));unfold Builtin.«dict_items.__iter__» Builtin.Dict_items.dictOf Builtin.Dict_items.newIterator;refine g0 (g9 (g0 (g0 (uw ho hd (x:=.ref d) rfl (g9 (g0 (g0 (g5d hod hdd (g0 (g62 hod hdd ?_))))))))));simp only [show Builtin.Dict_items.ownsTuple "dict_itemiterator" = true from by decide,nu];exact pj (g9 ⟨_,rfl,"dict_itemiterator",_,⟨_,gf _ rfl,rfl⟩,g0r.lookup,hQ⟩) (by simp [sizeOk,Builtin.Dict_items.ownedTupleFields,g2f])
theorem qg9{d:Addr}{od:Obj}{Q:Value->Shared->Prop}(hs:(d==sysModules)=false)(hod:hp.get? d=some od)(hx:od.ExactDict)
  (hQ:Q (.ref hp.objs.size) ⟨hp.push {cls:=.type "dict_items",data:=.fields #[.ref d]},g,dr,tk,os⟩):wpAny (model prog w) A (call (.builtin "dict.items") [.ref d]) Q E ⟨hp,g,dr,tk,os⟩:=by
 have hT:Shared.TypeIs ⟨hp,g,dr,tk,os⟩ (.ref d) "dict" :=⟨od,hod,hx.1⟩
 refine p6 F.slot_dict_items hT F.entry_dict_items ?_ (F.args_dict_items_1 _);unfold Builtin.«dict.items» Builtin.Dict.noArgs Builtin.Dict.showsAll;refine g0 (g0 (g46 hT (g9 ?_)));rw [mn (by rw [hs];decide)];exact g0 (g9 (g0 (pj (g9 ⟨_,rfl,hQ⟩))))
end
end Js
namespace DL
open PySem PySem.Spec PyProof.Rows L2
variable[Lam]
def Iti(a:Addr)(xs:DX)(ys:List V)(ep:Nat): It:=
 ⟨fun i H=>H a=some (.ext (DE a xs ep))/\i<xs.length,fun i H v H'=>∃p x y,H p=none/\xs[i]? = some x/\ys[i]? = some y/\v=.ref p/\H'=upd H p (.tup [.ref x.2.1,y]),fun i H=>H a=some (.ext (DE a xs ep))/\xs.length<=i⟩
theorem qga{P:Program}{w:World}{K:Frag}{elts:List Expr}{x1}{tp:Pos}(a it:Addr)(xs:DX)(ys:List V)(ep:Nat)(hv:Vals ys (xs.map fun p=>p.2.2)):
  Turn P w K (.Tuple elts x1 tp) (Iti a xs ys ep) [it] it (fun i h=>i<=xs.length/\∃ok ov,IsItemIter h it a i xs.length ep ok ov) where
 mem:=by simp
 obj:=fun i h ⟨_,ok,ov,c1⟩ b hb=>by
  have e:b=it:=by simpa using hb
  subst e;exact⟨_,c1,fun v z=>by cases z⟩
 keep:=fun i h h' ⟨l,ok,ov,c1⟩ k=>⟨l,ok,ov,k _ (by simp) _ c1⟩
 item:=by
  intro X hP hw hK hc i pins s σ H E I hf st hg;subst hP hw hK;obtain⟨hq,hi⟩:=hg;obtain⟨⟨o,es,g1,g2,g3,g4⟩,_,_⟩:=(show ObjOk X.prog X.w H s.heap a _ from I.hok a _ hq)
  have hsz:es.size=xs.length:=by rw [<- nt,g4,mj]
  obtain⟨_,ok,ov,c1⟩:=st;rw [<- hsz] at c1;have hi':i<es.size:=by rw [hsz];exact hi
  have hx:xs[i]? = some xs[i]:=ma hi;have h2:es[i]'hi'=qkl xs[i]:=by
   have h2:es.toList[i]? = some (qkl xs[i]):=by rw [g4,mv,hx];rfl
   rw [g0m,g23 es i hi'] at h2;exact md h2
  have hyl:i<ys.length:=by rw [hv.length,mj];exact hi
  obtain⟨u,hu,ru⟩:=hv.get (ma hyl);rw [mv,hx] at hu;cases hu;obtain⟨hp,g,dr,tk,os⟩:=s;refine Js.qg7 c1 g1 g3 hi' fun q1 n1 n3 n5=>?_;rw [h2] at n1 n3;refine⟨_,rfl,wpAny_letOwnedTupleGo_items n1 fun q2 m1 sb=>?_⟩;have hz:it<hp.objs.size:=gv c1;have kp:∀c o,c∉[it]->hp.get? c=some o->q2.get? c=some o:=fun c o hc q=>by
   have hc:c≠it:=by simpa using hc
   exact sb.extBut _ _ hc (n5 c o hc q)
  have I1:Inv X pins σ H ⟨q2,g,dr,tk,os⟩:=q5j (t':=tk) I hf kp;have fp:wb X pins H hp.objs.size:=I.fpOk (gw _) I.fresh;have hT:q2.get? hp.objs.size=some {cls:=.type "tuple",data:=.seq #[.ref xs[i].2.1,xs[i].2.2]}:=sb.extBut _ _ (tq hz) n3;have I2:Inv X pins σ (upd H hp.objs.size (.tup [.ref xs[i].2.1,ys[i]])) ⟨q2,g,dr,tk,os⟩:=
   adopt I1 fp ⟨by show 2<=sizeLine;decide,[.ref xs[i].2.1,xs[i].2.2],.cons rfl (.cons ru .nil),⟨_,hT,rfl,rfl,_,rfl⟩⟩
  refine⟨.ref hp.objs.size,_,I2,rfl,⟨_,xs[i],ys[i],I.fresh,hx,ma hyl,rfl,rfl⟩,⟨hi,_,_,by rw [hsz] at m1;exact m1⟩,fun c hc=>?_⟩;have hb0:=(hf c hc).1;have:c≠hp.objs.size:=by
   have e:c=it:=by simpa using hc
   subst e;exact gz hz
  rw [qk this];exact hb0
 done:=by
  intro X hP hw hK hc i pins s σ H E I hf st hg;subst hP hw hK;obtain⟨hq,hi⟩:=hg;obtain⟨⟨o,es,g1,g2,g3,g4⟩,_,_⟩:=(show ObjOk X.prog X.w H s.heap a _ from I.hok a _ hq)
  have hsz:es.size=xs.length:=by rw [<- nt,g4,mj]
  obtain⟨hle,ok,ov,c1⟩:=st;rw [show i=xs.length from Nat.le_antisymm hle hi, <- hsz] at c1;obtain⟨hp,g,dr,tk,os⟩:=s;refine Js.qj4 (I.ok.hd hc) c1 g1 g3 fun h' eb=>⟨rfl,q5j (t':=tk) I hf fun c o hc q=>?_⟩
  exact eb c o (by simpa using hc) q
 self:=fun A i s Q E st h=>let⟨_,_,_,c1⟩:=st;PySem.W.kcp_self c1 h
abbrev q51(ks:List (List Int))(vs:List D): List D:=List.zipWith (fun k v=>.tup [.tup (k.map .int),v]) ks vs
theorem qj5{K:Frag}{F:Hp}{a:Addr}{xs:DX}{ys:List V}{ep:Nat}{ks:List (List Int)}{vs:List D}(h:F a=some (.ext (DE a xs ep)))(e2:xs.map (·.1)=ks)(e6:∀x∈xs,SqT K F x.2.1 (x.1.map V.int))(hv:Vals ys (xs.map fun p=>p.2.2))(r:RepL K F vs ys): ItD K F (q51 ks vs) (Iti a xs ys ep) where
 go:=fun i F' H s1 s2 hi=>⟨s2 _ _ (s1 _ _ h),by
  have h1:=r.length;have h2:=hv.length;rw [mj] at h2;rw [<- e2] at hi;rw [g2x,mj] at hi;omega⟩
 yld:=fun i d F' H x H' s1 s2 hi ⟨p,x',y,hp,hx,hy,e1,e3⟩=>by
  subst e1 e3 e2;rw [g6a,mv,hx] at hi;cases hw:vs[i]? with
  | none=>rw [hw] at hi;cases hi
  | some dv=>
   rw [hw] at hi;cases hi;obtain⟨z,k1,k2⟩:=r.get hw;rw [hy] at k1;cases k1;have gn:Grow F' H (upd F' p (.tup [.ref x'.2.1,y])) (upd H p (.tup [.ref x'.2.1,y])):=Grow.new s2 hp;exact⟨_,gn,rep_tup.mpr ⟨p,_,rfl,SqT.of qq,.cons (rep_tup.mpr ⟨_,_,rfl,qj gn.ff (qj s1 (e6 x' (uh hx))),RepL.ints.mpr rfl⟩) (.cons ((k2.mono s1).mono gn.ff) .nil)⟩⟩
 stop:=fun i F' H s1 s2 hi=>⟨s2 _ _ (s1 _ _ h),by
  have h1:=r.length;have h2:=hv.length;rw [mj] at h2;rw [<- e2] at hi;rw [g2x,mj] at hi;omega⟩
section
variable{X:Cx}{o:Expr}{apos cpos:Pos}{elts:List Expr}{x1:Nat}{tp:Pos}
theorem qlu{tl:TE}(ho:PE X o tl)(hbase:attributeBase o "items" X.env (eval o X.env)=eval o X.env:=by rfl)(hline:(apos.endLine==cpos.line)=true:=by rfl):
  PI X (.Tuple elts x1 tp) (.Call (.Attribute o "items" apos) [] [] cpos) (fun σ H R=>tl σ H fun x H1=>∃a xs ys ep,x=.ref a/\H1 a=some (.ext (DE a xs ep))/\(a==sysModules)=false/\Vals ys (xs.map fun p=>p.2.2)/\R (Iti a xs ys ep) H1):=by
 intro pins s σ H R I h;refine wpAny_Call_method0_late hbase hline (thn (ho pins s σ H _ I h) fun v s1 ⟨x,H1,I1,r1,q1⟩=>?_);obtain⟨a,xs,ys,ep,e,hq,hm,hv,q⟩:=q1;subst e;cases r1;obtain⟨⟨ob,es,g1,g2,g3,g4⟩,_,_⟩:=(show ObjOk X.prog X.w H1 s1.heap a _ from I1.hok a _ hq)
 have hsz:es.size=xs.length:=by rw [<- nt,g4,mj]
 obtain⟨hp,g,dr,tk,os⟩:=s1;refine⟨"dict","dict.items",PySem.F.plainAttrs_dict,PySem.F.slot_dict_items,PySem.F.type_dict_items,⟨ob,g1,g2.1⟩,fun b e=>by cases e;exact⟨ob,g1,g2.2.1⟩,Calls.callWith_builtin rfl (PySem.evalArgs_none ?_)⟩;refine Js.qg9 hm g1 g2 ?_;refine Js.qg8 ⟨_,gf _ rfl,rfl,rfl⟩ (gc _ g1) g3 ?_;have kp:∀c u,hp.get? c=some u->((hp.push {cls:=.type "dict_items",data:=.fields #[.ref a]}).push {cls:=.type "dict_itemiterator",data:=.fields #[.none,.bool false,.ref a,.int 0 0,.int es.size 0,.int ep 0,.none,.none]}).get? c=some u:=fun c u e=>gc _ (gc _ e);have hge:hp.objs.size<=(hp.push {cls:=.type "dict_items",data:=.fields #[.ref a]}).objs.size:=by rw [pf];exact g17 _
 refine⟨_,[_],_,_,H1,rfl,I1.kept (t':=tk) kp,qga a _ xs ys ep hv,⟨ug _,_,_,by rw [<- hsz];exact gf _ rfl⟩,fun b hb=>?_,q⟩;rw [n9.mp hb];exact I1.fpOk hge (I1.hok.fresh hge)
def qcc(f:FE): FA:=fun ρ =>(f ρ).bind fun d=>match d with
 | .dtt ks vs=>some (q51 ks vs)
 | _=>none
theorem qlv{f:FE}(h:PE X o (tD X.K f))(hbase:attributeBase o "items" X.env (eval o X.env)=eval o X.env:=by rfl)(hline:(apos.endLine==cpos.line)=true:=by rfl):
  PI X (.Tuple elts x1 tp) (.Call (.Attribute o "items" apos) [] [] cpos) (tDI X.K (qcc f)):=q4q (qlu h hbase hline) fun σ H R ⟨F0,H0,F, ρ,ds,r,hf,q⟩=>by
 obtain⟨d,h1,h2⟩:=gd.mp hf;refine⟨F0,H0,F, ρ,d,r,h1,fun v F' H' g' r'=>?_⟩
 split at h2
 ·cases h2
  obtain⟨a,xs,ys,ep,rfl,e1,e2,e3,e4,e5,e6,e7,e8⟩:=rep_dtt.mp r';exact⟨a,xs,ys,ep,rfl,g'.fh _ _ e1,e5,e7,q _ F' H' g' (qj5 e1 e2 e6 e7 e8)⟩
 ·cases h2
end
end DL
namespace Js
open PySem
def qgb:Option Value->Array Value
 | none=> #[]
 | some v=> #[v,v]
def qj6(P:Nat->Value->Prop)(bt:Nat->Nat->Bool)(i:Nat): Option Value->Prop
 | none=>i=0
 | some v=>0<i/\P (argBest bt (i-1)) v
theorem q3z(a:Option Value): (qgb a).size<=sizeLine:=by
 cases a with
 | none=>show 0<=sizeLine;decide
 | some v=>show 2<=sizeLine;decide
section
variable{prog:Program}{w:World}{A:Around}{R:Result->Shared->Prop}{E:Value->Shared->Prop}{s:Shared}{I:Addr}{fp wr:List Addr}{n:Nat}{P:Nat->Value->Prop}{St:Nat->Heap->Prop}
theorem qgc(W:Walks prog w A.in1 I fp wr n P St)(bt:Nat->Nat->Bool)(hcmp:CmpOf prog w A.in1 .Gt P bt)(S:Addr)(hSf:S∉fp)(dv:Value):
  ∀(k i:Nat) (s:Shared) (acc:Option Value) (c:Nat),n-i=k->i<=n->St i s.heap->qj6 P bt i acc ->
  s.heap.get? S=some {cls:=.type "list",dict:=none,data:=.seq (qgb acc) c,slots:= #[]} ->
  (∀v h' tk,(n=0/\v=dv\/0<n/\P (argBest bt (n-1)) v)->(∀b o,b∉wr->b≠S->s.heap.get? b=some o->h'.get? b=some o)->R (.ok (.ret v)) {s with heap:=h',toks:=tk}) ->
  codeAny (model prog w) A (.builtin "max.loop" ⟨[.ref I,.none,.ref S],[("default",dv)]⟩) R s:=by
 have hSw:S∉wr:=fun h=>hSf (W.sub _ h);have hname:(toString "max" ++ toString ".loop" : String)="max.loop" :=by decide
 intro k
 induction k with
 | zero=>
  intro i s acc c hk hi hst hb hS hR;have e:i=n:=by omega
  subst e;refine t9 F.entry_max_loop ?_;rw [pd g28 _];refine g0 (g03 hS rfl (g0 (g1n (W.done s _ _ hst fun h' tk hk'=>?_))));have hS':=hk' S _ hSw hS;cases acc with
  | none=>exact g0 (g02 (g9 (hR dv _ tk (.inl ⟨hb,rfl⟩) fun b o hbw _ e=>hk' b o hbw e)))
  | some vb=>exact g0 (g1v (hz:=q3z _) hS' rfl (g0 (g0t (g9 (hR vb _ tk (.inr hb) fun b o hbw hbS e=>(tf _ _ (ng hbS)).trans (hk' b o hbw e))))))
 | succ k ih=>
  intro i s acc c hk hi hst hb hS hR;have hlt:i<n:=by omega
  refine t9 F.entry_max_loop ?_;rw [pd g28 _];refine g0 (g03 hS rfl (g0 (g1n (W.item i s _ _ hlt hst fun v h' tk hP hst' hk'=>?_))));have hS':=hk' S _ hSw hS;have put:∀(s2:Shared) (x:Value),s2 = {s with heap:=h',toks:=tk}->P (argBest bt i) x->wpAny (model prog w) A.in1 (updateSeq S fun _=> #[x,x]) (fun _ s3=>codeAny (model prog w) A (.builtin "max.loop" ⟨[.ref I,.none,.ref S],[("default",dv)]⟩) R s3) (fun e s'=>R (.error e) s') s2:=fun s2 x e2 hx=>by
   subst e2;refine g1v (hz:=q3z _) hS' rfl (ih (i+1) _ (some x) _ (by omega) hlt (W.frame _ _ _ hst' fun b hbf o e=>(tf _ _ (fun h:S=b=>hSf (by rw [h];exact hbf))).trans e) ⟨g5u _,hx⟩ (g0q _ hS' rfl) fun v' h2 tk2 hv hk2=>?_);exact hR v' h2 tk2 hv fun b o hbw hbS e=>hk2 b o hbw hbS ((tf _ _ (ng hbS)).trans (hk' b o hbw e))
  refine g0 (g9 ?_);cases acc with
  | none=>
   have e0:i=0:=hb;subst e0;exact g0 (t5 (put _ v rfl hP) (fun _ _ h=>g9 ⟨uf g28 _,h⟩) fun _ _ e=>e)
  | some vb=>
   obtain⟨h0,hPb⟩:=hb;obtain⟨j,rfl⟩:∃j,i=j+1:=⟨i-1,by omega⟩
   refine g0 (g1n (nh (g0 (hcmp (j+1) (argBest bt j) v vb _ _ _ hP hPb (g0 (nh (g0x (g0 (g0t (g9 ?_))))))))));cases ht:bt (j+1) (argBest bt j) with
   | true=>
    have e1:argBest bt (j+1)=j+1:=by simp only [argBest,ht,nu]
    refine g0 (t5 (put _ v rfl (by rw [e1];exact hP)) (fun _ _ h=>g0 (g0t (g9 ⟨uf g28 _,h⟩))) fun _ _ e=>e)
   | false=>
    have e1:argBest bt (j+1)=argBest bt j:=by simp only [argBest,ht,gh,nz]
    refine g0 (g0t (g9 ⟨uf g28 _,ih (j+2) _ (some vb) c (by omega) hlt hst' ⟨g5u _,by show P (argBest bt (j+1)) vb;rw [e1];exact hPb⟩ hS' fun v' h2 tk2 hv hk2=>?_⟩));exact hR v' h2 tk2 hv fun b o hbw hbS e=>hk2 b o hbw hbS (hk' b o hbw e)
theorem q7y{id:String}{b:Builtin}{args:List Value}{kw:List (Str×Value)}{Q:Value->Shared->Prop}(hk:builtinKind id=none)(hp:plainId id=true)(hb:entryFor table id=some b)(ha:argsOk id ⟨args,kw⟩)
  (hc:wpAny (model prog w) A.in1 (b ⟨args,kw⟩) (fun fin s'=>match fin with
   | .done f=>(match(Except.ok f:Result) with | .ok (.ret v)=>Q v s' | .ok _=>False | .error e=>E e s')
   | .again c'=>c'.quiet=true/\codeAny (model prog w) A c' (fun r s'=>match r with | .ok (.ret v)=>Q v s' | .ok _=>False | .error e=>E e s') s') E s) :
  wpAny (model prog w) A (call (.builtin id) args kw) Q E s:=by
 refine g3h (g1y hp hb ?_);simp only [checkBuiltinCall,hk];cases hsig:Manifest.signature? id with
 | none=>exact g9 hc
 | some sig=>
  simp only [argsOk,hsig] at ha;exact g2w ha hc
theorem qgd(a d:Value): argsOk "max" ⟨[a],[("default",d)]⟩:=by unfold argsOk;kernel_rfl
theorem qge{l:Addr}{items:Array Value}{bt:Nat->Nat->Bool}{Pv:Nat->Value->Prop}{dv:Value}{Q:Value->Shared->Prop}(hh:A.handled=none)(hl:s.heap.IsList l items)(hP:∀i v,items[i]? = some v->Pv i v)(hcmp:CmpOf prog w A.in1 .Gt Pv bt)
  (hQ:∀v h' tk,(items.size=0/\v=dv\/0<items.size/\Pv (argBest bt (items.size-1)) v)->(∀b o,s.heap.get? b=some o->h'.get? b=some o)->Q v {s with heap:=h',toks:=tk}) :
  wpAny (model prog w) A (call (.builtin "max") [.ref l] [("default",dv)]) Q E s:=by
 have hname:(toString "max" ++ toString ".loop" : String)="max.loop" :=by decide
 refine q7y F.kind_max F.plain_max F.entry_max (qgd _ _) ?_;show wpAny _ A.in1 (Builtin.Builtins.bindParams "max" ["key","default"] 0 ⟨[],[("default",dv)]⟩ >>= _) _ _ s;refine g0 (g2w (show Builtin.Builtins.bindParams "max" ["key","default"] 0 ⟨[],[("default",dv)]⟩=pure [none,some dv] from rfl) (g0 (g9 (g0 (g1g hl (g0 (pj ?_)))))));rw [hname];have hll:l<s.heap.objs.size:=by obtain⟨o,ho,_⟩:=hl;exact gv ho
 have W:=Walks.list (prog:=prog) (w:=w) (A:=A.in1) (by simpa using hh) s.heap.objs.size l (gz hll) items;refine g9 ⟨uf g28 _,qgc W bt (fun i j vi vj s Q E h1 h2 hq=>hcmp i j vi vj s Q E (hP i vi h1) (hP j vj h2) hq) _ (fun hm=>?_) dv items.size 0 _ none _ rfl (ug _) ?_ rfl (gf _ rfl) fun v h' tk hv hk=>?_⟩
 ·simp only [mh,g06,g21,pf] at hm
  exact hm.elim (fun h=>g5t _ h) (fun h=>absurd hll (by rw [<- h];exact g4i.mpr (g17 _)))
 ·exact⟨⟨_,gc _ (gf _ rfl),rfl,rfl⟩,let⟨o,ho,r⟩:=hl; ⟨o,gc _ (gc _ ho),r⟩⟩
 ·refine hQ v h' tk (hv.imp id fun z=>⟨z.1,hP _ _ z.2⟩) fun b o e=>?_
  have hb:=gv e;exact hk b o (by simpa using gz hb) (by rw [pf];exact gz (g0o hb)) (gc _ (gc _ e))
theorem qgf(W:Walks prog w A.in1 I fp wr n P St)(bt:Nat->Nat->Bool)(hcmp:CmpOf prog w A.in1 .Lt P bt)(S:Addr)(hSf:S∉fp)(dv:Value):
  ∀(k i:Nat) (s:Shared) (acc:Option Value) (c:Nat),n-i=k->i<=n->St i s.heap->qj6 P bt i acc ->
  s.heap.get? S=some {cls:=.type "list",dict:=none,data:=.seq (qgb acc) c,slots:= #[]} ->
  (∀v h' tk,(n=0/\v=dv\/0<n/\P (argBest bt (n-1)) v)->(∀b o,b∉wr->b≠S->s.heap.get? b=some o->h'.get? b=some o)->R (.ok (.ret v)) {s with heap:=h',toks:=tk}) ->
  codeAny (model prog w) A (.builtin "min.loop" ⟨[.ref I,.none,.ref S],[("default",dv)]⟩) R s:=by
 have hSw:S∉wr:=fun h=>hSf (W.sub _ h);have hname:(toString "min" ++ toString ".loop" : String)="min.loop" :=by decide
 intro k
 induction k with
 | zero=>
  intro i s acc c hk hi hst hb hS hR;have e:i=n:=by omega
  subst e;refine t9 F.entry_min_loop ?_;rw [pd g29 _];refine g0 (g03 hS rfl (g0 (g1n (W.done s _ _ hst fun h' tk hk'=>?_))));have hS':=hk' S _ hSw hS;cases acc with
  | none=>exact g0 (g02 (g9 (hR dv _ tk (.inl ⟨hb,rfl⟩) fun b o hbw _ e=>hk' b o hbw e)))
  | some vb=>exact g0 (g1v (hz:=q3z _) hS' rfl (g0 (g0t (g9 (hR vb _ tk (.inr hb) fun b o hbw hbS e=>(tf _ _ (ng hbS)).trans (hk' b o hbw e))))))
 | succ k ih=>
  intro i s acc c hk hi hst hb hS hR;have hlt:i<n:=by omega
  refine t9 F.entry_min_loop ?_;rw [pd g29 _];refine g0 (g03 hS rfl (g0 (g1n (W.item i s _ _ hlt hst fun v h' tk hP hst' hk'=>?_))));have hS':=hk' S _ hSw hS;have put:∀(s2:Shared) (x:Value),s2 = {s with heap:=h',toks:=tk}->P (argBest bt i) x->wpAny (model prog w) A.in1 (updateSeq S fun _=> #[x,x]) (fun _ s3=>codeAny (model prog w) A (.builtin "min.loop" ⟨[.ref I,.none,.ref S],[("default",dv)]⟩) R s3) (fun e s'=>R (.error e) s') s2:=fun s2 x e2 hx=>by
   subst e2;refine g1v (hz:=q3z _) hS' rfl (ih (i+1) _ (some x) _ (by omega) hlt (W.frame _ _ _ hst' fun b hbf o e=>(tf _ _ (fun h:S=b=>hSf (by rw [h];exact hbf))).trans e) ⟨g5u _,hx⟩ (g0q _ hS' rfl) fun v' h2 tk2 hv hk2=>?_);exact hR v' h2 tk2 hv fun b o hbw hbS e=>hk2 b o hbw hbS ((tf _ _ (ng hbS)).trans (hk' b o hbw e))
  refine g0 (g9 ?_);cases acc with
  | none=>
   have e0:i=0:=hb;subst e0;exact g0 (t5 (put _ v rfl hP) (fun _ _ h=>g9 ⟨uf g29 _,h⟩) fun _ _ e=>e)
  | some vb=>
   obtain⟨h0,hPb⟩:=hb;obtain⟨j,rfl⟩:∃j,i=j+1:=⟨i-1,by omega⟩
   refine g0 (g1n (nh (g0 (hcmp (j+1) (argBest bt j) v vb _ _ _ hP hPb (g0 (nh (g0x (g0 (g0t (g9 ?_))))))))));cases ht:bt (j+1) (argBest bt j) with
   | true=>
    have e1:argBest bt (j+1)=j+1:=by simp only [argBest,ht,nu]
    refine g0 (t5 (put _ v rfl (by rw [e1];exact hP)) (fun _ _ h=>g0 (g0t (g9 ⟨uf g29 _,h⟩))) fun _ _ e=>e)
   | false=>
    have e1:argBest bt (j+1)=argBest bt j:=by simp only [argBest,ht,gh,nz]
    refine g0 (g0t (g9 ⟨uf g29 _,ih (j+2) _ (some vb) c (by omega) hlt hst' ⟨g5u _,by show P (argBest bt (j+1)) vb;rw [e1];exact hPb⟩ hS' fun v' h2 tk2 hv hk2=>?_⟩));exact hR v' h2 tk2 hv fun b o hbw hbS e=>hk2 b o hbw hbS (hk' b o hbw e)
theorem qgg(a d:Value): argsOk "min" ⟨[a],[("default",d)]⟩:=by unfold argsOk;kernel_rfl
theorem qgh{l:Addr}{items:Array Value}{bt:Nat->Nat->Bool}{Pv:Nat->Value->Prop}{dv:Value}{Q:Value->Shared->Prop}(hh:A.handled=none)(hl:s.heap.IsList l items)(hP:∀i v,items[i]? = some v->Pv i v)(hcmp:CmpOf prog w A.in1 .Lt Pv bt)
  (hQ:∀v h' tk,(items.size=0/\v=dv\/0<items.size/\Pv (argBest bt (items.size-1)) v)->(∀b o,s.heap.get? b=some o->h'.get? b=some o)->Q v {s with heap:=h',toks:=tk}) :
  wpAny (model prog w) A (call (.builtin "min") [.ref l] [("default",dv)]) Q E s:=by
 have hname:(toString "min" ++ toString ".loop" : String)="min.loop" :=by decide
 refine q7y F.kind_min F.plain_min F.entry_min (qgg _ _) ?_;show wpAny _ A.in1 (Builtin.Builtins.bindParams "min" ["key","default"] 0 ⟨[],[("default",dv)]⟩ >>= _) _ _ s;refine g0 (g2w (show Builtin.Builtins.bindParams "min" ["key","default"] 0 ⟨[],[("default",dv)]⟩=pure [none,some dv] from rfl) (g0 (g9 (g0 (g1g hl (g0 (pj ?_)))))));rw [hname];have hll:l<s.heap.objs.size:=by obtain⟨o,ho,_⟩:=hl;exact gv ho
 have W:=Walks.list (prog:=prog) (w:=w) (A:=A.in1) (by simpa using hh) s.heap.objs.size l (gz hll) items;refine g9 ⟨uf g29 _,qgf W bt (fun i j vi vj s Q E h1 h2 hq=>hcmp i j vi vj s Q E (hP i vi h1) (hP j vj h2) hq) _ (fun hm=>?_) dv items.size 0 _ none _ rfl (ug _) ?_ rfl (gf _ rfl) fun v h' tk hv hk=>?_⟩
 ·simp only [mh,g06,g21,pf] at hm
  exact hm.elim (fun h=>g5t _ h) (fun h=>absurd hll (by rw [<- h];exact g4i.mpr (g17 _)))
 ·exact⟨⟨_,gc _ (gf _ rfl),rfl,rfl⟩,let⟨o,ho,r⟩:=hl; ⟨o,gc _ (gc _ ho),r⟩⟩
 ·refine hQ v h' tk (hv.imp id fun z=>⟨z.1,hP _ _ z.2⟩) fun b o e=>?_
  have hb:=gv e;exact hk b o (by simpa using gz hb) (by rw [pf];exact gz (g0o hb)) (gc _ (gc _ e))
end
end Js
namespace DL
open PySem PySem.Spec PyProof.Rows L2
variable[Lam]
def qam(f:List Int->Option Int): List D->D->Option D
 | [.lst ds],d0=>(xb ds).bind fun ns=>some (match f ns with|some m=>.int m|none=>d0)
 | _,_=>none
def q7z(f:List Int->Option Int)(fa:FA)(fd:FE): FE:=fun ρ =>(fa ρ).bind fun xs=>(fd ρ).bind fun d=>qam f xs d
section
variable{X:Cx}
theorem qot{e e2:Expr}{fa:FA}{fd:FE}{p kp pos:Pos}(hc:X.calm=true)(hgs:Gl X "max")(hms:X.mg "max" = none)(ha:PA X [e] (tDA X.K fa))(hd:PE X e2 (tD X.K fd))
  (he:backTo pos (starEach [e] X.env)=(false,eval e X.env) :: backTo pos (starEach [] X.env):=by rfl) (hpl:(backTo pos (starEach [e] X.env)).any (·.1)=false:=by rfl) :
  PE X (.Call (.Name "max" p) [e] [⟨some "default",e2,kp⟩] pos) (tD X.K (q7z List.max? fa fd)):=by
 intro pins s σ H Q I ⟨F0,H0,F, ρ,d,r,hf,q⟩;obtain⟨ds1,h1,hf⟩:=gd.mp hf;obtain⟨d0,h2,h3⟩:=gd.mp hf;refine g14 (q05 I hgs hms boot_max ?_ (by decide) (by decide));refine callWith_kw (thn (ha pos pins s σ H (fun vs H1=>∃F1,Grow F H F1 H1/\RepL X.K F1 ds1 vs) I ⟨F0,H0,F, ρ,ds1,r,h1,fun vs F1 H1 g1 r1=>⟨F1,g1,r1⟩⟩) fun us s1 ⟨vs,H1,I1,rv,F1,g1,r1⟩=>?_) he hpl rfl rfl;refine kws_cons (thn (hd pins s1 σ H1 (fun v H2=>∃F2,Grow F1 H1 F2 H2/\Rep X.K F2 d0 v) I1 ⟨F0,H0,F1, ρ,d0,r.grow g1,h2,fun v F2 H2 g2 r2=>⟨F2,g2,r2⟩⟩) fun u s2 ⟨v,H2,I2,ru,F2,g2,r2⟩=>kws_nil ?_);unfold qam at h3
 split at h3
 ·rename_i ds
  obtain⟨ns,h4,h5⟩:=gd.mp h3;cases h5;obtain⟨x,rfl,rx⟩:=rep1 r1;obtain⟨ux,rfl,ru1⟩:=vals1 rv;obtain⟨a,ys,rfl,k1,k2⟩:=rep_lst.mp rx;cases ru1;obtain rfl:=ints_rep h4 k2;obtain⟨its,v1,pl,hz⟩:=I2.list (g2.fh.seq ((show Same F1 F2 from g2.ff).seq k1));have hlen:its.length=ns.length:=by have:=v1.length;simpa using this.symm
  have hat:∀(i:Nat) (w:Value),its.toArray[i]? = some w->∃t,w=.int (ns.getD i 0) t:=fun i w hw=>by
   have hw:its[i]? = some w:=by simpa using hw
   have hi:i<ns.length:=by rw [<- hlen];exact(n8.mp hw).1
   obtain⟨u',hu',ru'⟩:=v1.get (show(ns.map V.int)[i]? = some (.int ns[i]) by rw [mv,ma hi];rfl);rw [hw] at hu';cases hu';obtain⟨t,rfl⟩:=ru';exact⟨t,by rw [g0n,ma hi];rfl⟩
  refine Js.qge (Pv:=fun i v=>∃t,v=.int (ns.getD i 0) t) (I2.ok.hd hc) pl.isList hat (CmpOf.ints_gt (fun i=>ns.getD i 0) fun _ _ h=>h) fun v' h' tk hv hk=>?_;have I3:Inv X pins σ H2 {s2 with heap:=h',toks:=tk}:=I2.kept (t':=tk) hk;have hsz:its.toArray.size=ns.length:=by simpa using hlen
  rw [hsz] at hv;rcases hv with⟨h0,rfl⟩|⟨h0,t,rfl⟩
  ·have:ns=[]:=g1i h0
   subst this;exact⟨v,H2,I3,ru,q v F2 H2 (g1.trans g2) r2⟩
  ·obtain⟨b1,b2⟩:=argBest_gt (fun i=>ns.getD i 0) (ns.length-1)
   generalize argBest (fun i j=>decide (ns.getD i 0>ns.getD j 0)) (ns.length-1)=m at b1 b2 ⊢;have hm:m<ns.length:=by omega
   have em:ns.getD m 0=ns[m]:=by rw [g0n,ma hm];rfl
   have mx:ns.max? = some (ns.getD m 0):=by
    rw [g6d];refine⟨by rw [em];exact g26 hm,fun b hb=>?_⟩;obtain⟨j,hj,rfl⟩:=List.getElem_of_mem hb;have:=b2 j (by omega);have ej:ns.getD j 0=ns[j]:=by rw [g0n,ma hj];rfl
    rw [ej] at this;exact this
   rw [mx] at q;exact⟨.int (ns.getD m 0),H2,I3,⟨t,rfl⟩,q _ F2 H2 (g1.trans g2) (rep_int.mpr rfl)⟩
 ·cases h3
theorem qou{e e2:Expr}{fa:FA}{fd:FE}{p kp pos:Pos}(hc:X.calm=true)(hgs:Gl X "min")(hms:X.mg "min" = none)(ha:PA X [e] (tDA X.K fa))(hd:PE X e2 (tD X.K fd))
  (he:backTo pos (starEach [e] X.env)=(false,eval e X.env) :: backTo pos (starEach [] X.env):=by rfl) (hpl:(backTo pos (starEach [e] X.env)).any (·.1)=false:=by rfl) :
  PE X (.Call (.Name "min" p) [e] [⟨some "default",e2,kp⟩] pos) (tD X.K (q7z List.min? fa fd)):=by
 intro pins s σ H Q I ⟨F0,H0,F, ρ,d,r,hf,q⟩;obtain⟨ds1,h1,hf⟩:=gd.mp hf;obtain⟨d0,h2,h3⟩:=gd.mp hf;refine g14 (q05 I hgs hms boot_min ?_ (by decide) (by decide));refine callWith_kw (thn (ha pos pins s σ H (fun vs H1=>∃F1,Grow F H F1 H1/\RepL X.K F1 ds1 vs) I ⟨F0,H0,F, ρ,ds1,r,h1,fun vs F1 H1 g1 r1=>⟨F1,g1,r1⟩⟩) fun us s1 ⟨vs,H1,I1,rv,F1,g1,r1⟩=>?_) he hpl rfl rfl;refine kws_cons (thn (hd pins s1 σ H1 (fun v H2=>∃F2,Grow F1 H1 F2 H2/\Rep X.K F2 d0 v) I1 ⟨F0,H0,F1, ρ,d0,r.grow g1,h2,fun v F2 H2 g2 r2=>⟨F2,g2,r2⟩⟩) fun u s2 ⟨v,H2,I2,ru,F2,g2,r2⟩=>kws_nil ?_);unfold qam at h3
 split at h3
 ·rename_i ds
  obtain⟨ns,h4,h5⟩:=gd.mp h3;cases h5;obtain⟨x,rfl,rx⟩:=rep1 r1;obtain⟨ux,rfl,ru1⟩:=vals1 rv;obtain⟨a,ys,rfl,k1,k2⟩:=rep_lst.mp rx;cases ru1;obtain rfl:=ints_rep h4 k2;obtain⟨its,v1,pl,hz⟩:=I2.list (g2.fh.seq ((show Same F1 F2 from g2.ff).seq k1));have hlen:its.length=ns.length:=by have:=v1.length;simpa using this.symm
  have hat:∀(i:Nat) (w:Value),its.toArray[i]? = some w->∃t,w=.int (ns.getD i 0) t:=fun i w hw=>by
   have hw:its[i]? = some w:=by simpa using hw
   have hi:i<ns.length:=by rw [<- hlen];exact(n8.mp hw).1
   obtain⟨u',hu',ru'⟩:=v1.get (show(ns.map V.int)[i]? = some (.int ns[i]) by rw [mv,ma hi];rfl);rw [hw] at hu';cases hu';obtain⟨t,rfl⟩:=ru';exact⟨t,by rw [g0n,ma hi];rfl⟩
  refine Js.qgh (Pv:=fun i v=>∃t,v=.int (ns.getD i 0) t) (I2.ok.hd hc) pl.isList hat (CmpOf.ints_lt (fun i=>ns.getD i 0) fun _ _ h=>h) fun v' h' tk hv hk=>?_;have I3:Inv X pins σ H2 {s2 with heap:=h',toks:=tk}:=I2.kept (t':=tk) hk;have hsz:its.toArray.size=ns.length:=by simpa using hlen
  rw [hsz] at hv;rcases hv with⟨h0,rfl⟩|⟨h0,t,rfl⟩
  ·have:ns=[]:=g1i h0
   subst this;exact⟨v,H2,I3,ru,q v F2 H2 (g1.trans g2) r2⟩
  ·obtain⟨b1,b2⟩:=argBest_lt (fun i=>ns.getD i 0) (ns.length-1)
   generalize argBest (fun i j=>decide (ns.getD i 0<ns.getD j 0)) (ns.length-1)=m at b1 b2 ⊢;have hm:m<ns.length:=by omega
   have em:ns.getD m 0=ns[m]:=by rw [g0n,ma hm];rfl
   have mx:ns.min? = some (ns.getD m 0):=by
    rw [g6e];refine⟨by rw [em];exact g26 hm,fun b hb=>?_⟩;obtain⟨j,hj,rfl⟩:=List.getElem_of_mem hb;have:=b2 j (by omega);have ej:ns.getD j 0=ns[j]:=by rw [g0n,ma hj];rfl
    rw [ej] at this;exact this
   rw [mx] at q;exact⟨.int (ns.getD m 0),H2,I3,⟨t,rfl⟩,q _ F2 H2 (g1.trans g2) (rep_int.mpr rfl)⟩
 ·cases h3
end
def sD1(i1 j:Nat)(it:FA)(f1:FE): FS:=fun ρ =>if qj2 ρ = true/\i1 < ρ.length/\j < ρ.length then(it (ρ.set i1 none)).bind fun ds=>(q7w ds).bind fun ks=>if ks.Nodup/\ks.length<=lim then
  (q3y f1 (ρ.set i1 none) j ds).map fun v1=>(.nx,(q6l (ρ.set i1 none) j ds).set i1 (some (.fz (.dtt ks v1)))) else none else none
section
variable{X:Cx}{pos:Pos}
theorem qsx{s1 b1:Stmt}{tg iter:Expr}{rest:List Stmt}{i1 j:Nat}{it:FA}{f1:FE}{u:FS}(hj1:i1≠j)
  (hp:PassesOwn (model X.prog X.w) X.A X.env X.xe) (hc:X.calm=true)
  (h1:PS X s1 (qaq qsw (q2n i1))) (hi:PI X tg iter (tDI X.K it)) (hg:PG X tg (q2n j))
  (hb1:PS X b1 (qaq (tD X.K f1) (qpt (q6a i1) (q6a j) (qn4 X.K)))) (hr:PSs X rest (tDS X.K u))
  (hs:∀x,foldedSetIterable iter X.env x=pure x:=by intro _;rfl):PSs X (s1 :: .For tg iter [b1] [] pos :: rest) (tDS X.K (z5 (sD1 i1 j it f1) u)):=by
 refine q5h (q6b h1 (q6b (qhf hp hc hi hg (qe8 hb1) hs) hr)) fun D σ H ⟨F0,H0,F, ρ,fl, ρ',r,hf,q⟩=>?_;obtain⟨⟨fl1, ρ1⟩,h3,h4⟩:=gd.mp hf;unfold sD1 at h3
 split at h3
 case isFalse=>cases h3
 rename_i hok;obtain⟨hno,l1,lj⟩:=hok;have no:=qls hno;obtain⟨ds,hit,h3⟩:=gd.mp h3;obtain⟨ks,hks,h3⟩:=gd.mp h3
 split at h3
 case isFalse=>cases h3
 rename_i hnd;obtain⟨v1,hv1,h3⟩:=m8.mp h3;cases h3;obtain⟨kl,kget⟩:=q9o hks;obtain⟨vl1,vget1⟩:=q9p hv1;intro a1 n1 m1;have hF1:F a1=none:=r.fh.free n1;have hz1:H0 a1=none:=r.g.hh.free n1;have r2:=qrd (qn5 r no (o:=.ext (DE a1 [] 0)) hF1 hz1 (r.tab.upd (.inl n1))) no i1 (some (.ref a1));have no2:xn (ρ.set i1 none):=q13 no;have hsl : σ.length = ρ.length:=r.len;have G1:GD X.K F (upd H a1 (.ext (DE a1 [] 0))) a1 [] []:=⟨⟨[],[],0,qq,rfl,nofun,.nil,.nil⟩,hF1⟩
 refine⟨F0,H0,F, ρ.set i1 none,ds,r2,hit,fun J F1 H1 g1 itd=>?_⟩;refine⟨fun k m σ H=>m=ds.length-k/\k<=ds.length/\∃F' ρk,Same F1 F'/\RS X.K F0 H0 F' H σ ρk/\xn ρk/\(∀d, ρk.set j (some (.fz d))=(ρ.set i1 none).set j (some (.fz d)))/\(k=ds.length -> ρk=q6l (ρ.set i1 none) j ds) /\
  σ[i1]? = some (some (.ref a1))/\GD X.K F' H a1 (ks.take k) (v1.take k),
  ⟨ds.length,by simp,ug _,F1, ρ.set i1 none,.refl _,r2.grow g1,no2,fun _=>rfl,fun e=>?_,?_,G1.grow g1⟩,?_⟩
 ·have:ds=[]:=g3n.mp e.symm
  subst this;rfl
 ·rw [g1o (by rw [hsl];exact l1)]
 rintro k m σ' H' ⟨rfl,hk,F', ρk,sm,rk,nok,hset,hend,hσ1,d1⟩
 by_cases hlt:k<ds.length
 ·refine .inr ⟨itd.go k F' H' sm rk.fh hlt,fun σ'' H''=>∃F'' ρk,Same F1 F''/\RS X.K F0 H0 F'' H'' σ'' ρk/\xn ρk/\(∀d, ρk.set j (some (.fz d))=(ρ.set i1 none).set j (some (.fz d)))/\(k+1=ds.length -> ρk=q6l (ρ.set i1 none) j ds) /\
   σ''[i1]? = some (some (.ref a1))/\GD X.K F'' H'' a1 (ks.take (k+1)) (v1.take (k+1)),fun σ'' H'' z=>⟨ds.length-(k+1),by omega,rfl,hlt,z⟩,fun x H2 y=>?_⟩
  have hd:ds[k]? = some ds[k]:=ma hlt;obtain⟨F2,g2,rx⟩:=itd.yld k ds[k] F' H' x H2 sm rk.fh hd y;obtain⟨kq,hkq,hki⟩:=kget k _ hd;obtain⟨w1,hw1,he1⟩:=vget1 k _ hd;obtain⟨b,rfl,hb⟩:=qos hki rx;have r3:=(rk.grow g2).set j rx;rw [hset] at r3;have no3:xn ((ρ.set i1 none).set j (some (.fz ds[k]))):=q4t no2;have s1':(σ'.set j (some (.ref b)))[i1]? = some (some (.ref a1)):=by rw [m5 (ng hj1)];exact hσ1
  have sj':(σ'.set j (some (.ref b)))[j]? = some (some (.ref b)):=by
   rw [g1o];have:=r3.len;rw [g05,g05,g05] at this;rw [this];exact lj
  have hkn:kq∉ks.take k:=fun hm=>by
   obtain⟨i,hi⟩:=g45.mp hm;have hik:i<k:=by
    have:=(n8.mp hi).1;rw [p0] at this;omega
   rw [g20 hik] at hi;obtain⟨z1,z2⟩:=n8.mp hi;obtain⟨z3,z4⟩:=n8.mp hkq;exact(g33.mp hnd.1 i k z1 z3 hik) (z2.trans z4.symm)
  have hkl:∀ {l:DX},l.map (·.1)=ks.take k->l.length<=sizeLine:=fun {l} e=>by
   have e2:=g0f List.length e;rw [mj,p0] at e2;exact jd (by have:=hnd.2;omega)
  have ndk:(ks.take k).Nodup:=List.Sublist.nodup (List.take_sublist _ _) hnd.1;refine⟨F0,H0,F2,_,w1,r3,he1,fun v F3 H3 g3 rv=>?_⟩;have d13:=(d1.grow g2).grow g3;have r4:=r3.grow g3;have hb3:=qj g3.ff hb;obtain⟨⟨xs,ys,ep,e1,e2,e3,e4,e5⟩,f⟩:=d13;refine⟨_,s1',_,sj',a1,b,kq,xs,ep,rfl,rfl,e1,qj r4.fh hb3,fun z hz=>qj r4.fh (e3 z hz),by rw [e2];exact ndk,by rw [e2];exact hkn,hkl e2,fun uu ep' ru hx=>?_⟩;have D1:=GD.push (H:=H3) (ep':=ep') f e2 e3 e4 e5 hb3 rv ru;have r5:=qn5 r4 no3 (o:=.ext (DE a1 (xs++[(kq,b,uu)]) ep')) f hz1 (qlr r4.tab e1 hx);refine⟨F3,_,(sm.trans g2.ff).trans g3.ff,r5,no3,fun d=>List.set_set ..,fun e=>?_,s1',?_⟩
  ·have:ds.getLast? = some ds[k]:=by rw [g5h, <- e,Nat.add_sub_cancel];exact hd
   unfold q6l;rw [this]
  ·rw [take_snoc hkq,take_snoc hw1]
   exact D1
 ·have e:k=ds.length:=by omega
  subst e;refine .inl ⟨itd.stop _ F' H' sm rk.fh (gw _),?_⟩;rw [ui (by omega),ui (by omega)] at d1;have er:=hend rfl;subst er;obtain⟨o1,ho1,rep1⟩:=d1.rep m1 hnd.1 (jd hnd.2);have r8:=qre rk nok d1.f hz1 ho1;exact⟨F0,H0,_,_,fl, ρ',qrf r8 hσ1 rep1,h4,q22 ((g1.ff.trans sm).trans (yq d1.f)) q⟩
end
end DL
namespace DL
open PySem L2
theorem qcd(a b:Int): decide (V.int a=V.int b)=decide (a=b):=g2v.mpr ⟨fun h=>by injection h,fun h=>by rw [h]⟩
theorem qf4(a b:Int): oEq (.int a) (.int b)=some (.bl (decide (a=b))):=by
 simp only [oEq,qkn,flD,q8b,m9,nu,g6f,qcd]
theorem qf5(a b:Int): q4l (.int a) (.int b)=some (.bl (!decide (a=b))):=by
 simp only [q4l,flD,q8b,m9,nu,qcd]
theorem qrg(a b:Bool): oEq (.bl a) (.bl b)=some (.bl (a==b)):=by
 cases a <;> cases b <;> rfl
theorem qce(a b:Int)(h:0<b): oMod (.int a) (.int b)=some (.int (a%b)):=by simp [oMod,oI,h]
theorem qlw(a b:Int)(h:0<b)(h2:b<1073741824): oDiv (.int a) (.int b)=some (.int (a / b)):=by simp [oDiv,oI,h,h2]
theorem qj7(a b:Int): ze (.int a) (.int b)=some (.int (a+b)):=rfl
theorem qlx(a b:Int): oSub (.int a) (.int b)=some (.int (a-b)):=rfl
theorem q8t(a b:Int): oLt' (.int a) (.int b)=some (.bl (decide (a<b))):=rfl
theorem qov(a b:Int): oLe (.int a) (.int b)=some (.bl (decide (a<=b))):=rfl
theorem qow(a b:Int): oGt (.int a) (.int b)=some (.bl (decide (b<a))):=rfl
theorem qf6(a b:Int): oGe (.int a) (.int b)=some (.bl (decide (b<=a))):=rfl
theorem q52(xs ys:List D)(h:xs.length+ys.length<=1000000): ze (.tup xs) (.tup ys)=some (.tup (xs++ys)):=by
 show(oAdd (.tup xs) (.tup ys)).or (qbb (.tup xs) (.tup ys))=_;simp only [oAdd,oI,Option.none_or,qbb,lim,mi h]
theorem qly(a b:Int)(h:0<=b)(h2:b<=1000000)(h3:a.natAbs<2 ^ 64): oShl (.int a) (.int b)=some (.int (a*2 ^ b.toNat)):=by simp [oShl,oI,h,h2,h3]
theorem qlz(a b:Int)(h:0<=b)(h2:b<=1000000)(h3:a.natAbs<2 ^ 64): oPow (.int a) (.int b)=some (.int (a ^ b.toNat)):=by simp [oPow,oI,h,h2,h3]
theorem q9q(ns:List Int): qba [.lst (ns.map .int)]=some (.int ns.sum):=by simp [qba,o1L,y4]
theorem qgi(bs:List Bool): q8g [.lst (bs.map .bl)]=some (.bl (bs.all id)):=by simp [q8g,o1L,q3n]
theorem qgj(bs:List Bool): qfo [.lst (bs.map .bl)]=some (.bl (bs.any id)):=by simp [qfo,o1L,q3n]
theorem qf7{α : Type}{xs:List α}{i:Int}(h0:0<=i): atI xs i=xs[i.toNat]? :=by
 unfold atI ixN;rw [mi h0]
 by_cases h:i<xs.length
 ·rw [mi h];rfl
 ·rw [mn h,g6c (by omega)];rfl
theorem qm0{α : Type}(xs:List α): atI xs (-1)=xs.getLast? :=by
 unfold atI ixN;rw [mn (by decide)];cases xs with
 | nil=>rfl
 | cons a r=>
  rw [mi (by simp only [p7];omega)];show(a :: r)[((-1:Int)+((a :: r).length:Nat)).toNat]? = _;rw [g5h]
  congr 1
  simp only [p7];omega
section
variable{b:FB}{body:FS}{d:D}{ds:List D}{ρ ρ1 ρ2:Rho}
theorem xp(h1:b d ρ = some ρ1)(h2:body ρ1=some (.nx, ρ2)): runFor b body (d :: ds) ρ = runFor b body ds ρ2:=by simp only [runFor,h1,h2,m9]
end
theorem q80{b:FB}{c:FT}{f:FE}{ρ : Rho}(p:D->Bool)(g:D->D): ∀ {ds:List D},(∀d∈ds,∃ ρ1,b d ρ = some ρ1/\c ρ1=some (p d)/\(p d=true->f ρ1=some (g d)))->qr b c f ρ ds=some ((ds.filter p).map g)
 | [],_=>rfl
 | d :: ds,h=>by
  obtain⟨ρ1,e1,e2,e3⟩:=h d gm;have ih:=q80 p g fun e he=>h e (gq _ he);simp only [qr,e1,e2,m9];cases hp:p d with
  | true=>simp only [nu,e3 hp,m9,ih,p9,p8,hp,gj]
  | false=>simp only [gh,nz,ih,p8,hp]
theorem q0y{b:FB}{f:FE}{ρ : Rho}(g:D->D){ds:List D}(h:∀d∈ds,∃ ρ1,b d ρ = some ρ1/\f ρ1=some (g d)): qr b z8 f ρ ds=some (ds.map g):=by
 have:=q80 (b:=b) (c:=z8) (f:=f) (ρ := ρ) (fun _=>true) g (ds:=ds) fun d hd=>let⟨ρ1,e1,e2⟩:=h d hd; ⟨ρ1,e1,rfl,fun _=>e2⟩
 rw [List.filter_eq_self.mpr (fun _ _=>rfl)] at this;exact this
theorem q5v(lo:Int)(n:Nat): qz lo (n+1)=.int lo :: qz (lo+1) n:=by
 unfold qz;rw [g2g,gj,nj]
 congr 1
 ·simp
 ·apply g2z
  intro a _;simp only [Function.comp,Nat.succ_eq_add_one,Int.natCast_add]
  congr 1
  omega
theorem q0b(lo:Int)(n:Nat): (qz lo n).length=n:=by simp [qz]
theorem q1v(fa:FA)(ρ : Rho)(j:Int)(h:fa ρ = some [.int j])(h1 : -(2 ^ 62)<=j)(h2:j<2 ^ 62): iR1 fa ρ = some (qz 0 j.toNat):=by
 simp only [iR1,h,m9,nv h1,nv h2,g6l,nu]
theorem q5w{α : Type}(xs:List D)(k:Nat): cutD xs none (some (k:Int))=xs.take k:=by
 unfold cutD;rw [HT.sIx_nat,HT.sIx_none];simp only [g4n,Nat.sub_zero]
 by_cases h:k<=xs.length
 ·rw [g63 h]
 ·rw [g5v (by omega),g5n,ui (by omega)]
theorem qcf{α : Type}(xs:List D)(k:Nat): cutD xs (some (k:Int)) none=xs.drop k:=by
 unfold cutD;rw [HT.sIx_nat,HT.sIx_none]
 by_cases h:k<=xs.length
 ·rw [g63 h,ui (by rw [uz];exact gw _)]
 ·rw [g5v (by omega),g5m,List.drop_eq_nil_of_le (by omega)];simp
section
variable{ρ ρ1 ρ':Rho}{f g:FE}{d x y z:D}{i n m ar:Nat}{fa fk:FA}{ds es:List D}{t t2:FT}{c:Bool}{u w:FS}{r:Option (Fl×Rho)}
theorem x_c:eC d ρ = some d:=rfl
theorem x_v(h : ρ[i]? = some (some (.fz d))): eV i ρ = some d:=by unfold eV;rw [h]
theorem qgk{o:D->D->Option D}(h1:f ρ = some x)(h2:g ρ = some y)(h3:o x y=some z): eOp o f g ρ = some z:=by unfold eOp;rw [h1,m9,h2,m9,h3]
theorem qts{o:D->Option D}(h1:f ρ = some x)(h3:o x=some z): eUn o f ρ = some z:=by unfold eUn;rw [h1,m9,h3]
theorem q40:qf ρ = some []:=rfl
theorem q14(h1:f ρ = some d)(h2:fa ρ = some ds): qa f fa ρ = some (d :: ds):=by unfold qa;rw [h1,m9,h2,p9]
theorem x_call{o:List D->Option D}(h1:fa ρ = some ds)(h2:o ds=some d): qi o fa ρ = some d:=by unfold qi;rw [h1,m9,h2]
theorem qj8{o:List D->Option D}{dds:List D}(h1:fa ρ = some ds)(hl:(ds++dds).length=ar)(h2:o (ds++dds)=some d): qi (qo ar dds o) fa ρ = some d:=by unfold qi qo;rw [h1,m9,mi hl,h2]
theorem qsy(h1:fa ρ = some ds)(hl:ds.length<=lim): jh fa ρ = some (.tup ds):=by unfold jh;rw [h1,m9,mi hl]
theorem x_l(h1:fa ρ = some ds): eL fa ρ = some (.lst ds):=by unfold eL;rw [h1,p9]
theorem qm1(h1:f ρ = some d)(h2:qb5 d=some c): bT f ρ = some c:=by unfold bT;rw [h1,m9,h2]
theorem qrh(h1:t ρ = some c)(hc:c=true)(h2:u ρ = r): sIf t u w ρ = r:=by subst hc;unfold sIf;rw [h1,m9];exact h2
theorem qri(h1:t ρ = some c)(hc:c=false)(h2:w ρ = r): sIf t u w ρ = r:=by subst hc;unfold sIf;rw [h1,m9];exact h2
theorem qrj:xy ρ = some (.nx, ρ):=rfl
theorem qrk(h:u (ds.map (fun d=>some (.fz d))++List.replicate (n-ds.length) none)=some (.rt d, ρ')): z7 n u ds=some d:=by unfold z7;rw [h]
end
theorem eV0(d:D)(r:Rho): eV 0 (some (.fz d) :: r)=some d:=rfl
theorem eVs(i:Nat)(x:Option B)(r:Rho): eV (i+1) (x :: r)=eV i r:=rfl
theorem qn6(ds:List D): yo [.tup ds]=some (.int ds.length):=rfl
theorem qsz(ds:List D): yo [.lst ds]=some (.int ds.length):=rfl
theorem qtt(i:Int): (match D.int i with | .int i=>some (some i)|_=>none:Option (Option Int))=some (some i):=rfl
theorem qtu(ds:List D)(r:Rho): frz 0 (some (.ow ds) :: r)=some (.fz (.lst ds)) :: r:=rfl
theorem frzs(i:Nat)(x:Option B)(r:Rho): frz (i+1) (x :: r)=x :: frz i r:=by
 unfold frz;rw [g3p];cases h:r[i]? with
 | none=>rfl
 | some y=>
  cases y with
  | none=>rfl
  | some z=>cases z <;> rfl
theorem kg(a b:Int)(h : -(2 ^ 64)<b/\b<2 ^ 64): jm (.int a) (.int b)=some (.int (a*b)):=by
 have h2:(decide (-(2 ^ 64)<b)&&decide (b<2 ^ 64))=true:=by rw [nv h.1,nv h.2];rfl
 show(if((decide (-(2 ^ 64)<a)&&decide (a<2 ^ 64)) || (decide (-(2 ^ 64)<b)&&decide (b<2 ^ 64)))=true then some (D.int (a*b)) else none).or _=_;rw [h2,Bool.or_true,mi rfl,g6f]
theorem qdk(a b:Int)(h : -(2 ^ 64)<a/\a<2 ^ 64): jm (.int a) (.int b)=some (.int (a*b)):=by
 have h2:(decide (-(2 ^ 64)<a)&&decide (a<2 ^ 64))=true:=by rw [nv h.1,nv h.2];rfl
 show(if((decide (-(2 ^ 64)<a)&&decide (a<2 ^ 64)) || (decide (-(2 ^ 64)<b)&&decide (b<2 ^ 64)))=true then some (D.int (a*b)) else none).or _=_;rw [h2,Bool.true_or,mi rfl,g6f]
theorem qtv(ds:List D)(i:Int): oIx (.lst ds) (.int i)=atI ds i:=rfl
theorem qrl(ds:List D)(i:Int): oIx (.tup ds) (.int i)=atI ds i:=rfl
theorem qox{α : Type}(xs:List α)(n:Nat): atI xs (no_index (OfNat.ofNat n:Int))=xs[n]? :=by
 show atI xs (n:Int)=xs[n]?;rw [qf7 (show(0:Int)<=(n:Int) by omega)]
 rfl
theorem qm2{α : Type}(xs:List α)(n:Nat): atI xs (n:Int)=xs[n]? :=by
 rw [qf7 (show(0:Int)<=(n:Int) by omega)]
 rfl
theorem qoy(ds:List D): qmy [.lst ds]=some ds:=rfl
theorem qoz(ds:List D): qmy [.tup ds]=some ds:=rfl
theorem vw(ds:List D): je [.lst ds]=some (.tup ds):=rfl
theorem qm3(ds:List D): je [.tup ds]=some (.tup ds):=rfl
theorem q41(ds:List D)(r:Rho): q6d 0 (some (.ow ds) :: r)=some ds:=rfl
theorem q42(i:Nat)(x:Option B)(r:Rho): q6d (i+1) (x :: r)=q6d i r:=rfl
theorem zd{n:Nat}{u:FS}{ds:List D}{d:D}(h:(u (ds.map (fun d=>some (.fz d))++List.replicate (n-ds.length) none)).map Prod.fst=some (.rt d)): z7 n u ds=some d:=by
 cases e:u (ds.map (fun d=>some (.fz d))++List.replicate (n-ds.length) none) with
 | none=>rw [e] at h;cases h
 | some p=>
  obtain⟨fl, ρ'⟩:=p;rw [e] at h;have h':fl=.rt d:=by simpa using h
  subst h';exact qrk e
theorem qp0:zc .int .non=false/\(∀b:Bool,zc .int (.bl b)=true)/\(∀i:Int,zc .int (.int i)=true)/\(∀x:Str,zc .int (.str x)=false)/\(∀ds:List D,zc .int (.tup ds)=false)/\(∀ds:List D,zc .int (.lst ds)=false)/\(∀(ks:List Key) (vs:List D),zc .int (.dct ks vs)=false)/\(∀(ks:List (List Int)) (vs:List D),zc .int (.dtt ks vs)=false)/\zc .bool .non=false/\(∀b:Bool,zc .bool (.bl b)=true)/\(∀i:Int,zc .bool (.int i)=false)/\(∀x:Str,zc .bool (.str x)=false)/\(∀ds:List D,zc .bool (.tup ds)=false)/\(∀ds:List D,zc .bool (.lst ds)=false)/\(∀(ks:List Key) (vs:List D),zc .bool (.dct ks vs)=false)/\(∀(ks:List (List Int)) (vs:List D),zc .bool (.dtt ks vs)=false)/\zc .tuple .non=false/\(∀b:Bool,zc .tuple (.bl b)=false)/\(∀i:Int,zc .tuple (.int i)=false)/\(∀x:Str,zc .tuple (.str x)=false)/\(∀ds:List D,zc .tuple (.tup ds)=true)/\(∀ds:List D,zc .tuple (.lst ds)=false)/\(∀(ks:List Key) (vs:List D),zc .tuple (.dct ks vs)=false)/\(∀(ks:List (List Int)) (vs:List D),zc .tuple (.dtt ks vs)=false)/\zc .list .non=false/\(∀b:Bool,zc .list (.bl b)=false)/\(∀i:Int,zc .list (.int i)=false)/\(∀x:Str,zc .list (.str x)=false)/\(∀ds:List D,zc .list (.tup ds)=false)/\(∀ds:List D,zc .list (.lst ds)=true)/\(∀(ks:List Key) (vs:List D),zc .list (.dct ks vs)=false)/\(∀(ks:List (List Int)) (vs:List D),zc .list (.dtt ks vs)=false)/\zc .str .non=false/\(∀b:Bool,zc .str (.bl b)=false)/\(∀i:Int,zc .str (.int i)=false)/\(∀x:Str,zc .str (.str x)=true)/\(∀ds:List D,zc .str (.tup ds)=false)/\(∀ds:List D,zc .str (.lst ds)=false)/\(∀(ks:List Key) (vs:List D),zc .str (.dct ks vs)=false)/\(∀(ks:List (List Int)) (vs:List D),zc .str (.dtt ks vs)=false)/\zc .dict .non=false/\(∀b:Bool,zc .dict (.bl b)=false)/\(∀i:Int,zc .dict (.int i)=false)/\(∀x:Str,zc .dict (.str x)=false)/\(∀ds:List D,zc .dict (.tup ds)=false)/\(∀ds:List D,zc .dict (.lst ds)=false)/\(∀(ks:List Key) (vs:List D),zc .dict (.dct ks vs)=true)/\(∀(ks:List (List Int)) (vs:List D),zc .dict (.dtt ks vs)=true):=by
 refine⟨?_,?_,?_,?_,?_,?_,?_,?_,?_,?_,?_,?_,?_,?_,?_,?_,?_,?_,?_,?_,?_,?_,?_,?_,?_,?_,?_,?_,?_,?_,?_,?_,?_,?_,?_,?_,?_,?_,?_,?_,?_,?_,?_,?_,?_,?_,?_,?_⟩ <;> intros <;> rfl
theorem qp1{x:Int}{n:Nat}(hn:0<n): ∃k:Nat,k<n/\oMod (.int x) (.int (n:Int))=some (.int (k:Int)):=by
 have h1:=g0y x (show(n:Int)≠0 by omega);have h2:=g1t x (show(0:Int)<(n:Int) by omega);refine⟨(x%n).toNat,by omega,?_⟩;rw [qce _ _ (by omega),g2y h1]
end DL
namespace My
open PySem PySem.Spec PyProof.Rows L2 DL
local macro_rules | `(tactic| walk_at "A")=> `(tactic| ((refine qnp (hs:=?hs) ?a ?_);(case hs=>exact qej rfl)))
local macro_rules | `(tactic| walk_at "L")=> `(tactic| first|exact .inl rfl|exact .inr rfl|assumption)
def top(i:Nat): Stmt:=PySem.Challenge.pw_oftentogether_k23_greatest_and_smallest.main.body.getD i (.Pass ⟨0,0,0,0⟩)
def qrm(i j:Nat): Stmt:=match top i with | .ClassDef _ _ _ body _ _ _ _ _ _ _=>body.getD j (.Pass ⟨0,0,0,0⟩)|x=>x
section
variable[Lam]{P:Program}{w:World}{K:Frag}{mg:Str->Option Value}{base:Heap}
abbrev q02:Stmt:=top 24
noncomputable def q53:List Str:=["_law_mark","_law_some","_law_ware"]
theorem q1o:(q53).Nodup:=by decide +kernel
theorem qgl:FnScope q53 ["_law_mark"] (qc q02):=⟨rfl,rfl,rfl,q1o,rfl,by decide +kernel,by decide +kernel⟩
noncomputable def xv:FS:=(z5 (sIf (zp oEq (eOp oMod (eV 0) (eC (.int 2))) (eC (.int 1))) (q1e 1 (eV 2)) xy) (j3 0 (eOp oDiv (eV 0) (eC (.int 2)))))
noncomputable def q15:FS:=(z5 (q0m 1 (q1d qf)) (z5 (q08 (iR1 (qa (eC (.int 12)) qf)) (bN 2) xv) (q07 1 (zj (qi je (qa (eV 1) qf))))))
noncomputable def zu:List D->Option D:=z7 3 q15
theorem q81{fa:Addr}{cdv:Value}{A:Around}{outer:List Env}{s:Shared}{H:Hp}{E:XK}(n_range:mg "range" = none)(n_tuple:mg "tuple" = none)(hr:Room 0 (A.deeper (envOfC "_law_set" (qc q02) s.heap.objs.size fa cdv))):
  PSs (zo CX0 P w K mg base q53 "_law_set" (qc q02) fa cdv A outer s H E).nox (qt q02) (tDS K q15):=by
 unfold q15 xv;refine(ql ?_ ?_);exact(q3d (i:=1) q1o rfl (Or.inl rfl) (wj qe));refine(ql ?_ ?_);refine(q23 g0z rfl ?_ (z0 q1o rfl (Or.inl rfl) (.inl rfl)) (ql ?_ ?_));refine(wz rfl n_range ?_);walk_at "A";exact qd;exact qe;refine(xm ?_ (qp ?_) ji);refine(zq (q0w hr.units) ?_ qd);refine(qm ja ?_ qd);exact(q0 (pv 0));refine(q4p (pv 1) ?_);exact(q0 (pv 2));refine(qp ?_);refine(zi (i:=0) ?_ ?_ ?_ ?_ ?_ ?_);exact q1o;exact rfl;exact(Or.inl rfl);refine(qm vy ?_ qd);exact(q0 (pv 0));exact rfl;walk_at "L";refine(yc 1 (qp ?_));refine(z6 ?_);refine(j8 (xj) rfl n_tuple DL.boot_tuple ?_);walk_at "A";exact(q0 (pv 1));exact qe
theorem qgm{fa:Addr}{dV:Value}{fd:FuncData}(F:Fun2 K "_law_set" "_law_set" q02 dV fa fd)(n_range:mg "range" = none)(n_tuple:mg "tuple" = none): FnOk P w K mg base CX0 1 fa fd ["_law_mark"] (spD K 1 zu):=
 F.okn (k:=0) (n:=3) (ar:=1) (k1:=1) (u:=q15) qgl rfl rfl rfl fun cdv A outer s H E hr=>(by first|(with_reducible exact q81 n_range n_tuple hr)|exact q81 n_range n_tuple hr)
abbrev yj:Stmt:=top 25
noncomputable def q2z:List Str:=["_law_many"]
theorem qcg:(q2z).Nodup:=by decide +kernel
theorem qch:FnScope q2z ["_law_many"] (qc yj):=⟨rfl,rfl,rfl,qcg,rfl,by decide +kernel,by decide +kernel⟩
noncomputable def q0z:FS:=(zj (eOp oIx (eL (q1d (qa (eC (.int 1)) (qa (eC (.int 2)) (qa (eC (.int 4)) (qa (eC (.int 8)) (qa (eC (.int 16)) (qa (eC (.int 32)) (qa (eC (.int 64)) (qa (eC (.int 128)) (qa (eC (.int 256)) (qa (eC (.int 512)) (qa (eC (.int 1024)) (qa (eC (.int 2048)) (qa (eC (.int 4096)) qf))))))))))))))) (eV 0)))
noncomputable def zr:List D->Option D:=z7 1 q0z
theorem q54{fa:Addr}{cdv:Value}{A:Around}{outer:List Env}{s:Shared}{H:Hp}{E:XK}(hr:Room 0 (A.deeper (envOfC "_law_power" (qc yj) s.heap.objs.size fa cdv))):
  PSs (zo CX0 P w K mg base q2z "_law_power" (qc yj) fa cdv A outer s H E).nox (qt yj) (tDS K q0z):=by
 unfold q0z;refine(qp ?_);refine(z6 ?_);refine(jl ?_ ?_);refine(x9 ?_);refine(wj ?_);walk_at "A";exact qd;walk_at "A";exact qd;walk_at "A";exact qd;walk_at "A";exact qd;walk_at "A";exact qd;walk_at "A";exact qd;walk_at "A";exact qd;walk_at "A";exact qd;walk_at "A";exact qd;walk_at "A";exact qd;walk_at "A";exact qd;walk_at "A";exact qd;walk_at "A";exact qd;exact qe;exact(q0 (pv 0))
theorem qci{fa:Addr}{dV:Value}{fd:FuncData}(F:Fun2 K "_law_power" "_law_power" yj dV fa fd): FnOk P w K mg base CX0 1 fa fd ["_law_many"] (spD K 1 zr):=
 F.okn (k:=0) (n:=1) (ar:=1) (k1:=1) (u:=q0z) qch rfl rfl rfl fun cdv A outer s H E hr=>(by first|(with_reducible exact q54  hr)|exact q54  hr)
abbrev q03:Stmt:=top 26
noncomputable def q55:List Str:=["_law_number","_law_wares","_law_most"]
theorem qgn:(q55).Nodup:=by decide +kernel
theorem qgo:FnScope q55 ["_law_number","_law_wares","_law_most"] (qc q03):=⟨rfl,rfl,rfl,qgn,rfl,by decide +kernel,by decide +kernel⟩
noncomputable def q16:FS:=(zj (jh (qa (eOp ze (eC (.int 1)) (eOp oMod (eOp oDiv (eV 0) (eC (.int 4096))) (eV 2))) (qa (qi (qo 1 [] zu) (qa (eOp oMod (eV 0) (qi (qo 1 [] zr) (qa (eV 1) qf))) qf)) qf))))
noncomputable def k6:List D->Option D:=z7 3 q16
theorem q82{fa:Addr}{cdv:Value}{A:Around}{outer:List Env}{s:Shared}{H:Hp}{E:XK}{a__law_set:Addr}{fd__law_set:FuncData}(c_17:Cal P w K mg base "_law_set" 1 ["_law_mark"] 1 zu a__law_set fd__law_set)(b_17:Binds K fd__law_set ["_law_mark"] []){a__law_power:Addr}{fd__law_power:FuncData}(c_14:Cal P w K mg base "_law_power" 1 ["_law_many"] 1 zr a__law_power fd__law_power)(b_14:Binds K fd__law_power ["_law_many"] [])(hr:Room 1 (A.deeper (envOfC "_law_run" (qc q03) s.heap.objs.size fa cdv))):
  PSs (zo CX0 P w K mg base q55 "_law_run" (qc q03) fa cdv A outer s H E).nox (qt q03) (tDS K q16):=by
 unfold q16;refine(qp ?_);refine(z6 ?_);refine(va ?_);walk_at "A";refine(qm zy qd ?_);refine(qm ja ?_ ?_);refine(qm vy ?_ qd);exact(q0 (pv 0));exact(q0 (pv 2));walk_at "A";refine(qv c_17 b_17 hr (by decide) rfl ?_);walk_at "A";refine(qm ja ?_ ?_);exact(q0 (pv 0));refine(qv c_14 b_14 hr (by decide) rfl ?_);walk_at "A";exact(q0 (pv 1));exact qe;exact qe;exact qe
theorem qgp{fa:Addr}{dV:Value}{fd:FuncData}(F:Fun2 K "_law_run" "_law_run" q03 dV fa fd){a__law_set:Addr}{fd__law_set:FuncData}(c_17:Cal P w K mg base "_law_set" 1 ["_law_mark"] 1 zu a__law_set fd__law_set)(b_17:Binds K fd__law_set ["_law_mark"] []){a__law_power:Addr}{fd__law_power:FuncData}(c_14:Cal P w K mg base "_law_power" 1 ["_law_many"] 1 zr a__law_power fd__law_power)(b_14:Binds K fd__law_power ["_law_many"] []): FnOk P w K mg base CX0 2 fa fd ["_law_number","_law_wares","_law_most"] (spD K 3 k6):=
 F.okn (k:=1) (n:=3) (ar:=3) (k1:=2) (u:=q16) qgo rfl rfl rfl fun cdv A outer s H E hr=>(by first|(with_reducible exact q82 c_17 b_17 c_14 b_14 hr)|exact q82 c_17 b_17 c_14 b_14 hr)
abbrev yk:Stmt:=top 23
noncomputable def q30:List Str:=["_law_script","_law_k","_law_number"]
theorem q0c:(q30).Nodup:=by decide +kernel
theorem qcj:FnScope q30 ["_law_script","_law_k"] (qc yk):=⟨rfl,rfl,rfl,q0c,rfl,by decide +kernel,by decide +kernel⟩
noncomputable def yl:FS:=(z5 (j3 2 (eOp ze (eOp jm (eC (.int 5)) (eV 1)) (eC (.int 2)))) (z5 (sIf (zp oGt (qi yo (qa (eV 0) qf)) (eC (.int 0))) (j3 2 (eOp oMod (eOp oIx (eV 0) (eOp oMod (eV 1) (qi yo (qa (eV 0) qf)))) (eC (.int 2147483629)))) xy) (z5 (j3 2 (eOp oMod (eOp ze (eOp ze (eOp jm (eV 2) (eC (.int 48271))) (eOp jm (eOp jm (eV 1) (eV 1)) (eC (.int 69621)))) (eC (.int 11))) (eC (.int 2147483647)))) (zj (eOp oMod (eOp jm (eV 2) (eV 2)) (eC (.int 2147483629)))))))
noncomputable def zt:List D->Option D:=z7 3 yl
theorem q56{fa:Addr}{cdv:Value}{A:Around}{outer:List Env}{s:Shared}{H:Hp}{E:XK}(n_len:mg "len" = none)(hr:Room 0 (A.deeper (envOfC "_law_mixed" (qc yk) s.heap.objs.size fa cdv))):
  PSs (zo CX0 P w K mg base q30 "_law_mixed" (qc yk) fa cdv A outer s H E).nox (qt yk) (tDS K yl):=by
 unfold yl;refine(ql ?_ ?_);refine(zi (i:=2) ?_ ?_ ?_ ?_ ?_ ?_);exact q0c;exact rfl;exact(Or.inl rfl);refine(qm zy ?_ qd);refine(qm xu qd ?_);exact(q0 (pv 1));exact rfl;walk_at "L";refine(ql ?_ ?_);refine(xm ?_ (qp ?_) ji);refine(zq q7f ?_ qd);refine(j7 (yw) rfl n_len DL.xa ?_);walk_at "A";exact(q0 (pv 0));exact qe;refine(zi (i:=2) ?_ ?_ ?_ ?_ ?_ ?_);exact q0c;exact rfl;exact(Or.inl rfl);refine(qm ja ?_ qd);refine(jl ?_ ?_);exact(q0 (pv 0));refine(qm ja ?_ ?_);exact(q0 (pv 1));refine(j7 (yw) rfl n_len DL.xa ?_);walk_at "A";exact(q0 (pv 0));exact qe;exact rfl;walk_at "L";refine(ql ?_ ?_);refine(zi (i:=2) ?_ ?_ ?_ ?_ ?_ ?_);exact q0c;exact rfl;exact(Or.inl rfl);refine(qm ja ?_ qd);refine(qm zy ?_ qd);refine(qm zy ?_ ?_);refine(qm xu ?_ qd);exact(q0 (pv 2));refine(qm xu ?_ qd);refine(qm xu ?_ ?_);exact(q0 (pv 1));exact(q0 (pv 1));exact rfl;walk_at "L";refine(qp ?_);refine(z6 ?_);refine(qm ja ?_ qd);refine(qm xu ?_ ?_);exact(q0 (pv 2));exact(q0 (pv 2))
theorem qck{fa:Addr}{dV:Value}{fd:FuncData}(F:Fun2 K "_law_mixed" "_law_mixed" yk dV fa fd)(n_len:mg "len" = none): FnOk P w K mg base CX0 1 fa fd ["_law_script","_law_k"] (spD K 2 zt):=
 F.okn (k:=0) (n:=3) (ar:=2) (k1:=1) (u:=yl) qcj rfl rfl rfl fun cdv A outer s H E hr=>(by first|(with_reducible exact q56 n_len hr)|exact q56 n_len hr)
abbrev kh:Stmt:=top 27
noncomputable def q43:List Str:=["_law_script","_law_most_wares","_law_first","_law_wares","_law_most","_law_runs","_law_k","_law_number"]
theorem x5:(q43).Nodup:=by decide +kernel
theorem qdl:FnScope q43 ["_law_script","_law_most_wares"] (qc kh):=⟨rfl,rfl,rfl,x5,rfl,by decide +kernel,by decide +kernel⟩
theorem qaf:(["_law_cell","_law_wares","_law_most"]:List Str).Nodup:=by decide +kernel
noncomputable def xk:FS:=(z5 (j3 7 (eOp ze (eOp jm (qi (qo 2 [] zt) (qa (eV 0) (qa (eOp ze (eOp jm (eC (.int 3)) (eV 6)) (eC (.int 1))) qf))) (eC (.int 4096))) (eOp oMod (qi (qo 2 [] zt) (qa (eV 0) (qa (eOp ze (eOp jm (eC (.int 3)) (eV 6)) (eC (.int 2))) qf))) (eC (.int 4096))))) (z5 (sIf (q6c (zp oGt (eV 6) (eC (.int 1))) (zp oEq (eOp oMod (qi (qo 2 [] zt) (qa (eV 0) (qa (eOp ze (eOp jm (eC (.int 3)) (eV 6)) (eC (.int 3))) qf))) (eC (.int 3))) (eC (.int 0)))) (j3 7 (eOp ze (eOp jm (eOp oDiv (eV 7) (eC (.int 4096))) (eC (.int 4096))) (eOp oMod (eOp jm (eOp oDiv (eOp oMod (eV 7) (eC (.int 4096))) (eC (.int 8))) (eC (.int 8))) (eC (.int 4096))))) xy) (q1e 5 (qi (qo 3 [] k6) (qa (eV 7) (qa (eV 3) (qa (eV 4) qf)))))))
noncomputable def ki:FS:=(z5 (j3 2 (eC (.int 0))) (z5 (sIf (zp oGt (qi yo (qa (eV 0) qf)) (eC (.int 0))) (j3 2 (eOp oIx (eV 0) (eC (.int 0)))) xy) (z5 (j3 3 (eOp oMod (eV 2) (eOp ze (eV 1) (eC (.int 1))))) (z5 (j3 4 (eOp oIx (eL (q1d (qa (eC (.int 3)) (qa (eC (.int 40)) (qa (eOp oPow (eC (.int 10)) (eC (.int 12))) qf))))) (eOp oMod (eOp oDiv (eV 2) (eC (.int 16))) (eC (.int 3))))) (z5 (sIf (zp oEq (eOp oMod (eOp oDiv (eV 2) (eC (.int 48))) (eC (.int 2))) (eC (.int 0))) (zj (jh (qa (eV 3) (qa (qi je (qa (eL (qw (jk (eSl (eV 0) (oAt (eC (.int 1))) (oAt (eC (.int 63))))) [none,some 3,some 4] (bN 0) z8 (qi (qo 3 [] k6) (qa (eV 0) (qa (eV 1) (qa (eV 2) qf)))))) qf)) qf)))) xy) (z5 (q0m 5 (q1d qf)) (z5 (q08 (iR1 (qa (eOp oMod (eOp oDiv (eV 2) (eC (.int 96))) (eC (.int 25))) qf)) (bN 6) xk) (q07 5 (zj (jh (qa (eV 3) (qa (qi je (qa (eV 5) qf)) qf))))))))))))
noncomputable def ve:List D->Option D:=z7 8 ki
theorem q5x{fa:Addr}{cdv:Value}{A:Around}{outer:List Env}{s:Shared}{H:Hp}{E:XK}{a__law_run:Addr}{fd__law_run:FuncData}(c_15:Cal P w K mg base "_law_run" 2 ["_law_number","_law_wares","_law_most"] 3 k6 a__law_run fd__law_run)(b_15:Binds K fd__law_run ["_law_number","_law_wares","_law_most"] []){a__law_mixed:Addr}{fd__law_mixed:FuncData}(c_12:Cal P w K mg base "_law_mixed" 1 ["_law_script","_law_k"] 2 zt a__law_mixed fd__law_mixed)(b_12:Binds K fd__law_mixed ["_law_script","_law_k"] [])(n_range:mg "range" = none)(n_len:mg "len" = none)(n_tuple:mg "tuple" = none)(hr:Room 2 (A.deeper (envOfC "_law_pile" (qc kh) s.heap.objs.size fa cdv))):
  PSs (zo CX0 P w K mg base q43 "_law_pile" (qc kh) fa cdv A outer s H E).nox (qt kh) (tDS K ki):=by
 unfold ki xk;refine(ql ?_ ?_);refine(zi (i:=2) ?_ ?_ ?_ qd ?_ ?_);exact x5;exact rfl;exact(Or.inl rfl);exact rfl;walk_at "L";refine(ql ?_ ?_);refine(xm ?_ (qp ?_) ji);refine(zq q7f ?_ qd);refine(j7 (yw) rfl n_len DL.xa ?_);walk_at "A";exact(q0 (pv 0));exact qe;refine(zi (i:=2) ?_ ?_ ?_ ?_ ?_ ?_);exact x5;exact rfl;exact(Or.inl rfl);refine(jl ?_ qd);exact(q0 (pv 0));exact rfl;walk_at "L";refine(ql ?_ ?_);refine(zi (i:=3) ?_ ?_ ?_ ?_ ?_ ?_);exact x5;exact rfl;exact(Or.inr rfl);refine(qm ja ?_ ?_);exact(q0 (pv 2));refine(qm zy ?_ qd);exact(q0 (pv 1));exact rfl;walk_at "L";refine(ql ?_ ?_);refine(zi (i:=4) ?_ ?_ ?_ ?_ ?_ ?_);exact x5;exact rfl;exact(Or.inr rfl);refine(jl ?_ ?_);refine(x9 ?_);refine(wj ?_);walk_at "A";exact qd;walk_at "A";exact qd;walk_at "A";exact(qm qhu qd qd);exact qe;refine(qm ja ?_ qd);refine(qm vy ?_ qd);exact(q0 (pv 2));exact rfl;walk_at "L";refine(ql ?_ ?_);refine(xm ?_ (qp ?_) ji);refine(zq (q0w hr.units) ?_ qd);refine(qm ja ?_ qd);refine(qm vy ?_ qd);exact(q0 (pv 2));refine(z6 ?_);refine(va ?_);walk_at "A";exact(q0 (pv 3));walk_at "A";refine(j8 (xj) rfl n_tuple DL.boot_tuple ?_);walk_at "A";refine(x9 ?_);refine(zm (N':=["_law_cell","_law_wares","_law_most"]) (cap:=[none,some 3,some 4]) rfl (zb rfl rfl) (z9 rfl) ?_ (fun _ _ _ _ _=>(z0 qaf rfl (Or.inl rfl) (.inr rfl))) (fun _ _ _ _ _=>vc) (fun _ _ _ _ _=>?_));refine(jb ?_);refine(q25 ?_ (q0n qd) (q0n qd));exact(q0 (pv 0));refine(qv c_15 b_15 hr (by decide) rfl ?_);walk_at "A";exact(q0 (pv 0));walk_at "A";exact(q0 (pv 1));walk_at "A";exact(q0 (pv 2));exact qe;exact qe;exact qe;refine(ql ?_ ?_);exact(q3d (i:=5) x5 rfl (Or.inl rfl) (wj qe));refine(ql ?_ ?_);refine(q23 g0z rfl ?_ (z0 x5 rfl (Or.inl rfl) (.inl rfl)) (ql ?_ ?_));refine(wz rfl n_range ?_);walk_at "A";refine(qm ja ?_ qd);refine(qm vy ?_ qd);exact(q0 (pv 2));exact qe;refine(zi (i:=7) ?_ ?_ ?_ ?_ ?_ ?_);exact x5;exact rfl;exact(Or.inl rfl);refine(qm zy ?_ ?_);refine(qm xu ?_ qd);refine(qv c_12 b_12 hr (by decide) rfl ?_);walk_at "A";exact(q0 (pv 0));walk_at "A";refine(qm zy ?_ qd);refine(qm xu qd ?_);exact(q0 (pv 6));exact qe;refine(qm ja ?_ qd);refine(qv c_12 b_12 hr (by decide) rfl ?_);walk_at "A";exact(q0 (pv 0));walk_at "A";refine(qm zy ?_ qd);refine(qm xu qd ?_);exact(q0 (pv 6));exact qe;exact rfl;walk_at "L";refine(ql ?_ ?_);refine(xm ?_ (qp ?_) ji);refine(PW.pt (q4n ?_ (q3c ?_)));refine(zq q7f ?_ qd);exact(q0 (pv 6));refine(zq (q0w hr.units) ?_ qd);refine(qm ja ?_ qd);refine(qv c_12 b_12 hr (by decide) rfl ?_);walk_at "A";exact(q0 (pv 0));walk_at "A";refine(qm zy ?_ qd);refine(qm xu qd ?_);exact(q0 (pv 6));exact qe;refine(zi (i:=7) ?_ ?_ ?_ ?_ ?_ ?_);exact x5;exact rfl;exact(Or.inl rfl);refine(qm zy ?_ ?_);refine(qm xu ?_ qd);refine(qm vy ?_ qd);exact(q0 (pv 7));refine(qm ja ?_ qd);refine(qm xu ?_ qd);refine(qm vy ?_ qd);refine(qm ja ?_ qd);exact(q0 (pv 7));exact rfl;walk_at "L";refine(qp ?_);refine(q4p (pv 5) ?_);refine(qv c_15 b_15 hr (by decide) rfl ?_);walk_at "A";exact(q0 (pv 7));walk_at "A";exact(q0 (pv 3));walk_at "A";exact(q0 (pv 4));exact qe;refine(yc 5 (qp ?_));refine(z6 ?_);refine(va ?_);walk_at "A";exact(q0 (pv 3));walk_at "A";refine(j8 (xj) rfl n_tuple DL.boot_tuple ?_);walk_at "A";exact(q0 (pv 5));exact qe;exact qe
theorem qdm{fa:Addr}{dV:Value}{fd:FuncData}(F:Fun2 K "_law_pile" "_law_pile" kh dV fa fd){a__law_run:Addr}{fd__law_run:FuncData}(c_15:Cal P w K mg base "_law_run" 2 ["_law_number","_law_wares","_law_most"] 3 k6 a__law_run fd__law_run)(b_15:Binds K fd__law_run ["_law_number","_law_wares","_law_most"] []){a__law_mixed:Addr}{fd__law_mixed:FuncData}(c_12:Cal P w K mg base "_law_mixed" 1 ["_law_script","_law_k"] 2 zt a__law_mixed fd__law_mixed)(b_12:Binds K fd__law_mixed ["_law_script","_law_k"] [])(n_range:mg "range" = none)(n_len:mg "len" = none)(n_tuple:mg "tuple" = none): FnOk P w K mg base CX0 3 fa fd ["_law_script","_law_most_wares"] (spD K 2 ve):=
 F.okn (k:=2) (n:=8) (ar:=2) (k1:=3) (u:=ki) qdl rfl rfl rfl fun cdv A outer s H E hr=>(by first|(with_reducible exact q5x c_15 b_15 c_12 b_12 n_range n_len n_tuple hr)|exact q5x c_15 b_15 c_12 b_12 n_range n_len n_tuple hr)
abbrev ym:Stmt:=top 28
noncomputable def q31:List Str:=["_law_pile_here","_law_some","_law_total","_law_many","_law_basket"]
theorem k7:(q31).Nodup:=by decide +kernel
theorem qcl:FnScope q31 ["_law_pile_here","_law_some"] (qc ym):=⟨rfl,rfl,rfl,k7,rfl,by decide +kernel,by decide +kernel⟩
theorem q8u:(["_law_ware","_law_basket"]:List Str).Nodup:=by decide +kernel
noncomputable def jv:FS:=(sIf (zp oEq (qi yo (qa (eL (qw (jk (eV 1)) [none,some 4] (bN 0) (zp (oIn false) (eV 0) (eV 1)) (eV 0))) qf)) (qi yo (qa (eV 1) qf))) (j3 2 (eOp ze (eV 2) (eV 3))) xy)
noncomputable def wk:FS:=(z5 (j3 2 (eC (.int 0))) (z5 (q08 (jk (eOp oIx (eV 0) (eC (.int 1)))) (yu 2 (j5 (bN 3) (j5 (bN 4) yt))) jv) (zj (eV 2))))
noncomputable def jc:List D->Option D:=z7 5 wk
theorem q57{fa:Addr}{cdv:Value}{A:Around}{outer:List Env}{s:Shared}{H:Hp}{E:XK}(n_len:mg "len" = none)(hr:Room 0 (A.deeper (envOfC "_law_count" (qc ym) s.heap.objs.size fa cdv))):
  PSs (zo CX0 P w K mg base q31 "_law_count" (qc ym) fa cdv A outer s H E).nox (qt ym) (tDS K wk):=by
 unfold wk jv;refine(ql ?_ ?_);refine(zi (i:=2) ?_ ?_ ?_ qd ?_ ?_);exact k7;exact rfl;exact(Or.inl rfl);exact rfl;walk_at "L";refine(ql ?_ ?_);refine(q23 g0z rfl ?_ (q4s rfl (yi (z0 k7 rfl (Or.inl rfl) (.inl rfl)) (yi (z0 k7 rfl (Or.inr rfl) (.inl rfl)) q4r))) (qp ?_));refine(jb ?_);refine(jl ?_ qd);exact(q0 (pv 0));refine(xm ?_ (qp ?_) ji);refine(zq (q0w hr.units) ?_ ?_);refine(j7 (yw) rfl n_len DL.xa ?_);walk_at "A";refine(x9 ?_);refine(zm (N':=["_law_ware","_law_basket"]) (cap:=[none,some 4]) rfl (zb rfl rfl) (z9 rfl) ?_ (fun _ _ _ _ _=>(z0 q8u rfl (Or.inl rfl) (.inr rfl))) (fun _ _ _ _ _=>(q11 ?_)) (fun _ _ _ _ _=>?_));refine(jb ?_);exact(q0 (pv 1));refine(zq qsp ?_ ?_);exact(q0 (pv 0));exact(q0 (pv 1));exact(q0 (pv 0));exact qe;refine(j7 (yw) rfl n_len DL.xa ?_);walk_at "A";exact(q0 (pv 1));exact qe;refine(zi (i:=2) ?_ ?_ ?_ ?_ ?_ ?_);exact k7;exact rfl;exact(Or.inl rfl);refine(qm zy ?_ ?_);exact(q0 (pv 2));exact(q0 (pv 3));exact rfl;walk_at "L";refine(qp ?_);refine(z6 ?_);exact(q0 (pv 2))
theorem qcm{fa:Addr}{dV:Value}{fd:FuncData}(F:Fun2 K "_law_count" "_law_count" ym dV fa fd)(n_len:mg "len" = none): FnOk P w K mg base CX0 1 fa fd ["_law_pile_here","_law_some"] (spD K 2 jc):=
 F.okn (k:=0) (n:=5) (ar:=2) (k1:=1) (u:=wk) qcl rfl rfl rfl fun cdv A outer s H E hr=>(by first|(with_reducible exact q57 n_len hr)|exact q57 n_len hr)
abbrev yn:Stmt:=top 29
noncomputable def q32:List Str:=["_law_script","_law_pile_here","_law_number","_law_kind"]
theorem k8:(q32).Nodup:=by decide +kernel
theorem qcn:FnScope q32 ["_law_script","_law_pile_here"] (qc yn):=⟨rfl,rfl,rfl,k8,rfl,by decide +kernel,by decide +kernel⟩
noncomputable def vx:FS:=(z5 (j3 2 (eC (.int 0))) (z5 (sIf (zp oGt (qi yo (qa (eV 0) qf)) (eC (.int 0))) (j3 2 (eOp oDiv (eOp oIx (eV 0) (eC (.int 0))) (eC (.int 2400)))) xy) (z5 (j3 3 (eOp oMod (eV 2) (eC (.int 4)))) (z5 (j3 2 (eOp oDiv (eV 2) (eC (.int 4)))) (z5 (sIf (zp oEq (eV 3) (eC (.int 0))) (zj (eOp ze (eC (.int 1)) (eOp oMod (eV 2) (eC (.int 6))))) xy) (z5 (sIf (zp oEq (eV 3) (eC (.int 3))) (zj (eOp ze (eC (.int 1)) (eOp oMod (eV 2) (eOp oPow (eC (.int 10)) (eC (.int 14)))))) xy) (zj (qi oMax (qa (eC (.int 1)) (qa (eOp oSub (eOp ze (qi (qo 2 [] jc) (qa (eV 1) (qa (qi (qo 1 [] zu) (qa (eOp oMod (eV 2) (qi (qo 1 [] zr) (qa (eOp oIx (eV 1) (eC (.int 0))) qf))) qf)) qf))) (eV 3)) (eC (.int 1))) qf))))))))))
noncomputable def x6:List D->Option D:=z7 4 vx
theorem q58{fa:Addr}{cdv:Value}{A:Around}{outer:List Env}{s:Shared}{H:Hp}{E:XK}{a__law_count:Addr}{fd__law_count:FuncData}(c_10:Cal P w K mg base "_law_count" 1 ["_law_pile_here","_law_some"] 2 jc a__law_count fd__law_count)(b_10:Binds K fd__law_count ["_law_pile_here","_law_some"] []){a__law_set:Addr}{fd__law_set:FuncData}(c_17:Cal P w K mg base "_law_set" 1 ["_law_mark"] 1 zu a__law_set fd__law_set)(b_17:Binds K fd__law_set ["_law_mark"] []){a__law_power:Addr}{fd__law_power:FuncData}(c_14:Cal P w K mg base "_law_power" 1 ["_law_many"] 1 zr a__law_power fd__law_power)(b_14:Binds K fd__law_power ["_law_many"] [])(n_max:mg "max" = none)(n_len:mg "len" = none)(hr:Room 1 (A.deeper (envOfC "_law_least" (qc yn) s.heap.objs.size fa cdv))):
  PSs (zo CX0 P w K mg base q32 "_law_least" (qc yn) fa cdv A outer s H E).nox (qt yn) (tDS K vx):=by
 unfold vx;refine(ql ?_ ?_);refine(zi (i:=2) ?_ ?_ ?_ qd ?_ ?_);exact k8;exact rfl;exact(Or.inl rfl);exact rfl;walk_at "L";refine(ql ?_ ?_);refine(xm ?_ (qp ?_) ji);refine(zq q7f ?_ qd);refine(j7 (yw) rfl n_len DL.xa ?_);walk_at "A";exact(q0 (pv 0));exact qe;refine(zi (i:=2) ?_ ?_ ?_ ?_ ?_ ?_);exact k8;exact rfl;exact(Or.inl rfl);refine(qm vy ?_ qd);refine(jl ?_ qd);exact(q0 (pv 0));exact rfl;walk_at "L";refine(ql ?_ ?_);refine(zi (i:=3) ?_ ?_ ?_ ?_ ?_ ?_);exact k8;exact rfl;exact(Or.inl rfl);refine(qm ja ?_ qd);exact(q0 (pv 2));exact rfl;walk_at "L";refine(ql ?_ ?_);refine(zi (i:=2) ?_ ?_ ?_ ?_ ?_ ?_);exact k8;exact rfl;exact(Or.inl rfl);refine(qm vy ?_ qd);exact(q0 (pv 2));exact rfl;walk_at "L";refine(ql ?_ ?_);refine(xm ?_ (qp ?_) ji);refine(zq (q0w hr.units) ?_ qd);exact(q0 (pv 3));refine(z6 ?_);refine(qm zy qd ?_);refine(qm ja ?_ qd);exact(q0 (pv 2));refine(ql ?_ ?_);refine(xm ?_ (qp ?_) ji);refine(zq (q0w hr.units) ?_ qd);exact(q0 (pv 3));refine(z6 ?_);refine(qm zy qd ?_);refine(qm ja ?_ ?_);exact(q0 (pv 2));exact(qm qhu qd qd);refine(qp ?_);refine(z6 ?_);refine(j7 (qqs rfl) rfl n_max DL.boot_max ?_);walk_at "A";exact qd;walk_at "A";refine(qm qqi ?_ qd);refine(qm zy ?_ ?_);refine(qv c_10 b_10 hr (by decide) rfl ?_);walk_at "A";exact(q0 (pv 1));walk_at "A";refine(qv c_17 b_17 hr (by decide) rfl ?_);walk_at "A";refine(qm ja ?_ ?_);exact(q0 (pv 2));refine(qv c_14 b_14 hr (by decide) rfl ?_);walk_at "A";refine(jl ?_ qd);exact(q0 (pv 1));exact qe;exact qe;exact qe;exact(q0 (pv 3));exact qe
theorem qco{fa:Addr}{dV:Value}{fd:FuncData}(F:Fun2 K "_law_least" "_law_least" yn dV fa fd){a__law_count:Addr}{fd__law_count:FuncData}(c_10:Cal P w K mg base "_law_count" 1 ["_law_pile_here","_law_some"] 2 jc a__law_count fd__law_count)(b_10:Binds K fd__law_count ["_law_pile_here","_law_some"] []){a__law_set:Addr}{fd__law_set:FuncData}(c_17:Cal P w K mg base "_law_set" 1 ["_law_mark"] 1 zu a__law_set fd__law_set)(b_17:Binds K fd__law_set ["_law_mark"] []){a__law_power:Addr}{fd__law_power:FuncData}(c_14:Cal P w K mg base "_law_power" 1 ["_law_many"] 1 zr a__law_power fd__law_power)(b_14:Binds K fd__law_power ["_law_many"] [])(n_max:mg "max" = none)(n_len:mg "len" = none): FnOk P w K mg base CX0 2 fa fd ["_law_script","_law_pile_here"] (spD K 2 x6):=
 F.okn (k:=1) (n:=4) (ar:=2) (k1:=2) (u:=vx) qcn rfl rfl rfl fun cdv A outer s H E hr=>(by first|(with_reducible exact q58 c_10 b_10 c_17 b_17 c_14 b_14 n_max n_len hr)|exact q58 c_10 b_10 c_17 b_17 c_14 b_14 n_max n_len hr)
abbrev x8:Stmt:=top 30
noncomputable def q44:List Str:=["_law_wares"]
theorem qdn:(q44).Nodup:=by decide +kernel
theorem qdo:FnScope q44 ["_law_wares"] (qc x8):=⟨rfl,rfl,rfl,qdn,rfl,by decide +kernel,by decide +kernel⟩
theorem qag:(["_law_mark"]:List Str).Nodup:=by decide +kernel
noncomputable def jw:List D->Option D:=z7 1 (zj (jh (qa (qi yo (qa (eV 0) qf)) (qa (eV 0) qf))))
noncomputable def q0d:FS:=(zj (eL (q2p (q5n jw) (qa (eL (qw (iR1 (qa (qi (qo 1 [] zr) (qa (eV 0) qf)) qf)) [none] (bN 0) z8 (qi (qo 1 [] zu) (qa (eV 0) qf)))) qf))))
noncomputable def vf:List D->Option D:=z7 1 q0d
theorem q5y{fa:Addr}{A:Around}{outer:List Env}{s:Shared}{H:Hp}{E:XK}{a__law_set:Addr}{fd__law_set:FuncData}(c_17:Cal P w K mg base "_law_set" 1 ["_law_mark"] 1 zu a__law_set fd__law_set)(b_17:Binds K fd__law_set ["_law_mark"] []){a__law_power:Addr}{fd__law_power:FuncData}(c_14:Cal P w K mg base "_law_power" 1 ["_law_many"] 1 zr a__law_power fd__law_power)(b_14:Binds K fd__law_power ["_law_many"] [])(n_sorted:mg "sorted" = none)(n_range:mg "range" = none)(n_len:mg "len" = none){cL TL:Addr}{dV':Value}{fd':FuncData}(F_L:Fun3 K "_law_sets" "_law_sets" x8 dV' fa fd' cL TL)(hP_L:(TL,("_law_sets.<locals>.<lambda>" : Str))∈Lam.tab)(hU_L:∀p∈Lam.tab,p.1=TL->p.2="_law_sets.<locals>.<lambda>")(B_L:q1n mg base)(hr:Room 3 (A.deeper (envOfC "_law_sets" (qc x8) s.heap.objs.size fa (.ref cL)))):
  PSs (zo CX0 P w K mg base q44 "_law_sets" (qc x8) fa (.ref cL) A outer s H E).nox (qt x8) (tDS K q0d):=by
 unfold q0d jw;refine(qp ?_);refine(z6 ?_);refine(x9 ?_);refine(qld (N:=["_law_some"]) (ps:=["_law_some"]) (k:=0) (u:=(jh (qa (qi yo (qa (eV 0) qf)) (qa (eV 0) qf)))) rfl F_L.hd hP_L hU_L B_L hr rfl n_sorted ?_ ⟨rfl,rfl,rfl,by decide,rfl,by decide +kernel,by decide +kernel⟩ (fun _ _ _ _ _ _ _ hr=>?_) (fun _ _ _ us hl=>match us,hl with | [_],_=>rfl) (by decide) rfl);walk_at "A";refine(x9 ?_);refine(zm (N':=["_law_mark"]) (cap:=[none]) rfl (zb rfl rfl) (z9 rfl) ?_ (fun _ _ _ _ _=>(z0 qag rfl (Or.inl rfl) (.inr rfl))) (fun _ _ _ _ _=>vc) (fun _ _ _ _ _=>?_));refine(wz rfl n_range ?_);walk_at "A";refine(qv c_14 b_14 hr (by decide) rfl ?_);walk_at "A";exact(q0 (pv 0));exact qe;exact qe;refine(qv c_17 b_17 hr (by decide) rfl ?_);walk_at "A";exact(q0 (pv 0));exact qe;exact qe;refine(va ?_);walk_at "A";refine(j7 (yw) rfl n_len DL.xa ?_);walk_at "A";exact(q0 (pv 0));exact qe;walk_at "A";exact(q0 (pv 0));exact qe
theorem qdp{fa:Addr}{a__law_set:Addr}{fd__law_set:FuncData}(c_17:Cal P w K mg base "_law_set" 1 ["_law_mark"] 1 zu a__law_set fd__law_set)(b_17:Binds K fd__law_set ["_law_mark"] []){a__law_power:Addr}{fd__law_power:FuncData}(c_14:Cal P w K mg base "_law_power" 1 ["_law_many"] 1 zr a__law_power fd__law_power)(b_14:Binds K fd__law_power ["_law_many"] [])(n_sorted:mg "sorted" = none)(n_range:mg "range" = none)(n_len:mg "len" = none){cL TL:Addr}{dV':Value}{fd':FuncData}(F_L:Fun3 K "_law_sets" "_law_sets" x8 dV' fa fd' cL TL)(hP_L:(TL,("_law_sets.<locals>.<lambda>" : Str))∈Lam.tab)(hU_L:∀p∈Lam.tab,p.1=TL->p.2="_law_sets.<locals>.<lambda>")(B_L:q1n mg base): FnOk P w K mg base CX0 4 fa fd' ["_law_wares"] (spD K 1 vf):=
 F_L.okn (k:=3) (n:=1) (ar:=1) (k1:=4) (u:=q0d) qdo rfl rfl rfl fun A outer s H E hr=>(by first|(with_reducible exact q5y c_17 b_17 c_14 b_14 n_sorted n_range n_len F_L hP_L hU_L B_L hr)|exact q5y c_17 b_17 c_14 b_14 n_sorted n_range n_len F_L hP_L hU_L B_L hr)
abbrev v7:Stmt:=top 32
noncomputable def q1g:List Str:=["_law_pile_here","_law_least_here","_law_counts","_law_some","_law_upper","_law_lower","_law_many","_law_more","_law_less"]
theorem j6:(q1g).Nodup:=by decide +kernel
theorem q8v:FnScope q1g ["_law_pile_here","_law_least_here"] (qc v7):=⟨rfl,rfl,rfl,j6,rfl,by decide +kernel,by decide +kernel⟩
theorem q6o:(["_law_ware","_law_some"]:List Str).Nodup:=by decide +kernel
theorem q6p:(["_law_ware","_law_some"]:List Str).Nodup:=by decide +kernel
theorem q6q:(["_law_other","_law_ware"]:List Str).Nodup:=by decide +kernel
theorem q6r:(["_law_one","_law_counts"]:List Str).Nodup:=by decide +kernel
theorem q6s:(["_law_one","_law_counts"]:List Str).Nodup:=by decide +kernel
noncomputable def xw:FS:=(z5 (q0m 7 (qw (iR1 (qa (eOp oIx (eV 0) (eC (.int 0))) qf)) [none,some 3] (bN 0) (zp (oIn true) (eV 0) (eV 1)) (qi je (qa (eL (q2p q0p (qa (eOp ze (eV 1) (jh (qa (eV 0) qf))) qf))) qf)))) (q07 7 (z5 (q0m 8 (qw (jk (eV 3)) [none,some 3] (bN 0) z8 (qi je (qa (eL (qw (jk (eV 1)) [none,some 0] (bN 0) (zp q4l (eV 0) (eV 1)) (eV 0))) qf)))) (q07 8 (z5 (sIf (q6c (zp oGe (eV 6) (eV 1)) (zp oLt' (q7z List.max? (qa (eL (qw (jk (eV 7)) [none,some 2] (bN 0) z8 (eOp q2r (eV 1) (eV 0)))) qf) (eC (.int 0))) (eV 1))) (q1e 4 (jh (qa (eV 3) (qa (eV 6) qf)))) xy) (sIf (q6c (zp oLt' (eV 6) (eV 1)) (zp oGe (q7z List.min? (qa (eL (qw (jk (eV 8)) [none,some 2] (bN 0) z8 (eOp q2r (eV 1) (eV 0)))) qf) (eV 1)) (eV 1))) (q1e 5 (jh (qa (eV 3) (qa (eV 6) qf)))) xy))))))
noncomputable def ye:FS:=(z5 (sD1 2 3 (jk (qi (qo 1 [] vf) (qa (eOp oIx (eV 0) (eC (.int 0))) qf))) (qi (qo 2 [] jc) (qa (eV 0) (qa (eV 3) qf)))) (z5 (q0m 4 (q1d qf)) (z5 (q0m 5 (q1d qf)) (z5 (q08 (qcc (eV 2)) (yu 2 (j5 (bN 3) (j5 (bN 6) yt))) xw) (q07 7 (q07 8 (q07 4 (q07 5 (zj (eL (q1d (qa (qi je (qa (eV 4) qf)) (qa (qi je (qa (eV 5) qf)) qf)))))))))))))
noncomputable def yf:List D->Option D:=z7 9 ye
theorem q3g{fa:Addr}{cdv:Value}{A:Around}{outer:List Env}{s:Shared}{H:Hp}{E:XK}{a__law_sets:Addr}{fd__law_sets:FuncData}(c_18:Cal P w K mg base "_law_sets" 4 ["_law_wares"] 1 vf a__law_sets fd__law_sets)(b_18:Binds K fd__law_sets ["_law_wares"] []){a__law_count:Addr}{fd__law_count:FuncData}(c_10:Cal P w K mg base "_law_count" 1 ["_law_pile_here","_law_some"] 2 jc a__law_count fd__law_count)(b_10:Binds K fd__law_count ["_law_pile_here","_law_some"] [])(n_tuple:mg "tuple" = none)(n_sorted:mg "sorted" = none)(n_range:mg "range" = none)(n_max:mg "max" = none)(n_min:mg "min" = none)(hr:Room 4 (A.deeper (envOfC "_law_borders" (qc v7) s.heap.objs.size fa cdv))):
  PSs (zo CX0 P w K mg base q1g "_law_borders" (qc v7) fa cdv A outer s H E).nox (qt v7) (tDS K ye):=by
 unfold ye xw;refine(qsx (by decide) g0z rfl (qar (i:=2) j6 rfl (Or.inr rfl) qj1) ?_ (qea j6 rfl (Or.inr rfl)) (qpv ?_ (qpu (pv 2) (pv 3) (qor hr.units))) ?_);refine(jb ?_);refine(qv c_18 b_18 hr (by decide) rfl ?_);walk_at "A";refine(jl ?_ qd);exact(q0 (pv 0));exact qe;refine(qv c_10 b_10 hr (by decide) rfl ?_);walk_at "A";exact(q0 (pv 0));walk_at "A";exact(q0 (pv 3));exact qe;refine(ql ?_ ?_);exact(q3d (i:=4) j6 rfl (Or.inl rfl) (wj qe));refine(ql ?_ ?_);exact(q3d (i:=5) j6 rfl (Or.inl rfl) (wj qe));refine(ql ?_ ?_);refine(q23 g0z rfl ?_ (q4s rfl (yi (z0 j6 rfl (Or.inr rfl) (.inl rfl)) (yi (z0 j6 rfl (Or.inl rfl) (.inl rfl)) q4r))) (ql ?_ ?_));refine(qlv ?_);exact(q0 (pv 2));refine(q6m (i:=7) rfl j6 rfl rfl (N':=["_law_ware","_law_some"]) (cap:=[none,some 3]) (zb rfl rfl) (z9 rfl) ?_ (fun _ _ _ _ _=>(z0 q6o rfl (Or.inl rfl) (.inr rfl))) (fun _ _ _ _ _=>(q11 ?_)) (fun _ _ _ _ _=>?_));refine(wz rfl n_range ?_);walk_at "A";refine(jl ?_ qd);exact(q0 (pv 0));exact qe;refine(zq qbc ?_ ?_);exact(q0 (pv 0));exact(q0 (pv 1));refine(j8 (xj) rfl n_tuple DL.boot_tuple ?_);walk_at "A";refine(x9 ?_);refine(qkv (qj3 hr.units) rfl n_sorted DL.boot_sorted ?_);walk_at "A";refine(qm zy ?_ ?_);exact(q0 (pv 1));refine(va ?_);walk_at "A";exact(q0 (pv 0));exact qe;exact qe;exact qe;refine(yc 7 (ql ?_ ?_));refine(q6m (i:=8) rfl j6 rfl rfl (N':=["_law_ware","_law_some"]) (cap:=[none,some 3]) (zb rfl rfl) (z9 rfl) ?_ (fun _ _ _ _ _=>(z0 q6p rfl (Or.inr rfl) (.inl rfl))) (fun _ _ _ _ _=>vc) (fun _ _ _ _ _=>?_));refine(jb ?_);exact(q0 (pv 3));refine(j8 (xj) rfl n_tuple DL.boot_tuple ?_);walk_at "A";refine(x9 ?_);refine(zm (N':=["_law_other","_law_ware"]) (cap:=[none,some 0]) rfl (zb rfl rfl) (z9 rfl) ?_ (fun _ _ _ _ _=>(z0 q6q rfl (Or.inl rfl) (.inr rfl))) (fun _ _ _ _ _=>(q11 ?_)) (fun _ _ _ _ _=>?_));refine(jb ?_);exact(q0 (pv 1));refine(zq qhv ?_ ?_);exact(q0 (pv 0));exact(q0 (pv 1));exact(q0 (pv 0));exact qe;refine(yc 8 (ql ?_ ?_));refine(xm ?_ (qp ?_) ji);refine(PW.pt (q4n ?_ (q3c ?_)));refine(zq qfl ?_ ?_);exact(q0 (pv 6));exact(q0 (pv 1));refine(zq qbg ?_ ?_);refine(qot rfl rfl n_max ?_ qd);walk_at "A";refine(x9 ?_);refine(zm (N':=["_law_one","_law_counts"]) (cap:=[none,some 2]) rfl (zb rfl rfl) (z9 rfl) ?_ (fun _ _ _ _ _=>(z0 q6r rfl (Or.inl rfl) (.inr rfl))) (fun _ _ _ _ _=>vc) (fun _ _ _ _ _=>?_));refine(jb ?_);exact(q0 (pv 7));refine(qj0 hr.units ?_ ?_);exact(q0 (pv 1));exact(q0 (pv 0));exact qe;exact(q0 (pv 1));refine(q4p (pv 4) ?_);refine(va ?_);walk_at "A";exact(q0 (pv 3));walk_at "A";exact(q0 (pv 6));exact qe;refine(qp ?_);refine(xm ?_ (qp ?_) ji);refine(PW.pt (q4n ?_ (q3c ?_)));refine(zq qbg ?_ ?_);exact(q0 (pv 6));exact(q0 (pv 1));refine(zq qfl ?_ ?_);refine(qou rfl rfl n_min ?_ ?_);walk_at "A";refine(x9 ?_);refine(zm (N':=["_law_one","_law_counts"]) (cap:=[none,some 2]) rfl (zb rfl rfl) (z9 rfl) ?_ (fun _ _ _ _ _=>(z0 q6s rfl (Or.inl rfl) (.inr rfl))) (fun _ _ _ _ _=>vc) (fun _ _ _ _ _=>?_));refine(jb ?_);exact(q0 (pv 8));refine(qj0 hr.units ?_ ?_);exact(q0 (pv 1));exact(q0 (pv 0));exact qe;exact(q0 (pv 1));exact(q0 (pv 1));refine(q4p (pv 5) ?_);refine(va ?_);walk_at "A";exact(q0 (pv 3));walk_at "A";exact(q0 (pv 6));exact qe;refine(yc 7 (yc 8 (yc 4 (yc 5 (qp ?_)))));refine(z6 ?_);refine(x9 ?_);refine(wj ?_);walk_at "A";refine(j8 (xj) rfl n_tuple DL.boot_tuple ?_);walk_at "A";exact(q0 (pv 4));exact qe;walk_at "A";refine(j8 (xj) rfl n_tuple DL.boot_tuple ?_);walk_at "A";exact(q0 (pv 5));exact qe;exact qe
theorem q8w{fa:Addr}{dV:Value}{fd:FuncData}(F:Fun2 K "_law_borders" "_law_borders" v7 dV fa fd){a__law_sets:Addr}{fd__law_sets:FuncData}(c_18:Cal P w K mg base "_law_sets" 4 ["_law_wares"] 1 vf a__law_sets fd__law_sets)(b_18:Binds K fd__law_sets ["_law_wares"] []){a__law_count:Addr}{fd__law_count:FuncData}(c_10:Cal P w K mg base "_law_count" 1 ["_law_pile_here","_law_some"] 2 jc a__law_count fd__law_count)(b_10:Binds K fd__law_count ["_law_pile_here","_law_some"] [])(n_tuple:mg "tuple" = none)(n_sorted:mg "sorted" = none)(n_range:mg "range" = none)(n_max:mg "max" = none)(n_min:mg "min" = none): FnOk P w K mg base CX0 5 fa fd ["_law_pile_here","_law_least_here"] (spD K 2 yf):=
 F.okn (k:=4) (n:=9) (ar:=2) (k1:=5) (u:=ye) q8v rfl rfl rfl fun cdv A outer s H E hr=>(by first|(with_reducible exact q3g c_18 b_18 c_10 b_10 n_tuple n_sorted n_range n_max n_min hr)|exact q3g c_18 b_18 c_10 b_10 n_tuple n_sorted n_range n_max n_min hr)
abbrev kj:Stmt:=top 31
noncomputable def q45:List Str:=["_law_found","_law_due","_law_one","_law_other"]
theorem q33:(q45).Nodup:=by decide +kernel
theorem qdq:FnScope q45 ["_law_found","_law_due"] (qc kj):=⟨rfl,rfl,rfl,q33,rfl,by decide +kernel,by decide +kernel⟩
noncomputable def yg(rc:List D->Option D): FS:=(sIf (q4m (bT (qi (qo 2 [] rc) (qa (eV 2) (qa (eV 3) qf))))) (zj (eC (.bl false))) xy)
noncomputable def vg(rc:List D->Option D): FS:=(z5 (sIf (bT (q8f .tuple (eV 1))) (z5 (sIf (bOr (q4m (bT (q8f .tuple (eV 0)))) (zp q4l (qi yo (qa (eV 0) qf)) (qi yo (qa (eV 1) qf)))) (zj (eC (.bl false))) xy) (z5 (q08 (ql0 (qa (eV 0) (qa (eV 1) qf))) (yu 2 (j5 (bN 2) (j5 (bN 3) yt))) (yg rc)) (zj (eC (.bl true))))) xy) (zj (qb6 (q8f .int (eV 0)) (qb6 (qfm (q8f .bool (eV 0))) (eOp oEq (eV 0) (eV 1))))))
noncomputable def F_law_same(n:Nat): List D->Option D:=Nat.rec (fun _=>none) (fun _ rc=>z7 4 (vg rc)) n
noncomputable def km:List D->Option D:=F_law_same 16
theorem qdr{fa:Addr}{cdv:Value}{A:Around}{outer:List Env}{s:Shared}{H:Hp}{E:XK}{rc:List D->Option D}{kr kk:Nat}(hkr:kr<=kk)(hk0:0<=kk){a__law_same:Addr}{fd__law_same:FuncData}(c_16:Cal P w K mg base "_law_same" kr ["_law_found","_law_due"] 2 rc a__law_same fd__law_same)(b_16:Binds K fd__law_same ["_law_found","_law_due"] [])(n_isinstance:mg "isinstance" = none)(n_tuple:mg "tuple" = none)(n_zip:mg "zip" = none)(n_int:mg "int" = none)(n_bool:mg "bool" = none)(n_len:mg "len" = none)(hr:Room kk (A.deeper (envOfC "_law_same" (qc kj) s.heap.objs.size fa cdv))):
  PSs (zo CX0 P w K mg base q45 "_law_same" (qc kj) fa cdv A outer s H E).nox (qt kj) (tDS K (vg rc)):=by
 unfold vg yg;refine(ql ?_ ?_);refine(xm ?_ (ql ?_ ?_) ji);refine(yr ?_);refine(q7j .tuple rfl n_isinstance rfl n_tuple DL.boot_tuple ?_);exact(q0 (pv 1));refine(xm ?_ (qp ?_) ji);refine(PW.pt (qmv ?_ (qhx ?_)));refine(q3b ?_);refine(yr ?_);refine(q7j .tuple rfl n_isinstance rfl n_tuple DL.boot_tuple ?_);exact(q0 (pv 0));refine(zq qhv ?_ ?_);refine(j7 (yw) rfl n_len DL.xa ?_);walk_at "A";exact(q0 (pv 0));exact qe;refine(j7 (yw) rfl n_len DL.xa ?_);walk_at "A";exact(q0 (pv 1));exact qe;exact(z6 q3m);refine(ql ?_ ?_);refine(q23 g0z rfl ?_ (q4s rfl (yi (z0 q33 rfl (Or.inl rfl) (.inl rfl)) (yi (z0 q33 rfl (Or.inl rfl) (.inl rfl)) q4r))) (qp ?_));refine(qqw rfl n_zip ?_);walk_at "A";exact(q0 (pv 0));walk_at "A";exact(q0 (pv 1));exact qe;refine(xm ?_ (qp ?_) ji);refine(q3b ?_);refine(yr ?_);refine(qv c_16 b_16 hr hkr rfl ?_);walk_at "A";exact(q0 (pv 2));walk_at "A";exact(q0 (pv 3));exact qe;exact(z6 q3m);refine(qp ?_);exact(z6 q3m);refine(qp ?_);refine(z6 ?_);refine(qb8 ?_ (qb8 ?_ (qhy ?_)));refine(q7j .int rfl n_isinstance rfl n_int DL.boot_int ?_);exact(q0 (pv 0));refine(qhz ?_);refine(q7j .bool rfl n_isinstance rfl n_bool DL.boot_bool ?_);exact(q0 (pv 0));refine(qb4 (q0w hr.units) ?_ ?_);exact(q0 (pv 0));exact(q0 (pv 1))
theorem qds{fa:Addr}{dV:Value}{fd:FuncData}(F:Fun2 K "_law_same" "_law_same" kj dV fa fd)(mgf:mg "_law_same" = some (.ref fa))(kpf:PySem.W.keepIn K (.ref fa)=true)(b_16:Binds K fd ["_law_found","_law_due"] [])(n_isinstance:mg "isinstance" = none)(n_tuple:mg "tuple" = none)(n_zip:mg "zip" = none)(n_int:mg "int" = none)(n_bool:mg "bool" = none)(n_len:mg "len" = none)(n:Nat): FnOk P w K mg base CX0 (1+n) fa fd ["_law_found","_law_due"] (spD K 2 (F_law_same n)):=by
 induction n with
 | zero=>exact qio
 | succ n ih=>exact F.okn (k:=1+n) (n:=4) (ar:=2) (k1:=1+(n+1)) (u:=vg (F_law_same n)) qdq rfl rfl rfl fun cdv A outer s H E hr=>(by exact qdr (kr:=1+n) (kk:=1+n) (gw _) (by omega) (Cal.mk ih mgf kpf) b_16 n_isinstance n_tuple n_zip n_int n_bool n_len hr)
abbrev ko:Stmt:=top 13
noncomputable def q46:List Str:=["pairs","least"]
theorem qdt:(q46).Nodup:=by decide +kernel
theorem qdu:FnScope q46 ["pairs","least"] (qc ko):=⟨rfl,rfl,rfl,qdt,rfl,by decide +kernel,by decide +kernel⟩
theorem qah:(["pair","least"]:List Str).Nodup:=by decide +kernel
noncomputable def ku:FS:=(zj (qi je (qa (eL (qw (jk (eV 0)) [none,some 1] (bN 0) (zp oGe (eOp oIx (eV 0) (eC (.int 1))) (eV 1)) (eV 0))) qf)))
noncomputable def xo:List D->Option D:=z7 2 ku
theorem q5z{fa:Addr}{cdv:Value}{A:Around}{outer:List Env}{s:Shared}{H:Hp}{E:XK}(n_tuple:mg "tuple" = none)(hr:Room 0 (A.deeper (envOfC "at_least" (qc ko) s.heap.objs.size fa cdv))):
  PSs (zo CX0 P w K mg base q46 "at_least" (qc ko) fa cdv A outer s H E).nox (qt ko) (tDS K ku):=by
 unfold ku;refine(qp ?_);refine(z6 ?_);refine(j8 (xj) rfl n_tuple DL.boot_tuple ?_);walk_at "A";refine(x9 ?_);refine(zm (N':=["pair","least"]) (cap:=[none,some 1]) rfl (zb rfl rfl) (z9 rfl) ?_ (fun _ _ _ _ _=>(z0 qah rfl (Or.inl rfl) (.inr rfl))) (fun _ _ _ _ _=>(q11 ?_)) (fun _ _ _ _ _=>?_));refine(jb ?_);exact(q0 (pv 0));refine(zq qfl ?_ ?_);refine(jl ?_ qd);exact(q0 (pv 0));exact(q0 (pv 1));exact(q0 (pv 0));exact qe
theorem qdv{fa:Addr}{dV:Value}{fd:FuncData}(F:Fun2 K "at_least" "at_least" ko dV fa fd)(n_tuple:mg "tuple" = none): FnOk P w K mg base CX0 1 fa fd ["pairs","least"] (spD K 2 xo):=
 F.okn (k:=0) (n:=2) (ar:=2) (k1:=1) (u:=ku) qdu rfl rfl rfl fun cdv A outer s H E hr=>(by first|(with_reducible exact q5z n_tuple hr)|exact q5z n_tuple hr)
abbrev q04:Stmt:=top 1
noncomputable def q59:List Str:=["some"]
theorem qgq:(q59).Nodup:=by decide +kernel
theorem qgr:FnScope q59 ["some"] (qc q04):=⟨rfl,rfl,rfl,qgq,rfl,by decide +kernel,by decide +kernel⟩
theorem qcp:(["ware"]:List Str).Nodup:=by decide +kernel
noncomputable def q17:FS:=(zj (qi qba (qa (eL (qw (jk (eV 0)) [none] (bN 0) z8 (eOp oShl (eC (.int 1)) (eV 0)))) qf)))
noncomputable def xq:List D->Option D:=z7 1 q17
theorem q83{fa:Addr}{cdv:Value}{A:Around}{outer:List Env}{s:Shared}{H:Hp}{E:XK}(n_sum:mg "sum" = none)(hr:Room 0 (A.deeper (envOfC "mark_of" (qc q04) s.heap.objs.size fa cdv))):
  PSs (zo CX0 P w K mg base q59 "mark_of" (qc q04) fa cdv A outer s H E).nox (qt q04) (tDS K q17):=by
 unfold q17;refine(qp ?_);refine(z6 ?_);refine(j7 (qi6 rfl) rfl n_sum DL.boot_sum ?_);walk_at "A";refine(x9 ?_);refine(zm (N':=["ware"]) (cap:=[none]) rfl (zb rfl rfl) (z9 rfl) ?_ (fun _ _ _ _ _=>(z0 qcp rfl (Or.inl rfl) (.inr rfl))) (fun _ _ _ _ _=>vc) (fun _ _ _ _ _=>?_));refine(jb ?_);exact(q0 (pv 0));refine(qm qqk qd ?_);exact(q0 (pv 0));exact qe
theorem qgs{fa:Addr}{dV:Value}{fd:FuncData}(F:Fun2 K "mark_of" "mark_of" q04 dV fa fd)(n_sum:mg "sum" = none): FnOk P w K mg base CX0 1 fa fd ["some"] (spD K 1 xq):=
 F.okn (k:=0) (n:=1) (ar:=1) (k1:=1) (u:=q17) qgr rfl rfl rfl fun cdv A outer s H E hr=>(by first|(with_reducible exact q83 n_sum hr)|exact q83 n_sum hr)
abbrev q0q:Stmt:=top 10
noncomputable def q6t:List Str:=["pile"]
theorem qj9:(q6t).Nodup:=by decide +kernel
theorem qja:FnScope q6t ["pile"] (qc q0q):=⟨rfl,rfl,rfl,qj9,rfl,by decide +kernel,by decide +kernel⟩
theorem q60:(["many","basket"]:List Str).Nodup:=by decide +kernel
noncomputable def q2b:FS:=(zj (eL (qw (jk (eOp oIx (eV 0) (eC (.int 1)))) [none,none] (yu 2 (j5 (bN 0) (j5 (bN 1) yt))) z8 (jh (qa (eV 0) (qa (qi (qo 1 [] xq) (qa (eV 1) qf)) qf))))))
noncomputable def q2c:List D->Option D:=z7 1 q2b
theorem q9r{fa:Addr}{cdv:Value}{A:Around}{outer:List Env}{s:Shared}{H:Hp}{E:XK}{a_mark_of:Addr}{fd_mark_of:FuncData}(c_20:Cal P w K mg base "mark_of" 1 ["some"] 1 xq a_mark_of fd_mark_of)(b_20:Binds K fd_mark_of ["some"] [])(hr:Room 1 (A.deeper (envOfC "marked" (qc q0q) s.heap.objs.size fa cdv))):
  PSs (zo CX0 P w K mg base q6t "marked" (qc q0q) fa cdv A outer s H E).nox (qt q0q) (tDS K q2b):=by
 unfold q2b;refine(qp ?_);refine(z6 ?_);refine(x9 ?_);refine(zm (N':=["many","basket"]) (cap:=[none,none]) rfl (zb rfl rfl) (q9f (q0v rfl (q0v rfl q7i))) ?_ (fun _ _ _ _ _=>(q4s rfl (yi (z0 q60 rfl (Or.inl rfl) (.inr rfl)) (yi (z0 q60 rfl (Or.inl rfl) (.inr rfl)) q4r)))) (fun _ _ _ _ _=>vc) (fun _ _ _ _ _=>?_));refine(jb ?_);refine(jl ?_ qd);exact(q0 (pv 0));refine(va ?_);walk_at "A";exact(q0 (pv 0));walk_at "A";refine(qv c_20 b_20 hr (by decide) rfl ?_);walk_at "A";exact(q0 (pv 1));exact qe;exact qe
theorem qjb{fa:Addr}{dV:Value}{fd:FuncData}(F:Fun2 K "marked" "marked" q0q dV fa fd){a_mark_of:Addr}{fd_mark_of:FuncData}(c_20:Cal P w K mg base "mark_of" 1 ["some"] 1 xq a_mark_of fd_mark_of)(b_20:Binds K fd_mark_of ["some"] []): FnOk P w K mg base CX0 2 fa fd ["pile"] (spD K 1 q2c):=
 F.okn (k:=1) (n:=1) (ar:=1) (k1:=2) (u:=q2b) qja rfl rfl rfl fun cdv A outer s H E hr=>(by first|(with_reducible exact q9r c_20 b_20 hr)|exact q9r c_20 b_20 hr)
abbrev xf:Stmt:=top 6
noncomputable def q0e:List Str:=["some","wares","first"]
theorem q2d:(q0e).Nodup:=by decide +kernel
theorem q6u:FnScope q0e ["some","wares"] (qc xf):=⟨rfl,rfl,rfl,q2d,rfl,by decide +kernel,by decide +kernel⟩
theorem q5a:(["ware","some"]:List Str).Nodup:=by decide +kernel
noncomputable def xg:FS:=(z5 (j3 2 (eIf (bT (eV 0)) (eOp ze (eOp oIx (eV 0) (eUn q8i (eC (.int 1)))) (eC (.int 1))) (eC (.int 0)))) (zj (eL (qw (iR2 (qa (eV 2) (qa (eV 1) qf))) [none,some 0] (bN 0) z8 (eOp ze (eV 1) (jh (qa (eV 0) qf)))))))
noncomputable def xh:List D->Option D:=z7 3 xg
theorem q2e{fa:Addr}{cdv:Value}{A:Around}{outer:List Env}{s:Shared}{H:Hp}{E:XK}(n_range:mg "range" = none)(hr:Room 0 (A.deeper (envOfC "one_ware_more" (qc xf) s.heap.objs.size fa cdv))):
  PSs (zo CX0 P w K mg base q0e "one_ware_more" (qc xf) fa cdv A outer s H E).nox (qt xf) (tDS K xg):=by
 unfold xg;refine(ql ?_ ?_);refine(zi (i:=2) ?_ ?_ ?_ ?_ ?_ ?_);exact q2d;exact rfl;exact(Or.inl rfl);refine(qsi ?_ ?_ qd);refine(yr ?_);exact(q0 (pv 0));refine(qm zy ?_ qd);refine(jl ?_ ?_);exact(q0 (pv 0));exact(qqx qd);exact rfl;walk_at "L";refine(qp ?_);refine(z6 ?_);refine(x9 ?_);refine(zm (N':=["ware","some"]) (cap:=[none,some 0]) rfl (zb rfl rfl) (z9 rfl) ?_ (fun _ _ _ _ _=>(z0 q5a rfl (Or.inl rfl) (.inr rfl))) (fun _ _ _ _ _=>vc) (fun _ _ _ _ _=>?_));refine(qi4 rfl n_range ?_);walk_at "A";exact(q0 (pv 2));walk_at "A";exact(q0 (pv 1));exact qe;refine(qm zy ?_ ?_);exact(q0 (pv 1));refine(va ?_);walk_at "A";exact(q0 (pv 0));exact qe
theorem q6v{fa:Addr}{dV:Value}{fd:FuncData}(F:Fun2 K "one_ware_more" "one_ware_more" xf dV fa fd)(n_range:mg "range" = none): FnOk P w K mg base CX0 1 fa fd ["some","wares"] (spD K 2 xh):=
 F.okn (k:=0) (n:=3) (ar:=2) (k1:=1) (u:=xg) q6u rfl rfl rfl fun cdv A outer s H E hr=>(by first|(with_reducible exact q2e n_range hr)|exact q2e n_range hr)
abbrev jx:Stmt:=top 8
noncomputable def wu:List Str:=["some"]
theorem q5q:(wu).Nodup:=by decide +kernel
theorem q5r:FnScope wu ["some"] (qc jx):=⟨rfl,rfl,rfl,q5q,rfl,by decide +kernel,by decide +kernel⟩
theorem q4g:(["place","some"]:List Str).Nodup:=by decide +kernel
noncomputable def xx:FS:=(zj (eL (qw (iR1 (qa (qi yo (qa (eV 0) qf)) qf)) [none,some 0] (bN 0) z8 (eOp ze (eSl (eV 1) oNo (oAt (eV 0))) (eSl (eV 1) (oAt (eOp ze (eV 0) (eC (.int 1)))) oNo)))))
noncomputable def jy:List D->Option D:=z7 1 xx
theorem q1j{fa:Addr}{cdv:Value}{A:Around}{outer:List Env}{s:Shared}{H:Hp}{E:XK}(n_range:mg "range" = none)(n_len:mg "len" = none)(hr:Room 0 (A.deeper (envOfC "one_ware_fewer" (qc jx) s.heap.objs.size fa cdv))):
  PSs (zo CX0 P w K mg base wu "one_ware_fewer" (qc jx) fa cdv A outer s H E).nox (qt jx) (tDS K xx):=by
 unfold xx;refine(qp ?_);refine(z6 ?_);refine(x9 ?_);refine(zm (N':=["place","some"]) (cap:=[none,some 0]) rfl (zb rfl rfl) (z9 rfl) ?_ (fun _ _ _ _ _=>(z0 q4g rfl (Or.inl rfl) (.inr rfl))) (fun _ _ _ _ _=>vc) (fun _ _ _ _ _=>?_));refine(wz rfl n_range ?_);walk_at "A";refine(j7 (yw) rfl n_len DL.xa ?_);walk_at "A";exact(q0 (pv 0));exact qe;exact qe;refine(qm zy ?_ ?_);refine(q25 ?_ q3p (q0n ?_));exact(q0 (pv 1));exact(q0 (pv 0));refine(q25 ?_ (q0n ?_) q3p);exact(q0 (pv 1));refine(qm zy ?_ qd);exact(q0 (pv 0))
theorem q5s{fa:Addr}{dV:Value}{fd:FuncData}(F:Fun2 K "one_ware_fewer" "one_ware_fewer" jx dV fa fd)(n_range:mg "range" = none)(n_len:mg "len" = none): FnOk P w K mg base CX0 1 fa fd ["some"] (spD K 1 jy):=
 F.okn (k:=0) (n:=1) (ar:=1) (k1:=1) (u:=xx) q5r rfl rfl rfl fun cdv A outer s H E hr=>(by first|(with_reducible exact q1j n_range n_len hr)|exact q1j n_range n_len hr)
abbrev q1w:Stmt:=top 16
noncomputable def q8x:List Str:=["layer","wares","known","found","some","longer"]
theorem q2f:(q8x).Nodup:=by decide +kernel
theorem qm4:FnScope q8x ["layer","wares"] (qc q1w):=⟨rfl,rfl,rfl,q2f,rfl,by decide +kernel,by decide +kernel⟩
theorem qgt:(["some"]:List Str).Nodup:=by decide +kernel
theorem qgu:(["shorter","known"]:List Str).Nodup:=by decide +kernel
noncomputable def ya:FS:=(sIf (bT (qi q8g (qa (eL (qw (jk (qi (qo 1 [] jy) (qa (eV 5) qf))) [none,some 2] (bN 0) z8 (eOp q2y (eV 0) (eV 1)))) qf))) (q1e 3 (eV 5)) xy)
noncomputable def q0f:FS:=(q08 (jk (qi (qo 2 [] xh) (qa (eV 4) (qa (eV 1) qf)))) (bN 5) ya)
noncomputable def q3h:FS:=(z5 (j3 2 (qi qal (qa (eL (qw (jk (eV 0)) [none] (bN 0) z8 (jh (qa (eV 0) (qa (eC (.bl true)) qf))))) qf))) (z5 (q0m 3 (q1d qf)) (z5 (q08 (jk (eV 0)) (bN 4) q0f) (q07 3 (zj (eV 3))))))
noncomputable def q3i:List D->Option D:=z7 6 q3h
theorem qcq{fa:Addr}{cdv:Value}{A:Around}{outer:List Env}{s:Shared}{H:Hp}{E:XK}{a_one_ware_more:Addr}{fd_one_ware_more:FuncData}(c_23:Cal P w K mg base "one_ware_more" 1 ["some","wares"] 2 xh a_one_ware_more fd_one_ware_more)(b_23:Binds K fd_one_ware_more ["some","wares"] []){a_one_ware_fewer:Addr}{fd_one_ware_fewer:FuncData}(c_22:Cal P w K mg base "one_ware_fewer" 1 ["some"] 1 jy a_one_ware_fewer fd_one_ware_fewer)(b_22:Binds K fd_one_ware_fewer ["some"] [])(n_dict:mg "dict" = none)(n_all:mg "all" = none)(hr:Room 1 (A.deeper (envOfC "grown" (qc q1w) s.heap.objs.size fa cdv))):
  PSs (zo CX0 P w K mg base q8x "grown" (qc q1w) fa cdv A outer s H E).nox (qt q1w) (tDS K q3h):=by
 unfold q3h q0f ya;refine(ql ?_ ?_);refine(zi (i:=2) ?_ ?_ ?_ ?_ ?_ ?_);exact q2f;exact rfl;exact(Or.inr rfl);refine(j8 (qoq rfl hr.units) rfl n_dict DL.boot_dict ?_);walk_at "A";refine(x9 ?_);refine(zm (N':=["some"]) (cap:=[none]) rfl (zb rfl rfl) (z9 rfl) ?_ (fun _ _ _ _ _=>(z0 qgt rfl (Or.inl rfl) (.inr rfl))) (fun _ _ _ _ _=>vc) (fun _ _ _ _ _=>?_));refine(jb ?_);exact(q0 (pv 0));refine(va ?_);walk_at "A";exact(q0 (pv 0));walk_at "A";exact q3m;exact qe;exact qe;exact rfl;walk_at "L";refine(ql ?_ ?_);exact(q3d (i:=3) q2f rfl (Or.inl rfl) (wj qe));refine(ql ?_ ?_);refine(q23 g0z rfl ?_ (z0 q2f rfl (Or.inl rfl) (.inl rfl)) (qp ?_));refine(jb ?_);exact(q0 (pv 0));refine(q23 g0z rfl ?_ (z0 q2f rfl (Or.inl rfl) (.inl rfl)) (qp ?_));refine(jb ?_);refine(qv c_23 b_23 hr (by decide) rfl ?_);walk_at "A";exact(q0 (pv 4));walk_at "A";exact(q0 (pv 1));exact qe;refine(xm ?_ (qp ?_) ji);refine(yr ?_);refine(j7 (qqq rfl) rfl n_all DL.boot_all ?_);walk_at "A";refine(x9 ?_);refine(zm (N':=["shorter","known"]) (cap:=[none,some 2]) rfl (zb rfl rfl) (z9 rfl) ?_ (fun _ _ _ _ _=>(z0 qgu rfl (Or.inl rfl) (.inr rfl))) (fun _ _ _ _ _=>vc) (fun _ _ _ _ _=>?_));refine(jb ?_);refine(qv c_22 b_22 hr (by decide) rfl ?_);walk_at "A";exact(q0 (pv 5));exact qe;refine(qb4 (qiz hr.units) ?_ ?_);exact(q0 (pv 0));exact(q0 (pv 1));exact qe;refine(q4p (pv 3) ?_);exact(q0 (pv 5));refine(yc 3 (qp ?_));refine(z6 ?_);exact(q0 (pv 3))
theorem qm5{fa:Addr}{dV:Value}{fd:FuncData}(F:Fun2 K "grown" "grown" q1w dV fa fd){a_one_ware_more:Addr}{fd_one_ware_more:FuncData}(c_23:Cal P w K mg base "one_ware_more" 1 ["some","wares"] 2 xh a_one_ware_more fd_one_ware_more)(b_23:Binds K fd_one_ware_more ["some","wares"] []){a_one_ware_fewer:Addr}{fd_one_ware_fewer:FuncData}(c_22:Cal P w K mg base "one_ware_fewer" 1 ["some"] 1 jy a_one_ware_fewer fd_one_ware_fewer)(b_22:Binds K fd_one_ware_fewer ["some"] [])(n_dict:mg "dict" = none)(n_all:mg "all" = none): FnOk P w K mg base CX0 2 fa fd ["layer","wares"] (spD K 2 q3i):=
 F.okn (k:=1) (n:=6) (ar:=2) (k1:=2) (u:=q3h) qm4 rfl rfl rfl fun cdv A outer s H E hr=>(by first|(with_reducible exact qcq c_23 b_23 c_22 b_22 n_dict n_all hr)|exact qcq c_23 b_23 c_22 b_22 n_dict n_all hr)
abbrev xr:Stmt:=top 11
noncomputable def q0r:List Str:=["marked_runs","some","mark"]
theorem q2s:(q0r).Nodup:=by decide +kernel
theorem q84:FnScope q0r ["marked_runs","some"] (qc xr):=⟨rfl,rfl,rfl,q2s,rfl,by decide +kernel,by decide +kernel⟩
theorem q1k:(["many","basket","mark"]:List Str).Nodup:=by decide +kernel
noncomputable def vz:FS:=(z5 (j3 2 (qi (qo 1 [] xq) (qa (eV 1) qf))) (zj (qi qba (qa (eL (qw (jk (eV 0)) [none,none,some 2] (yu 2 (j5 (bN 0) (j5 (bN 1) yt))) (zp oEq (eOp oBand (eV 1) (eV 2)) (eV 2)) (eV 0))) qf))))
noncomputable def xt:List D->Option D:=z7 3 vz
theorem q2t{fa:Addr}{cdv:Value}{A:Around}{outer:List Env}{s:Shared}{H:Hp}{E:XK}{a_mark_of:Addr}{fd_mark_of:FuncData}(c_20:Cal P w K mg base "mark_of" 1 ["some"] 1 xq a_mark_of fd_mark_of)(b_20:Binds K fd_mark_of ["some"] [])(n_sum:mg "sum" = none)(hr:Room 1 (A.deeper (envOfC "count_marked" (qc xr) s.heap.objs.size fa cdv))):
  PSs (zo CX0 P w K mg base q0r "count_marked" (qc xr) fa cdv A outer s H E).nox (qt xr) (tDS K vz):=by
 unfold vz;refine(ql ?_ ?_);refine(zi (i:=2) ?_ ?_ ?_ ?_ ?_ ?_);exact q2s;exact rfl;exact(Or.inr rfl);refine(qv c_20 b_20 hr (by decide) rfl ?_);walk_at "A";exact(q0 (pv 1));exact qe;exact rfl;walk_at "L";refine(qp ?_);refine(z6 ?_);refine(j7 (qi6 rfl) rfl n_sum DL.boot_sum ?_);walk_at "A";refine(x9 ?_);refine(zm (N':=["many","basket","mark"]) (cap:=[none,none,some 2]) rfl (zb rfl rfl) (q9f (q0v rfl (q0v rfl q7i))) ?_ (fun _ _ _ _ _=>(q4s rfl (yi (z0 q1k rfl (Or.inl rfl) (.inr rfl)) (yi (z0 q1k rfl (Or.inl rfl) (.inr rfl)) q4r)))) (fun _ _ _ _ _=>(q11 ?_)) (fun _ _ _ _ _=>?_));refine(jb ?_);exact(q0 (pv 0));refine(zq (q0w hr.units) ?_ ?_);refine(qm qnv ?_ ?_);exact(q0 (pv 1));exact(q0 (pv 2));exact(q0 (pv 2));exact(q0 (pv 0));exact qe
theorem q85{fa:Addr}{dV:Value}{fd:FuncData}(F:Fun2 K "count_marked" "count_marked" xr dV fa fd){a_mark_of:Addr}{fd_mark_of:FuncData}(c_20:Cal P w K mg base "mark_of" 1 ["some"] 1 xq a_mark_of fd_mark_of)(b_20:Binds K fd_mark_of ["some"] [])(n_sum:mg "sum" = none): FnOk P w K mg base CX0 2 fa fd ["marked_runs","some"] (spD K 2 xt):=
 F.okn (k:=1) (n:=3) (ar:=2) (k1:=2) (u:=vz) q84 rfl rfl rfl fun cdv A outer s H E hr=>(by first|(with_reducible exact q2t c_20 b_20 n_sum hr)|exact q2t c_20 b_20 n_sum hr)
abbrev zk:Stmt:=qrm 17 1
noncomputable def we:List Str:=["self","pile","least","runs","told","layer","pairs"]
theorem jf:(we).Nodup:=by decide +kernel
theorem q5b:FnScope we ["self","pile","least"] (qc zk):=⟨rfl,rfl,rfl,jf,rfl,by decide +kernel,by decide +kernel⟩
theorem q47:(["some","runs"]:List Str).Nodup:=by decide +kernel
theorem q48:(["pair"]:List Str).Nodup:=by decide +kernel
noncomputable def jo:FS:=(z5 (q0m 6 (qw (jk (eV 5)) [none,some 3] (bN 0) z8 (jh (qa (eV 0) (qa (qi (qo 2 [] xt) (qa (eV 1) (qa (eV 0) qf))) qf))))) (q07 6 (z5 (qlf 4 (eV 6)) (j3 5 (qi (qo 2 [] q3i) (qa (eL (qw (jk (qi (qo 2 [] xo) (qa (eV 6) (qa (eV 2) qf)))) [none] (bN 0) z8 (eOp oIx (eV 0) (eC (.int 0))))) (qa (eOp oIx (eV 1) (eC (.int 0))) qf)))))))
noncomputable def zv:FS:=(z5 (j3 3 (qi (qo 1 [] q2c) (qa (eV 1) qf))) (z5 (q0m 4 (q1d qf)) (z5 (j3 5 (eL (q1d (qa (jh qf) qf)))) (z5 (y8 (bT (eV 5)) jo 100000) (q07 6 (q07 4 (zj (qi je (qa (eV 4) qf)))))))))
noncomputable def zw:List D->Option D:=z7 7 zv
theorem q18{fa:Addr}{cdv:Value}{A:Around}{outer:List Env}{s:Shared}{H:Hp}{E:XK}{a_marked:Addr}{fd_marked:FuncData}(c_21:Cal P w K mg base "marked" 2 ["pile"] 1 q2c a_marked fd_marked)(b_21:Binds K fd_marked ["pile"] []){a_grown:Addr}{fd_grown:FuncData}(c_6:Cal P w K mg base "grown" 2 ["layer","wares"] 2 q3i a_grown fd_grown)(b_6:Binds K fd_grown ["layer","wares"] []){a_count_marked:Addr}{fd_count_marked:FuncData}(c_4:Cal P w K mg base "count_marked" 2 ["marked_runs","some"] 2 xt a_count_marked fd_count_marked)(b_4:Binds K fd_count_marked ["marked_runs","some"] []){a_at_least:Addr}{fd_at_least:FuncData}(c_3:Cal P w K mg base "at_least" 1 ["pairs","least"] 2 xo a_at_least fd_at_least)(b_3:Binds K fd_at_least ["pairs","least"] [])(n_tuple:mg "tuple" = none)(hr:Room 2 (A.deeper (envOfC "Growing.counted" (qc zk) s.heap.objs.size fa cdv))):
  PSs (zo CX0 P w K mg base we "Growing.counted" (qc zk) fa cdv A outer s H E).nox (qt zk) (tDS K zv):=by
 unfold zv jo;refine(ql ?_ ?_);refine(zi (i:=3) ?_ ?_ ?_ ?_ ?_ ?_);exact jf;exact rfl;exact(Or.inr rfl);refine(qv c_21 b_21 hr (by decide) rfl ?_);walk_at "A";exact(q0 (pv 1));exact qe;exact rfl;walk_at "L";refine(ql ?_ ?_);exact(q3d (i:=4) jf rfl (Or.inl rfl) (wj qe));refine(ql ?_ ?_);refine(zi (i:=5) ?_ ?_ ?_ ?_ ?_ ?_);exact jf;exact rfl;exact(Or.inl rfl);refine(x9 ?_);refine(wj ?_);walk_at "A";exact(va qe);exact qe;exact rfl;walk_at "L";refine(ql ?_ ?_);refine(qkp 100000 g0z ?_ (ql ?_ ?_));refine(yr ?_);exact(q0 (pv 5));refine(q6m (i:=6) rfl jf rfl rfl (N':=["some","runs"]) (cap:=[none,some 3]) (zb rfl rfl) (z9 rfl) ?_ (fun _ _ _ _ _=>(z0 q47 rfl (Or.inl rfl) (.inr rfl))) (fun _ _ _ _ _=>vc) (fun _ _ _ _ _=>?_));refine(jb ?_);exact(q0 (pv 5));refine(va ?_);walk_at "A";exact(q0 (pv 0));walk_at "A";refine(qv c_4 b_4 hr (by decide) rfl ?_);walk_at "A";exact(q0 (pv 1));walk_at "A";exact(q0 (pv 0));exact qe;exact qe;refine(yc 6 (ql ?_ ?_));refine(qr7 (pv 4) ?_);exact(q0 (pv 6));refine(qp ?_);refine(zi (i:=5) ?_ ?_ ?_ ?_ ?_ ?_);exact jf;exact rfl;exact(Or.inl rfl);refine(qv c_6 b_6 hr (by decide) rfl ?_);walk_at "A";refine(x9 ?_);refine(zm (N':=["pair"]) (cap:=[none]) rfl (zb rfl rfl) (z9 rfl) ?_ (fun _ _ _ _ _=>(z0 q48 rfl (Or.inl rfl) (.inr rfl))) (fun _ _ _ _ _=>vc) (fun _ _ _ _ _=>?_));refine(jb ?_);refine(qv c_3 b_3 hr (by decide) rfl ?_);walk_at "A";exact(q0 (pv 6));walk_at "A";exact(q0 (pv 2));exact qe;refine(jl ?_ qd);exact(q0 (pv 0));walk_at "A";refine(jl ?_ qd);exact(q0 (pv 1));exact qe;exact rfl;walk_at "L";refine(yc 6 (yc 4 (qp ?_)));refine(z6 ?_);refine(j8 (xj) rfl n_tuple DL.boot_tuple ?_);walk_at "A";exact(q0 (pv 4));exact qe
theorem q5c{fa:Addr}{dV:Value}{fd:FuncData}(F:Fun2 K "counted" "Growing.counted" zk dV fa fd){a_marked:Addr}{fd_marked:FuncData}(c_21:Cal P w K mg base "marked" 2 ["pile"] 1 q2c a_marked fd_marked)(b_21:Binds K fd_marked ["pile"] []){a_grown:Addr}{fd_grown:FuncData}(c_6:Cal P w K mg base "grown" 2 ["layer","wares"] 2 q3i a_grown fd_grown)(b_6:Binds K fd_grown ["layer","wares"] []){a_count_marked:Addr}{fd_count_marked:FuncData}(c_4:Cal P w K mg base "count_marked" 2 ["marked_runs","some"] 2 xt a_count_marked fd_count_marked)(b_4:Binds K fd_count_marked ["marked_runs","some"] []){a_at_least:Addr}{fd_at_least:FuncData}(c_3:Cal P w K mg base "at_least" 1 ["pairs","least"] 2 xo a_at_least fd_at_least)(b_3:Binds K fd_at_least ["pairs","least"] [])(n_tuple:mg "tuple" = none): FnOk P w K mg base CX0 3 fa fd ["self","pile","least"] (spD K 3 zw):=
 F.okn (k:=2) (n:=7) (ar:=3) (k1:=3) (u:=zv) q5b rfl rfl rfl fun cdv A outer s H E hr=>(by first|(with_reducible exact q18 c_21 b_21 c_6 b_6 c_4 b_4 c_3 b_3 n_tuple hr)|exact q18 c_21 b_21 c_6 b_6 c_4 b_4 c_3 b_3 n_tuple hr)
abbrev zx:Stmt:=qrm 17 0
noncomputable def q0g:List Str:=["self","pile","least"]
theorem q6w:(q0g).Nodup:=by decide +kernel
theorem q6x:FnScope q0g ["self","pile","least"] (qc zx):=⟨rfl,rfl,rfl,q6w,rfl,by decide +kernel,by decide +kernel⟩
noncomputable def vh:FS:=(zj (qi (qo 2 [] xo) (qa (q6h "Growing" 3 zw (eV 0) (qa (eV 1) (qa (eV 2) qf))) (qa (eV 2) qf))))
noncomputable def vm:List D->Option D:=z7 3 vh
theorem q2g{fa:Addr}{cdv:Value}{A:Around}{outer:List Env}{s:Shared}{H:Hp}{E:XK}{C_Growing:Addr}(O_Growing:ClsOk K "Growing" C_Growing){a_at_least:Addr}{fd_at_least:FuncData}(c_3:Cal P w K mg base "at_least" 1 ["pairs","least"] 2 xo a_at_least fd_at_least)(b_3:Binds K fd_at_least ["pairs","least"] []){a_Growing_counted:Addr}{fd_Growing_counted:FuncData}(c_0:CalM P w K mg base "Growing" "counted" C_Growing 3 ["self","pile","least"] 3 zw a_Growing_counted fd_Growing_counted)(b_0:Binds K fd_Growing_counted ["self","pile","least"] [])(hr:Room 3 (A.deeper (envOfC "Growing.often" (qc zx) s.heap.objs.size fa cdv))):
  PSs (zo CX0 P w K mg base q0g "Growing.often" (qc zx) fa cdv A outer s H E).nox (qt zx) (tDS K vh):=by
 unfold vh;refine(qp ?_);refine(z6 ?_);refine(qv c_3 b_3 hr (by decide) rfl ?_);walk_at "A";refine(qbz O_Growing c_0 b_0 hr (by decide) ?_ ?_);exact(q0 (pv 0));walk_at "A";exact(q0 (pv 1));walk_at "A";exact(q0 (pv 2));exact qe;walk_at "A";exact(q0 (pv 2));exact qe
theorem q6y{fa:Addr}{dV:Value}{fd:FuncData}(F:Fun2 K "often" "Growing.often" zx dV fa fd){C_Growing:Addr}(O_Growing:ClsOk K "Growing" C_Growing){a_at_least:Addr}{fd_at_least:FuncData}(c_3:Cal P w K mg base "at_least" 1 ["pairs","least"] 2 xo a_at_least fd_at_least)(b_3:Binds K fd_at_least ["pairs","least"] []){a_Growing_counted:Addr}{fd_Growing_counted:FuncData}(c_0:CalM P w K mg base "Growing" "counted" C_Growing 3 ["self","pile","least"] 3 zw a_Growing_counted fd_Growing_counted)(b_0:Binds K fd_Growing_counted ["self","pile","least"] []): FnOk P w K mg base CX0 4 fa fd ["self","pile","least"] (spD K 3 vm):=
 F.okn (k:=3) (n:=3) (ar:=3) (k1:=4) (u:=vh) q6x rfl rfl rfl fun cdv A outer s H E hr=>(by first|(with_reducible exact q2g O_Growing c_3 b_3 c_0 b_0 hr)|exact q2g O_Growing c_3 b_3 c_0 b_0 hr)
abbrev q0s:Stmt:=top 3
noncomputable def q6z:List Str:=["one","other"]
theorem qjc:(q6z).Nodup:=by decide +kernel
theorem qjd:FnScope q6z ["one","other"] (qc q0s):=⟨rfl,rfl,rfl,qjc,rfl,by decide +kernel,by decide +kernel⟩
noncomputable def q2h:FS:=(zj (qi je (qa (eL (qg1 (eV 0) (eV 1))) qf)))
noncomputable def q0t:List D->Option D:=z7 2 q2h
theorem q9s{fa:Addr}{cdv:Value}{A:Around}{outer:List Env}{s:Shared}{H:Hp}{E:XK}(n_tuple:mg "tuple" = none)(n_sorted:mg "sorted" = none)(n_set:mg "set" = none)(hr:Room 0 (A.deeper (envOfC "joined" (qc q0s) s.heap.objs.size fa cdv))):
  PSs (zo CX0 P w K mg base q6z "joined" (qc q0s) fa cdv A outer s H E).nox (qt q0s) (tDS K q2h):=by
 unfold q2h;refine(qp ?_);refine(z6 ?_);refine(j8 (xj) rfl n_tuple DL.boot_tuple ?_);walk_at "A";refine(x9 ?_);refine(qop rfl rfl n_sorted rfl n_set ?_ ?_);exact(q0 (pv 0));exact(q0 (pv 1));exact qe
theorem qje{fa:Addr}{dV:Value}{fd:FuncData}(F:Fun2 K "joined" "joined" q0s dV fa fd)(n_tuple:mg "tuple" = none)(n_sorted:mg "sorted" = none)(n_set:mg "set" = none): FnOk P w K mg base CX0 1 fa fd ["one","other"] (spD K 2 q0t):=
 F.okn (k:=0) (n:=2) (ar:=2) (k1:=1) (u:=q2h) qjd rfl rfl rfl fun cdv A outer s H E hr=>(by first|(with_reducible exact q9s n_tuple n_sorted n_set hr)|exact q9s n_tuple n_sorted n_set hr)
abbrev xi:Stmt:=top 7
noncomputable def q0h:List Str:=["some","wares"]
theorem q70:(q0h).Nodup:=by decide +kernel
theorem q71:FnScope q0h ["some","wares"] (qc xi):=⟨rfl,rfl,rfl,q70,rfl,by decide +kernel,by decide +kernel⟩
theorem q5d:(["ware","some"]:List Str).Nodup:=by decide +kernel
noncomputable def vn:FS:=(zj (eL (qw (iR1 (qa (eV 1) qf)) [none,some 0] (bN 0) (zp (oIn true) (eV 0) (eV 1)) (qi (qo 2 [] q0t) (qa (eV 1) (qa (jh (qa (eV 0) qf)) qf))))))
noncomputable def vp:List D->Option D:=z7 2 vn
theorem q2i{fa:Addr}{cdv:Value}{A:Around}{outer:List Env}{s:Shared}{H:Hp}{E:XK}{a_joined:Addr}{fd_joined:FuncData}(c_8:Cal P w K mg base "joined" 1 ["one","other"] 2 q0t a_joined fd_joined)(b_8:Binds K fd_joined ["one","other"] [])(n_range:mg "range" = none)(hr:Room 1 (A.deeper (envOfC "any_ware_more" (qc xi) s.heap.objs.size fa cdv))):
  PSs (zo CX0 P w K mg base q0h "any_ware_more" (qc xi) fa cdv A outer s H E).nox (qt xi) (tDS K vn):=by
 unfold vn;refine(qp ?_);refine(z6 ?_);refine(x9 ?_);refine(zm (N':=["ware","some"]) (cap:=[none,some 0]) rfl (zb rfl rfl) (z9 rfl) ?_ (fun _ _ _ _ _=>(z0 q5d rfl (Or.inl rfl) (.inr rfl))) (fun _ _ _ _ _=>(q11 ?_)) (fun _ _ _ _ _=>?_));refine(wz rfl n_range ?_);walk_at "A";exact(q0 (pv 1));exact qe;refine(zq qbc ?_ ?_);exact(q0 (pv 0));exact(q0 (pv 1));refine(qv c_8 b_8 hr (by decide) rfl ?_);walk_at "A";exact(q0 (pv 1));walk_at "A";refine(va ?_);walk_at "A";exact(q0 (pv 0));exact qe;exact qe
theorem q72{fa:Addr}{dV:Value}{fd:FuncData}(F:Fun2 K "any_ware_more" "any_ware_more" xi dV fa fd){a_joined:Addr}{fd_joined:FuncData}(c_8:Cal P w K mg base "joined" 1 ["one","other"] 2 q0t a_joined fd_joined)(b_8:Binds K fd_joined ["one","other"] [])(n_range:mg "range" = none): FnOk P w K mg base CX0 2 fa fd ["some","wares"] (spD K 2 vp):=
 F.okn (k:=1) (n:=2) (ar:=2) (k1:=2) (u:=vn) q71 rfl rfl rfl fun cdv A outer s H E hr=>(by first|(with_reducible exact q2i c_8 b_8 n_range hr)|exact q2i c_8 b_8 n_range hr)
abbrev v8:Stmt:=top 21
noncomputable def q1h:List Str:=["some","known","wares"]
theorem q8y:(q1h).Nodup:=by decide +kernel
theorem q8z:FnScope q1h ["some","known","wares"] (qc v8):=⟨rfl,rfl,rfl,q8y,rfl,by decide +kernel,by decide +kernel⟩
theorem q73:(["longer","known"]:List Str).Nodup:=by decide +kernel
noncomputable def yh:FS:=(zj (qfm (qi qfo (qa (eL (qw (jk (qi (qo 2 [] vp) (qa (eV 0) (qa (eV 2) qf)))) [none,some 1] (bN 0) z8 (eOp q2y (eV 0) (eV 1)))) qf))))
noncomputable def v9:List D->Option D:=z7 3 yh
theorem q3j{fa:Addr}{cdv:Value}{A:Around}{outer:List Env}{s:Shared}{H:Hp}{E:XK}{a_any_ware_more:Addr}{fd_any_ware_more:FuncData}(c_2:Cal P w K mg base "any_ware_more" 2 ["some","wares"] 2 vp a_any_ware_more fd_any_ware_more)(b_2:Binds K fd_any_ware_more ["some","wares"] [])(n_any:mg "any" = none)(hr:Room 2 (A.deeper (envOfC "is_greatest" (qc v8) s.heap.objs.size fa cdv))):
  PSs (zo CX0 P w K mg base q1h "is_greatest" (qc v8) fa cdv A outer s H E).nox (qt v8) (tDS K yh):=by
 unfold yh;refine(qp ?_);refine(z6 ?_);refine(qhz ?_);refine(j7 (qqr rfl) rfl n_any DL.boot_any ?_);walk_at "A";refine(x9 ?_);refine(zm (N':=["longer","known"]) (cap:=[none,some 1]) rfl (zb rfl rfl) (z9 rfl) ?_ (fun _ _ _ _ _=>(z0 q73 rfl (Or.inl rfl) (.inr rfl))) (fun _ _ _ _ _=>vc) (fun _ _ _ _ _=>?_));refine(jb ?_);refine(qv c_2 b_2 hr (by decide) rfl ?_);walk_at "A";exact(q0 (pv 0));walk_at "A";exact(q0 (pv 2));exact qe;refine(qb4 (qiz hr.units) ?_ ?_);exact(q0 (pv 0));exact(q0 (pv 1));exact qe
theorem q90{fa:Addr}{dV:Value}{fd:FuncData}(F:Fun2 K "is_greatest" "is_greatest" v8 dV fa fd){a_any_ware_more:Addr}{fd_any_ware_more:FuncData}(c_2:Cal P w K mg base "any_ware_more" 2 ["some","wares"] 2 vp a_any_ware_more fd_any_ware_more)(b_2:Binds K fd_any_ware_more ["some","wares"] [])(n_any:mg "any" = none): FnOk P w K mg base CX0 3 fa fd ["some","known","wares"] (spD K 3 v9):=
 F.okn (k:=2) (n:=3) (ar:=3) (k1:=3) (u:=yh) q8z rfl rfl rfl fun cdv A outer s H E hr=>(by first|(with_reducible exact q3j c_2 b_2 n_any hr)|exact q3j c_2 b_2 n_any hr)
abbrev kx:Stmt:=top 19
noncomputable def q49:List Str:=["pile","least","pairs","known"]
theorem q34:(q49).Nodup:=by decide +kernel
theorem qdw:FnScope q49 ["pile","least"] (qc kx):=⟨rfl,rfl,rfl,q34,rfl,by decide +kernel,by decide +kernel⟩
theorem qai:(["pair","known","pile"]:List Str).Nodup:=by decide +kernel
noncomputable def q0i:FS:=(z5 (j3 2 (q6h "Growing" 3 vm (eC (.obj "Growing")) (qa (eV 0) (qa (eV 1) qf)))) (z5 (j3 3 (qi q7x (qa (eV 2) qf))) (zj (qi je (qa (eL (qw (jk (eV 2)) [none,some 3,some 0] (bN 0) (bT (qi (qo 3 [] v9) (qa (eOp oIx (eV 0) (eC (.int 0))) (qa (eV 1) (qa (eOp oIx (eV 2) (eC (.int 0))) qf))))) (eV 0))) qf)))))
noncomputable def w6:List D->Option D:=z7 4 q0i
theorem q61{fa:Addr}{cdv:Value}{A:Around}{outer:List Env}{s:Shared}{H:Hp}{E:XK}{C_Growing:Addr}(O_Growing:ClsOk K "Growing" C_Growing)(m_Growing:mg "Growing" = some (.ref C_Growing)){a_Growing_often:Addr}{fd_Growing_often:FuncData}(c_1:CalM P w K mg base "Growing" "often" C_Growing 4 ["self","pile","least"] 3 vm a_Growing_often fd_Growing_often)(b_1:Binds K fd_Growing_often ["self","pile","least"] []){a_is_greatest:Addr}{fd_is_greatest:FuncData}(c_7:Cal P w K mg base "is_greatest" 3 ["some","known","wares"] 3 v9 a_is_greatest fd_is_greatest)(b_7:Binds K fd_is_greatest ["some","known","wares"] [])(n_dict:mg "dict" = none)(n_tuple:mg "tuple" = none)(hr:Room 4 (A.deeper (envOfC "greatest" (qc kx) s.heap.objs.size fa cdv))):
  PSs (zo CX0 P w K mg base q49 "greatest" (qc kx) fa cdv A outer s H E).nox (qt kx) (tDS K q0i):=by
 unfold q0i;refine(ql ?_ ?_);refine(zi (i:=2) ?_ ?_ ?_ ?_ ?_ ?_);exact q34;exact rfl;exact(Or.inl rfl);refine(qbz O_Growing c_1 b_1 hr (by decide) ?_ ?_);exact(qin O_Growing m_Growing rfl);walk_at "A";exact(q0 (pv 0));walk_at "A";exact(q0 (pv 1));exact qe;exact rfl;walk_at "L";refine(ql ?_ ?_);refine(zi (i:=3) ?_ ?_ ?_ ?_ ?_ ?_);exact q34;exact rfl;exact(Or.inr rfl);refine(j8 (qlt rfl hr.units) rfl n_dict DL.boot_dict ?_);walk_at "A";exact(q0 (pv 2));exact qe;exact rfl;walk_at "L";refine(qp ?_);refine(z6 ?_);refine(j8 (xj) rfl n_tuple DL.boot_tuple ?_);walk_at "A";refine(x9 ?_);refine(zm (N':=["pair","known","pile"]) (cap:=[none,some 3,some 0]) rfl (zb rfl rfl) (z9 rfl) ?_ (fun _ _ _ _ _=>(z0 qai rfl (Or.inl rfl) (.inr rfl))) (fun _ _ _ _ _=>(q11 ?_)) (fun _ _ _ _ _=>?_));refine(jb ?_);exact(q0 (pv 2));refine(yr ?_);refine(qv c_7 b_7 hr (by decide) rfl ?_);walk_at "A";refine(jl ?_ qd);exact(q0 (pv 0));walk_at "A";exact(q0 (pv 1));walk_at "A";refine(jl ?_ qd);exact(q0 (pv 2));exact qe;exact(q0 (pv 0));exact qe
theorem qdx{fa:Addr}{dV:Value}{fd:FuncData}(F:Fun2 K "greatest" "greatest" kx dV fa fd){C_Growing:Addr}(O_Growing:ClsOk K "Growing" C_Growing)(m_Growing:mg "Growing" = some (.ref C_Growing)){a_Growing_often:Addr}{fd_Growing_often:FuncData}(c_1:CalM P w K mg base "Growing" "often" C_Growing 4 ["self","pile","least"] 3 vm a_Growing_often fd_Growing_often)(b_1:Binds K fd_Growing_often ["self","pile","least"] []){a_is_greatest:Addr}{fd_is_greatest:FuncData}(c_7:Cal P w K mg base "is_greatest" 3 ["some","known","wares"] 3 v9 a_is_greatest fd_is_greatest)(b_7:Binds K fd_is_greatest ["some","known","wares"] [])(n_dict:mg "dict" = none)(n_tuple:mg "tuple" = none): FnOk P w K mg base CX0 5 fa fd ["pile","least"] (spD K 2 w6):=
 F.okn (k:=4) (n:=4) (ar:=2) (k1:=5) (u:=q0i) qdw rfl rfl rfl fun cdv A outer s H E hr=>(by first|(with_reducible exact q61 O_Growing m_Growing c_1 b_1 c_7 b_7 n_dict n_tuple hr)|exact q61 O_Growing m_Growing c_1 b_1 c_7 b_7 n_dict n_tuple hr)
abbrev q0u:Stmt:=top 20
noncomputable def q74:List Str:=["pile","least"]
theorem qjf:(q74).Nodup:=by decide +kernel
theorem qjg:FnScope q74 ["pile","least"] (qc q0u):=⟨rfl,rfl,rfl,qjf,rfl,by decide +kernel,by decide +kernel⟩
theorem qdy:(["pair","least"]:List Str).Nodup:=by decide +kernel
noncomputable def q2j:FS:=(zj (qi je (qa (eL (qw (jk (q6h "Growing" 3 zw (eC (.obj "Growing")) (qa (eV 0) (qa (eV 1) qf)))) [none,some 1] (bN 0) (zp oLt' (eOp oIx (eV 0) (eC (.int 1))) (eV 1)) (eV 0))) qf)))
noncomputable def q2k:List D->Option D:=z7 2 q2j
theorem q9t{fa:Addr}{cdv:Value}{A:Around}{outer:List Env}{s:Shared}{H:Hp}{E:XK}{C_Growing:Addr}(O_Growing:ClsOk K "Growing" C_Growing)(m_Growing:mg "Growing" = some (.ref C_Growing)){a_Growing_counted:Addr}{fd_Growing_counted:FuncData}(c_0:CalM P w K mg base "Growing" "counted" C_Growing 3 ["self","pile","least"] 3 zw a_Growing_counted fd_Growing_counted)(b_0:Binds K fd_Growing_counted ["self","pile","least"] [])(n_tuple:mg "tuple" = none)(hr:Room 3 (A.deeper (envOfC "seldom" (qc q0u) s.heap.objs.size fa cdv))):
  PSs (zo CX0 P w K mg base q74 "seldom" (qc q0u) fa cdv A outer s H E).nox (qt q0u) (tDS K q2j):=by
 unfold q2j;refine(qp ?_);refine(z6 ?_);refine(j8 (xj) rfl n_tuple DL.boot_tuple ?_);walk_at "A";refine(x9 ?_);refine(zm (N':=["pair","least"]) (cap:=[none,some 1]) rfl (zb rfl rfl) (z9 rfl) ?_ (fun _ _ _ _ _=>(z0 qdy rfl (Or.inl rfl) (.inr rfl))) (fun _ _ _ _ _=>(q11 ?_)) (fun _ _ _ _ _=>?_));refine(jb ?_);refine(qbz O_Growing c_0 b_0 hr (by decide) ?_ ?_);exact(qin O_Growing m_Growing rfl);walk_at "A";exact(q0 (pv 0));walk_at "A";exact(q0 (pv 1));exact qe;refine(zq qbg ?_ ?_);refine(jl ?_ qd);exact(q0 (pv 0));exact(q0 (pv 1));exact(q0 (pv 0));exact qe
theorem qjh{fa:Addr}{dV:Value}{fd:FuncData}(F:Fun2 K "seldom" "seldom" q0u dV fa fd){C_Growing:Addr}(O_Growing:ClsOk K "Growing" C_Growing)(m_Growing:mg "Growing" = some (.ref C_Growing)){a_Growing_counted:Addr}{fd_Growing_counted:FuncData}(c_0:CalM P w K mg base "Growing" "counted" C_Growing 3 ["self","pile","least"] 3 zw a_Growing_counted fd_Growing_counted)(b_0:Binds K fd_Growing_counted ["self","pile","least"] [])(n_tuple:mg "tuple" = none): FnOk P w K mg base CX0 4 fa fd ["pile","least"] (spD K 2 q2k):=
 F.okn (k:=3) (n:=2) (ar:=2) (k1:=4) (u:=q2j) qjg rfl rfl rfl fun cdv A outer s H E hr=>(by first|(with_reducible exact q9t O_Growing m_Growing c_0 b_0 n_tuple hr)|exact q9t O_Growing m_Growing c_0 b_0 n_tuple hr)
abbrev w8:Stmt:=top 33
noncomputable def q4a:List Str:=["_law_pile_here","_law_least_here","_law_turn","_law_due"]
theorem q62:(q4a).Nodup:=by decide +kernel
theorem qdz:FnScope q4a ["_law_pile_here","_law_least_here","_law_turn"] (qc w8):=⟨rfl,rfl,rfl,q62,rfl,by decide +kernel,by decide +kernel⟩
noncomputable def w9:FS:=(z5 (j3 3 (qi (qo 2 [] yf) (qa (eV 0) (qa (eV 1) qf)))) (z5 (sIf (q6c (zp oEq (eOp oMod (eV 2) (eC (.int 2))) (eC (.int 0))) (q4m (bT (qi (qo 2 [] km) (qa (qi (qo 2 [] w6) (qa (eV 0) (qa (eV 1) qf))) (qa (eOp oIx (eV 3) (eC (.int 0))) qf)))))) (zj (eC (.bl false))) xy) (z5 (sIf (q4m (bT (qi (qo 2 [] km) (qa (qi (qo 2 [] q2k) (qa (eV 0) (qa (eV 1) qf))) (qa (eOp oIx (eV 3) (eC (.int 1))) qf))))) (zj (eC (.bl false))) xy) (zj (qi (qo 2 [] km) (qa (qi (qo 2 [] w6) (qa (eV 0) (qa (eV 1) qf))) (qa (eOp oIx (eV 3) (eC (.int 0))) qf)))))))
noncomputable def jq:List D->Option D:=z7 4 w9
theorem q63{fa:Addr}{cdv:Value}{A:Around}{outer:List Env}{s:Shared}{H:Hp}{E:XK}{a__law_borders:Addr}{fd__law_borders:FuncData}(c_9:Cal P w K mg base "_law_borders" 5 ["_law_pile_here","_law_least_here"] 2 yf a__law_borders fd__law_borders)(b_9:Binds K fd__law_borders ["_law_pile_here","_law_least_here"] []){a__law_same:Addr}{fd__law_same:FuncData}(c_16:Cal P w K mg base "_law_same" 17 ["_law_found","_law_due"] 2 km a__law_same fd__law_same)(b_16:Binds K fd__law_same ["_law_found","_law_due"] []){a_greatest:Addr}{fd_greatest:FuncData}(c_5:Cal P w K mg base "greatest" 5 ["pile","least"] 2 w6 a_greatest fd_greatest)(b_5:Binds K fd_greatest ["pile","least"] []){a_seldom:Addr}{fd_seldom:FuncData}(c_24:Cal P w K mg base "seldom" 4 ["pile","least"] 2 q2k a_seldom fd_seldom)(b_24:Binds K fd_seldom ["pile","least"] [])(hr:Room 17 (A.deeper (envOfC "_law_told" (qc w8) s.heap.objs.size fa cdv))):
  PSs (zo CX0 P w K mg base q4a "_law_told" (qc w8) fa cdv A outer s H E).nox (qt w8) (tDS K w9):=by
 unfold w9;refine(ql ?_ ?_);refine(zi (i:=3) ?_ ?_ ?_ ?_ ?_ ?_);exact q62;exact rfl;exact(Or.inl rfl);refine(qv c_9 b_9 hr (by decide) rfl ?_);walk_at "A";exact(q0 (pv 0));walk_at "A";exact(q0 (pv 1));exact qe;exact rfl;walk_at "L";refine(ql ?_ ?_);refine(xm ?_ (qp ?_) ji);refine(PW.pt (q4n ?_ (q3c ?_)));refine(zq (q0w hr.units) ?_ qd);refine(qm ja ?_ qd);exact(q0 (pv 2));refine(q3b ?_);refine(yr ?_);refine(qv c_16 b_16 hr (by decide) rfl ?_);walk_at "A";refine(qv c_5 b_5 hr (by decide) rfl ?_);walk_at "A";exact(q0 (pv 0));walk_at "A";exact(q0 (pv 1));exact qe;walk_at "A";refine(jl ?_ qd);exact(q0 (pv 3));exact qe;exact(z6 q3m);refine(ql ?_ ?_);refine(xm ?_ (qp ?_) ji);refine(q3b ?_);refine(yr ?_);refine(qv c_16 b_16 hr (by decide) rfl ?_);walk_at "A";refine(qv c_24 b_24 hr (by decide) rfl ?_);walk_at "A";exact(q0 (pv 0));walk_at "A";exact(q0 (pv 1));exact qe;walk_at "A";refine(jl ?_ qd);exact(q0 (pv 3));exact qe;exact(z6 q3m);refine(qp ?_);refine(z6 ?_);refine(qv c_16 b_16 hr (by decide) rfl ?_);walk_at "A";refine(qv c_5 b_5 hr (by decide) rfl ?_);walk_at "A";exact(q0 (pv 0));walk_at "A";exact(q0 (pv 1));exact qe;walk_at "A";refine(jl ?_ qd);exact(q0 (pv 3));exact qe
theorem qe0{fa:Addr}{dV:Value}{fd:FuncData}(F:Fun2 K "_law_told" "_law_told" w8 dV fa fd){a__law_borders:Addr}{fd__law_borders:FuncData}(c_9:Cal P w K mg base "_law_borders" 5 ["_law_pile_here","_law_least_here"] 2 yf a__law_borders fd__law_borders)(b_9:Binds K fd__law_borders ["_law_pile_here","_law_least_here"] []){a__law_same:Addr}{fd__law_same:FuncData}(c_16:Cal P w K mg base "_law_same" 17 ["_law_found","_law_due"] 2 km a__law_same fd__law_same)(b_16:Binds K fd__law_same ["_law_found","_law_due"] []){a_greatest:Addr}{fd_greatest:FuncData}(c_5:Cal P w K mg base "greatest" 5 ["pile","least"] 2 w6 a_greatest fd_greatest)(b_5:Binds K fd_greatest ["pile","least"] []){a_seldom:Addr}{fd_seldom:FuncData}(c_24:Cal P w K mg base "seldom" 4 ["pile","least"] 2 q2k a_seldom fd_seldom)(b_24:Binds K fd_seldom ["pile","least"] []): FnOk P w K mg base CX0 18 fa fd ["_law_pile_here","_law_least_here","_law_turn"] (spD K 3 jq):=
 F.okn (k:=17) (n:=4) (ar:=3) (k1:=18) (u:=w9) qdz rfl rfl rfl fun cdv A outer s H E hr=>(by first|(with_reducible exact q63 c_9 b_9 c_16 b_16 c_5 b_5 c_24 b_24 hr)|exact q63 c_9 b_9 c_16 b_16 c_5 b_5 c_24 b_24 hr)
abbrev q5o:Stmt:=top 34
noncomputable def qgv:List Str:=["_law_script","_law_pile_here","_law_least_here","_law_other","_law_turn"]
theorem q3k:(qgv).Nodup:=by decide +kernel
theorem qrn:FnScope qgv ["_law_script"] (qc q5o):=⟨rfl,rfl,rfl,q3k,rfl,by decide +kernel,by decide +kernel⟩
noncomputable def q4b:FS:=(z5 (j3 1 (qi (qo 2 [] ve) (qa (eV 0) (qa (eC (.int 6)) qf)))) (z5 (sIf (q6c (zp oGt (qi yo (qa (eV 0) qf)) (eC (.int 0))) (zp oEq (eOp oMod (eOp oDiv (eOp oIx (eV 0) (eC (.int 0))) (eC (.int 7))) (eC (.int 16))) (eC (.int 9)))) (j3 1 (qi (qo 2 [] ve) (qa (eSl (eV 0) oNo (oAt (eC (.int 20)))) (qa (eC (.int 8)) qf)))) xy) (z5 (j3 2 (qi (qo 2 [] x6) (qa (eV 0) (qa (eV 1) qf)))) (z5 (j3 3 (jh (qa (eOp oIx (eV 1) (eC (.int 0))) (qa (eSl (eOp oIx (eV 1) (eC (.int 1))) (oAt (eC (.int 1))) oNo) qf)))) (z5 (j3 4 (qi (qo 2 [] zt) (qa (eV 0) (qa (eC (.int 9)) qf)))) (z5 (sIf (bOr (q4m (bT (qi (qo 3 [] jq) (qa (eV 1) (qa (eV 2) (qa (eV 4) qf)))))) (q4m (bT (qi (qo 3 [] jq) (qa (eV 3) (qa (eV 2) (qa (eOp oDiv (eV 4) (eC (.int 2))) qf))))))) (zj (eC (.bl false))) xy) (zj (qb6 (qi (qo 3 [] jq) (qa (eV 1) (qa (eOp ze (eV 2) (eC (.int 1))) (qa (eOp oDiv (eV 4) (eC (.int 8))) qf)))) (qi (qo 3 [] jq) (qa (eV 1) (qa (eV 2) (qa (eOp oDiv (eV 4) (eC (.int 4))) qf))))))))))))
noncomputable def qgw:List D->Option D:=z7 5 q4b
theorem qji{fa:Addr}{cdv:Value}{A:Around}{outer:List Env}{s:Shared}{H:Hp}{E:XK}{a__law_pile:Addr}{fd__law_pile:FuncData}(c_13:Cal P w K mg base "_law_pile" 3 ["_law_script","_law_most_wares"] 2 ve a__law_pile fd__law_pile)(b_13:Binds K fd__law_pile ["_law_script","_law_most_wares"] []){a__law_least:Addr}{fd__law_least:FuncData}(c_11:Cal P w K mg base "_law_least" 2 ["_law_script","_law_pile_here"] 2 x6 a__law_least fd__law_least)(b_11:Binds K fd__law_least ["_law_script","_law_pile_here"] []){a__law_mixed:Addr}{fd__law_mixed:FuncData}(c_12:Cal P w K mg base "_law_mixed" 1 ["_law_script","_law_k"] 2 zt a__law_mixed fd__law_mixed)(b_12:Binds K fd__law_mixed ["_law_script","_law_k"] []){a__law_told:Addr}{fd__law_told:FuncData}(c_19:Cal P w K mg base "_law_told" 18 ["_law_pile_here","_law_least_here","_law_turn"] 3 jq a__law_told fd__law_told)(b_19:Binds K fd__law_told ["_law_pile_here","_law_least_here","_law_turn"] [])(n_len:mg "len" = none)(hr:Room 18 (A.deeper (envOfC "law" (qc q5o) s.heap.objs.size fa cdv))):
  PSs (zo CX0 P w K mg base qgv "law" (qc q5o) fa cdv A outer s H E).nox (qt q5o) (tDS K q4b):=by
 unfold q4b;refine(ql ?_ ?_);refine(zi (i:=1) ?_ ?_ ?_ ?_ ?_ ?_);exact q3k;exact rfl;exact(Or.inl rfl);refine(qv c_13 b_13 hr (by decide) rfl ?_);walk_at "A";exact(q0 (pv 0));walk_at "A";exact qd;exact qe;exact rfl;walk_at "L";refine(ql ?_ ?_);refine(xm ?_ (qp ?_) ji);refine(PW.pt (q4n ?_ (q3c ?_)));refine(zq q7f ?_ qd);refine(j7 (yw) rfl n_len DL.xa ?_);walk_at "A";exact(q0 (pv 0));exact qe;refine(zq (q0w hr.units) ?_ qd);refine(qm ja ?_ qd);refine(qm vy ?_ qd);refine(jl ?_ qd);exact(q0 (pv 0));refine(zi (i:=1) ?_ ?_ ?_ ?_ ?_ ?_);exact q3k;exact rfl;exact(Or.inl rfl);refine(qv c_13 b_13 hr (by decide) rfl ?_);walk_at "A";refine(q25 ?_ q3p (q0n qd));exact(q0 (pv 0));walk_at "A";exact qd;exact qe;exact rfl;walk_at "L";refine(ql ?_ ?_);refine(zi (i:=2) ?_ ?_ ?_ ?_ ?_ ?_);exact q3k;exact rfl;exact(Or.inl rfl);refine(qv c_11 b_11 hr (by decide) rfl ?_);walk_at "A";exact(q0 (pv 0));walk_at "A";exact(q0 (pv 1));exact qe;exact rfl;walk_at "L";refine(ql ?_ ?_);refine(zi (i:=3) ?_ ?_ ?_ ?_ ?_ ?_);exact q3k;exact rfl;exact(Or.inl rfl);refine(va ?_);walk_at "A";refine(jl ?_ qd);exact(q0 (pv 1));walk_at "A";refine(q25 ?_ (q0n qd) q3p);refine(jl ?_ qd);exact(q0 (pv 1));exact qe;exact rfl;walk_at "L";refine(ql ?_ ?_);refine(zi (i:=4) ?_ ?_ ?_ ?_ ?_ ?_);exact q3k;exact rfl;exact(Or.inl rfl);refine(qv c_12 b_12 hr (by decide) rfl ?_);walk_at "A";exact(q0 (pv 0));walk_at "A";exact qd;exact qe;exact rfl;walk_at "L";refine(ql ?_ ?_);refine(xm ?_ (qp ?_) ji);refine(PW.pt (qmv ?_ (qhx ?_)));refine(q3b ?_);refine(yr ?_);refine(qv c_19 b_19 hr (by decide) rfl ?_);walk_at "A";exact(q0 (pv 1));walk_at "A";exact(q0 (pv 2));walk_at "A";exact(q0 (pv 4));exact qe;refine(q3b ?_);refine(yr ?_);refine(qv c_19 b_19 hr (by decide) rfl ?_);walk_at "A";exact(q0 (pv 3));walk_at "A";exact(q0 (pv 2));walk_at "A";refine(qm vy ?_ qd);exact(q0 (pv 4));exact qe;exact(z6 q3m);refine(qp ?_);refine(z6 ?_);refine(qb8 ?_ (qhy ?_));refine(qv c_19 b_19 hr (by decide) rfl ?_);walk_at "A";exact(q0 (pv 1));walk_at "A";refine(qm zy ?_ qd);exact(q0 (pv 2));walk_at "A";refine(qm vy ?_ qd);exact(q0 (pv 4));exact qe;refine(qv c_19 b_19 hr (by decide) rfl ?_);walk_at "A";exact(q0 (pv 1));walk_at "A";exact(q0 (pv 2));walk_at "A";refine(qm vy ?_ qd);exact(q0 (pv 4));exact qe
theorem qro{fa:Addr}{dV:Value}{fd:FuncData}(F:Fun2 K "law" "law" q5o dV fa fd){a__law_pile:Addr}{fd__law_pile:FuncData}(c_13:Cal P w K mg base "_law_pile" 3 ["_law_script","_law_most_wares"] 2 ve a__law_pile fd__law_pile)(b_13:Binds K fd__law_pile ["_law_script","_law_most_wares"] []){a__law_least:Addr}{fd__law_least:FuncData}(c_11:Cal P w K mg base "_law_least" 2 ["_law_script","_law_pile_here"] 2 x6 a__law_least fd__law_least)(b_11:Binds K fd__law_least ["_law_script","_law_pile_here"] []){a__law_mixed:Addr}{fd__law_mixed:FuncData}(c_12:Cal P w K mg base "_law_mixed" 1 ["_law_script","_law_k"] 2 zt a__law_mixed fd__law_mixed)(b_12:Binds K fd__law_mixed ["_law_script","_law_k"] []){a__law_told:Addr}{fd__law_told:FuncData}(c_19:Cal P w K mg base "_law_told" 18 ["_law_pile_here","_law_least_here","_law_turn"] 3 jq a__law_told fd__law_told)(b_19:Binds K fd__law_told ["_law_pile_here","_law_least_here","_law_turn"] [])(n_len:mg "len" = none): FnOk P w K mg base CX0 19 fa fd ["_law_script"] (spD K 1 qgw):=
 F.okn (k:=18) (n:=5) (ar:=1) (k1:=19) (u:=q4b) qrn rfl rfl rfl fun cdv A outer s H E hr=>(by first|(with_reducible exact qji c_13 b_13 c_11 b_11 c_12 b_12 c_19 b_19 n_len hr)|exact qji c_13 b_13 c_11 b_11 c_12 b_12 c_19 b_19 n_len hr)
end
end My
open PySem PyProof.Rows L2 DL
local macro_rules | `(tactic| simp! [$a,*])=> `(tactic| simp (config:={decide:=true,implicitDefEqProofs:=false}) only [z7,z5,sIf,j3,zj,qsj,xy,q0m,qtl,qtm,qsk,q08,q07,qsm,eOp,eC,eV0,eVs,qi,qa,qf,jh,eL,q1d,q2p,eSl,oNo,oAt,qtt,q6c,zp,q4m,bT,bOr,qb6,eOr,qfm,eIf,q8f,qp0,eUn,isB,qb5,q8i,qn6,qsz,qtu,frzs,jk,q6e,qo,qsq,qtp,bN,yu,j5,yt,wc,qqo,gj,g10,p7,g2d,mj,Nat.reduceAdd,Nat.reduceSub,Nat.reduceEqDiff,List.replicate,g43,g0p,g30,List.set_cons_zero,List.set_cons_succ,List.set_nil,g3q,g3p,m9,Option.bind_none,p9,Option.map_none,g42,Option.join_none,qce,qlw,qj7,qlx,kg,qdk,qf4,qf5,qrg,q8t,qov,qow,qf6,vw,qm3,nu,nz,g67,g5w,gh,g12,g2o,and_true,true_and,and_self,ite_true,ite_false,Int.reduceSub,Int.reduceMod,Int.reduceAdd,Int.reduceDiv,Int.reducePow,Int.reduceMul,Int.reduceNeg,Int.reduceEq,Int.reduceLT,Int.reduceLE,Int.reduceToNat,qtv,qrl,qox,qoy,qoz,qlz,reduceCtorEq,List.isEmpty_nil,List.isEmpty_cons,List.isEmpty_iff, $a,*])
namespace My
open PySem PyProof.Rows L2 DL
abbrev TI(ns:List Int): D:=.tup (ns.map .int)
def bit(m i:Nat): Bool:=m / 2 ^ i%2==1
def qg(n m:Nat): List Int:=((List.range n).filter fun i=>bit m i).map fun i:Nat=>(i:Int)
def mk(b:List Int): Int:=(b.map fun x=>(2:Int) ^ x.toNat).sum
theorem qf8(a b:Nat): Builtin.bitAnd (a:Int) (b:Int)=((a &&& b:Nat):Int):=by
 unfold Builtin.bitAnd;rw [nv (by lia:(0:Int)<=(a:Int)),nv (by lia:(0:Int)<=(b:Int))];simp
theorem q9u(a b:Int): oBand (.int a) (.int b)=some (.int (Builtin.bitAnd a b)):=rfl
theorem q1x(n:Nat): qz 0 n=(List.range n).map fun i:Nat=>.int (i:Int):=by
 unfold qz;simp only [g6p]
theorem q0j:∀k:Nat,k<256->qg (Builtin.Int.intBits (k:Int)) k=qg 12 k/\mk (qg 12 k)=(k:Int):=by decide +kernel
theorem q4c:∀a:Nat,a<256->∀b:Nat,b<256->qg 12 a=qg 12 b->a=b:=fun a ha b hb h=>by
 have h1:=(q0j a ha).2;have h2:=(q0j b hb).2;rw [h,h2] at h1;lia
theorem k9(n m:Nat): (qg n m).length<=n:=by
 unfold qg;rw [mj];exact mq (ur _ _) (by simp)
theorem q75{n m:Nat}{x:Int}(h:x∈qg n m): ∃i:Nat,x=(i:Int)/\i<n:=by
 unfold qg at h;obtain⟨i,hi,rfl⟩:=ni.mp h;exact⟨i,rfl,by simpa using(g0h.mp hi).1⟩
theorem qp2(b:List Int)(hb:∀x∈b,0<=x/\x<100)(ρ : Rho): qr (bN 0) z8 (eOp oShl (eC (.int 1)) (eV 0)) (none :: ρ) (b.map D.int)=some ((b.map fun x=>(2:Int) ^ x.toNat).map D.int):=by
 have:=q0y (b:=bN 0) (f:=eOp oShl (eC (.int 1)) (eV 0)) (ρ :=none :: ρ) (fun d=>match d with | .int x=>.int (2 ^ x.toNat)|_=>.non) (ds:=b.map D.int) fun d hd=>by
  obtain⟨x,hx,rfl⟩:=ni.mp hd;have:=hb x hx;refine⟨_,rfl,qgk x_c (x_v rfl) ?_⟩;rw [qly 1 x (by lia) (by lia) (by decide),Int.one_mul]
 rw [this,nj,nj]
 rfl
theorem q86(b:List Int)(hb:∀x∈b,0<=x/\x<100)(hl:b.length<=1000): xq [TI b]=some (.int (mk b)):=by
 have hl':b.length<=lim:=by show _<=1000000;lia
 have c:=qp2 b hb [];have a:=q9q (b.map fun x=>(2:Int) ^ x.toNat)
 (refine zd ?_;simp! [q17,qw,hl',c,a])
 rfl
def q91(lt:Nat->Nat->Bool)(x:Nat): List Nat->List Nat
 | []=>[x]
 | y :: r=>if lt y x=true then y :: q91 lt x r else x :: y :: r
def q87(lt:Nat->Nat->Bool): List Nat->List Nat
 | []=>[]
 | x :: r=>q91 lt x (q87 lt r)
theorem q9v(lt:Nat->Nat->Bool)(x:Nat): ∀l,(q91 lt x l).Perm (x :: l)
 | []=>.refl _
 | y :: r=>by
  unfold q91
  split
  ·exact((q9v lt x r).cons y).trans (.swap x y r)
  ·exact .refl _
theorem q1p(lt:Nat->Nat->Bool): ∀l,(q87 lt l).Perm l
 | []=>.refl _
 | x :: r=>(q9v lt x _).trans ((q1p lt r).cons x)
theorem qcr(f:Nat->D×D)(x:Nat): ∀l,q4w (f x) (l.map f)=(q91 (fun a b=>ltT (f a).1 (f b).1) x l).map f
 | []=>rfl
 | y :: r=>by
  rw [gj];unfold q4w q91
  by_cases h:ltT (f y).1 (f x).1=true
  ·rw [mi h,mi h,qcr f x r,gj]
  ·rw [mn h,mn h,gj,gj]
theorem q9w(f:Nat->D×D): ∀l,kc (l.map f)=(q87 (fun a b=>ltT (f a).1 (f b).1) l).map f
 | []=>rfl
 | x :: r=>by
  rw [gj];unfold kc q87;rw [q9w f r,qcr]
def wg(k:Nat): D:=.tup [.int ((qg 12 k).length:Int),TI (qg 12 k)]
def ltO(a b:Nat): Bool:=ltT (wg a) (wg b)
theorem qcs:∀ns:List Int,kDL (ns.map D.int)=true
 | []=>by simp [kDL]
 | n :: ns=>by simp only [gj,kDL,kD,qcs ns,g41]
theorem qct:∀ns ms:List Int,shL (ns.map D.int) (ms.map D.int)=true
 | [],ms=>by simp [shL]
 | n :: ns,[]=>by simp [shL]
 | n :: ns,m :: ms=>by simp only [gj,shL,shD,qct ns ms,g41]
theorem q9x:∀ns:List Int,y9 (ns.map D.int)=0
 | []=>by simp [y9]
 | n :: ns=>by simp only [gj,y9,yy,q9x ns];rfl
theorem qcu(k:Nat): kD (wg k)=true:=by simp only [wg,TI,kD,kDL,qcs,g41]
theorem qrp(a b:Nat): shD (wg a) (wg b)=true:=by simp only [wg,TI,shD,shL,qct,g41]
theorem qp3(k:Nat): yy (wg k)<=50:=by simp only [wg,TI,yy,y9,q9x];decide
theorem qcv:∀ {a b:List Int},a.map D.int=b.map D.int->a=b
 | [],[],_=>rfl
 | [],_ :: _,h=>by cases h
 | _ :: _,[],h=>by cases h
 | x :: a,y :: b,h=>by
  rw [gj,gj] at h;injection h with h1 h2
  injection h1 with h1
  rw [h1,qcv h2]
theorem qp4{a b:Nat}(ha:a<256)(hb:b<256)(h1:ltO a b=false)(h2:ltO b a=false): a=b:=by
 have:=lt_eq (qcu a) (qcu b) h1 h2;unfold wg at this;injection this with this
 injection this with _ this
 injection this with this _
 injection this with this
 exact q4c a ha b hb (qcv this)
theorem qjj(l:List Nat): q0x (l.map wg)=true:=by
 unfold q0x;rw [m6,m6,g1b,m6];refine⟨⟨?_,?_⟩,.inr ⟨?_,?_⟩⟩
 ·rw [g0i,mr];exact fun k _=>qcu k
 ·rw [g0i,mr]
  intro a _;show(List.all _ _)=true;rw [g0i,mr];exact fun b _=>qrp a b
 ·rw [g0i,mr];exact fun k _=>rfl
 ·rw [g0i,mr];exact fun k _=>nv (qp3 k)
theorem qcw:∀l:List Nat,l.Nodup->(∀k∈l,k<256)->q4y (l.map wg)=true
 | [],_,_=>rfl
 | k :: l,hn,hl=>by
  rw [gj];unfold q4y;rw [m6];have hn':=g18.mp hn;refine⟨?_,qcw l hn'.2 fun x hx=>hl x (gq _ hx)⟩;rw [g0i,mr];intro b hb;show(ltO k b || ltO b k)=true;cases h1:ltO k b
  ·cases h2:ltO b k
   ·have:=qp4 (hl k gm) (hl b (gq _ hb)) h1 h2
    exact absurd (this ▸ hb) hn'.1
   ·rfl
  ·rfl
abbrev qh(k:Nat): D:=TI (qg 12 k)
def marksOf(w:Nat): List Nat:=q87 ltO (List.range (2 ^ w))
theorem wa{w:Nat}(hw:w<=8): 2 ^ w<=256:=mq (Nat.pow_le_pow_right (by decide) hw) (by decide)
end My
open PySem PyProof.Rows L2 DL
namespace My
open PySem PyProof.Rows L2 DL
def zg(k:Nat): List Nat:=((List.range 8).filter fun j=>bit k j).map fun j=>k-2 ^ j
theorem qgx:∀k:Nat,k<256->((List.range (qg 12 k).length).map fun p=>(qg 12 k).take p++(qg 12 k).drop (p+1))=(zg k).map (qg 12):=by decide +kernel
theorem qm6(k:Nat)(hk:k<256): jy [qh k]=some (.lst ((zg k).map qh)):=by
 have hb:=k9 12 k;have c:qr (bN 0) z8 (eOp ze (eSl (eV 1) oNo (oAt (eV 0))) (eSl (eV 1) (oAt (eOp ze (eV 0) (eC (.int 1)))) oNo)) [none,some (.fz (qh k))] (qz 0 (qg 12 k).length) =
   some ((zg k).map qh):=by
  have:=q0y (b:=bN 0) (f:=eOp ze (eSl (eV 1) oNo (oAt (eV 0))) (eSl (eV 1) (oAt (eOp ze (eV 0) (eC (.int 1)))) oNo)) (ρ :=[none,some (.fz (qh k))]) (fun d=>match d with | .int x=>TI ((qg 12 k).take x.toNat++(qg 12 k).drop (x.toNat+1))|_=>.non) (ds:=qz 0 (qg 12 k).length) fun d hd=>by
   rw [q1x] at hd;obtain⟨i,hi,rfl⟩:=ni.mp hd;have s1:oSl (qh k) none (some (i:Int))=some (TI ((qg 12 k).take i)):=by
    show some (D.tup (DL.cutD ((qg 12 k).map D.int) none (some (i:Int))))=_;rw [q5w (α :=D), <- g6k]
   have s2:oSl (qh k) (some ((i+1:Nat):Int)) none=some (TI ((qg 12 k).drop (i+1))):=by
    show some (D.tup (DL.cutD ((qg 12 k).map D.int) (some ((i+1:Nat):Int)) none))=_;rw [qcf (α :=D), <- g56]
   have s3:ze (TI ((qg 12 k).take i)) (TI ((qg 12 k).drop (i+1)))=some (TI ((qg 12 k).take i++(qg 12 k).drop (i+1))):=by
    rw [q52 _ _ (by rw [mj,mj,p0,uz];lia), <- ud]
   refine⟨_,rfl,?_⟩;show eOp ze (eSl (eV 1) oNo (oAt (eV 0))) (eSl (eV 1) (oAt (eOp ze (eV 0) (eC (.int 1)))) oNo) [some (.fz (.int (i:Int))),some (.fz (qh k))]=some (TI ((qg 12 k).take (i:Int).toNat++(qg 12 k).drop ((i:Int).toNat+1)));rw [g0k];have e1:(i:Int)+1=((i+1:Nat):Int):=by lia
   simp! [s1,e1,s2,s3]
  rw [this,q1x,nj];have hf:=g0f (List.map TI) (qgx k hk);rw [nj,nj] at hf;exact g0f some hf
 have hr:iR1 (qa (qi yo (qa (eV 0) qf)) qf) [some (.fz (qh k))]=some (qz 0 (qg 12 k).length):=by
  have ha:qa (qi yo (qa (eV 0) qf)) qf [some (.fz (qh k))]=some [.int ((qg 12 k).length:Int)]:=by
   refine q14 (x_call (q14 (x_v rfl) q40) ?_) q40;rw [qn6,mj]
  rw [q1v _ _ _ ha (by lia) (by lia),g0k]
 have hl:(qz 0 (qg 12 k).length).length<=lim:=by rw [q0b];show _<=1000000;lia
 (refine zd ?_;simp! [xx,qw,hr,hl,c])
theorem q35{A:List Nat}(hn:A.Nodup)(hA:∀k∈A,k<256): (A.map (qg 12)).Nodup:=by
 rw [List.Nodup,g0d];refine g25 (fun {a b} ha hb hne e=>hne (q4c a (hA a ha) b (hA b hb) e)) hn
theorem q9y:∀A:List Nat,q29 (A.map fun k=>D.tup [qh k,.bl true])=some (A.map (qg 12),A.map fun _=>.bl true)
 | []=>rfl
 | k :: A=>by
  have hi:xb ((qg 12 k).map D.int)=some (qg 12 k):=y4 _;rw [gj];show(xb ((qg 12 k).map D.int)).bind (fun q=>(q29 (A.map fun k=>D.tup [qh k,.bl true])).map fun p=>(q :: p.1,D.bl true :: p.2))=_;rw [hi,q9y A]
  rfl
abbrev xl(A:List Nat): D:=.dtt (A.map (qg 12)) (A.map fun _=>.bl true)
theorem qgy(A:List Nat)(hn:A.Nodup)(hA:∀k∈A,k<256)(hl:A.length<=1000): qal [.lst (A.map fun k=>D.tup [qh k,.bl true])]=some (xl A):=by
 show(q29 (A.map fun k=>D.tup [qh k,.bl true])).bind (fun p=>if p.1.Nodup/\(A.map fun k=>D.tup [qh k,.bl true]).length<=lim then some (D.dtt p.1 p.2) else none)=_;rw [q9y];show(if(A.map (qg 12)).Nodup/\_ then _ else _)=_;rw [mi ⟨q35 hn hA,by rw [mj];show _<=1000000;lia⟩]
theorem q9z(A:List Nat)(hA:∀k∈A,k<256)(m:Nat)(hm:m<256)(vs:List D): q2y (qh m) (.dtt (A.map (qg 12)) vs)=some (.bl (decide (m∈A))):=by
 have hi:xb ((qg 12 m).map D.int)=some (qg 12 m):=y4 _;show(xb ((qg 12 m).map D.int)).map (fun k=>D.bl (decide (k∈A.map (qg 12))))=_;rw [hi,p9]
 congr 2
 rw [g04,g01,g01]
 constructor
 ·intro h
  obtain⟨a,ha,e⟩:=ni.mp h;exact q4c a (hA a ha) m hm e ▸ ha
 ·exact fun h=>g1m h
theorem qm7(A:List Nat)(hA:∀k∈A,k<256)(m:Nat)(hm:m<256): q2y (qh m) (xl A)=some (.bl (decide (m∈A))):=q9z A hA m hm _
theorem qm8:∀k:Nat,k<256->∀m∈zg k,m<256:=by decide +kernel
def kb:Nat->Int->Int->List Int
 | 0,_,_=>[]
 | n+1,m,k=>if m%2=1 then k :: kb n (m / 2) (k+1) else kb n (m / 2) (k+1)
theorem q2l:∀(n:Nat) (m k:Int) (acc:List D) (b:Option B),acc.length+n<=100->∃b' m',
  runFor (bN 2) xv (qz k n) [some (.fz (.int m)),some (.ow acc),b]=some (.nx,[some (.fz (.int m')),some (.ow (acc++(kb n m k).map .int)),b'])
 | 0,m,k,acc,b,_=>⟨b,m,by simp [qz,runFor,kb]⟩
 | n+1,m,k,acc,b,h=>by
  have ha:acc.length<lim:=by show _<1000000;lia
  rw [q5v]
  by_cases hm:m%2=1
  ·obtain⟨b',m',ih⟩:=q2l n (m / 2) (k+1) (acc++[.int k]) (some (.fz (.int k))) (by simp;lia)
   refine⟨b',m',?_⟩;rw [xp (b:=bN 2) rfl (show xv [some (.fz (.int m)),some (.ow acc),some (.fz (.int k))]=some (.nx,[some (.fz (.int (m / 2))),some (.ow (acc++[.int k])),some (.fz (.int k))]) by simp! [xv,hm,q1e,q41,q42,ha]),ih,kb,mi hm];simp
  ·obtain⟨b',m',ih⟩:=q2l n (m / 2) (k+1) acc (some (.fz (.int k))) (by lia)
   refine⟨b',m',?_⟩;rw [xp (b:=bN 2) rfl (show xv [some (.fz (.int m)),some (.ow acc),some (.fz (.int k))]=some (.nx,[some (.fz (.int (m / 2))),some (.ow acc),some (.fz (.int k))]) by simp! [xv,hm]),ih,kb,mn hm]
theorem qgz(m:Int): zu [.int m]=some (TI (kb 12 m 0)):=by
 obtain⟨b',m',h⟩:=q2l 12 m 0 [] none (by simp);rw [g0p] at h;have r:iR1 (qa (eC (.int 12)) qf) [some (.fz (.int m)),some (.ow []),none]=some (qz 0 12):=q1v _ _ 12 rfl (by decide) (by decide)
 (refine zd ?_;simp! [q15,q08,r,h])
theorem q92(x:Int): ∀b:List Int,inF (.int x) (b.map D.int)=decide (x∈b)
 | []=>rfl
 | y :: b=>by
  show((eqF (.int y) (.int x)) || inF (.int x) (b.map D.int))=_;rw [q92 x b];show((y==x) || _)=_;rw [g04];simp only [g1b,g49,g01,mh]
  constructor <;> rintro(h|h)
  ·exact .inl h.symm
  ·exact .inr h
  ·exact .inl h.symm
  ·exact .inr h
theorem qa0(b:List Int): (b.map D.int).all flat=true:=by
 rw [g0i,mr];intro x _;rfl
theorem qm9(x:Int)(b:List Int): oIn false (.int x) (TI b)=some (.bl (decide (x∈b))):=by
 show(if(flat (.int x)&&(b.map D.int).all flat)=true then some (D.bl (if false=true then !inF (.int x) (b.map D.int) else inF (.int x) (b.map D.int))) else none)=_;rw [qa0,q92];rfl
def uni(s t:List Int): List Int:=((List.range 12).map fun i:Nat=>(i:Int)).filter fun x=>decide (x∈s\/x∈t)
theorem q5e:∀(s:List Int),(∀x∈s,0<=x/\x<12)->q2x (s.map D.int)=some (s.map Int.toNat)
 | [],_=>rfl
 | x :: s,h=>by
  have hx:=h x gm;show(if 0<=x/\x<12 then(q2x (s.map D.int)).map (x.toNat :: ·) else none)=_;rw [mi hx,q5e s fun y hy=>h y (gq _ hy)]
  rfl
theorem qa1{s:List Int}(h:∀x∈s,0<=x/\x<12)(n:Nat): n∈s.map Int.toNat↔(n:Int)∈s:=by
 constructor
 ·intro hn
  obtain⟨x,hx,e⟩:=ni.mp hn;have:=h x hx;have:x=(n:Int):=by lia
  exact this ▸ hx
 ·intro hn
  exact ni.mpr ⟨_,hn,by simp⟩
theorem qh0(s t:List Int)(hs:∀x∈s,0<=x/\x<12)(ht:∀x∈t,0<=x/\x<12): qg0 (TI s) (TI t)=some ((uni s t).map D.int):=by
 show(q2x (s.map D.int)).bind (fun a=>(q2x (t.map D.int)).bind fun b=>some (((List.range 12).filter fun n=>decide (n∈a\/n∈b)).map fun n=>D.int (n:Nat)))=_;rw [q5e s hs,q5e t ht];show some _=_
 congr 1
 unfold uni;rw [List.filter_map,nj]
 congr 1
 refine g2m fun n _=>?_;show decide (n∈s.map Int.toNat\/n∈t.map Int.toNat)=decide ((n:Int)∈s\/(n:Int)∈t);rw [g04,g16,g16,qa1 hs,qa1 ht]
theorem qjk(s t:List Int)(hs:∀x∈s,0<=x/\x<12)(ht:∀x∈t,0<=x/\x<12): q0t [TI s,TI t]=some (TI (uni s t)):=by
 have h:=qh0 s t hs ht
 (refine zd ?_;simp! [q2h,qg1,h,vw])
theorem qf9(x:Int)(b:List Int): oIn true (.int x) (TI b)=some (.bl (!decide (x∈b))):=by
 show(if(flat (.int x)&&(b.map D.int).all flat)=true then some (D.bl (if true=true then !inF (.int x) (b.map D.int) else inF (.int x) (b.map D.int))) else none)=_;rw [qa0,q92];rfl
theorem qh1{c:FT}{ρ : Rho}(q:Int->Bool): ∀(l:List Int),(∀x∈l,c (some (.fz (.int x)) :: ρ)=some (q x))->qr (bN 0) c (eV 0) (none :: ρ) (l.map D.int)=some ((l.filter q).map D.int)
 | [],_=>rfl
 | x :: l,h=>by
  have ih:=qh1 q l fun y hy=>h y (gq _ hy);have h1:=h x gm;have b1:bN 0 (D.int x) (none :: ρ)=some (some (.fz (.int x)) :: ρ):=rfl;have v1:eV 0 (some (.fz (.int x)) :: ρ)=some (.int x):=rfl;simp only [gj,qr,b1,h1,m9,p8];cases q x with
  | true=>simp only [nu,v1,m9,ih,p9,gj]
  | false=>simp only [gh,nz,ih]
theorem qma(d:D)(r:Rho): frz 0 (some (.fz d) :: r)=some (.fz d) :: r:=rfl
theorem qrq:∀k:Nat,k<256->kb 12 (k:Int) 0=qg 12 k:=by decide +kernel
theorem q4f(k:Nat)(hk:k<256): zu [.int (k:Int)]=some (qh k):=by rw [qgz,qrq k hk]
theorem q2m(w:Nat)(hw:w<=8): zr [.int (w:Int)]=some (.int ((2 ^ w:Nat):Int)):=by
 have:w=0\/w=1\/w=2\/w=3\/w=4\/w=5\/w=6\/w=7\/w=8:=by lia
 rcases this with rfl|rfl|rfl|rfl|rfl|rfl|rfl|rfl|rfl <;> rfl
theorem qmb(l:List Nat): yp jw (l.map qh)=some (l.map wg):=by
 induction l with
 | nil=>rfl
 | cons k l ih=>
  have e:jw [qh k]=some (wg k):=by
   (refine zd ?_;simp! [jw])
   rfl
  rw [gj];simp only [yp,e,ih,m9,p9,gj]
theorem qe1(w:Nat)(hw:w<=8): vf [.int (w:Int)]=some (.lst ((marksOf w).map qh)):=by
 have h2:=wa hw;have hp:=q2m w hw;have hr:iR1 (qa (qi (qo 1 [] zr) (qa (eV 0) qf)) qf) [some (.fz (.int (w:Int)))]=some (qz 0 (2 ^ w)):=by
  have ha:qa (qi (qo 1 [] zr) (qa (eV 0) qf)) qf [some (.fz (.int (w:Int)))]=some [.int ((2 ^ w:Nat):Int)]:=q14 (qj8 (q14 (x_v rfl) q40) rfl hp) q40;have h3:(0:Int)<=((2 ^ w:Nat):Int):=Int.natCast_nonneg _;have h4:((2 ^ w:Nat):Int)<=256:=by exact_mod_cast h2
  rw [q1v _ _ _ ha (Int.le_trans (by decide) h3) (Int.lt_of_le_of_lt h4 (by decide)),g0k]
 have hl:(qz 0 (2 ^ w)).length<=lim:=by rw [q0b];show _<=1000000;lia
 have c:qr (bN 0) z8 (qi (qo 1 [] zu) (qa (eV 0) qf)) [none] (qz 0 (2 ^ w))=some ((List.range (2 ^ w)).map qh):=by
  have:=q0y (b:=bN 0) (f:=qi (qo 1 [] zu) (qa (eV 0) qf)) (ρ :=[none]) (fun d=>match d with | .int x=>qh x.toNat|_=>.non) (ds:=qz 0 (2 ^ w)) fun d hd=>by
   rw [q1x] at hd;obtain⟨i,hi,rfl⟩:=ni.mp hd;refine⟨_,rfl,qj8 (q14 (x_v rfl) q40) rfl ?_⟩;show zu [.int (i:Int)]=some (qh (i:Int).toNat);rw [g0k];exact q4f i (by have:=uo.mp hi;lia)
  rw [this,q1x,nj];exact g0f some (g2z fun i _=>by show qh (i:Int).toNat=qh i;rw [g0k])
 have srt:q5n jw [.lst ((List.range (2 ^ w)).map qh)]=some ((marksOf w).map qh):=by
  show q28 jw (.lst ((List.range (2 ^ w)).map qh))=_;unfold q28;dsimp only;rw [qmb,m9,qjj,qcw _ g2u (fun k hk=>by have:=uo.mp hk;lia)];have ez:((List.range (2 ^ w)).map wg).zip ((List.range (2 ^ w)).map qh)=(List.range (2 ^ w)).map fun k=>(wg k,qh k):=by
   rw [g6j]
  rw [ez,q9w];simp only [g6l,nu,nj];exact rfl
 (refine zd ?_;simp! [q0d,qw,hr,hl,c,srt])
theorem q19(w k:Nat): k∈marksOf w↔k<2 ^ w:=by
 unfold marksOf;rw [(q1p ltO _).mem_iff,uo]
theorem q64(w:Nat): (marksOf w).Nodup:=(q1p ltO _).nodup_iff.mpr g2u
theorem q4d{w:Nat}(hw:w<=8): ∀k∈marksOf w,k<256:=fun k hk=>gu ((q19 w k).mp hk) (wa hw)
theorem q1a(w:Nat): (marksOf w).length=2 ^ w:=by unfold marksOf;rw [(q1p ltO _).length_eq,List.length_range]
end My
open PySem PyProof.Rows L2 DL
namespace My
open PySem PyProof.Rows L2 DL
theorem q1q{α : Type}{b:FB}{e:FE}{ρ : Rho}(f g : α -> D): ∀(as:List α),(∀a∈as,∃ ρ1,b (f a) ρ = some ρ1/\e ρ1=some (g a))->qr b z8 e ρ (as.map f)=some (as.map g)
 | [],_=>rfl
 | a :: as,h=>by
  obtain⟨ρ1,e1,e2⟩:=h a gm;have ih:=q1q f g as fun x hx=>h x (gq _ hx);simp only [gj,qr,e1,e2,m9,z8,nu,ih,p9]
theorem wm{α : Type}{b:FB}{c:FT}{e:FE}{ρ : Rho}(f : α -> D)(p : α -> Bool)(g : α -> D): ∀(as:List α),(∀a∈as,∃ ρ1,b (f a) ρ = some ρ1/\c ρ1=some (p a)/\(p a=true->e ρ1=some (g a)))->qr b c e ρ (as.map f)=some ((as.filter p).map g)
 | [],_=>rfl
 | a :: as,h=>by
  obtain⟨ρ1,e1,e2,e3⟩:=h a gm;have ih:=wm f p g as fun x hx=>h x (gq _ hx);simp only [gj,qr,e1,e2,m9,p8];cases hp:p a with
  | true=>simp only [nu,e3 hp,m9,ih,p9,gj]
  | false=>simp only [gh,nz,ih]
abbrev nD(m:Nat): D:=.int (m:Int)
def blw(k m:Nat): Bool:=decide (k &&& m=k)
theorem qrr(a b:Nat): oEq (.int (a:Int)) (.int (b:Int))=some (.bl (decide (a=b))):=by
 rw [qf4]
 congr 2
 exact g2v.mpr (by lia)
def j0(w k:Nat): List Nat:=((List.range w).filter fun i=> !bit k i).map fun i=>k+2 ^ i
theorem qmc:∀k:Nat,k<256->∀i:Nat,i<8->bit k i=false->uni (qg 12 k) [(i:Int)]=qg 12 (k+2 ^ i):=by decide +kernel
theorem q93:∀k:Nat,k<256->∀i:Nat,i<8->decide ((i:Int)∈qg 12 k)=bit k i:=by decide +kernel
theorem q76:∀w:Nat,w<9->∀k:Nat,k<2 ^ w->∀m∈j0 w k,m<2 ^ w:=by decide +kernel
theorem qjl:∀w:Nat,w<9->∀k:Nat,k<2 ^ w->∀m∈zg k,m<2 ^ w:=by decide +kernel
theorem qe2(w k:Nat)(hw:w<=8)(hk:k<256): vp [qh k,.int (w:Int)]=some (.lst ((j0 w k).map qh)):=by
 have r:iR1 (qa (eV 1) qf) [some (.fz (qh k)),some (.fz (.int (w:Int)))]=some (qz 0 w):=q1v _ _ (w:Int) rfl (by lia) (by lia);have hl:(qz 0 w).length<=lim:=by rw [q0b];show _<=1000000;lia
 have t1:∀d:D,([d]:List D).length<=lim:=fun _=>by show 1<=1000000;decide
 have c:=wm (b:=bN 0) (c:=zp (oIn true) (eV 0) (eV 1)) (e:=qi (qo 2 [] q0t) (qa (eV 1) (qa (jh (qa (eV 0) qf)) qf))) (ρ :=[none,some (.fz (qh k))]) nD (fun i=> !bit k i) (fun i=>qh (k+2 ^ i)) (List.range w) fun i hi=>by
  have hi6:i<8:=by have:=uo.mp hi;lia
  have o:=qf9 (i:Int) (qg 12 k);rw [q93 k hk i hi6] at o;refine⟨[some (.fz (nD i)),some (.fz (qh k))],rfl,by simp! [o],fun hb=>?_⟩;have hb':bit k i=false:=by simpa using hb
  have j:=qjk (qg 12 k) [(i:Int)] (fun x hx=>by obtain⟨i,rfl,hi⟩:=q75 hx;lia) (fun x hx=>by rw [n9.mp hx];lia);rw [qmc k hk i hi6 hb',show TI [(i:Int)]=.tup [nD i] from rfl] at j;simp! [j,t1]
 rw [<- show qz 0 w=(List.range w).map nD from q1x w] at c;have e:(j0 w k).map qh=((List.range w).filter fun i=> !bit k i).map fun i=>qh (k+2 ^ i):=by unfold j0;rw [nj];rfl
 rw [e]
 (refine zd ?_;simp! [vn,qw,r,hl,c])
end My
open PySem PyProof.Rows L2 DL
namespace My
open PySem PyProof.Rows L2 DL
theorem qrs{α : Type}(p : α -> Bool)(l:List α): (l.map p).any id=l.any p:=by rw [List.any_map];rfl
theorem qa2(w k:Nat): (j0 w k).length<=w:=by
 unfold j0;rw [mj];exact mq (ur _ _) (by rw [List.length_range];exact gw _)
theorem qcx(w:Nat)(hw:w<=8)(A:List Nat)(hA:∀k∈A,k<256)(k:Nat)(hk:k<2 ^ w)(vs:List D): v9 [qh k,.dtt (A.map (qg 12)) vs,.int (w:Int)]=some (.bl (!(j0 w k).any fun m=>decide (m∈A))):=by
 have hk64:k<256:=gu hk (wa hw);have fe:=qe2 w k hw hk64;have c:=q1q (b:=bN 0) (e:=eOp q2y (eV 0) (eV 1)) (ρ :=[none,some (.fz (.dtt (A.map (qg 12)) vs))]) qh (fun m=>.bl (decide (m∈A))) (j0 w k) fun m hm=>by
  have ik:=q9z A hA m (gu (q76 w (by lia) k hk m hm) (wa hw)) vs;exact⟨[some (.fz (qh m)),some (.fz (.dtt (A.map (qg 12)) vs))],rfl,by simp! [ik]⟩
 have a:=qgj ((j0 w k).map fun m=>decide (m∈A));rw [qrs,nj] at a;have hl:(j0 w k).length<=lim:=by exact mq (qa2 w k) (mq hw (by decide))
 have c':qr (bN 0) z8 (eOp q2y (eV 0) (eV 1)) [none,some (.fz (.dtt (A.map (qg 12)) vs))] ((j0 w k).map qh)=some ((j0 w k).map (D.bl ∘ fun m=>decide (m∈A))):=c
 (refine zd ?_;simp! [yh,fe,qw,hl,c',a])
end My
open PySem PyProof.Rows L2 DL
namespace My
open PySem PyProof.Rows L2 DL
abbrev Run:=Int×List Int
abbrev wx(r:Run): D:=.tup [.int r.1,TI r.2]
abbrev za(w:Nat)(rs:List Run): D:=.tup [.int (w:Int),.tup (rs.map wx)]
def zl(rs:List Run): Prop:=rs.length<=1000/\∀r∈rs,(∀x∈r.2,0<=x/\x<100)/\r.2.length<=1000/\0<=r.1/\∃t,t<256/\r.2=qg 12 t
abbrev mrD(r:Run): D:=.tup [.int r.1,.int (mk r.2)]
theorem qjm(w:Nat)(rs:List Run)(h:zl rs): q2c [za w rs]=some (.lst (rs.map mrD)):=by
 have hl':rs.length<=lim:=by have:=h.1;show _<=1000000;lia
 have c:qr (yu 2 (j5 (bN 0) (j5 (bN 1) yt))) z8 (jh (qa (eV 0) (qa (qi (qo 1 [] xq) (qa (eV 1) qf)) qf))) [none,none] (rs.map wx)=some (rs.map mrD):=by
  have hr:=h.2;clear hl' h
  induction rs with
  | nil=>rfl
  | cons r rs ih=>
   have ih':=ih fun x hx=>hr x (gq _ hx);have m:=q86 r.2 (hr r gm).1 (hr r gm).2.1;rw [gj];simp! [qr,ih',m,z8]
 (refine zd ?_;simp! [q2b,qw,hl',c])
def cM(rs:List Run)(k:Nat): Int:=((rs.filter fun r=>decide (Builtin.bitAnd (mk r.2) (k:Int)=(k:Int))).map (·.1)).sum
theorem qp5(rs:List Run)(k:Nat): qr (yu 2 (j5 (bN 0) (j5 (bN 1) yt))) (zp oEq (eOp oBand (eV 1) (eV 2)) (eV 2)) (eV 0) [none,none,some (.fz (.int (k:Int)))] (rs.map mrD)
  = some (((rs.filter fun r=>decide (Builtin.bitAnd (mk r.2) (k:Int)=(k:Int))).map (·.1)).map D.int):=by
 induction rs with
 | nil=>rfl
 | cons r rs ih=>
  rw [gj]
  by_cases hb:Builtin.bitAnd (mk r.2) (k:Int)=(k:Int)
  ·simp! [qr,ih,q9u,hb,p8,g67,nu]
  ·simp! [qr,ih,q9u,hb,p8,g5w,nz,gh]
theorem q88(rs:List Run)(h:zl rs)(k:Nat)(hk:k<256): xt [.lst (rs.map mrD),TI (qg 12 k)]=some (.int (cM rs k)):=by
 have hl':rs.length<=lim:=by have:=h.1;show _<=1000000;lia
 have m:xq [TI (qg 12 k)]=some (.int (k:Int)):=by
  rw [q86 _ (fun x hx=>?_) (mq (k9 12 k) (by decide)),(q0j k hk).2];obtain⟨i,rfl,hi⟩:=q75 hx;lia
 have c:=qp5 rs k;have a:=q9q ((rs.filter fun r=>decide (Builtin.bitAnd (mk r.2) (k:Int)=(k:Int))).map (·.1))
 (refine zd ?_;simp! [vz,qw,hl',m,c,a])
 rfl
abbrev pairD(rs:List Run)(k:Nat): D:=.tup [qh k,.int (cM rs k)]
theorem qe3(rs:List Run)(L:Int)(l:List Nat)(hl:l.length<=1000): xo [.lst (l.map (pairD rs)),.int L]=some (.tup ((l.filter fun k=>decide (L<=cM rs k)).map (pairD rs))):=by
 have hl':l.length<=lim:=by show _<=1000000;lia
 have c:qr (bN 0) (zp oGe (eOp oIx (eV 0) (eC (.int 1))) (eV 1)) (eV 0) [none,some (.fz (.int L))] (l.map (pairD rs))=some ((l.filter fun k=>decide (L<=cM rs k)).map (pairD rs)):=by
  clear hl hl'
  induction l with
  | nil=>rfl
  | cons k l ih=>
   rw [gj]
   by_cases hb:L<=cM rs k
   ·simp! [qr,ih,hb,p8,g67,nu]
   ·simp! [qr,ih,hb,p8,g5w,nz,gh]
 (refine zd ?_;simp! [ku,qw,hl',c,vw])
theorem qcy(rs:List Run)(L:Int)(l:List Nat)(hl:l.length<=1000): xo [.tup (l.map (pairD rs)),.int L]=some (.tup ((l.filter fun k=>decide (L<=cM rs k)).map (pairD rs))):=by
 have hl':l.length<=lim:=by show _<=1000000;lia
 have c:qr (bN 0) (zp oGe (eOp oIx (eV 0) (eC (.int 1))) (eV 1)) (eV 0) [none,some (.fz (.int L))] (l.map (pairD rs))=some ((l.filter fun k=>decide (L<=cM rs k)).map (pairD rs)):=by
  clear hl hl'
  induction l with
  | nil=>rfl
  | cons k l ih=>
   rw [gj]
   by_cases hb:L<=cM rs k
   ·simp! [qr,ih,hb,p8,g67,nu]
   ·simp! [qr,ih,hb,p8,g5w,nz,gh]
 (refine zd ?_;simp! [ku,qw,hl',c,vw])
def firstOf(b:List Int): Int:=match b.getLast? with
 | some x=>x+1
 | none=>0
theorem qjn:∀i:Nat,i<8->∀m:Nat,m<2 ^ i->qg 12 (m+2 ^ i)=qg 12 m++[(i:Int)]:=by decide +kernel
theorem qp6(b:List Int)(x:Int): oIx (TI (b++[x])) (.int (-1))=some (.int x):=by
 rw [qrl,qm0,ud,gj,g10,List.getLast?_append];simp
theorem qp7{fa:FA}{ρ : Rho}{i j:Int}(ha:fa ρ = some [.int i,.int j])(h1 : -(2 ^ 62)<=i)(h2:i<2 ^ 62)(h3 : -(2 ^ 62)<=j)(h4:j<2 ^ 62): iR2 fa ρ = some (qz i (j-i).toNat):=by
 unfold iR2;rw [ha,m9];dsimp only;rw [nv h1,nv h2,nv h3,nv h4]
 rfl
theorem qe4(b:List Int)(w s:Nat)(hs:firstOf b=(s:Int))(hb:b.length<=100)(hw:w<=100)(hs2:s<=100): xh [TI b,.int (w:Int)]=some (.lst ((List.range (w-s)).map fun i:Nat=>TI (b++[((s+i:Nat):Int)]))):=by
 have e:eIf (bT (eV 0)) (eOp ze (eOp oIx (eV 0) (eUn q8i (eC (.int 1)))) (eC (.int 1))) (eC (.int 0)) [some (.fz (TI b)),some (.fz (.int (w:Int))),none]=some (.int (s:Int)):=by
  rw [<- hs];cases b with
  | nil=>rfl
  | cons x r=>
   have hx:∃b' y,x :: r=b'++[y]:=⟨(x :: r).dropLast,(x :: r).getLast (by simp),(List.dropLast_concat_getLast (by simp)).symm⟩
   obtain⟨b',y,e⟩:=hx;have ht:bT (eV 0) [some (.fz (TI (x :: r))),some (.fz (.int (w:Int))),none]=some true:=rfl;unfold eIf;rw [ht,m9,mi rfl,e];have hf:firstOf (b'++[y])=y+1:=by unfold firstOf;rw [List.getLast?_append];simp
   rw [hf];exact qgk (qgk (x_v rfl) (qts x_c rfl) (qp6 b' y)) x_c rfl
 have r:iR2 (qa (eV 2) (qa (eV 1) qf)) [some (.fz (TI b)),some (.fz (.int (w:Int))),some (.fz (.int (s:Int)))]=some (qz (s:Int) (w-s)):=by
  rw [qp7 (q14 (x_v rfl) (q14 (x_v rfl) q40)) (by lia) (by lia) (by lia) (by lia),show((w:Int)-(s:Int)).toNat=w-s by lia]
 have hl:(qz (s:Int) (w-s)).length<=lim:=by rw [q0b];show _<=1000000;lia
 have c:qr (bN 0) z8 (eOp ze (eV 1) (jh (qa (eV 0) qf))) [none,some (.fz (TI b))] (qz (s:Int) (w-s))=some ((List.range (w-s)).map fun i:Nat=>TI (b++[((s+i:Nat):Int)])):=by
  have:=q0y (b:=bN 0) (f:=eOp ze (eV 1) (jh (qa (eV 0) qf))) (ρ :=[none,some (.fz (TI b))]) (fun d=>match d with | .int x=>TI (b++[x])|_=>.non) (ds:=qz (s:Int) (w-s)) fun d hd=>by
   simp only [qz,ni] at hd;obtain⟨i,_,rfl⟩:=hd;refine⟨_,rfl,qgk (x_v rfl) (qsy (q14 (x_v rfl) q40) (by show 1<=1000000;decide)) ?_⟩;rw [q52 _ _ (by rw [mj];simp;lia)];simp only [TI,ud,gj,g10]
  rw [this,qz,nj]
  congr 1
 have lc:qw (iR2 (qa (eV 2) (qa (eV 1) qf))) [none,some 0] (bN 0) z8 (eOp ze (eV 1) (jh (qa (eV 0) qf))) [some (.fz (TI b)),some (.fz (.int (w:Int))),some (.fz (.int (s:Int)))]=some ((List.range (w-s)).map fun i:Nat=>TI (b++[((s+i:Nat):Int)])):=by
  unfold qw;rw [r,m9,mi hl];exact c
 have k1:j3 2 (eIf (bT (eV 0)) (eOp ze (eOp oIx (eV 0) (eUn q8i (eC (.int 1)))) (eC (.int 1))) (eC (.int 0))) [some (.fz (TI b)),some (.fz (.int (w:Int))),none]=some (.nx,[some (.fz (TI b)),some (.fz (.int (w:Int))),some (.fz (.int (s:Int)))]):=by
  unfold j3;rw [e]
  rfl
 have k2:zj (eL (qw (iR2 (qa (eV 2) (qa (eV 1) qf))) [none,some 0] (bN 0) z8 (eOp ze (eV 1) (jh (qa (eV 0) qf))))) [some (.fz (TI b)),some (.fz (.int (w:Int))),some (.fz (.int (s:Int)))]=some (.rt (.lst ((List.range (w-s)).map fun i:Nat=>TI (b++[((s+i:Nat):Int)]))),[some (.fz (TI b)),some (.fz (.int (w:Int))),some (.fz (.int (s:Int)))]):=by
  unfold zj;rw [x_l lc]
  rfl
 have k3:xg [some (.fz (TI b)),some (.fz (.int (w:Int))),none]=some (.rt (.lst ((List.range (w-s)).map fun i:Nat=>TI (b++[((s+i:Nat):Int)]))),[some (.fz (TI b)),some (.fz (.int (w:Int))),some (.fz (.int (s:Int)))]):=by
  unfold xg z5;simp (config:={implicitDefEqProofs:=false}) only [k1,m9,k2]
 refine zd ?_;have k4:([TI b,.int (w:Int)].map (fun d=>some (B.fz d))++List.replicate (3 - [TI b,D.int (w:Int)].length) none:Rho)=[some (.fz (TI b)),some (.fz (.int (w:Int))),none]:=rfl;rw [k4,k3,p9]
def firstN(k:Nat): Nat:=((List.range 9).find? fun s=>decide (k<2 ^ s)).getD 8
def yb(w k:Nat): List Nat:=(List.range (w-firstN k)).map fun i=>k+2 ^ (firstN k+i)
theorem qmd:∀k:Nat,k<256->firstOf (qg 12 k)=(firstN k:Int)/\k<2 ^ firstN k/\firstN k<=8:=by decide +kernel
theorem qp8(w k:Nat)(hw:w<=8)(hk:k<256): xh [qh k,.int (w:Int)]=some (.lst ((yb w k).map qh)):=by
 obtain⟨h1,h2,h3⟩:=qmd k hk;rw [qe4 (qg 12 k) w (firstN k) h1 (mq (k9 12 k) (by decide)) (by lia) (by lia)];unfold yb;rw [nj]
 congr 2
 refine g2z fun i hi=>?_;have hi':=uo.mp hi;have h4:k<2 ^ (firstN k+i):=gu h2 (Nat.pow_le_pow_right (by decide) (by lia));show TI _=TI (qg 12 (k+2 ^ (firstN k+i)));rw [qjn (firstN k+i) (by lia) k h4]
def chk(A:List Nat)(l:Nat): Bool:=(zg l).all fun m=>decide (m∈A)
theorem qrt(A:List Nat)(hA:∀k∈A,k<256)(l:Nat)(hl:l<256)(x0 x1 x3 x4:Option B): qi q8g (qa (eL (qw (jk (qi (qo 1 [] jy) (qa (eV 5) qf))) [none,some 2] (bN 0) z8 (eOp q2y (eV 0) (eV 1)))) qf)
  [x0,x1,some (.fz (xl A)),x3,x4,some (.fz (qh l))]=some (.bl (chk A l)):=by
 have f:=qm6 l hl;have hlen:((zg l).map qh).length<=lim:=by
  rw [mj];unfold zg;rw [mj];exact mq (ur _ _) (by simp;decide)
 have c:qr (bN 0) z8 (eOp q2y (eV 0) (eV 1)) [none,some (.fz (xl A))] ((zg l).map qh)=some (((zg l).map fun m=>decide (m∈A)).map D.bl):=by
  have hf:=qm8 l hl;generalize zg l=q at hf;clear f hlen
  induction q with
  | nil=>rfl
  | cons m q ih=>
   have ih':=ih fun x hx=>hf x (gq _ hx);have hi:=qm7 A hA m (hf m gm);rw [gj];simp! [qr,ih',hi,z8]
 have a:q8g [.lst (((zg l).map fun m=>decide (m∈A)).map D.bl)]=some (.bl (chk A l)):=by rw [qgi,g0i];rfl
 rw [mj] at hlen;simp! [f,qw,hlen,c,a]
theorem qp9:∀w:Nat,w<9->∀k:Nat,k<256->∀l∈yb w k,l<256:=by decide +kernel
theorem qme:∀w:Nat,w<9->∀k:Nat,k<256->(yb w k).length<=8:=by decide +kernel
theorem q36(A:List Nat)(hA:∀k∈A,k<256)(x0 x1 x4:Option B): ∀(q acc:List Nat) (b5:Option B),(∀l∈q,l<256)->acc.length+q.length<=1000->∃b5',
  runFor (bN 5) ya (q.map qh) [x0,x1,some (.fz (xl A)),some (.ow (acc.map qh)),x4,b5]=some (.nx,[x0,x1,some (.fz (xl A)),some (.ow ((acc++q.filter (chk A)).map qh)),x4,b5'])
 | [],acc,b5,_,_=>⟨b5,by simp [runFor]⟩
 | l :: q,acc,b5,hq,hl=>by
  simp only [p7] at hl;have hla:acc.length<lim:=by show _<1000000;lia
  have ck:=qrt A hA l (hq l gm) x0 x1 (some (.ow (acc.map qh))) x4;have hq':∀x∈q,x<256:=fun x hx=>hq x (gq _ hx);have e0:bN 5 (qh l) [x0,x1,some (.fz (xl A)),some (.ow (acc.map qh)),x4,b5]=some [x0,x1,some (.fz (xl A)),some (.ow (acc.map qh)),x4,some (.fz (qh l))]:=by
   unfold bN
   rfl
  cases hc:chk A l with
  | true=>
   rw [hc] at ck;obtain⟨b5',ih⟩:=q36 A hA x0 x1 x4 q (acc++[l]) (some (.fz (qh l))) hq' (by simp;lia);have body:ya [x0,x1,some (.fz (xl A)),some (.ow (acc.map qh)),x4,some (.fz (qh l))]=some (.nx,[x0,x1,some (.fz (xl A)),some (.ow ((acc++[l]).map qh)),x4,some (.fz (qh l))]):=by
    unfold ya;refine qrh (qm1 ck rfl) rfl ?_;simp! [q1e,q41,q42,hla,ud]
   refine⟨b5',?_⟩;rw [gj,xp (b:=bN 5) e0 body,ih,p8,mi hc];simp
  | false=>
   rw [hc] at ck;obtain⟨b5',ih⟩:=q36 A hA x0 x1 x4 q acc (some (.fz (qh l))) hq' (by lia);have body:ya [x0,x1,some (.fz (xl A)),some (.ow (acc.map qh)),x4,some (.fz (qh l))]=some (.nx,[x0,x1,some (.fz (xl A)),some (.ow (acc.map qh)),x4,some (.fz (qh l))]):=by
    unfold ya;exact qri (qm1 ck rfl) rfl qrj
   refine⟨b5',?_⟩;rw [gj,xp (b:=bN 5) e0 body,ih,p8,mn (by rw [hc];exact mf)]
def qan(w:Nat)(A:List Nat): List Nat:=A.flatMap fun s=>(yb w s).filter (chk A)
theorem q65(w:Nat)(hw:w<=8)(A:List Nat)(hA:∀k∈A,k<256)(x0:Option B): ∀(q acc:List Nat) (b4 b5:Option B),(∀l∈q,l<256)->acc.length+q.length*8<=1000->∃b4' b5',
  runFor (bN 4) q0f (q.map qh) [x0,some (.fz (.int (w:Int))),some (.fz (xl A)),some (.ow (acc.map qh)),b4,b5]=some (.nx,[x0,some (.fz (.int (w:Int))),some (.fz (xl A)),some (.ow ((acc++q.flatMap fun s=>(yb w s).filter (chk A)).map qh)),b4',b5'])
 | [],acc,b4,b5,_,_=>⟨b4,b5,by simp [runFor]⟩
 | s :: q,acc,b4,b5,hq,hl=>by
  simp only [p7] at hl;have hs:=hq s gm;have m:=qp8 w s hw hs;have hml:=qme w (by lia) s hs;obtain⟨c5,e⟩:=q36 A hA x0 (some (.fz (.int (w:Int)))) (some (.fz (qh s))) (yb w s) acc b5 (qp9 w (by lia) s hs) (by lia);have hfl:((yb w s).filter (chk A)).length<=8:=mq (ur _ _) hml;obtain⟨b4',b5',ih⟩:=q65 w hw A hA x0 q (acc++(yb w s).filter (chk A)) (some (.fz (qh s))) c5 (fun x hx=>hq x (gq _ hx)) (by rw [pk];lia);have body:q0f [x0,some (.fz (.int (w:Int))),some (.fz (xl A)),some (.ow (acc.map qh)),some (.fz (qh s)),b5]=some (.nx,[x0,some (.fz (.int (w:Int))),some (.fz (xl A)),some (.ow ((acc++(yb w s).filter (chk A)).map qh)),some (.fz (qh s)),c5]):=by
   simp! [q0f,m,e]
  refine⟨b4',b5',?_⟩;rw [gj,xp (b:=bN 4) rfl body,ih,g1h,my]
theorem qmf(w:Nat)(hw:w<=8)(A:List Nat)(hn:A.Nodup)(hA:∀k∈A,k<256)(hl:A.length<=100): q3i [.lst (A.map qh),.int (w:Int)]=some (.lst ((qan w A).map qh)):=by
 have hl':A.length<=lim:=by show _<=1000000;lia
 have c:qr (bN 0) z8 (jh (qa (eV 0) (qa (eC (.bl true)) qf))) [none] (A.map qh)=some (A.map fun k=>D.tup [qh k,.bl true]):=by
  clear hl hl' hn hA
  induction A with
  | nil=>rfl
  | cons k A ih=>
   rw [gj];simp! [qr,ih,z8]
 have d:=qgy A hn hA (by lia);obtain⟨b4,b5,e⟩:=q65 w hw A hA (some (.fz (.lst (A.map qh)))) A [] none none hA (by simp;lia);simp only [g10,g0p] at e
 (refine zd ?_;simp! [q3h,qw,hl',c,d,e])
 rfl
end My
open PySem PyProof.Rows L2 DL
namespace My
open PySem PyProof.Rows L2 DL
theorem qcz(p q:Run->Bool): ∀rs:List Run,(∀r∈rs,0<=r.1)->(∀r∈rs,p r=true->q r=true)->((rs.filter p).map (·.1)).sum<=((rs.filter q).map (·.1)).sum
 | [],_,_=>Int.le_refl _
 | r :: rs,h,hpq=>by
  have ih:=qcz p q rs (fun x hx=>h x (gq _ hx)) fun x hx=>hpq x (gq _ hx);have h0:=h r gm;have h1:=hpq r gm;rw [p8,p8];cases hp:p r with
  | true=>
   rw [hp] at h1;rw [mi rfl,mi (h1 rfl),gj,gj,g6m,g6m];lia
  | false=>
   rw [mn mf]
   split
   ·rw [gj,g6m];lia
   ·exact ih
def jr(rs:List Run)(L:Int)(k:Nat): Bool:=decide (L<=cM rs k)
theorem qe5:∀k:Nat,k<256->∀m∈zg k,m &&& k=m/\m<k:=by decide +kernel
theorem qjo(t:Nat)(ht:t<256)(k:Nat)(hk:k<256)(m:Nat)(hm:m∈zg k)(h:t &&& k=k): t &&& m=m:=by
 rw [<- (qe5 k hk m hm).1,Nat.and_comm m k, <- Nat.and_assoc,h]
theorem qt0(rs:List Run)(h:zl rs)(k:Nat)(hk:k<256)(m:Nat)(hm:m∈zg k): cM rs k<=cM rs m:=by
 unfold cM;refine qcz _ _ rs (fun r hr=>(h.2 r hr).2.2.1) fun r hr hq=>?_;obtain⟨t,ht,e⟩:=(h.2 r hr).2.2.2;have e2:mk r.2=(t:Int):=by rw [e];exact(q0j t ht).2
 rw [g01,e2,qf8] at hq ⊢;have:=qjo t ht k hk m hm (by exact_mod_cast hq);rw [this]
theorem qa3(rs:List Run)(L:Int)(h:zl rs)(k:Nat)(hk:k<256)(hp:jr rs L k=true): ∀m∈zg k,jr rs L m=true:=fun m hm=>by
 have:=qt0 rs h k hk m hm;unfold jr at hp ⊢;rw [g01] at hp ⊢;lia
def cnd(rs:List Run)(L:Int)(l:Nat): Bool:=(zg l).all (jr rs L)
def lv(w:Nat): Nat->List Nat
 | 0=>[0]
 | d+1=>(lv w d).flatMap (yb w)
theorem qmg:∀w:Nat,w<9->marksOf w=(List.range (w+1)).flatMap (lv w):=by decide +kernel
def oft(w:Nat)(rs:List Run)(L:Int): List Nat:=(marksOf w).filter fun k=>decide (L<=cM rs k)
theorem qd0:∀w:Nat,w<9->lv w (w+1)=[]/\∀d:Nat,d<10->(∀k∈lv w d,k<256)/\(lv w d).Nodup/\(lv w d).length<=70:=by decide +kernel
theorem qh2:∀w:Nat,w<9->∀k:Nat,k<256->∀l∈yb w k,k∈zg l:=by decide +kernel
theorem qmh:∀w:Nat,w<9->∀d:Nat,d<9->∀l∈lv w (d+1),∀m∈zg l,m∈lv w d:=by decide +kernel
theorem q66{α β : Type}(q : α -> Bool)(g : α -> List β): ∀l:List α,(∀s∈l,q s=false->g s=[])->(l.filter q).flatMap g=l.flatMap g
 | [],_=>rfl
 | s :: l,h=>by
  have ih:=q66 q g l fun x hx=>h x (gq _ hx);rw [p8,g1h];cases c:q s with
  | true=>rw [mi rfl,g1h,ih]
  | false=>rw [mn mf,ih,h s gm c,g0p]
theorem q37{α β : Type}(p : β -> Bool)(g : α -> List β): ∀l:List α,(l.flatMap g).filter p=l.flatMap fun s=>(g s).filter p
 | []=>rfl
 | s :: l=>by rw [g1h,g1h,List.filter_append,q37 p g l]
def layer(w:Nat)(rs:List Run)(L:Int)(d:Nat): List Nat:=(lv w d).filter (cnd rs L)
theorem step(w:Nat)(hw:w<=8)(rs:List Run)(L:Int)(h:zl rs)(d:Nat)(hd:d<9): qan w ((layer w rs L d).filter (jr rs L))=layer w rs L (d+1):=by
 obtain⟨_,lf⟩:=qd0 w (by lia);obtain⟨l1,l2,l3⟩:=lf d (by lia);obtain⟨k1,k2,k3⟩:=lf (d+1) (by lia);have eA:(layer w rs L d).filter (jr rs L)=(lv w d).filter fun k=>jr rs L k&&cnd rs L k:=by
  unfold layer;rw [g3g]
 rw [eA];unfold qan;rw [q66 _ _ (lv w d) fun s hs hq=>?_]
 ·unfold layer
  show _=((lv w d).flatMap (yb w)).filter (cnd rs L);have e1:(lv w d).flatMap (fun s=>(yb w s).filter (chk ((lv w d).filter fun k=>jr rs L k&&cnd rs L k)))=((lv w d).flatMap (yb w)).filter (chk ((lv w d).filter fun k=>jr rs L k&&cnd rs L k)):=(q37 _ _ _).symm;rw [e1];refine g2m fun l hl=>?_;have hl':l∈lv w (d+1):=hl;have hf:=qmh w (by lia) d (by lia) l hl';unfold chk cnd;rw [g04,mr,mr]
  constructor
  ·intro z m hm
   have:=z m hm;rw [g01,g0h,m6] at this;exact this.2.1
  ·intro z m hm
   rw [g01,g0h,m6];refine⟨hf m hm,z m hm,?_⟩;show(zg m).all (jr rs L)=true;rw [mr];exact qa3 rs L h m (l1 m (hf m hm)) (z m hm)
 ·refine List.filter_eq_nil_iff.mpr fun l hl hc=>?_
  have hm:=qh2 w (by lia) s (l1 s hs) l hl;unfold chk at hc;have:=mr.mp hc s hm;rw [g01,g0h] at this;rw [this.2] at hq;cases hq
theorem qa4(w:Nat)(hw:w<=8)(rs:List Run)(L:Int)(h:zl rs): ∀n d:Nat,d+n<=w+1->layer w rs L d=[]->(List.range' d n).flatMap (layer w rs L)=[]
 | 0,d,_,_=>rfl
 | n+1,d,hd,e=>by
  have s:=step w hw rs L h d (by lia);rw [e] at s;have e1:layer w rs L (d+1)=[]:=s.symm;rw [List.range'_succ,g1h,e,g0p];exact qa4 w hw rs L h n (d+1) (by lia) e1
theorem qjp(rs:List Run)(h:zl rs)(A:List Nat)(hA:∀k∈A,k<256): qr (bN 0) z8 (jh (qa (eV 0) (qa (qi (qo 2 [] xt) (qa (eV 1) (qa (eV 0) qf))) qf))) [none,some (.fz (.lst (rs.map mrD)))] (A.map qh)=some (A.map (pairD rs)):=by
 induction A with
 | nil=>rfl
 | cons k l ih=>
  have ih':=ih fun x hx=>hA x (gq _ hx);have cm:=q88 rs h k (hA k gm);rw [gj];simp! [qr,ih',cm,z8]
theorem qmi(rs:List Run)(A:List Nat): qr (bN 0) z8 (eOp oIx (eV 0) (eC (.int 0))) [none] (A.map (pairD rs))=some (A.map qh):=by
 induction A with
 | nil=>rfl
 | cons k l ih=>
  rw [gj];simp! [qr,ih,z8]
theorem turn(w:Nat)(hw:w<=8)(rs:List Run)(L:Int)(h:zl rs)(x0:Option B)(A acc:List Nat)(hn:A.Nodup)(hA:∀k∈A,k<256)(hl:A.length<=100)(hacc:acc.length<=1000)(b6:Option B):
  jo [x0,some (.fz (za w rs)),some (.fz (.int L)),some (.fz (.lst (rs.map mrD))),some (.ow (acc.map (pairD rs))),some (.fz (.lst (A.map qh))),b6] =
   some (.nx,[x0,some (.fz (za w rs)),some (.fz (.int L)),some (.fz (.lst (rs.map mrD))),some (.ow ((acc++A).map (pairD rs))),some (.fz (.lst ((qan w (A.filter (jr rs L))).map qh))),some (.fz (.lst (A.map (pairD rs))))]):=by
 have hl':A.length<=lim:=by show _<=1000000;lia
 have hfl:(A.filter fun k=>decide (L<=cM rs k)).length<=lim:=mq (ur _ _) hl';have he:acc.length+A.length<=lim:=by show _<=1000000;lia
 have c1:=qjp rs h A hA;have al:=qe3 rs L A (by lia);have c2:=qmi rs (A.filter fun k=>decide (L<=cM rs k));have g:=qmf w hw (A.filter fun k=>decide (L<=cM rs k)) (g0v _ hn) (fun k hk=>hA k (g0h.mp hk).1) (mq (ur _ _) hl);have e:(A.filter (jr rs L))=A.filter fun k=>decide (L<=cM rs k):=rfl;rw [e];simp! [jo,qw,hl',c1,qlf,q41,q42,he,al,hfl,c2,g,ud]
theorem qd1(w:Nat)(hw:w<=8)(rs:List Run)(L:Int)(h:zl rs)(x0:Option B): ∀(n d f:Nat) (acc:List Nat) (b6:Option B),d+n=w+1->n<f->acc.length+n*70<=1000->∃b5' b6',
  y8 (bT (eV 5)) jo f [x0,some (.fz (za w rs)),some (.fz (.int L)),some (.fz (.lst (rs.map mrD))),some (.ow (acc.map (pairD rs))),some (.fz (.lst ((layer w rs L d).map qh))),b6] =
   some (.nx,[x0,some (.fz (za w rs)),some (.fz (.int L)),some (.fz (.lst (rs.map mrD))),some (.ow ((acc++(List.range' d n).flatMap (layer w rs L)).map (pairD rs))),b5',b6'])
 | n,d,0,acc,b6,_,hf,_=>by lia
 | n,d,f+1,acc,b6,hd,hf,hl=>by
  obtain⟨le,lf⟩:=qd0 w (by lia);have ht:bT (eV 5) [x0,some (.fz (za w rs)),some (.fz (.int L)),some (.fz (.lst (rs.map mrD))),some (.ow (acc.map (pairD rs))),some (.fz (.lst ((layer w rs L d).map qh))),b6]=some (!((layer w rs L d).map qh).isEmpty):=qm1 (x_v rfl) rfl
  by_cases hc:layer w rs L d=[]
  ·rw [hc] at ht
   have hz:=qa4 w hw rs L h n d (by lia) hc;rw [hz,g30];refine⟨some (.fz (.lst ((layer w rs L d).map qh))),b6,?_⟩;unfold y8;rw [hc];rw [ht]
   rfl
  ·have hne:(!((layer w rs L d).map qh).isEmpty)=true:=by
    cases e:layer w rs L d with
    | nil=>exact absurd e hc
    | cons a l=>rfl
   rw [hne] at ht;cases n with
   | zero=>
    have:d=w+1:=by lia
    subst this;exact absurd (by unfold layer;rw [le];rfl) hc
   | succ n=>
    obtain⟨k1,k2,k3⟩:=lf d (by lia);have hll:(layer w rs L d).length<=70:=mq (ur _ _) k3;have t:=turn w hw rs L h x0 (layer w rs L d) acc (g0v _ k2) (fun k hk=>k1 k (g0h.mp hk).1) (by lia) (by lia) b6;rw [step w hw rs L h d (by lia)] at t;obtain⟨b5',b6',ih⟩:=qd1 w hw rs L h x0 n (d+1) f (acc++layer w rs L d) (some (.fz (.lst ((layer w rs L d).map (pairD rs))))) (by lia) (by lia) (by rw [pk];lia);refine⟨b5',b6',?_⟩;unfold y8;rw [ht,m9,mi rfl,t,m9];dsimp only;rw [ih,List.range'_succ,g1h,my]
theorem qru(r:Rho): frz 0 (none :: r)=none :: r:=rfl
def q1i(w:Nat)(rs:List Run)(L:Int): List Nat:=(marksOf w).filter (cnd rs L)
theorem q89(self:D)(w:Nat)(hw:w<=8)(rs:List Run)(L:Int)(h:zl rs): zw [self,za w rs,.int L]=some (.tup ((q1i w rs L).map (pairD rs))):=by
 have m:=qjm w rs h;obtain⟨b5,b6,e⟩:=qd1 w hw rs L h (some (.fz self)) (w+1) 0 100000 [] none (by lia) (by lia) (by simp;lia);have e0:layer w rs L 0=[0]:=rfl;rw [e0, <- List.range_eq_range',g0p] at e;have e1:(List.range (w+1)).flatMap (layer w rs L)=q1i w rs L:=by
  unfold q1i;rw [qmg w (by lia),q37]
  rfl
 rw [e1] at e;simp only [g10,gj] at e;rw [show qh 0=D.tup [] from rfl] at e;cases b6 with
 | none=>(refine zd ?_;simp! [zv,m,e,vw,qru])
 | some z=>cases z with
  | fz z=>(refine zd ?_;simp! [zv,m,e,vw,qma])
  | ow z=>(refine zd ?_;simp! [zv,m,e,vw])
  | od z=>(refine zd ?_;simp! [zv,m,e,vw])
theorem qh3(rs:List Run)(L:Int)(h:zl rs)(k:Nat)(hk:k<256)(hp:jr rs L k=true): cnd rs L k=true:=by
 unfold cnd;rw [mr];exact qa3 rs L h k hk hp
theorem qmj(w:Nat)(hw:w<=8)(rs:List Run)(L:Int)(h:zl rs): (q1i w rs L).filter (fun k=>decide (L<=cM rs k))=oft w rs L:=by
 unfold q1i oft;rw [g3g];refine g2m fun k hk=>?_;cases hp:decide (L<=cM rs k) with
 | false=>rfl
 | true=>rw [qh3 rs L h k (q4d hw k hk) hp];rfl
theorem qd2(w:Nat)(hw:w<=8)(rs:List Run)(L:Int): (q1i w rs L).length<=256:=by
 unfold q1i;exact mq (ur _ _) (by rw [q1a w];exact wa hw)
theorem qh4:isO "Growing" (.obj "Growing")=true:=by decide
theorem qmk(w:Nat)(hw:w<=8)(rs:List Run)(L:Int)(h:zl rs): vm [.obj "Growing",za w rs,.int L]=some (.tup ((oft w rs L).map (pairD rs))):=by
 have c:=q89 (.obj "Growing") w hw rs L h;have a:=qcy rs L (q1i w rs L) (by have:=qd2 w hw rs L;lia);rw [qmj w hw rs L h] at a
 (refine zd ?_;simp! [vh,q6h,qh4,c,a])
end My
open PySem PyProof.Rows L2 DL
namespace My
open PySem PyProof.Rows L2 DL
theorem qa5(rs:List Run): ∀A:List Nat,q29 (A.map (pairD rs))=some (A.map (qg 12),A.map fun k=>.int (cM rs k))
 | []=>rfl
 | k :: A=>by
  have hi:xb ((qg 12 k).map D.int)=some (qg 12 k):=y4 _;show((xb ((qg 12 k).map D.int)).bind fun x=>(q29 (A.map (pairD rs))).map fun p=>(x :: p.1,D.int (cM rs k) :: p.2))=_;rw [hi,qa5 rs A]
  rfl
theorem qh5(rs:List Run)(A:List Nat)(hn:A.Nodup)(hA:∀k∈A,k<256)(hl:A.length<=1000): q7x [.tup (A.map (pairD rs))]=some (.dtt (A.map (qg 12)) (A.map fun k=>.int (cM rs k))):=by
 show(q29 (A.map (pairD rs))).bind (fun p=>if p.1.Nodup/\(A.map (pairD rs)).length<=lim then some (D.dtt p.1 p.2) else none)=_;rw [qa5];show(if(A.map (qg 12)).Nodup/\_ then _ else _)=_;rw [mi ⟨q35 hn hA,by rw [mj];show _<=1000000;lia⟩]
def upB(w:Nat)(rs:List Run)(L:Int): List Nat:=(oft w rs L).filter fun k=> !(j0 w k).any fun m=>decide (m∈oft w rs L)
def loB(w:Nat)(rs:List Run)(L:Int): List Nat:=(q1i w rs L).filter fun k=>decide (cM rs k<L)
theorem qpa(w:Nat)(hw:w<=8)(rs:List Run)(L:Int): (oft w rs L).length<=256:=mq (ur _ _) (by rw [q1a];exact wa hw)
theorem q94(w:Nat)(hw:w<=8)(rs:List Run)(h:zl rs)(L:Int): w6 [za w rs,.int L]=some (.tup ((upB w rs L).map (pairD rs))):=by
 have oe:=qmk w hw rs L h;have ol:=qpa w hw rs L;have hA:∀k∈oft w rs L,k<256:=fun k hk=>q4d hw k (g0h.mp hk).1;have dp:=qh5 rs (oft w rs L) (g0v _ (q64 w)) hA (by lia);have hl:(oft w rs L).length<=lim:=by show _<=1000000;lia
 have c:=wm (b:=bN 0) (c:=bT (qi (qo 3 [] v9) (qa (eOp oIx (eV 0) (eC (.int 0))) (qa (eV 1) (qa (eOp oIx (eV 2) (eC (.int 0))) qf))))) (e:=eV 0) (ρ :=[none,some (.fz (.dtt ((oft w rs L).map (qg 12)) ((oft w rs L).map fun k=>.int (cM rs k)))),some (.fz (za w rs))]) (pairD rs) (fun k=> !(j0 w k).any fun m=>decide (m∈oft w rs L)) (pairD rs) (oft w rs L) fun k hk=>by
  have ge:=qcx w hw (oft w rs L) hA k ((q19 w k).mp (g0h.mp hk).1) ((oft w rs L).map fun k=>.int (cM rs k));refine⟨[some (.fz (pairD rs k)),some (.fz (.dtt ((oft w rs L).map (qg 12)) ((oft w rs L).map fun k=>.int (cM rs k)))),some (.fz (za w rs))],rfl,?_,fun _=>rfl⟩;simp! [ge]
 (refine zd ?_;simp! [q0i,q6h,qh4,oe,dp,qw,hl,c])
 rfl
theorem qd3(w:Nat)(hw:w<=8)(rs:List Run)(h:zl rs)(L:Int): q2k [za w rs,.int L]=some (.tup ((loB w rs L).map (pairD rs))):=by
 have ce:=q89 (.obj "Growing") w hw rs L h;have cl:=qd2 w hw rs L;have hl:(q1i w rs L).length<=lim:=by show _<=1000000;lia
 have c:=wm (b:=bN 0) (c:=zp oLt' (eOp oIx (eV 0) (eC (.int 1))) (eV 1)) (e:=eV 0) (ρ :=[none,some (.fz (.int L))]) (pairD rs) (fun k=>decide (cM rs k<L)) (pairD rs) (q1i w rs L) fun k hk=>by
  refine⟨[some (.fz (pairD rs k)),some (.fz (.int L))],rfl,?_,fun _=>rfl⟩;simp! [nu]
 (refine zd ?_;simp! [q2j,q6h,qh4,ce,qw,hl,c])
 rfl
section
variable(w:Nat)(hw:w<=8)(rs:List Run)(L:Int)(h:zl rs)
theorem qfa{k:Nat}: k∈oft w rs L↔k<2 ^ w/\jr rs L k=true:=by
 unfold oft jr;rw [g0h,q19]
include hw
end
end My
open PySem PyProof.Rows L2 DL
namespace My
open PySem PyProof.Rows L2 DL
theorem same_int(n:Nat)(i:Int): F_law_same (n+1) [.int i,.int i]=some (.bl true):=by
 show z7 4 (vg (F_law_same n)) [.int i,.int i]=_
 (refine zd ?_;simp! [vg])
theorem qa6(n:Nat)(x0 x1:Option B): ∀(ds:List D) (b2 b3:Option B),(∀d∈ds,F_law_same n [d,d]=some (.bl true))->∃b2' b3',runFor (yu 2 (j5 (bN 2) (j5 (bN 3) yt))) (yg (F_law_same n)) (q4u ds ds) [x0,x1,b2,b3]=some (.nx,[x0,x1,b2',b3'])
 | [],b2,b3,_=>⟨b2,b3,rfl⟩
 | d :: ds,b2,b3,h=>by
  obtain⟨b2',b3',ih⟩:=qa6 n x0 x1 ds (some (.fz d)) (some (.fz d)) fun e he=>h e (gq _ he);refine⟨b2',b3',?_⟩;have hd:=h d gm;have z:q4u (d :: ds) (d :: ds)=.tup [d,d] :: q4u ds ds:=rfl;rw [z,xp (ρ1:=[x0,x1,some (.fz d),some (.fz d)]) rfl (show yg (F_law_same n) [x0,x1,some (.fz d),some (.fz d)]=some (.nx,[x0,x1,some (.fz d),some (.fz d)]) by simp! [yg,hd]),ih]
theorem q77(n:Nat)(ds:List D)(h:∀d∈ds,F_law_same n [d,d]=some (.bl true)): F_law_same (n+1) [.tup ds,.tup ds]=some (.bl true):=by
 obtain⟨b2,b3,hl⟩:=qa6 n (some (.fz (.tup ds))) (some (.fz (.tup ds))) ds none none h;show z7 4 (vg (F_law_same n)) [.tup ds,.tup ds]=_
 (refine zd ?_;simp! [vg,ql0,q08,hl])
theorem qpb(n:Nat)(b:List Int): F_law_same (n+2) [TI b,TI b]=some (.bl true):=q77 _ _ fun d hd=>by
 obtain⟨x,_,rfl⟩:=ni.mp hd;exact same_int _ _
theorem q0k(ns:List Int)(k:Int)(h0:0<=k)(h1:k<=1000000): ∃m,zt [.lst (ns.map .int),.int k]=some (.int m)/\0<=m/\m<2147483629:=by
 have hkk:jm (.int k) (.int k)=some (.int (k*k)):=kg _ _ ⟨by lia,by lia⟩;have hx:∀x:Int,jm (.int (x%2147483647)) (.int (x%2147483647))=some (.int ((x%2147483647)*(x%2147483647))):=fun x=>
  kg _ _ ⟨by have:=g0y x (show(2147483647:Int)≠0 by decide);lia,by have:=g1t x (show(0:Int)<2147483647 by decide);lia⟩
 have fin:∀x:Int,0<=x%2147483629/\x%2147483629<2147483629:=fun x=>⟨g0y x (by decide),g1t x (by decide)⟩
 by_cases hn:0<ns.length
 ·obtain⟨j,hj,hm⟩:=qp1 (x:=k) hn
  have hn':(0:Int)<(ns.length:Int):=by lia
  have hi:atI (ns.map D.int) (j:Int)=some (.int ns[j]):=by rw [qm2,mv,ma hj];rfl
  simp! [zt,yl,hkk,hx,hm,hn',hi];exact⟨_,rfl,fin _⟩
 ·have hn':¬(0:Int)<(ns.length:Int):=by lia
  simp! [zt,yl,hkk,hx,hn'];exact⟨_,rfl,fin _⟩
theorem qfb(w:Nat)(hw:w<=8)(x:Int): ∃m:Nat,m<2 ^ w/\zu [.int (x%((2 ^ w:Nat):Int))]=some (qh m):=by
 have hp:(0:Int)<((2 ^ w:Nat):Int):=by exact_mod_cast g4l w
 have a:=g0y x (Int.ne_of_gt hp);have b:=g1t x hp;refine⟨(x%((2 ^ w:Nat):Int)).toNat,by lia,?_⟩;have:=q4f (x%((2 ^ w:Nat):Int)).toNat (by have:=wa hw;lia);rw [g2y a] at this;exact this
theorem qd4(x:Int)(n:Nat)(hn:0<n): ∃k:Nat,k<n/\x%(n:Int)=(k:Int):=by
 have a:=g0y x (show(n:Int)≠0 by lia);have b:=g1t x (show(0:Int)<(n:Int) by lia);exact⟨(x%(n:Int)).toNat,by lia,by lia⟩
theorem qml:∀a:Nat,a<256->∀b:Nat,b<256->((List.range 8).all fun i=> !bit a i || bit b i)=blw a b:=by decide +kernel
theorem qmm:∀k:Nat,k<256->∀x∈qg 12 k,0<=x/\x<8:=by decide +kernel
theorem q5p{k:Nat}(hk:k<256){i:Nat}(hi:i<8): (i:Int)∈qg 12 k↔bit k i=true:=by rw [<- q93 k hk i hi,g16]
theorem qjq(a:Nat)(ha:a<256)(b:Nat)(hb:b<256): decide (((qg 12 a).filter fun x=>decide (x∈qg 12 b)).length=(qg 12 a).length)=blw a b:=by
 rw [<- qml a ha b hb,g04,g16,List.length_filter_eq_length_iff,mr]
 constructor
 ·intro h i hi
  have hi:=uo.mp hi;cases hx:bit a i with
  | false=>rfl
  | true=>
   have:=g0c (h _ ((q5p ha hi).mpr hx));rw [(q5p hb hi).mp this];rfl
 ·intro h x hx
  have hl:=qmm a ha x hx;obtain⟨i,rfl⟩:∃i:Nat,x=(i:Int):=⟨x.toNat,by lia⟩
  have hi:i<8:=by lia
  have:=h i (uo.mpr hi);rw [(q5p ha hi).mp hx] at this;exact nv ((q5p hb hi).mpr (by simpa using this))
def Good(r:Run): Prop:=0<=r.1/\∃t,t<256/\r.2=qg 12 t
theorem q95{rs:List Run}(hl:rs.length<=1000)(h:∀r∈rs,Good r): zl rs:=⟨hl,fun r hr=>by
 obtain⟨h0,t,ht,e⟩:=h r hr;refine⟨fun x hx=>?_,by rw [e];have:=k9 12 t;lia,h0,t,ht,e⟩;rw [e] at hx;obtain⟨i,rfl,hi⟩:=q75 hx;lia⟩
theorem q1r(x:Int)(w:Nat)(hw:w<=8)(M:Int)(hM:0<M): ∃r,k6 [.int x,.int (w:Int),.int M]=some (wx r)/\Good r:=by
 obtain⟨m,hm,hs⟩:=qfb w hw x;have hp:=q2m w hw;have h0:=g0y (x / 4096) (show M≠0 by lia);have l2:∀a b:D,([a,b]:List D).length<=lim:=fun _ _=>by show 2<=1000000;decide
 have hpp:(0:Int)<((2 ^ w:Nat):Int):=by exact_mod_cast g4l w
 refine⟨(1+x / 4096%M,qg 12 m),?_,by show 0<=1+x / 4096%M;lia,m,gu hm (wa hw),rfl⟩
 (refine zd ?_;simp! [q16,hM,hp,hpp,hs,l2])
theorem qa7(ns:List Int)(w:Nat)(hw:w<=8)(M:Int)(hM:0<M)(x1 x2:Option B): ∀(n k:Nat) (ra:List Run) (b6 b7:Option B),k+n<=100->ra.length+n<=100->(∀r∈ra,Good r)->∃(rs:List Run) (b6' b7':Option B),rs.length<=100/\(∀r∈rs,Good r) /\
  runFor (bN 6) xk (qz (k:Int) n) [some (.fz (.lst (ns.map .int))),x1,x2,some (.fz (.int (w:Int))),some (.fz (.int M)),some (.ow (ra.map wx)),b6,b7]=some (.nx,[some (.fz (.lst (ns.map .int))),x1,x2,some (.fz (.int (w:Int))),some (.fz (.int M)),some (.ow (rs.map wx)),b6',b7'])
 | 0,k,ra,b6,b7,_,h1,h3=>⟨ra,b6,b7,h1,h3,rfl⟩
 | n + 1,k,ra,b6,b7,hk,h1,h3=>by
  obtain⟨m1,hm1,_,_⟩:=q0k ns (3*(k:Int)+1) (by lia) (by lia);obtain⟨m2,hm2,_,_⟩:=q0k ns (3*(k:Int)+2) (by lia) (by lia);obtain⟨m3,hm3,_,_⟩:=q0k ns (3*(k:Int)+3) (by lia) (by lia);have la:ra.length<lim:=by show _<1000000;lia
  have t3:jm (.int 3) (.int (k:Int))=some (.int (3*(k:Int))):=kg _ _ ⟨by lia,by lia⟩;have t4:∀x:Int,jm (.int x) (.int 4096)=some (.int (x*4096)):=fun x=>kg _ _ ⟨by decide,by decide⟩;have t8:∀x:Int,jm (.int x) (.int 8)=some (.int (x*8)):=fun x=>kg _ _ ⟨by decide,by decide⟩;have e0:bN 6 (.int (k:Int)) [some (.fz (.lst (ns.map .int))),x1,x2,some (.fz (.int (w:Int))),some (.fz (.int M)),some (.ow (ra.map wx)),b6,b7]=some [some (.fz (.lst (ns.map .int))),x1,x2,some (.fz (.int (w:Int))),some (.fz (.int M)),some (.ow (ra.map wx)),some (.fz (.int (k:Int))),b7]:=rfl;have body:∃y r,Good r/\xk [some (.fz (.lst (ns.map .int))),x1,x2,some (.fz (.int (w:Int))),some (.fz (.int M)),some (.ow (ra.map wx)),some (.fz (.int (k:Int))),b7]=some (.nx,[some (.fz (.lst (ns.map .int))),x1,x2,some (.fz (.int (w:Int))),some (.fz (.int M)),some (.ow ((ra++[r]).map wx)),some (.fz (.int (k:Int))),some (.fz (.int y))]):=by
   by_cases c1:1<(k:Int)
   ·by_cases c2:m3%3=0
    ·obtain⟨r,hr,g⟩:=q1r ((m1*4096+m2%4096) / 4096*4096+(m1*4096+m2%4096)%4096 / 8*8%4096) w hw M hM
     refine⟨(m1*4096+m2%4096) / 4096*4096+(m1*4096+m2%4096)%4096 / 8*8%4096,r,g,?_⟩;rw [ud];simp! [xk,t3,t4,t8,hm1,hm2,hm3,c1,c2,hr,q1e,q41,q42,la]
    ·obtain⟨r,hr,g⟩:=q1r (m1*4096+m2%4096) w hw M hM
     refine⟨m1*4096+m2%4096,r,g,?_⟩;rw [ud];simp! [xk,t3,t4,t8,hm1,hm2,hm3,c1,c2,hr,q1e,q41,q42,la]
   ·obtain⟨r,hr,g⟩:=q1r (m1*4096+m2%4096) w hw M hM
    refine⟨m1*4096+m2%4096,r,g,?_⟩;rw [ud];simp! [xk,t3,t4,t8,hm1,hm2,c1,hr,q1e,q41,q42,la]
  obtain⟨y,r,g,hb⟩:=body;obtain⟨rs,b6',b7',q1,q3,ih⟩:=qa7 ns w hw M hM x1 x2 n (k+1) (ra++[r]) (some (.fz (.int (k:Int)))) (some (.fz (.int y))) (by lia) (by simp only [pk,p7,g2d];lia)
   (fun q hq=>by
    rcases ny.mp hq with z|z
    ·exact h3 q z
    ·rw [n9.mp z];exact g)
  refine⟨rs,b6',b7',q1,q3,?_⟩;rw [q5v,xp e0 hb,show(k:Int)+1=((k+1:Nat):Int) by lia,ih]
theorem qd5(w:Nat)(hw:w<=8)(M:Int)(hM:0<M): ∀ms:List Int,∃rs:List Run,rs.length=ms.length/\(∀r∈rs,Good r)/\qr (bN 0) z8 (qi (qo 3 [] k6) (qa (eV 0) (qa (eV 1) (qa (eV 2) qf)))) [none,some (.fz (.int (w:Int))),some (.fz (.int M))] (ms.map D.int)=some (rs.map wx)
 | []=>⟨[],rfl,(fun _ h=>by cases h),rfl⟩
 | x :: ms=>by
  obtain⟨rs,h1,h2,h3⟩:=qd5 w hw M hM ms;obtain⟨r,hr,g⟩:=q1r x w hw M hM;refine⟨r :: rs,by simp [h1],fun q hq=>?_,?_⟩
  ·rcases mh.mp hq with rfl|hq
   ·exact g
   ·exact h2 q hq
  ·rw [gj]
   simp! [qr,z8,hr,h3]
theorem qpc(c:Int): ∃M:Int,0<M/\atI [D.int 3,D.int 40,D.int 1000000000000] (c%3)=some (.int M):=by
 have h1:=g0y c (show(3:Int)≠0 by decide);have h2:=g1t c (show(0:Int)<3 by decide);have:c%3=0\/c%3=1\/c%3=2:=by lia
 rcases this with e|e|e <;> rw [e]
 ·exact⟨3,by decide,rfl⟩
 ·exact⟨40,by decide,rfl⟩
 ·exact⟨1000000000000,by decide,rfl⟩
theorem q67(ns:List Int)(hl:ns.length<=63)(mw:Nat)(hmw:mw<=8): ∃(w:Nat) (rs:List Run),ve [.lst (ns.map D.int),.int (mw:Int)]=some (za w rs)/\w<=8/\zl rs:=by
 obtain e|⟨fst,r,e⟩:ns=[]\/∃a r,ns=a :: r:=by
  cases ns with
  | nil=>exact .inl rfl
  | cons a r=>exact .inr ⟨a,r,rfl⟩
 ·subst e
  refine⟨0,[],?_,by lia,q95 (by decide) (fun _ h=>by cases h)⟩;have:mw=0\/mw=1\/mw=2\/mw=3\/mw=4\/mw=5\/mw=6\/mw=7\/mw=8:=by lia
  rcases this with rfl|rfl|rfl|rfl|rfl|rfl|rfl|rfl|rfl <;> rfl
 have i0:(ns.map D.int)[0]? = some (.int fst):=by rw [e];rfl
 have hn':(0:Int)<(ns.length:Int):=by rw [e,p7];lia
 have sl:oSl (.lst (ns.map D.int)) (some 1) (some 63)=some (.lst ((ns.drop 1).map D.int)):=by
  show some (D.lst (DL.cutD (ns.map D.int) (some ((1:Nat):Int)) (some ((63:Nat):Int))))=_;unfold DL.cutD;rw [HT.sIx_nat,HT.sIx_nat,mj,g5v hl]
  by_cases h:1<=ns.length
  ·rw [g63 h,ui (by simp),g56]
  ·have:ns=[]:=by cases ns with
    | nil=>rfl
    | cons a r=>simp at h
   subst this;rfl
 obtain⟨w,hw,ew⟩:=qd4 fst (mw+1) (by lia);have ew:fst%((mw:Int)+1)=(w:Int):=by rw [<- ew];congr 1
 have hm0:(0:Int)<(mw:Int)+1:=by lia
 obtain⟨M,hM,eM⟩:=qpc (fst / 16);have ll:(ns.drop 1).length<=lim:=by rw [uz];show _<=1000000;lia
 have t0:([]:List D).length<=lim:=by decide
 have l2:∀a b:D,([a,b]:List D).length<=lim:=fun _ _=>by show 2<=1000000;decide
 have l3:∀a b c:D,([a,b,c]:List D).length<=lim:=fun _ _ _=>by show 3<=1000000;decide
 obtain⟨tn,htn,etn⟩:=qd4 (fst / 96) 25 (by decide);have er:∀(x0 x1:Option B) (t:Rho),iR1 (qa (eOp oMod (eOp oDiv (eV 2) (eC (.int 96))) (eC (.int 25))) qf) (x0 :: x1 :: some (.fz (.int fst)) :: t)=some (qz 0 tn):=fun x0 x1 t=>by
  rw [q1v _ _ (fst / 96%25) (by simp! [nu]) (by lia) (by lia)];rw [show(fst / 96%25).toNat=tn by have:fst / 96%25=(tn:Int):=etn;lia]
 by_cases c48:fst / 48%2=0
 ·obtain⟨rs,h1,h2,c⟩:=qd5 w (by lia) M hM (ns.drop 1)
  refine⟨w,rs,?_,by lia,q95 (by rw [h1,uz];lia) h2⟩
  (refine zd ?_;simp! [ki,hn',i0,hm0,ew,l3,eM,c48,sl,qw,ll,c,l2])
 ·obtain⟨rs,b6,b7,h1,h2,h3⟩:=qa7 ns w (by lia) M hM (some (.fz (.int (mw:Int)))) (some (.fz (.int fst))) tn 0 [] none none (by lia) (by simp only [g2d];lia) (fun _ h=>by cases h)
  rw [show((0:Nat):Int)=0 from rfl,g10] at h3;refine⟨w,rs,?_,by lia,q95 (by lia) h2⟩
  (refine zd ?_;simp! [ki,hn',i0,hm0,ew,l3,eM,c48,t0,q08,er,h3,l2])
theorem count_loop(k:Nat)(hk:k<256)(x0:Option B): ∀(rs:List Run) (acc:Int) (b3 b4:Option B),(∀r∈rs,Good r)->∃b3' b4',
  runFor (yu 2 (j5 (bN 3) (j5 (bN 4) yt))) jv (rs.map wx) [x0,some (.fz (qh k)),some (.fz (.int acc)),b3,b4]=some (.nx,[x0,some (.fz (qh k)),some (.fz (.int (acc+cM rs k))),b3',b4'])
 | [],acc,b3,b4,_=>⟨b3,b4,by simp [runFor,cM]⟩
 | r :: rs,acc,b3,b4,hg=>by
  obtain⟨h0,t,ht,e⟩:=hg r gm;have hg':∀q∈rs,Good q:=fun q hq=>hg q (gq _ hq);have c:=qh1 (c:=zp (oIn false) (eV 0) (eV 1)) (ρ :=[some (.fz (qh t))]) (fun x=>decide (x∈qg 12 t)) (qg 12 k) fun x _=>by
   have o:=qm9 x (qg 12 t);simp! [o]
  have hl:(qg 12 k).length<=lim:=mq (k9 12 k) (by decide);have eq:=qrr (((qg 12 k).filter fun x=>decide (x∈qg 12 t)).length) (qg 12 k).length;rw [qjq k hk t ht] at eq;have e0:yu 2 (j5 (bN 3) (j5 (bN 4) yt)) (wx r) [x0,some (.fz (qh k)),some (.fz (.int acc)),b3,b4]=some [x0,some (.fz (qh k)),some (.fz (.int acc)),some (.fz (.int r.1)),some (.fz (qh t))]:=by
   show some [x0,some (.fz (qh k)),some (.fz (.int acc)),some (.fz (.int r.1)),some (.fz (TI r.2))]=_;rw [e]
  have pq:decide (Builtin.bitAnd (mk r.2) (k:Int)=(k:Int))=blw k t:=by
   rw [e,(q0j t ht).2,qf8];unfold blw;rw [Nat.and_comm];exact g2v.mpr (by lia)
  have cr:cM (r :: rs) k=(if blw k t=true then r.1 else 0)+cM rs k:=by
   unfold cM;rw [p8,pq];cases blw k t
   ·simp
   ·simp
  rw [cr];cases hb:blw k t with
  | true=>
   rw [hb] at eq;obtain⟨b3',b4',ih⟩:=count_loop k hk x0 rs (acc+r.1) (some (.fz (.int r.1))) (some (.fz (qh t))) hg';refine⟨b3',b4',?_⟩;have body:jv [x0,some (.fz (qh k)),some (.fz (.int acc)),some (.fz (.int r.1)),some (.fz (qh t))]=some (.nx,[x0,some (.fz (qh k)),some (.fz (.int (acc+r.1))),some (.fz (.int r.1)),some (.fz (qh t))]):=by
    simp! [jv,qw,hl,c,eq]
   rw [gj,xp e0 body,ih,mi rfl,Int.add_assoc]
  | false=>
   rw [hb] at eq;obtain⟨b3',b4',ih⟩:=count_loop k hk x0 rs acc (some (.fz (.int r.1))) (some (.fz (qh t))) hg';refine⟨b3',b4',?_⟩;have body:jv [x0,some (.fz (qh k)),some (.fz (.int acc)),some (.fz (.int r.1)),some (.fz (qh t))]=some (.nx,[x0,some (.fz (qh k)),some (.fz (.int acc)),some (.fz (.int r.1)),some (.fz (qh t))]):=by
    simp! [jv,qw,hl,c,eq]
   rw [gj,xp e0 body,ih,mn (by decide),g6p]
theorem qpd{rs:List Run}(h:zl rs): ∀r∈rs,Good r:=fun r hr=>⟨(h.2 r hr).2.2.1,(h.2 r hr).2.2.2⟩
theorem q5f(w:Nat)(rs:List Run)(h:zl rs)(k:Nat)(hk:k<256): jc [za w rs,qh k]=some (.int (cM rs k)):=by
 obtain⟨b3,b4,c⟩:=count_loop k hk (some (.fz (za w rs))) rs 0 none none (qpd h);rw [g6p] at c
 (refine zd ?_;simp! [wk,q08,c])
theorem qd6(ns:List Int)(w:Nat)(hw:w<=8)(rs:List Run)(h:zl rs): ∃L:Int,x6 [.lst (ns.map D.int),za w rs]=some (.int L)/\1<=L:=by
 have hpw:=q2m w hw;have hp:(0:Int)<((2 ^ w:Nat):Int):=by exact_mod_cast g4l w
 have hmx:∀x:Int,oMax [.int 1,.int x]=some (.int (if x>1 then x else 1)):=fun _=>rfl;obtain e|⟨fst,r,e⟩:ns=[]\/∃a r,ns=a :: r:=by
  cases ns with
  | nil=>exact .inl rfl
  | cons a r=>exact .inr ⟨a,r,rfl⟩
 ·subst e
  exact⟨1,rfl,by decide⟩
 have i0:(ns.map D.int)[0]? = some (.int fst):=by rw [e];rfl
 have hn':(0:Int)<(ns.length:Int):=by rw [e,p7];lia
 by_cases c0:fst / 2400%4=0
 ·simp! [x6,vx,hn',i0,c0]
  exact⟨_,rfl,by have:=g0y (fst / 2400 / 4) (show(6:Int)≠0 by decide);lia⟩
 ·by_cases c3:fst / 2400%4=3
  ·simp! [x6,vx,hn',i0,c0,c3]
   exact⟨_,rfl,by have:=g0y (fst / 2400 / 4) (show(100000000000000:Int)≠0 by decide);lia⟩
  ·obtain⟨m,hm,hs⟩:=qfb w hw (fst / 2400 / 4)
   have ce:=q5f w rs h m (gu hm (wa hw));simp! [x6,vx,hn',i0,c0,c3,hpw,hp,hs,ce,hmx];exact⟨_,rfl,by split <;> lia⟩
end My
open PySem PyProof.Rows L2 DL
namespace My
open PySem PyProof.Rows L2 DL
theorem qjr:∀k:Nat,k<256->∀i:Nat,i<8->bit k i=false->(qg 12 (k+2 ^ i)).Perm (qg 12 k++[(i:Int)]):=by decide +kernel
theorem qjs(n k:Nat): (qg n k).Pairwise (· < ·):=by
 unfold qg;rw [g0d];refine g3t (fun h=>?_) (g0v _ g3y);lia
theorem qh6(ns:List Int): q0x (ns.map D.int)=true:=by
 unfold q0x;rw [m6,m6];refine⟨⟨?_,?_⟩,?_⟩
 ·rw [g0i,mr];intro x _;rfl
 ·rw [g0i,mr]
  intro x _;show(ns.map D.int).all _=true;rw [g0i,mr];intro y _;rfl
 ·rw [g1b]
  left
  rw [g0i,mr];intro x _;rfl
theorem qd7(a b:Int): ltT (.int a) (.int b)=decide (a<b):=xc a b
theorem qjt(ns ms:List Int)(hp:ms.Perm ns)(hr:ms.Pairwise (· < ·)): q0p [TI ns]=some (ms.map D.int):=by
 unfold q0p;dsimp only;rw [qh6,mi rfl];have e:(ms.map fun x=>(D.int x,D.int x))=kc ((ns.map D.int).map fun d=>(d,d)):=by
  refine q6g ?_ ?_ ?_
  ·rw [nj];exact hp.map _
  ·rw [g0d]
   refine g3t (fun {a b} h=>?_) hr;show ltT (.int b) (.int a)=false;rw [qd7];exact tm (by lia)
  ·intro x hx y hy h1 h2
   rw [nj] at hx hy;obtain⟨a,_,rfl⟩:=ni.mp hx;obtain⟨b,_,rfl⟩:=ni.mp hy;have h1':decide (a<b)=false:=by rw [<- qd7];exact h1
   have h2':decide (b<a)=false:=by rw [<- qd7];exact h2
   have:a=b:=by have:=of_decide_eq_false h1';have:=of_decide_eq_false h2';lia
   rw [this]
 rw [<- e,nj]
 rfl
theorem qmn(M:List Nat)(hM:∀k∈M,k<256)(m:Nat)(hm:m∈M): (M.map (qg 12)).idxOf (qg 12 m)=M.idxOf m:=by
 induction M with
 | nil=>cases hm
 | cons k M ih=>
  rw [gj,List.idxOf_cons,List.idxOf_cons]
  by_cases h:k=m
  ·subst h;simp
  ·have h':qg 12 k≠qg 12 m:=fun z=>h (q4c k (hM k gm) m (hM m hm) z)
   rw [g1j.mpr h,g1j.mpr h'];simp only [cond_false];rw [ih (fun x hx=>hM x (gq _ hx)) ((mh.mp hm).resolve_left (ng h))]
theorem q68:∀A:List Nat,q7w (A.map qh)=some (A.map (qg 12))
 | []=>rfl
 | k :: A=>by
  have e:qcb (qh k)=some (qg 12 k):=y4 _;simp only [gj,q7w,e,q68 A,m9,p9]
theorem qd8{f:FE}{ρ : Rho}{j:Nat}(g:Nat->D): ∀A:List Nat,(∀k∈A,f (ρ.set j (some (.fz (qh k))))=some (g k))->q3y f ρ j (A.map qh)=some (A.map g)
 | [],_=>rfl
 | k :: A,h=>by
  simp only [gj,q3y,h k gm,qd8 g A fun x hx=>h x (gq _ hx),m9,p9]
theorem qju:∀k:Nat,k<256->((qg 12 k).map fun x=>(qg 12 k).filter fun y=> !decide (y=x))=(zg k).map (qg 12):=by decide +kernel
theorem qjv(k:Nat)(hk:k<256): qr (bN 0) z8 (qi je (qa (eL (qw (jk (eV 1)) [none,some 0] (bN 0) (zp q4l (eV 0) (eV 1)) (eV 0))) qf)) [none,some (.fz (qh k))] ((qg 12 k).map D.int)=some ((zg k).map qh):=by
 have hl:(qg 12 k).length<=lim:=mq (k9 12 k) (by decide);have c:=q1q (b:=bN 0) (e:=qi je (qa (eL (qw (jk (eV 1)) [none,some 0] (bN 0) (zp q4l (eV 0) (eV 1)) (eV 0))) qf)) (ρ :=[none,some (.fz (qh k))]) D.int (fun x=>TI ((qg 12 k).filter fun y=> !decide (y=x))) (qg 12 k) fun x _=>by
  have ci:=qh1 (c:=zp q4l (eV 0) (eV 1)) (ρ :=[some (.fz (.int x))]) (fun y=> !decide (y=x)) (qg 12 k) fun y _=>by
   have n:=qf5 y x;simp! [n]
  refine⟨[some (.fz (.int x)),some (.fz (qh k))],rfl,?_⟩;simp! [qw,hl,ci,vw]
 rw [c];have e:(qg 12 k).map (fun x=>TI ((qg 12 k).filter fun y=> !decide (y=x)))=((qg 12 k).map fun x=>(qg 12 k).filter fun y=> !decide (y=x)).map TI:=by rw [nj];rfl
 rw [e,qju k hk,nj]
 rfl
theorem qjw(w:Nat)(hw:w<=8)(k:Nat)(hk:k<256): qr (bN 0) (zp (oIn true) (eV 0) (eV 1)) (qi je (qa (eL (q2p q0p (qa (eOp ze (eV 1) (jh (qa (eV 0) qf))) qf))) qf)) [none,some (.fz (qh k))] (qz 0 w)=some ((j0 w k).map qh):=by
 have t1:∀d:D,([d]:List D).length<=lim:=fun _=>by show 1<=1000000;decide
 have c:=wm (b:=bN 0) (c:=zp (oIn true) (eV 0) (eV 1)) (e:=qi je (qa (eL (q2p q0p (qa (eOp ze (eV 1) (jh (qa (eV 0) qf))) qf))) qf)) (ρ :=[none,some (.fz (qh k))]) nD (fun i=> !bit k i) (fun i=>qh (k+2 ^ i)) (List.range w) fun i hi=>by
  have hi6:i<8:=by have:=uo.mp hi;lia
  have o:=qf9 (i:Int) (qg 12 k);rw [q93 k hk i hi6] at o;refine⟨[some (.fz (nD i)),some (.fz (qh k))],rfl,by simp! [o],fun hb=>?_⟩;have hb':bit k i=false:=by simpa using hb
  have p:=q52 ((qg 12 k).map D.int) [nD i] (by rw [mj];have:=k9 12 k;simp;lia);have e:(qg 12 k).map D.int++[nD i]=(qg 12 k++[(i:Int)]).map D.int:=by rw [ud];rfl
  rw [e] at p;have s:=qjt (qg 12 k++[(i:Int)]) (qg 12 (k+2 ^ i)) (qjr k hk i hi6 hb') (qjs 12 _);simp! [t1,p,s,vw]
 rw [<- show qz 0 w=(List.range w).map nD from q1x w] at c;have e:(j0 w k).map qh=((List.range w).filter fun i=> !bit k i).map fun i=>qh (k+2 ^ i):=by unfold j0;rw [nj];rfl
 rw [e];exact c
abbrev cD(rs:List Run)(M:List Nat): D:=.dtt (M.map (qg 12)) (M.map fun k=>.int (cM rs k))
theorem qmo(rs:List Run)(M:List Nat)(hM:∀k∈M,k<256)(m:Nat)(hm:m∈M): q2r (cD rs M) (qh m)=some (.int (cM rs m)):=by
 show(xb ((qg 12 m).map D.int)).bind (fun k=>if k∈M.map (qg 12) then(M.map fun k=>D.int (cM rs k))[(M.map (qg 12)).idxOf k]? else none)=_;rw [y4,m9,mi (ni.mpr ⟨m,hm,rfl⟩),qmn M hM m hm,mv,ma (g50 hm),List.getElem_idxOf]
 rfl
theorem qd9(rs:List Run)(M:List Nat)(hM:∀k∈M,k<256)(l:List Nat)(hl:∀m∈l,m∈M): qr (bN 0) z8 (eOp q2r (eV 1) (eV 0)) [none,some (.fz (cD rs M))] (l.map qh)=some ((l.map (cM rs)).map D.int):=by
 have c:=q1q (b:=bN 0) (e:=eOp q2r (eV 1) (eV 0)) (ρ :=[none,some (.fz (cD rs M))]) qh (fun m=>.int (cM rs m)) l fun m h=>by
  have i:=qmo rs M hM m (hl m h);exact⟨[some (.fz (qh m)),some (.fz (cD rs M))],rfl,by simp! [i]⟩
 rw [c,nj]
 rfl
theorem qa8(f:List Int->Option Int)(ns:List Int)(d0:Int): qam f [.lst (ns.map D.int)] (.int d0)=some (.int ((f ns).getD d0)):=by
 show((xb (ns.map D.int)).bind fun ns=>some (match f ns with|some m=>D.int m|none=>.int d0))=_;rw [y4,m9];cases f ns <;> rfl
theorem max_lt(L:Int)(hL:0<L)(ns:List Int): decide (ns.max?.getD 0<L)=ns.all fun x=>decide (x<L):=by
 rw [g04,g16,mr];cases h:ns.max? with
 | none=>
  have:ns=[]:=List.max?_eq_none_iff.mp h;subst this;exact⟨fun _ _ h=>(by cases h),fun _=>hL⟩
 | some m=>
  obtain⟨h1,h2⟩:=g6d.mp h;exact⟨fun z x hx=>nv (Int.lt_of_le_of_lt (h2 x hx) z),fun z=>g0c (z m h1)⟩
theorem qrv(L:Int)(ns:List Int): decide (L<=ns.min?.getD L)=ns.all fun x=>decide (L<=x):=by
 rw [g04,g16,mr];cases h:ns.min? with
 | none=>
  have:ns=[]:=List.min?_eq_none_iff.mp h;subst this;exact⟨fun _ _ h=>(by cases h),fun _=>Int.le_refl _⟩
 | some m=>
  obtain⟨h1,h2⟩:=g6e.mp h;exact⟨fun z x hx=>nv (Int.le_trans z (h2 x hx)),fun z=>g0c (z m h1)⟩
def upC(w:Nat)(rs:List Run)(L:Int)(k:Nat): Bool:=jr rs L k&&(j0 w k).all fun m=>decide (cM rs m<L)
def loC(rs:List Run)(L:Int)(k:Nat): Bool:= !jr rs L k&&cnd rs L k
theorem qh7:∀k:Nat,k<256->(zg k).length<=8:=by decide +kernel
theorem qjx(w:Nat)(hw:w<=8)(rs:List Run)(L:Int)(hL:0<L)(M:List Nat)(hMl:∀k,k∈M↔k<2 ^ w)(k:Nat)(hk:k∈M)(a4 a5:List Nat)(h4:a4.length<=1000)(h5:a5.length<=1000)(b7 b8:Option B):
  xw [some (.fz (za w rs)),some (.fz (.int L)),some (.fz (cD rs M)),some (.fz (qh k)),some (.ow (a4.map (pairD rs))),some (.ow (a5.map (pairD rs))),some (.fz (.int (cM rs k))),b7,b8] =
  some (.nx,[some (.fz (za w rs)),some (.fz (.int L)),some (.fz (cD rs M)),some (.fz (qh k)),some (.ow ((a4++if upC w rs L k=true then [k] else []).map (pairD rs))),some (.ow ((a5++if loC rs L k=true then [k] else []).map (pairD rs))),some (.fz (.int (cM rs k))),some (.fz (.lst ((j0 w k).map qh))),some (.fz (.lst ((zg k).map qh)))]):=by
 have hk2:=(hMl k).mp hk;have hk256:k<256:=gu hk2 (wa hw);have hM:∀k∈M,k<256:=fun k h=>gu ((hMl k).mp h) (wa hw);have mc:=qjw w hw k hk256;have lc:=qjv k hk256;have rl:(qz 0 w).length<=lim:=by rw [q0b];show _<=1000000;lia
 have bl:(qg 12 k).length<=lim:=mq (k9 12 k) (by decide);have ml:(j0 w k).length<=lim:=mq (qa2 w k) (mq hw (by decide));have fl:(zg k).length<=lim:=mq (qh7 k hk256) (by decide);have c1:=qd9 rs M hM (j0 w k) fun m hm=>(hMl m).mpr (q76 w (by lia) k hk2 m hm);have c2:=qd9 rs M hM (zg k) fun m hm=>(hMl m).mpr (qjl w (by lia) k hk2 m hm);have e1:=qa8 List.max? ((j0 w k).map (cM rs)) 0;have e2:=qa8 List.min? ((zg k).map (cM rs)) L;have g1:=q8t (((j0 w k).map (cM rs)).max?.getD 0) L;rw [max_lt L hL,g0i] at g1;have g2:=qf6 (((zg k).map (cM rs)).min?.getD L) L;rw [qrv,g0i] at g2;have l2:∀a b:D,([a,b]:List D).length<=lim:=fun _ _=>by show 2<=1000000;decide
 have la:a4.length<lim:=by show _<1000000;lia
 have lb:a5.length<lim:=by show _<1000000;lia
 have r1:∀t:Rho,iR1 (qa (eOp oIx (eV 0) (eC (.int 0))) qf) (some (.fz (za w rs)) :: t)=some (qz 0 w):=fun t=>q1v _ _ (w:Int) (by simp! [nu]) (by lia) (by lia);have q1:((j0 w k).all ((fun x=>decide (x<L)) ∘ cM rs))=(j0 w k).all fun m=>decide (cM rs m<L):=rfl;have q2:((zg k).all ((fun x=>decide (L<=x)) ∘ cM rs))=cnd rs L k:=rfl;rw [q1] at g1;rw [q2] at g2;have ge:oGe (.int (cM rs k)) (.int L)=some (.bl (jr rs L k)):=rfl;have lt:oLt' (.int (cM rs k)) (.int L)=some (.bl (!jr rs L k)):=by
  rw [q8t];unfold jr;rw [<- decide_not];congr 2;exact g2v.mpr (by lia)
 unfold upC loC;generalize (j0 w k).all (fun m=>decide (cM rs m<L))=A1 at g1 ⊢;generalize cnd rs L k=A2 at g2 ⊢;generalize jr rs L k=A3 at ge lt ⊢;generalize ((j0 w k).map (cM rs)).max?.getD 0=m1 at e1 g1;generalize ((zg k).map (cM rs)).min?.getD L=m2 at e2 g2;cases A3 <;> cases A1 <;> cases A2 <;> simp! [xw,qw,r1,rl,mc,bl,lc,ge,lt,ml,c1,q7z,e1,g1,fl,c2,e2,g2,q1e,q41,q42,la,lb,l2,ud,qma]
end My
open PySem PyProof.Rows L2 DL
namespace My
open PySem PyProof.Rows L2 DL
def FZ(b:Option B): Prop:=b=none\/∃d,b=some (.fz d)
theorem qa9(w:Nat)(hw:w<=8)(rs:List Run)(L:Int)(hL:0<L)(M:List Nat)(hMl:∀k,k∈M↔k<2 ^ w): ∀(q a4 a5:List Nat) (b3 b6 b7 b8:Option B),(∀k∈q,k∈M)->a4.length+q.length<=1000->a5.length+q.length<=1000->∃b3' b6' b7' b8',FZ b7->FZ b8->(FZ b7'/\FZ b8') /\
  runFor (yu 2 (j5 (bN 3) (j5 (bN 6) yt))) xw (q.map (pairD rs)) [some (.fz (za w rs)),some (.fz (.int L)),some (.fz (cD rs M)),b3,some (.ow (a4.map (pairD rs))),some (.ow (a5.map (pairD rs))),b6,b7,b8] =
  some (.nx,[some (.fz (za w rs)),some (.fz (.int L)),some (.fz (cD rs M)),b3',some (.ow ((a4++q.filter (upC w rs L)).map (pairD rs))),some (.ow ((a5++q.filter (loC rs L)).map (pairD rs))),b6',b7',b8'])
 | [],a4,a5,b3,b6,b7,b8,_,_,_=>⟨b3,b6,b7,b8,fun h7 h8=>⟨⟨h7,h8⟩,by simp [runFor]⟩⟩
 | k :: q,a4,a5,b3,b6,b7,b8,hq,h4,h5=>by
  rw [p7] at h4 h5;have body:=qjx w hw rs L hL M hMl k (hq k gm) a4 a5 (by lia) (by lia) b7 b8;have le:∀c:Bool,(if c=true then [k] else []).length<=1:=fun c=>by cases c <;> simp
  have le1:=le (upC w rs L k);have le2:=le (loC rs L k);obtain⟨b3',b6',b7',b8',ih⟩:=qa9 w hw rs L hL M hMl q (a4++if upC w rs L k=true then [k] else []) (a5++if loC rs L k=true then [k] else []) (some (.fz (qh k))) (some (.fz (.int (cM rs k)))) (some (.fz (.lst ((j0 w k).map qh)))) (some (.fz (.lst ((zg k).map qh)))) (fun x hx=>hq x (gq _ hx)) (by rw [pk];lia) (by rw [pk];lia);obtain⟨f,ih⟩:=ih (.inr ⟨_,rfl⟩) (.inr ⟨_,rfl⟩);refine⟨b3',b6',b7',b8',fun _ _=>⟨f,?_⟩⟩;have e0:yu 2 (j5 (bN 3) (j5 (bN 6) yt)) (pairD rs k) [some (.fz (za w rs)),some (.fz (.int L)),some (.fz (cD rs M)),b3,some (.ow (a4.map (pairD rs))),some (.ow (a5.map (pairD rs))),b6,b7,b8]=some [some (.fz (za w rs)),some (.fz (.int L)),some (.fz (cD rs M)),some (.fz (qh k)),some (.ow (a4.map (pairD rs))),some (.ow (a5.map (pairD rs))),some (.fz (.int (cM rs k))),b7,b8]:=rfl;rw [gj,xp e0 body,ih,p8,p8];have ap:∀(a:List Nat) (c:Bool) (t:List Nat),(a++if c=true then [k] else [])++t=a++if c=true then k :: t else t:=fun a c t=>by cases c <;> simp
  rw [ap,ap]
theorem qt1(w:Nat)(hw:w<=8)(rs:List Run)(h:zl rs)(L:Int): ∃l,sD1 2 3 (jk (qi (qo 1 [] vf) (qa (eOp oIx (eV 0) (eC (.int 0))) qf))) (qi (qo 2 [] jc) (qa (eV 0) (qa (eV 3) qf))) [some (.fz (za w rs)),some (.fz (.int L)),none,none,none,none,none,none,none] =
  some (.nx,[some (.fz (za w rs)),some (.fz (.int L)),some (.fz (cD rs (marksOf w))),some (.fz (qh l)),none,none,none,none,none]):=by
 obtain⟨l,hlast⟩:∃l,(marksOf w).getLast? = some l:=by
  cases e:(marksOf w).getLast? with
  | some l=>exact⟨l,rfl⟩
  | none=>
   have:=List.getLast?_eq_none_iff.mp e;have h0:=q1a w;rw [this] at h0;have:=g4l w;simp at h0;lia
 refine⟨l,?_⟩;have ls:=qe1 w hw;have hit:jk (qi (qo 1 [] vf) (qa (eOp oIx (eV 0) (eC (.int 0))) qf)) [some (.fz (za w rs)),some (.fz (.int L)),none,none,none,none,none,none,none]=some ((marksOf w).map qh):=by simp! [ls]
 have hk:=q68 (marksOf w);have hn:((marksOf w).map (qg 12)).Nodup/\((marksOf w).map (qg 12)).length<=lim:=⟨q35 (q64 w) (q4d hw),by rw [mj,q1a];exact mq (wa hw) (by decide)⟩
 have v1:q3y (qi (qo 2 [] jc) (qa (eV 0) (qa (eV 3) qf))) [some (.fz (za w rs)),some (.fz (.int L)),none,none,none,none,none,none,none] 3 ((marksOf w).map qh)=some ((marksOf w).map fun k=>.int (cM rs k)):=qd8 (fun k=>.int (cM rs k)) (marksOf w) fun k hk=>by
  have ce:=q5f w rs h k (q4d hw k hk);simp! [ce]
 have er:q6l [some (.fz (za w rs)),some (.fz (.int L)),none,none,none,none,none,none,none] 3 ((marksOf w).map qh)=[some (.fz (za w rs)),some (.fz (.int L)),none,some (.fz (qh l)),none,none,none,none,none]:=by
  unfold q6l;rw [List.getLast?_map,hlast]
  rfl
 unfold sD1;rw [mi ⟨rfl,by show 2<9;decide,by show 3<9;decide⟩];show(jk (qi (qo 1 [] vf) (qa (eOp oIx (eV 0) (eC (.int 0))) qf)) [some (.fz (za w rs)),some (.fz (.int L)),none,none,none,none,none,none,none]).bind _=_;rw [hit,m9,hk,m9,mi hn];show(q3y (qi (qo 2 [] jc) (qa (eV 0) (qa (eV 3) qf))) [some (.fz (za w rs)),some (.fz (.int L)),none,none,none,none,none,none,none] 3 ((marksOf w).map qh)).map (fun v1=>(Fl.nx,(q6l [some (.fz (za w rs)),some (.fz (.int L)),none,none,none,none,none,none,none] 3 ((marksOf w).map qh)).set 2 _))=_;rw [v1,p9,er]
 rfl
theorem qe6(rs:List Run)(A:List Nat): q51 (A.map (qg 12)) (A.map fun k=>.int (cM rs k))=A.map (pairD rs):=by
 induction A with
 | nil=>rfl
 | cons k A ih=>
  show D.tup [.tup ((qg 12 k).map D.int),.int (cM rs k)] :: q51 (A.map (qg 12)) (A.map fun k=>.int (cM rs k))=_;rw [ih];rfl
theorem qh8(w:Nat)(hw:w<=8)(rs:List Run)(h:zl rs)(L:Int)(hL:0<L): yf [za w rs,.int L]=some (.lst [.tup ((upB w rs L).map (pairD rs)),.tup ((loB w rs L).map (pairD rs))]):=by
 obtain⟨l,d1⟩:=qt1 w hw rs h L;have ml:(marksOf w).length<=256:=by rw [q1a];exact wa hw
 obtain⟨b3,b6,b7,b8,lp⟩:=qa9 w hw rs L hL (marksOf w) (fun k=>q19 w k) (marksOf w) [] [] (some (.fz (qh l))) none none none (fun _ h=>h) (by simp only [g2d];lia) (by simp only [g2d];lia);obtain⟨⟨f7,f8⟩,lp⟩:=lp (.inl rfl) (.inl rfl);rw [g0p,g0p,g10] at lp;have eu:(marksOf w).filter (upC w rs L)=upB w rs L:=by
  unfold upB oft;rw [g3g];apply g2m;intro k hk;have hk':=(q19 w k).mp hk;unfold upC jr;rw [Bool.and_comm]
  congr 1
  rw [g04,mr,g2k,List.any_eq_false]
  constructor
  ·intro z m hm y
   have h1:=g0c (z m hm);have h2:=((qfa w rs L).mp (g0c y)).2;have h2:L<=cM rs m:=g0c h2;lia
  ·intro z m hm
   refine nv ?_;refine Int.not_le.mp fun y=>z m hm (nv ((qfa w rs L).mpr ⟨q76 w (by lia) k hk' m hm,nv y⟩))
 have el:(marksOf w).filter (loC rs L)=loB w rs L:=by
  unfold loB q1i;rw [g3g];apply g2m;intro k hk;unfold loC jr;rw [<- decide_not]
  congr 1
  exact g2v.mpr (by lia)
 rw [eu,el] at lp;have it:qcc (eV 2) [some (.fz (za w rs)),some (.fz (.int L)),some (.fz (cD rs (marksOf w))),some (.fz (qh l)),some (.ow []),some (.ow []),none,none,none]=some ((marksOf w).map (pairD rs)):=by
  show some (q51 ((marksOf w).map (qg 12)) ((marksOf w).map fun k=>.int (cM rs k)))=_;rw [qe6]
 have t0:([]:List D).length<=lim:=by decide
 have l2:∀a b:D,([a,b]:List D).length<=lim:=fun _ _=>by show 2<=1000000;decide
 generalize (upB w rs L).map (pairD rs)=U at lp ⊢;generalize (loB w rs L).map (pairD rs)=W at lp ⊢;rcases f7 with rfl|⟨d7,rfl⟩ <;> rcases f8 with rfl|⟨d8,rfl⟩ <;> (refine zd ?_;simp! [ye,d1,t0,q08,it,lp,qma,qru,l2])
theorem q8a(rs:List Run)(l:List Nat): km [.tup (l.map (pairD rs)),.tup (l.map (pairD rs))]=some (.bl true):=q77 15 _ fun d hd=>by
 obtain⟨k,_,rfl⟩:=ni.mp hd;exact q77 14 _ fun e he=>by
  rcases mh.mp he with rfl|he
  ·exact qpb 12 _
  ·rw [n9.mp he];exact same_int 13 _
theorem q5g(w:Nat)(hw:w<=8)(rs:List Run)(h:zl rs)(L:Int)(hL:0<L)(t:Int): jq [za w rs,.int L,.int t]=some (.bl true):=by
 have be:=qh8 w hw rs h L hL;have gp:=q94 w hw rs h L;have sp:=qd3 w hw rs h L;have s1:=q8a rs (upB w rs L);have s2:=q8a rs (loB w rs L)
 by_cases c:t%2=0
 ·(refine zd ?_;simp! [w9,be,c,gp,sp,s1,s2])
 ·(refine zd ?_;simp! [w9,be,c,gp,sp,s1,s2])
theorem qmp(ns:List Int)(hl:ns.length<=63): qgw [.lst (ns.map .int)]=some (.bl true):=by
 obtain⟨w0,rs0,hp0,hw0,h0⟩:=q67 ns hl 6 (by decide);have sl20:oSl (.lst (ns.map D.int)) none (some 20)=some (.lst ((ns.take 20).map D.int)):=by
  show some (D.lst (DL.cutD (ns.map D.int) none (some ((20:Nat):Int))))=_;rw [q5w (α :=D), <- g6k]
 obtain⟨w1,rs1,hp1,hw1,h1⟩:=q67 (ns.take 20) (by rw [p0];lia) 8 (by decide);have fin:∀(w:Nat) (rs:List Run),w<=8->zl rs->∃L t:Int,x6 [.lst (ns.map D.int),za w rs]=some (.int L)/\zt [.lst (ns.map D.int),.int 9]=some (.int t)/\1<=L/\(∀t:Int,jq [za w rs,.int L,.int t]=some (.bl true))/\(∀t:Int,jq [za w rs,.int (L+1),.int t]=some (.bl true))/\(∀t:Int,jq [za w (rs.drop 1),.int L,.int t]=some (.bl true)):=fun w rs hw h=>by
  obtain⟨L,hL,L1⟩:=qd6 ns w hw rs h;obtain⟨t,ht,_,_⟩:=q0k ns 9 (by decide) (by decide);have hd:zl (rs.drop 1):=⟨by rw [uz];have:=h.1;lia,fun r hr=>h.2 r (g2t hr)⟩
  exact⟨L,t,hL,ht,L1,q5g w hw rs h L (by lia),q5g w hw rs h (L+1) (by lia),q5g w hw (rs.drop 1) hd L (by lia)⟩
 have sl1:∀rs:List Run,oSl (.tup (rs.map wx)) (some 1) none=some (.tup ((rs.drop 1).map wx)):=fun rs=>by
  show some (D.tup (DL.cutD (rs.map wx) (some ((1:Nat):Int)) none))=_;rw [qcf (α :=Int),g56]
 have l2:∀a b:D,([a,b]:List D).length<=lim:=fun _ _=>by show 2<=1000000;decide
 have hp0:ve [.lst (ns.map D.int),.int 6]=some (za w0 rs0):=hp0;have hp1:ve [.lst ((ns.take 20).map D.int),.int 8]=some (za w1 rs1):=hp1;obtain⟨L0,u0,a1,a2,_,a3,a4,a5⟩:=fin w0 rs0 hw0 h0;have s0:=sl1 rs0
 by_cases hn:0<ns.length
 ·obtain⟨fst,r,e⟩:∃a r,ns=a :: r:=by
   cases ns with
   | nil=>simp at hn
   | cons a r=>exact⟨a,r,rfl⟩
  have i0:(ns.map D.int)[0]? = some (.int fst):=by rw [e];rfl
  have hn':(0:Int)<(ns.length:Int):=by lia
  by_cases c:fst / 7%16=9
  ·obtain⟨L1,u1,b1,b2,_,b3,b4,b5⟩:=fin w1 rs1 hw1 h1
   have s1:=sl1 rs1
   (refine zd ?_;simp! [q4b,hp0,hn',i0,c,sl20,hp1,b1,s1,l2,b2,b3,b4,b5])
  ·(refine zd ?_;simp! [q4b,hp0,hn',i0,c,a1,s0,l2,a2,a3,a4,a5])
 ·have hn':¬(0:Int)<(ns.length:Int):=by lia
  (refine zd ?_;simp! [q4b,hp0,hn',a1,s0,l2,a2,a3,a4,a5])
end My
namespace My
open PySem PySem.Spec PyProof.Rows L2 DL
open PySem.W (nsIn fnOf keepIn codeIn mg_of subIn mg_none_of findIn plainGet)
theorem ln1{s:Shared}{fd:FuncData}{ps:List Str}(h:∀a0,BindsTo s fd ⟨[a0],[]⟩ (ps.zip ([a0]++[]))): ∀us:List Value,(us++[]).length=1->BindsTo s fd ⟨us,[]⟩ (ps.zip (us++[]))
 | [a0],_=>h a0
theorem ln2{s:Shared}{fd:FuncData}{ps:List Str}(h:∀a0 a1,BindsTo s fd ⟨[a0,a1],[]⟩ (ps.zip ([a0,a1]++[]))): ∀us:List Value,(us++[]).length=2->BindsTo s fd ⟨us,[]⟩ (ps.zip (us++[]))
 | [a0,a1],_=>h a0 a1
theorem ln3{s:Shared}{fd:FuncData}{ps:List Str}(h:∀a0 a1 a2,BindsTo s fd ⟨[a0,a1,a2],[]⟩ (ps.zip ([a0,a1,a2]++[]))): ∀us:List Value,(us++[]).length=3->BindsTo s fd ⟨us,[]⟩ (ps.zip (us++[]))
 | [a0,a1,a2],_=>h a0 a1 a2
theorem all_mk{q:Program}{l:PySem.W.OpenLaw}{w:World}{K:Frag}{h:Heap}{mg:Str->Option Value}{fa:Addr}(X:K.In h)(G:h.Ns mainGlobals mg)(hfa:mg "law" = some (.ref fa))(hm:∀ns:List Int,ns.length<=63->qgw [.lst (ns.map .int)]=some (.bl true))
  {C_Growing:Addr}
  (x_Growing:nsIn K mainGlobals "Growing" = some (some (.ref C_Growing)))
  (mk_Growing:PySem.W.makesIn K C_Growing=true)
  (in_Growing:findIn K (.ref C_Growing) "__init__" = some (some (.builtin "object.__init__")))
  (kp_Growing:keepIn K (.ref C_Growing)=true)
  (pg_Growing:plainGet K C_Growing Str.empty=true)
  (hd_Growing:PySem.W.hasDictIn K C_Growing=true)
  (po_Growing:PySem.W.plainOver K C_Growing=true)
  (sa_Growing:findIn K (.ref C_Growing) "__setattr__" = some (some (.builtin "object.__setattr__")))
  (cg_Growing:plainGet K C_Growing "__class__" = true)
  (cc_Growing:findIn K (.ref C_Growing) "__class__" = some (some (.builtin "object.__class__")))
  (cs_Growing:PySem.W.specialIn K (.builtin "object.__class__") "__get__" = some (some (.builtin "getset_descriptor.__get__")))
  (ct_Growing:PySem.W.takesIn K (.builtin "object.__class__")=some true)
  (cm_Growing:PySem.W.mroIn K C_Growing (.type "object")=some true)
  (ciint_Growing:subIn K (.ref C_Growing) (.type "int")=some false)
  (cibool_Growing:subIn K (.ref C_Growing) (.type "bool")=some false)
  (cituple_Growing:subIn K (.ref C_Growing) (.type "tuple")=some false)
  (cilist_Growing:subIn K (.ref C_Growing) (.type "list")=some false)
  (cistr_Growing:subIn K (.ref C_Growing) (.type "str")=some false)
  (cidict_Growing:subIn K (.ref C_Growing) (.type "dict")=some false)
  {fa_17:Addr} {fd_law_set:FuncData} (x_17:nsIn K mainGlobals "_law_set" = some (some (.ref fa_17))) (F_law_set:Fun2 K "_law_set" "_law_set" q02 .none fa_17 fd_law_set)
  {fa_14:Addr} {fd_law_power:FuncData} (x_14:nsIn K mainGlobals "_law_power" = some (some (.ref fa_14))) (F_law_power:Fun2 K "_law_power" "_law_power" yj .none fa_14 fd_law_power)
  {fa_15:Addr} {fd_law_run:FuncData} (x_15:nsIn K mainGlobals "_law_run" = some (some (.ref fa_15))) (F_law_run:Fun2 K "_law_run" "_law_run" q03 .none fa_15 fd_law_run)
  {fa_12:Addr} {fd_law_mixed:FuncData} (x_12:nsIn K mainGlobals "_law_mixed" = some (some (.ref fa_12))) (F_law_mixed:Fun2 K "_law_mixed" "_law_mixed" yk .none fa_12 fd_law_mixed)
  {fa_13:Addr} {fd_law_pile:FuncData} (x_13:nsIn K mainGlobals "_law_pile" = some (some (.ref fa_13))) (F_law_pile:Fun2 K "_law_pile" "_law_pile" kh .none fa_13 fd_law_pile)
  {fa_10:Addr} {fd_law_count:FuncData} (x_10:nsIn K mainGlobals "_law_count" = some (some (.ref fa_10))) (F_law_count:Fun2 K "_law_count" "_law_count" ym .none fa_10 fd_law_count)
  {fa_11:Addr} {fd_law_least:FuncData} (x_11:nsIn K mainGlobals "_law_least" = some (some (.ref fa_11))) (F_law_least:Fun2 K "_law_least" "_law_least" yn .none fa_11 fd_law_least)
  {fa_18:Addr} {od_18 an_18:Option Addr} {sl_18:Array (Option Value)} {oc_18 kV_18 dc_18 pm_18 ct_18:Value}
  {cL_law_sets TL_law_sets:Addr}
  (x_18:nsIn K mainGlobals "_law_sets" = some (some (.ref fa_18)))
  (l_18:K.lookup fa_18=some ⟨oc_18,od_18,.func (fnOf "_law_sets" "_law_sets" (v5 x8) (qt x8) (qc x8) .none kV_18 dc_18 pm_18 an_18 (.ref cL_law_sets) ct_18),sl_18⟩)
  (q_18:codeIn K (.ref cL_law_sets) "_law_sets" = true) (k_18:keepIn K (.ref fa_18)=true)
  {oL_law_sets:Obj} (o_18:K.lookup cL_law_sets=some oL_law_sets) (p_18:tabOf oL_law_sets=some TL_law_sets) (hh_18:PySem.W.codeHdIn [(cL_law_sets,oL_law_sets)] cL_law_sets TL_law_sets=true) (nl_18:K.lookup TL_law_sets=none) (r_18:((recsOf q).find? (fun e=>e.name==("_law_sets" : Str))).isSome=true)
  {fa_9:Addr} {fd_law_borders:FuncData} (x_9:nsIn K mainGlobals "_law_borders" = some (some (.ref fa_9))) (F_law_borders:Fun2 K "_law_borders" "_law_borders" v7 .none fa_9 fd_law_borders)
  {fa_16:Addr} {fd_law_same:FuncData} (x_16:nsIn K mainGlobals "_law_same" = some (some (.ref fa_16))) (F_law_same:Fun2 K "_law_same" "_law_same" kj .none fa_16 fd_law_same)
  {fa_3:Addr} {fd_at_least:FuncData} (x_3:nsIn K mainGlobals "at_least" = some (some (.ref fa_3))) (F_at_least:Fun2 K "at_least" "at_least" ko .none fa_3 fd_at_least)
  {fa_20:Addr} {fd_mark_of:FuncData} (x_20:nsIn K mainGlobals "mark_of" = some (some (.ref fa_20))) (F_mark_of:Fun2 K "mark_of" "mark_of" q04 .none fa_20 fd_mark_of)
  {fa_21:Addr} {fd_marked:FuncData} (x_21:nsIn K mainGlobals "marked" = some (some (.ref fa_21))) (F_marked:Fun2 K "marked" "marked" q0q .none fa_21 fd_marked)
  {fa_23:Addr} {fd_one_ware_more:FuncData} (x_23:nsIn K mainGlobals "one_ware_more" = some (some (.ref fa_23))) (F_one_ware_more:Fun2 K "one_ware_more" "one_ware_more" xf .none fa_23 fd_one_ware_more)
  {fa_22:Addr} {fd_one_ware_fewer:FuncData} (x_22:nsIn K mainGlobals "one_ware_fewer" = some (some (.ref fa_22))) (F_one_ware_fewer:Fun2 K "one_ware_fewer" "one_ware_fewer" jx .none fa_22 fd_one_ware_fewer)
  {fa_6:Addr} {fd_grown:FuncData} (x_6:nsIn K mainGlobals "grown" = some (some (.ref fa_6))) (F_grown:Fun2 K "grown" "grown" q1w .none fa_6 fd_grown)
  {fa_4:Addr} {fd_count_marked:FuncData} (x_4:nsIn K mainGlobals "count_marked" = some (some (.ref fa_4))) (F_count_marked:Fun2 K "count_marked" "count_marked" xr .none fa_4 fd_count_marked)
  {fa_0:Addr} {od_0 an_0:Option Addr} {sl_0:Array (Option Value)} {oc_0 kV_0 dc_0 pm_0 cd_0 ct_0:Value}
  (x_0:findIn K (.ref C_Growing) "counted" = some (some (.ref fa_0))) (i_0:PySem.W.isFn K (.ref fa_0)=true)
  (l_0:K.lookup fa_0=some ⟨oc_0,od_0,.func (fnOf "counted" "Growing.counted" (v5 zk) (qt zk) (qc zk) .none kV_0 dc_0 pm_0 an_0 cd_0 ct_0),sl_0⟩)
  (q_0:codeIn K cd_0 "Growing.counted" = true) (k_0:keepIn K (.ref fa_0)=true)
  {fa_1:Addr} {od_1 an_1:Option Addr} {sl_1:Array (Option Value)} {oc_1 kV_1 dc_1 pm_1 cd_1 ct_1:Value}
  (x_1:findIn K (.ref C_Growing) "often" = some (some (.ref fa_1))) (i_1:PySem.W.isFn K (.ref fa_1)=true)
  (l_1:K.lookup fa_1=some ⟨oc_1,od_1,.func (fnOf "often" "Growing.often" (v5 zx) (qt zx) (qc zx) .none kV_1 dc_1 pm_1 an_1 cd_1 ct_1),sl_1⟩)
  (q_1:codeIn K cd_1 "Growing.often" = true) (k_1:keepIn K (.ref fa_1)=true)
  {fa_8:Addr} {fd_joined:FuncData} (x_8:nsIn K mainGlobals "joined" = some (some (.ref fa_8))) (F_joined:Fun2 K "joined" "joined" q0s .none fa_8 fd_joined)
  {fa_2:Addr} {fd_any_ware_more:FuncData} (x_2:nsIn K mainGlobals "any_ware_more" = some (some (.ref fa_2))) (F_any_ware_more:Fun2 K "any_ware_more" "any_ware_more" xi .none fa_2 fd_any_ware_more)
  {fa_7:Addr} {fd_is_greatest:FuncData} (x_7:nsIn K mainGlobals "is_greatest" = some (some (.ref fa_7))) (F_is_greatest:Fun2 K "is_greatest" "is_greatest" v8 .none fa_7 fd_is_greatest)
  {fa_5:Addr} {fd_greatest:FuncData} (x_5:nsIn K mainGlobals "greatest" = some (some (.ref fa_5))) (F_greatest:Fun2 K "greatest" "greatest" kx .none fa_5 fd_greatest)
  {fa_24:Addr} {fd_seldom:FuncData} (x_24:nsIn K mainGlobals "seldom" = some (some (.ref fa_24))) (F_seldom:Fun2 K "seldom" "seldom" q0u .none fa_24 fd_seldom)
  {fa_19:Addr} {fd_law_told:FuncData} (x_19:nsIn K mainGlobals "_law_told" = some (some (.ref fa_19))) (F_law_told:Fun2 K "_law_told" "_law_told" w8 .none fa_19 fd_law_told)
  {fa_law:Addr} {fd_law:FuncData} (x_law:nsIn K mainGlobals "law" = some (some (.ref fa_law))) (F_law:Fun2 K "law" "law" q5o .none fa_law fd_law)
  (z_range:nsIn K mainGlobals "range" = some none)
  (z_tuple:nsIn K mainGlobals "tuple" = some none)
  (z_len:nsIn K mainGlobals "len" = some none)
  (z_max:nsIn K mainGlobals "max" = some none)
  (z_sorted:nsIn K mainGlobals "sorted" = some none)
  (z_min:nsIn K mainGlobals "min" = some none)
  (z_isinstance:nsIn K mainGlobals "isinstance" = some none)
  (z_zip:nsIn K mainGlobals "zip" = some none)
  (z_int:nsIn K mainGlobals "int" = some none)
  (z_bool:nsIn K mainGlobals "bool" = some none)
  (z_sum:nsIn K mainGlobals "sum" = some none)
  (z_dict:nsIn K mainGlobals "dict" = some none)
  (z_all:nsIn K mainGlobals "all" = some none)
  (z_set:nsIn K mainGlobals "set" = some none)
  (z_any:nsIn K mainGlobals "any" = some none)
  : ∃(L:Lam) (tabs:List (Addr×Addr)) (fd:FuncData),(∀p∈L.tab,p.1∈tabs.map (·.2))/\(∀p∈tabs,K.lookup p.2=none/\∃y:Str,((recsOf q).find? (fun e=>e.name==y)).isSome=true/\PySem.W.tabIn K y=some p)/\(∀(s:Shared) (v:Value),BindsTo s fd ⟨[v],[]⟩ [("_law_script",v)])/\∀base:Heap,K.In base->base.Ns mainGlobals mg->q1n mg base->FnOk l.prog w K mg base CX0 19 fa fd ["_law_script"] (qak K):=by
 letI L:Lam:=⟨[(TL_law_sets,"_law_sets.<locals>.<lambda>")]⟩
 have O_Growing:ClsOk K "Growing" C_Growing:=⟨x_Growing,mk_Growing,in_Growing,kp_Growing,⟨pg_Growing,hd_Growing,po_Growing,sa_Growing⟩,cg_Growing,hd_Growing,cc_Growing,cs_Growing,ct_Growing,cm_Growing,qof ciint_Growing cibool_Growing cituple_Growing cilist_Growing cistr_Growing cidict_Growing⟩
 have m_Growing:=mg_of X G x_Growing;have k_17:=F_law_set.kp;have k_14:=F_law_power.kp;have k_15:=F_law_run.kp;have k_12:=F_law_mixed.kp;have k_13:=F_law_pile.kp;have k_10:=F_law_count.kp;have k_11:=F_law_least.kp;have h_law_sets:=qde o_18 hh_18;have t_law_sets:=qlb x_18 l_18 rfl o_18 p_18;have F_law_sets:=qog (st:=x8) l_18 q_18 h_law_sets k_18;have k_9:=F_law_borders.kp;have k_16:=F_law_same.kp;have k_3:=F_at_least.kp;have k_20:=F_mark_of.kp;have k_21:=F_marked.kp;have k_23:=F_one_ware_more.kp;have k_22:=F_one_ware_fewer.kp;have k_6:=F_grown.kp;have k_4:=F_count_marked.kp;have F_Growing_counted:=q8j (st:=zk) l_0 q_0 k_0;have F_Growing_often:=q8j (st:=zx) l_1 q_1 k_1;have k_8:=F_joined.kp;have k_2:=F_any_ware_more.kp;have k_7:=F_is_greatest.kp;have k_5:=F_greatest.kp;have k_24:=F_seldom.kp;have k_19:=F_law_told.kp;have k_law:=F_law.kp;have n_range:=mg_none_of X G z_range;have n_tuple:=mg_none_of X G z_tuple;have n_len:=mg_none_of X G z_len;have n_max:=mg_none_of X G z_max;have n_sorted:=mg_none_of X G z_sorted;have n_min:=mg_none_of X G z_min;have n_isinstance:=mg_none_of X G z_isinstance;have n_zip:=mg_none_of X G z_zip;have n_int:=mg_none_of X G z_int;have n_bool:=mg_none_of X G z_bool;have n_sum:=mg_none_of X G z_sum;have n_dict:=mg_none_of X G z_dict;have n_all:=mg_none_of X G z_all;have n_set:=mg_none_of X G z_set;have n_any:=mg_none_of X G z_any;have hP_L:(TL_law_sets,("_law_sets.<locals>.<lambda>" : Str))∈Lam.tab:=n9.mpr rfl;have hU_L:∀p∈Lam.tab,p.1=TL_law_sets->p.2="_law_sets.<locals>.<lambda>" :=fun p hp _=>by rw [n9.mp hp]
 have e:=hfa.symm.trans (mg_of X G x_law);cases e;have b_17:Binds K _ ["_law_mark"] []:=F_law_set.bindsTo (P:=fun fd=>Binds K fd ["_law_mark"] []) fun _ _ _ _ _ _ s us hk hl=>ln1 (fun _=>.of_eq rfl) us hl;have b_14:Binds K _ ["_law_many"] []:=F_law_power.bindsTo (P:=fun fd=>Binds K fd ["_law_many"] []) fun _ _ _ _ _ _ s us hk hl=>ln1 (fun _=>.of_eq rfl) us hl;have b_15:Binds K _ ["_law_number","_law_wares","_law_most"] []:=F_law_run.bindsTo (P:=fun fd=>Binds K fd ["_law_number","_law_wares","_law_most"] []) fun _ _ _ _ _ _ s us hk hl=>ln3 (fun _ _ _=>.of_eq rfl) us hl;have b_12:Binds K _ ["_law_script","_law_k"] []:=F_law_mixed.bindsTo (P:=fun fd=>Binds K fd ["_law_script","_law_k"] []) fun _ _ _ _ _ _ s us hk hl=>ln2 (fun _ _=>.of_eq rfl) us hl;have b_13:Binds K _ ["_law_script","_law_most_wares"] []:=F_law_pile.bindsTo (P:=fun fd=>Binds K fd ["_law_script","_law_most_wares"] []) fun _ _ _ _ _ _ s us hk hl=>ln2 (fun _ _=>.of_eq rfl) us hl;have b_10:Binds K _ ["_law_pile_here","_law_some"] []:=F_law_count.bindsTo (P:=fun fd=>Binds K fd ["_law_pile_here","_law_some"] []) fun _ _ _ _ _ _ s us hk hl=>ln2 (fun _ _=>.of_eq rfl) us hl;have b_11:Binds K _ ["_law_script","_law_pile_here"] []:=F_law_least.bindsTo (P:=fun fd=>Binds K fd ["_law_script","_law_pile_here"] []) fun _ _ _ _ _ _ s us hk hl=>ln2 (fun _ _=>.of_eq rfl) us hl;have b_18:Binds K _ ["_law_wares"] []:=F_law_sets.bindsTo (P:=fun fd=>Binds K fd ["_law_wares"] []) fun _ _ _ _ _ _ s us hk hl=>ln1 (fun _=>.of_eq rfl) us hl;have b_9:Binds K _ ["_law_pile_here","_law_least_here"] []:=F_law_borders.bindsTo (P:=fun fd=>Binds K fd ["_law_pile_here","_law_least_here"] []) fun _ _ _ _ _ _ s us hk hl=>ln2 (fun _ _=>.of_eq rfl) us hl;have b_16:Binds K _ ["_law_found","_law_due"] []:=F_law_same.bindsTo (P:=fun fd=>Binds K fd ["_law_found","_law_due"] []) fun _ _ _ _ _ _ s us hk hl=>ln2 (fun _ _=>.of_eq rfl) us hl;have b_3:Binds K _ ["pairs","least"] []:=F_at_least.bindsTo (P:=fun fd=>Binds K fd ["pairs","least"] []) fun _ _ _ _ _ _ s us hk hl=>ln2 (fun _ _=>.of_eq rfl) us hl;have b_20:Binds K _ ["some"] []:=F_mark_of.bindsTo (P:=fun fd=>Binds K fd ["some"] []) fun _ _ _ _ _ _ s us hk hl=>ln1 (fun _=>.of_eq rfl) us hl;have b_21:Binds K _ ["pile"] []:=F_marked.bindsTo (P:=fun fd=>Binds K fd ["pile"] []) fun _ _ _ _ _ _ s us hk hl=>ln1 (fun _=>.of_eq rfl) us hl;have b_23:Binds K _ ["some","wares"] []:=F_one_ware_more.bindsTo (P:=fun fd=>Binds K fd ["some","wares"] []) fun _ _ _ _ _ _ s us hk hl=>ln2 (fun _ _=>.of_eq rfl) us hl;have b_22:Binds K _ ["some"] []:=F_one_ware_fewer.bindsTo (P:=fun fd=>Binds K fd ["some"] []) fun _ _ _ _ _ _ s us hk hl=>ln1 (fun _=>.of_eq rfl) us hl;have b_6:Binds K _ ["layer","wares"] []:=F_grown.bindsTo (P:=fun fd=>Binds K fd ["layer","wares"] []) fun _ _ _ _ _ _ s us hk hl=>ln2 (fun _ _=>.of_eq rfl) us hl;have b_4:Binds K _ ["marked_runs","some"] []:=F_count_marked.bindsTo (P:=fun fd=>Binds K fd ["marked_runs","some"] []) fun _ _ _ _ _ _ s us hk hl=>ln2 (fun _ _=>.of_eq rfl) us hl;have b_0:Binds K _ ["self","pile","least"] []:=F_Growing_counted.bindsTo (P:=fun fd=>Binds K fd ["self","pile","least"] []) fun _ _ _ _ _ _ s us hk hl=>ln3 (fun _ _ _=>.of_eq rfl) us hl;have b_1:Binds K _ ["self","pile","least"] []:=F_Growing_often.bindsTo (P:=fun fd=>Binds K fd ["self","pile","least"] []) fun _ _ _ _ _ _ s us hk hl=>ln3 (fun _ _ _=>.of_eq rfl) us hl;have b_8:Binds K _ ["one","other"] []:=F_joined.bindsTo (P:=fun fd=>Binds K fd ["one","other"] []) fun _ _ _ _ _ _ s us hk hl=>ln2 (fun _ _=>.of_eq rfl) us hl;have b_2:Binds K _ ["some","wares"] []:=F_any_ware_more.bindsTo (P:=fun fd=>Binds K fd ["some","wares"] []) fun _ _ _ _ _ _ s us hk hl=>ln2 (fun _ _=>.of_eq rfl) us hl;have b_7:Binds K _ ["some","known","wares"] []:=F_is_greatest.bindsTo (P:=fun fd=>Binds K fd ["some","known","wares"] []) fun _ _ _ _ _ _ s us hk hl=>ln3 (fun _ _ _=>.of_eq rfl) us hl;have b_5:Binds K _ ["pile","least"] []:=F_greatest.bindsTo (P:=fun fd=>Binds K fd ["pile","least"] []) fun _ _ _ _ _ _ s us hk hl=>ln2 (fun _ _=>.of_eq rfl) us hl;have b_24:Binds K _ ["pile","least"] []:=F_seldom.bindsTo (P:=fun fd=>Binds K fd ["pile","least"] []) fun _ _ _ _ _ _ s us hk hl=>ln2 (fun _ _=>.of_eq rfl) us hl;have b_19:Binds K _ ["_law_pile_here","_law_least_here","_law_turn"] []:=F_law_told.bindsTo (P:=fun fd=>Binds K fd ["_law_pile_here","_law_least_here","_law_turn"] []) fun _ _ _ _ _ _ s us hk hl=>ln3 (fun _ _ _=>.of_eq rfl) us hl;refine⟨L,[(cL_law_sets,TL_law_sets)],_,fun p hp=>(by rw [n9.mp hp];exact n9.mpr rfl),fun p hp=>(by rw [n9.mp hp];exact⟨nl_18,_,r_18,t_law_sets⟩),F_law.bindsTo (P:=fun fd=>∀(s:Shared) (v:Value),BindsTo s fd ⟨[v],[]⟩ [("_law_script",v)]) (fun _ _ _ _ _ _ s v=>.of_eq rfl),fun base _ _ B_L=>?_⟩;have o_17:=qgm (P:=l.prog) (w:=w) (mg:=mg) (base:=base) F_law_set n_range n_tuple;have c_17:=Cal.mk o_17 (mg_of X G x_17) k_17;have o_14:=qci (P:=l.prog) (w:=w) (mg:=mg) (base:=base) F_law_power;have c_14:=Cal.mk o_14 (mg_of X G x_14) k_14;have o_15:=qgp (P:=l.prog) (w:=w) (mg:=mg) (base:=base) F_law_run c_17 b_17 c_14 b_14;have c_15:=Cal.mk o_15 (mg_of X G x_15) k_15;have o_12:=qck (P:=l.prog) (w:=w) (mg:=mg) (base:=base) F_law_mixed n_len;have c_12:=Cal.mk o_12 (mg_of X G x_12) k_12;have o_13:=qdm (P:=l.prog) (w:=w) (mg:=mg) (base:=base) F_law_pile c_15 b_15 c_12 b_12 n_range n_len n_tuple;have c_13:=Cal.mk o_13 (mg_of X G x_13) k_13;have o_10:=qcm (P:=l.prog) (w:=w) (mg:=mg) (base:=base) F_law_count n_len;have c_10:=Cal.mk o_10 (mg_of X G x_10) k_10;have o_11:=qco (P:=l.prog) (w:=w) (mg:=mg) (base:=base) F_law_least c_10 b_10 c_17 b_17 c_14 b_14 n_max n_len;have c_11:=Cal.mk o_11 (mg_of X G x_11) k_11;have o_18:=qdp (P:=l.prog) (w:=w) (mg:=mg) (base:=base) c_17 b_17 c_14 b_14 n_sorted n_range n_len F_law_sets hP_L hU_L B_L;have c_18:=Cal.mk o_18 (mg_of X G x_18) k_18;have o_9:=q8w (P:=l.prog) (w:=w) (mg:=mg) (base:=base) F_law_borders c_18 b_18 c_10 b_10 n_tuple n_sorted n_range n_max n_min;have c_9:=Cal.mk o_9 (mg_of X G x_9) k_9;have o_16:=qds (P:=l.prog) (w:=w) (mg:=mg) (base:=base) F_law_same (mg_of X G x_16) k_16 b_16 n_isinstance n_tuple n_zip n_int n_bool n_len 16;have c_16:=Cal.mk o_16 (mg_of X G x_16) k_16;have o_3:=qdv (P:=l.prog) (w:=w) (mg:=mg) (base:=base) F_at_least n_tuple;have c_3:=Cal.mk o_3 (mg_of X G x_3) k_3;have o_20:=qgs (P:=l.prog) (w:=w) (mg:=mg) (base:=base) F_mark_of n_sum;have c_20:=Cal.mk o_20 (mg_of X G x_20) k_20;have o_21:=qjb (P:=l.prog) (w:=w) (mg:=mg) (base:=base) F_marked c_20 b_20;have c_21:=Cal.mk o_21 (mg_of X G x_21) k_21;have o_23:=q6v (P:=l.prog) (w:=w) (mg:=mg) (base:=base) F_one_ware_more n_range;have c_23:=Cal.mk o_23 (mg_of X G x_23) k_23;have o_22:=q5s (P:=l.prog) (w:=w) (mg:=mg) (base:=base) F_one_ware_fewer n_range n_len;have c_22:=Cal.mk o_22 (mg_of X G x_22) k_22;have o_6:=qm5 (P:=l.prog) (w:=w) (mg:=mg) (base:=base) F_grown c_23 b_23 c_22 b_22 n_dict n_all;have c_6:=Cal.mk o_6 (mg_of X G x_6) k_6;have o_4:=q85 (P:=l.prog) (w:=w) (mg:=mg) (base:=base) F_count_marked c_20 b_20 n_sum;have c_4:=Cal.mk o_4 (mg_of X G x_4) k_4;have o_0:=q5c (P:=l.prog) (w:=w) (mg:=mg) (base:=base) F_Growing_counted c_21 b_21 c_6 b_6 c_4 b_4 c_3 b_3 n_tuple;have c_0:CalM l.prog w K mg base "Growing" "counted" C_Growing _ _ _ _ _ _:=⟨o_0,⟨x_0,i_0,k_0⟩⟩
 have o_1:=q6y (P:=l.prog) (w:=w) (mg:=mg) (base:=base) F_Growing_often O_Growing c_3 b_3 c_0 b_0;have c_1:CalM l.prog w K mg base "Growing" "often" C_Growing _ _ _ _ _ _:=⟨o_1,⟨x_1,i_1,k_1⟩⟩
 have o_8:=qje (P:=l.prog) (w:=w) (mg:=mg) (base:=base) F_joined n_tuple n_sorted n_set;have c_8:=Cal.mk o_8 (mg_of X G x_8) k_8;have o_2:=q72 (P:=l.prog) (w:=w) (mg:=mg) (base:=base) F_any_ware_more c_8 b_8 n_range;have c_2:=Cal.mk o_2 (mg_of X G x_2) k_2;have o_7:=q90 (P:=l.prog) (w:=w) (mg:=mg) (base:=base) F_is_greatest c_2 b_2 n_any;have c_7:=Cal.mk o_7 (mg_of X G x_7) k_7;have o_5:=qdx (P:=l.prog) (w:=w) (mg:=mg) (base:=base) F_greatest O_Growing m_Growing c_1 b_1 c_7 b_7 n_dict n_tuple;have c_5:=Cal.mk o_5 (mg_of X G x_5) k_5;have o_24:=qjh (P:=l.prog) (w:=w) (mg:=mg) (base:=base) F_seldom O_Growing m_Growing c_0 b_0 n_tuple;have c_24:=Cal.mk o_24 (mg_of X G x_24) k_24;have o_19:=qe0 (P:=l.prog) (w:=w) (mg:=mg) (base:=base) F_law_told c_9 b_9 c_16 b_16 c_5 b_5 c_24 b_24;have c_19:=Cal.mk o_19 (mg_of X G x_19) k_19;exact qqy (qro (P:=l.prog) (w:=w) (mg:=mg) (base:=base) F_law c_13 b_13 c_11 b_11 c_12 b_12 c_19 b_19 n_len) hm
end My
namespace PySem.W.Fast
theorem tw13485404407902145304 : True := trivial
theorem tw10186044005900196652 : True := trivial
theorem tw11873284261359349201 : True := trivial
theorem tw14214751935873527729 : True := trivial
theorem tw4193229640171042157 : True := trivial
theorem tw14516443243225429480 : True := trivial
theorem tw7499723291186612878 : True := trivial
theorem tw9511492588951960632 : True := trivial
theorem tw11266868284284515312 : True := trivial
theorem tw12210433969159650619 : True := trivial
theorem tw17890012591761833493 : True := trivial
theorem tw9075524336381068221 : True := trivial
theorem tw8187240890659607028 : True := trivial
theorem tw9725086145974830326 : True := trivial
theorem tw12607207356075731386 : True := trivial
end PySem.W.Fast
open PySem PySem.W PyProof.Rows
local macro_rules | `(tactic| walk_at "F")=> `(tactic| (letI:DL.Lam:=⟨[]⟩;exact DL.q8j (by k_is) (by k_is) (by k_is)))
set_option maxHeartbeats 0 in
theorem PySem.Challenge.cw_oftentogether_k23_greatest_and_smallest_holds : PySem.Challenge.rw_oftentogether_k23_greatest_and_smallest.Holds := by
 w_on;o_law;k_head;(case hw=>w_witness2)
 k_fill
 refine DL.qoh (l:=PySem.Challenge.rw_oftentogether_k23_greatest_and_smallest) (k:=19) (x:="_law_script") rfl rfl ⟨rfl,by decide,by decide⟩ (fun w h Y=>by first|exact PySem.W.kIn_of Y|exact PySem.W.km_in_of Y) ?F
 case F=>
  intro w mg fa h KX G hmg;refine' My.all_mk KX G hmg My.qmp ?x_Growing ?mk_Growing ?in_Growing ?kp_Growing ?pg_Growing ?hd_Growing ?po_Growing ?sa_Growing ?cg_Growing ?cc_Growing ?cs_Growing ?ct_Growing ?cm_Growing ?ciint_Growing ?cibool_Growing ?cituple_Growing ?cilist_Growing ?cistr_Growing ?cidict_Growing ?x_17 ?F_law_set ?x_14 ?F_law_power ?x_15 ?F_law_run ?x_12 ?F_law_mixed ?x_13 ?F_law_pile ?x_10 ?F_law_count ?x_11 ?F_law_least ?x_18 ?l_18 ?q_18 ?k_18 ?o_18 ?p_18 ?hh_18 ?nl_18 ?r_18 ?x_9 ?F_law_borders ?x_16 ?F_law_same ?x_3 ?F_at_least ?x_20 ?F_mark_of ?x_21 ?F_marked ?x_23 ?F_one_ware_more ?x_22 ?F_one_ware_fewer ?x_6 ?F_grown ?x_4 ?F_count_marked ?x_0 ?i_0 ?l_0 ?q_0 ?k_0 ?x_1 ?i_1 ?l_1 ?q_1 ?k_1 ?x_8 ?F_joined ?x_2 ?F_any_ware_more ?x_7 ?F_is_greatest ?x_5 ?F_greatest ?x_24 ?F_seldom ?x_19 ?F_law_told ?x_law ?F_law ?z_range ?z_tuple ?z_len ?z_max ?z_sorted ?z_min ?z_isinstance ?z_zip ?z_int ?z_bool ?z_sum ?z_dict ?z_all ?z_set ?z_any
  (case x_Growing=>k_is)
  (case mk_Growing=>k_is)
  (case in_Growing=>k_is)
  (case kp_Growing=>k_is)
  (case pg_Growing=>k_is)
  (case hd_Growing=>k_is)
  (case po_Growing=>k_is)
  (case sa_Growing=>k_is)
  (case cg_Growing=>k_is)
  (case cc_Growing=>k_is)
  (case cs_Growing=>k_is)
  (case ct_Growing=>k_is)
  (case cm_Growing=>k_is)
  (case ciint_Growing=>k_is)
  (case cibool_Growing=>k_is)
  (case cituple_Growing=>k_is)
  (case cilist_Growing=>k_is)
  (case cistr_Growing=>k_is)
  (case cidict_Growing=>k_is)
  (case x_17=>k_is)
  (case F_law_set=>walk_at "F")
  (case x_14=>k_is)
  (case F_law_power=>walk_at "F")
  (case x_15=>k_is)
  (case F_law_run=>walk_at "F")
  (case x_12=>k_is)
  (case F_law_mixed=>walk_at "F")
  (case x_13=>k_is)
  (case F_law_pile=>walk_at "F")
  (case x_10=>k_is)
  (case F_law_count=>walk_at "F")
  (case x_11=>k_is)
  (case F_law_least=>walk_at "F")
  (case x_18=>k_is)
  (case l_18=>k_is)
  (case q_18=>k_is)
  (case k_18=>k_is)
  (case o_18=>k_is)
  (case p_18=>first|rfl|decide +kernel)
  (case hh_18=>first|rfl|decide +kernel)
  (case nl_18=>first|kernel_rfl|rfl)
  (case r_18=>first|rfl|decide +kernel)
  (case x_9=>k_is)
  (case F_law_borders=>walk_at "F")
  (case x_16=>k_is)
  (case F_law_same=>walk_at "F")
  (case x_3=>k_is)
  (case F_at_least=>walk_at "F")
  (case x_20=>k_is)
  (case F_mark_of=>walk_at "F")
  (case x_21=>k_is)
  (case F_marked=>walk_at "F")
  (case x_23=>k_is)
  (case F_one_ware_more=>walk_at "F")
  (case x_22=>k_is)
  (case F_one_ware_fewer=>walk_at "F")
  (case x_6=>k_is)
  (case F_grown=>walk_at "F")
  (case x_4=>k_is)
  (case F_count_marked=>walk_at "F")
  (case x_0=>k_is)
  (case i_0=>k_is)
  (case l_0=>k_is)
  (case q_0=>k_is)
  (case k_0=>k_is)
  (case x_1=>k_is)
  (case i_1=>k_is)
  (case l_1=>k_is)
  (case q_1=>k_is)
  (case k_1=>k_is)
  (case x_8=>k_is)
  (case F_joined=>walk_at "F")
  (case x_2=>k_is)
  (case F_any_ware_more=>walk_at "F")
  (case x_7=>k_is)
  (case F_is_greatest=>walk_at "F")
  (case x_5=>k_is)
  (case F_greatest=>walk_at "F")
  (case x_24=>k_is)
  (case F_seldom=>walk_at "F")
  (case x_19=>k_is)
  (case F_law_told=>walk_at "F")
  (case x_law=>k_is)
  (case F_law=>walk_at "F")
  (case z_range=>k_is)
  (case z_tuple=>k_is)
  (case z_len=>k_is)
  (case z_max=>k_is)
  (case z_sorted=>k_is)
  (case z_min=>k_is)
  (case z_isinstance=>k_is)
  (case z_zip=>k_is)
  (case z_int=>k_is)
  (case z_bool=>k_is)
  (case z_sum=>k_is)
  (case z_dict=>k_is)
  (case z_all=>k_is)
  (case z_set=>k_is)
  (case z_any=>k_is)
