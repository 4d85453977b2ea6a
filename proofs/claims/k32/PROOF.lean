import PyProof.Rows.All
import Wide.All
import OpenK.AllK
import Wide.FinOn
import Lean
import PyProof.EqAt
import PyProof.EqKinds
import PyProof.TupleCall
import PyProof.AutoSeq1
import PyProof.NeKinds
import PySem.SetOps
import PyProof.SetKind
import PyProof.DictKinds
import PyProof.DictStraight
import PyProof.FactsAll.set_1
import PyProof.FactsAll.set_2
import PyProof.FactsAll.set_0
import PyProof.FactsAll.set_3
import PyProof.Slots
import PyProof.Rows.SetFrom
import PyProof.TupleIter
import PyProof.Walks
import PyProof.CollectWalk
import PyProof.Rows.SortShell
import PyProof.IsiH_list
import PyProof.AttrMiss
import KE.KDictOf
import PyProof.DictRoadsH
import KE.KDictList
import PyProof.CollectIter
import PyProof.TupleOfGen
import KE.KRevIter
import PyProof.ListNew
import PyProof.IsiH_tuple
import PyProof.Rows.SortRuns
import PyProof.ListRange
import KE.KSortTup
import KE.KLam
import KE.KNestM
import PySem.Challenge.RW_oftentogether_k32_sayings_are_so
set_option maxRecDepth 100000
set_option maxHeartbeats 4000000
set_option Elab.async false
set_option linter.all false
abbrev g0:=@PySem.wpAny_bind
abbrev g7:=@Option.bind_eq_some_iff
abbrev g8:=@PySem.wpAny_pure
abbrev g9:=@Option.bind_some
abbrev gb:=@PySem.Heap.get?_push_of_some
abbrev gc:=@List.mem_cons_self
abbrev gd:=@List.map_cons
abbrev gf:=@List.mem_cons_of_mem
abbrev gh:=@List.length_map
abbrev gi:=@Nat.le_refl
abbrev gj:=@List.size_toArray
abbrev gm:=@Bool.and_eq_true
abbrev gq:=@if_pos
abbrev gr:=@Nat.lt_of_lt_of_le
abbrev gu:=@Option.some.inj
abbrev gv:=@decide_eq_true
abbrev gw:=@Option.map_eq_some_iff
abbrev gz:=@PySem.Heap.get?_push_size
abbrev m6:=@if_neg
abbrev m8:=@Bool.false_eq_true
abbrev m9:=@PySem.Heap.lt_size
abbrev ma:=@List.getElem?_set_ne
abbrev md:=@List.mem_map
abbrev mf:=@Nat.ne_of_lt
abbrev mh:=@Bool.false_ne_true
abbrev mi:=@decide_eq_false
abbrev mj:=@List.getElem?_map
abbrev ml:=@List.mem_cons
abbrev mm:=@List.getElem?_eq_getElem
abbrev mn:=@List.mem_filter
abbrev mq:=@Nat.le_trans
abbrev mv:=@List.map_map
abbrev mw:=@Option.map_some
abbrev mx:=@List.pairwise_map
abbrev my:=@Int.toNat_natCast
abbrev n4:=@Ne.symm
abbrev n5:=@decide_eq_true_eq
abbrev n6:=@List.all_eq_true
abbrev n8:=@List.mem_append_right
abbrev n9:=@List.mem_range
abbrev ng:=@List.length_append
abbrev nh:=@List.length_filter_le
abbrev ni:=@Nat.not_lt_zero
abbrev nj:=@List.getElem?_eq_some_iff
abbrev nk:=@PySem.wpAny_holding
abbrev nt:=@List.filter_cons
abbrev nu:=@PySem.Heap.size_update
abbrev nv:=@List.mem_singleton
abbrev ny:=@decide_eq_true_iff
abbrev nz:=@PySem.wpAny_call_entry
abbrev p5:=@List.length_cons
abbrev p6:=@Bool.eq_iff_iff
abbrev p7:=@decide_eq_false_iff_not
abbrev p8:=@if_false
abbrev p9:=@Nat.lt_succ_self
abbrev pd:=@List.Pairwise.imp_of_mem
abbrev pf:=@PySem.wpAny_ite_split
abbrev ph:=@PyProof.Rows.wpS_bind
abbrev pj:=@PySem.Heap.get?_push_ne
abbrev pk:=@congrArg
abbrev pq:=@List.length_take
abbrev pz:=@List.lookup_cons
abbrev t5:=@PySem.wpAny_mono
abbrev t6:=@Nat.zero_le
abbrev t7:=@PySem.Heap.get?_update_ne
abbrev t8:=@PySem.wpAny_askSetting
abbrev t9:=@Int.eq_ofNat_of_zero_le
abbrev td:=@of_decide_eq_true
abbrev tf:=@if_true
abbrev ti:=@List.map_append
abbrev tq:=@PySem.PassesOwn.never
abbrev tu:=@List.mem_map_of_mem
abbrev tw:=@List.flatMap_cons
abbrev tx:=@PyProof.Rows.slot_tuple_getitem
abbrev u5:=@List.getElem?_cons_succ
abbrev u6:=@PyProof.Rows.size_push'
abbrev u7:=@List.Pairwise.filter
abbrev u9:=@PySem.Around.under_plainId
abbrev uc:=@List.getElem?_append_left
abbrev ud:=@List.pairwise_iff_getElem
abbrev ue:=@Array.length_toList
abbrev uf:=@PySem.Heap.SameBut.update
abbrev ug:=@PySem.wpAny_newObj_type
abbrev uh:=@Bool.not_true
abbrev ui:=@PySem.AutoSeq1.wpAny_loadPart'
abbrev uj:=@List.mem_append
abbrev uk:=@PySem.codeAny_builtin
abbrev um:=@List.nil_append
abbrev uo:=@List.mem_of_getElem?
abbrev uq:=@PyProof.Rows.wpS_pure
abbrev ur:=@Nat.pow_le_pow_right
abbrev uw:=@Nat.ne_of_gt
abbrev ux:=@List.getElem?_append_right
abbrev uy:=@List.filter_congr
abbrev uz:=@List.filter_map
abbrev g00:=@PySem.wpAny_typeNameOfWhole_keyiter
abbrev g01:=@Option.isSome_iff_exists
abbrev g02:=@List.map_nil
abbrev g03:=@Nat.lt_of_le_of_lt
abbrev g04:=@PySem.F.slot_dict_keyiterator_next
abbrev g05:=@Nat.eq_of_testBit_eq
abbrev g06:=@List.getElem?_replicate
abbrev g07:=@PySem.wpAny_callSpecial?_slot
abbrev g08:=@PyProof.Rows.callWith_type1
abbrev g09:=@List.nodup_cons
abbrev g0a:=@Int.emod_nonneg
abbrev g0b:=@PySem.wpAny_rule
abbrev g0c:=@PySem.Heap.size_push
abbrev g0d:=@List.pairwise_cons
abbrev g0e:=@PySem.builtinLookup_eq_fast
abbrev g0f:=@Bool.or_eq_true
abbrev g0g:=@PySem.AutoSeq1.sub_tuple_tuple
abbrev g0h:=@PySem.wpAny_typeNameOf_keyiter
abbrev g0i:=@PySem.wpAny_truthy_bool
abbrev g0j:=@Option.some.injEq
abbrev g0k:=@List.append_assoc
abbrev g0l:=@Nat.lt_succ_of_lt
abbrev g0m:=@List.getElem?_cons_zero
abbrev g0n:=@List.filterMap_cons
abbrev g0o:=@List.replicate_succ
abbrev g0p:=@List.length_drop
abbrev g0q:=@PySem.wpAny_isInstance
abbrev g0r:=@Nat.testBit_or
abbrev g0s:=@PySem.Heap.get?_update_other
abbrev g0t:=@Nat.le_succ
abbrev g0u:=@List.take_of_length_le
abbrev g0v:=@List.range_succ_eq_map
abbrev g0w:=@Nat.le_of_lt
abbrev g0x:=@PySem.wpAny_Call_Name_kw
abbrev g0y:=@PySem.wpAny_typeOf
abbrev g0z:=@Nat.lt_trans
abbrev g10:=@PyProof.Rows.F.plain_set_update_loop
abbrev g11:=@getElem?_pos
abbrev g12:=@PySem.wpAny_passesOwn
abbrev g13:=@PySem.wpAny_loadPart'
abbrev g14:=@List.length_set
abbrev g15:=@List.take_append_drop
abbrev g16:=@PySem.Heap.get?_update_self
abbrev g17:=@PyProof.Rows.get?_update_seq
abbrev g18:=@PySem.wpAny_isOneOf_keyiter
abbrev g19:=@List.length_zip
abbrev g1a:=@Nat.testBit_and
abbrev g1b:=@Nat.lt_irrefl
abbrev g1c:=@PySem.wpAny_attempt
abbrev g1d:=@PySem.plainId_quiet
abbrev g1e:=@Array.perm_iff_toList_perm
abbrev g1f:=@List.length_range
abbrev g1g:=@List.pairwise_append
abbrev g1h:=@Classical.byContradiction
abbrev g1i:=@Bool.not_false
abbrev g1j:=@List.not_mem_nil
abbrev g1k:=@List.getElem_mem
abbrev g1l:=@List.cons_append
abbrev g1m:=@PySem.F.called_set
abbrev g1n:=@Nat.le_add_right
abbrev g1o:=@PySem.wpAny_forIn_list
abbrev g1p:=@Nat.gcd_pos_of_pos_right
abbrev g1q:=@PySem.mem_of_lookup
abbrev g1r:=@Int.toNat_of_nonneg
abbrev g1s:=@List.map_congr_left
abbrev g1t:=@PyProof.Rows.listUpdate_at
abbrev g1u:=@List.append_nil
abbrev g1v:=@PySem.typeLookup_type
abbrev g1w:=@Int.emod_lt_of_pos
abbrev g1x:=@List.filter_filter
abbrev g1y:=@Nat.gcd_zero_right
abbrev g1z:=@PySem.sizeLine_eq
abbrev g20:=@List.eq_nil_of_length_eq_zero
abbrev g21:=@PySem.Heap.SameBut.refl
abbrev g22:=@List.flatten_cons
abbrev g23:=@PySem.wpAny_storeSet_of
abbrev g24:=@PySem.codeAny_mono
abbrev g25:=@List.cons.sizeOf_spec
abbrev g26:=@PySem.isSubtype_type
abbrev g27:=@Array.getElem?_toList
abbrev g28:=@Nat.zero_add
abbrev g29:=@List.idxOf_lt_length_of_mem
abbrev g2a:=@Option.join_some
abbrev g2b:=@PySem.codeAny_call_builtin
abbrev g2c:=@PySem.F.slot_tuple_mul
abbrev g2d:=@List.nodup_range
abbrev g2e:=@decide_eq_decide
abbrev g2f:=@Int.fdiv_eq_ediv_of_nonneg
abbrev g2g:=@List.perm_ext_iff_of_nodup
abbrev g2h:=@Bool.and_self
abbrev g2i:=@Bool.true_and
abbrev g2j:=@List.sum_cons
abbrev g2k:=@beq_eq_false_iff_ne
abbrev g2l:=@Nat.mul_div_cancel'
abbrev g2m:=@List.drop_eq_getElem_cons
abbrev g2n:=@PySem.wpAny_specialOf
abbrev g2o:=@PySem.F.slot_tuple_getattribute
abbrev g2p:=@List.getElem?_take_of_lt
abbrev g2q:=@PySem.F.args_tuple_add_2
abbrev g2r:=@List.filterMap_map
abbrev g2s:=@Array.forIn_toList
abbrev g2t:=@PyProof.Rows.F.entry_set_update_loop
abbrev g2u:=@PySem.F.slot_list_getattribute
abbrev g2v:=@PySem.tupleKind_room_in1
abbrev g2w:=@ite_congr
abbrev g2x:=@PyProof.Rows.wpS_forRange
abbrev g2y:=@Nat.pos_of_ne_zero
abbrev g2z:=@Nat.gcd_comm
abbrev g30:=@beq_iff_eq
abbrev g31:=@PySem.wpAny_call
abbrev g32:=@PySem.F.entry_tuple_add
abbrev g33:=@PySem.wpAny_pyIter_list
abbrev g34:=@PySem.wpAny_setState_of
abbrev g35:=@bne_self_eq_false
abbrev g36:=@PySem.F.slot_tuple_hash
abbrev g37:=@Nat.or_lt_two_pow
abbrev g38:=@PySem.F.slot_tuple_add
abbrev g39:=@List.pairwise_lt_range
abbrev g3a:=@List.map_id
abbrev g3b:=@List.filter_eq_nil_iff
abbrev g3c:=@List.all_cons
abbrev g3d:=@List.map_take
abbrev g3e:=@PySem.wpAny_newList
abbrev g3f:=@Bool.and_true
abbrev g3g:=@Nat.add_assoc
abbrev g3h:=@Nat.mul_assoc
abbrev g3i:=@List.map_snd_zip
abbrev g3j:=@List.range'_succ
abbrev g3k:=@Nat.zero_testBit
abbrev g3l:=@List.length_singleton
abbrev g3m:=@PySem.wpAny_notOrdered_dict
abbrev g3n:=@PySem.F.slot_dict_get
abbrev g3o:=@PySem.isSubtype_tuple_tuple
abbrev g3p:=@List.mem_append_left
abbrev g3q:=@PySem.wpAny_execs_nil
abbrev g3r:=@List.of_mem_zip
abbrev g3s:=@PySem.call_meets
abbrev g3t:=@List.forIn_cons
abbrev g3u:=@Nat.min_self
abbrev g3v:=@PySem.wpAny_ite_false
abbrev g3w:=@Nat.mod_lt
abbrev g3x:=@PySem.intKind_is
abbrev g3y:=@PySem.F.args_dict_keyiterator_next_1
abbrev g3z:=@PySem.F.slot_tuple_eq
abbrev g40:=@List.range_eq_range'
abbrev g41:=@Int.zero_add
abbrev g42:=@PySem.F.entry_dict_keyiterator_next
abbrev g43:=@PyProof.Rows.getElem?_mirror_all
abbrev g44:=@Nat.mul_le_mul_left
abbrev g45:=@PySem.BindsTo.of_defaults
abbrev g46:=@Bool.false_and
abbrev g47:=@List.take_succ
abbrev g48:=@PySem.wpAny_fieldsOf
abbrev g49:=@PySem.wpAny_seqItems
abbrev g4a:=@List.dropLast_concat_getLast
abbrev g4b:=@PyProof.Rows.seqEpoch_at
abbrev g4c:=@decide_true
abbrev g4d:=@List.mem_filterMap
abbrev g4e:=@Int.natCast_nonneg
abbrev g4f:=@PySem.F.attrBase_ValueError
abbrev g4g:=@PySem.wpAny_pyIter_tuple
abbrev g4h:=@PySem.IsiPair.dict_tuple
abbrev g4i:=@PySem.F.args_tuple_mul_2
abbrev g4j:=@List.getElem_idxOf
abbrev g4k:=@List.zip_cons_cons
abbrev g4l:=@PySem.wpAny_tupleItemsOf
abbrev g4m:=@PySem.Paired.length
abbrev g4n:=@Bool.false_or
abbrev g4o:=@List.map_drop
abbrev g4p:=@List.take_sublist
abbrev g4q:=@List.getElem?_set
abbrev g4r:=@PySem.IsiPair.dict_bool
abbrev g4s:=@PySem.IsiPair.dict_list
abbrev g4t:=@PySem.IsiPair.dict_dict
abbrev g4u:=@PySem.F.entry_tuple_mul
abbrev g4v:=@Function.comp_def
abbrev g4w:=@PySem.wpAny_pyIter_slot
abbrev g4x:=@PySem.atKey_none_of_get
abbrev g4y:=@PySem.wpAny_dictEntries
abbrev g4z:=@List.zip_nil_left
abbrev g50:=@Nat.mul_left_comm
abbrev g51:=@List.getElem_append_right
abbrev g52:=@Array.getElem?_eq_getElem
abbrev g53:=@List.findIdx?_eq_none_iff
abbrev g54:=@List.mem_of_find?_eq_some
abbrev g55:=@List.getElem_inj
abbrev g56:=@PySem.concat_meets
abbrev g57:=@PySem.noFill_tuple_add
abbrev g58:=@List.drop_length
abbrev g59:=@PySem.IsiPair.dict_int
abbrev g5a:=@PySem.IsiPair.dict_str
abbrev g5b:=@List.take_length
abbrev g5c:=@PySem.AutoSeq1.idx_int
abbrev g5d:=@or_false
abbrev g5e:=@List.getElem_append_left
abbrev g5f:=@Nat.add_zero
abbrev g5g:=@PySem.atKey_of_get
abbrev g5h:=@decide_false
abbrev g5i:=@PySem.F.plainAttrs_list
abbrev g5j:=@List.length_eq_zero_iff
abbrev g5k:=@List.pairwise_singleton
abbrev g5l:=@PySem.SeqAt.EqAt.same
abbrev g5m:=@PySem.W.kia_one
abbrev g5n:=@PySem.wpAny_updateSeq
abbrev g5o:=@List.length_nil
abbrev g5p:=@PySem.wpAny_dictEpoch
abbrev g5q:=@List.cons.injEq
abbrev g5r:=@Nat.and_le_left
abbrev g5s:=@List.getElem?_set_self
abbrev g5t:=@PySem.W.cellsFrom_some
abbrev g5u:=@List.sum_replicate_nat
abbrev g5v:=@List.getElem_cons_succ
abbrev g5w:=@PySem.F.entry_dict_get
abbrev g5x:=@Int.one_mul
abbrev g5y:=@Nat.gcd_rec
abbrev g5z:=@Nat.testBit_lt_two_pow
abbrev g60:=@Nat.mul_pos
abbrev g61:=@Nat.pow_pos
abbrev g62:=@List.length_replicate
abbrev g63:=@List.drop_zero
abbrev g64:=@List.Perm.refl
abbrev g65:=@List.getElem?_eq_none
abbrev g66:=@List.mem_iff_getElem?
abbrev g67:=@Bool.and_eq_false_iff
abbrev g68:=@List.sizeOf_lt_of_mem
abbrev g69:=@Option.some_or
abbrev g6a:=@Nat.not_lt
abbrev g6b:=@Array.ext'
abbrev g6c:=@Int.lt_irrefl
abbrev g6d:=@Nat.le_of_eq
abbrev g6e:=@List.all_map
abbrev g6f:=@Nat.mul_comm
abbrev g6g:=@Int.le_trans
abbrev g6h:=@Nat.pow_succ
namespace L2
open PySem PySem.Spec PyProof.Rows
abbrev Key:=Sum Int Str
def qqr:Key->Value->Bool
 | .inl k,v=>Value.isInt k v
 | .inr x,v=>Value.isStrOf x v
def qxm(w:World): Key->Int
 | .inl k=>hashInt k
 | .inr x=>hashStr w x
theorem xv:∀ {k:Key} {v:Value},qqr k v=true->(∃i t,k=Sum.inl i/\v=Value.int i t)\/(∃x t,k=Sum.inr x/\v=Value.str x t)
 | .inl i,v,h=>by
  obtain⟨t,e⟩:=Value.isInt_shape (k:=i) (v:=v) h;exact .inl ⟨i,t,rfl,e⟩
 | .inr x,v,h=>by
  obtain⟨t,e⟩:=Value.isStrOf_shape (x:=x) (v:=v) h;exact .inr ⟨x,t,rfl,e⟩
theorem qth(a b:Int): decide ((Sum.inl a:Key)=Sum.inl b)=(a==b):=by
 by_cases e:a=b
 ·subst e;simp
 ·have h:¬(Sum.inl a:Key)=Sum.inl b:=fun q=>e (Sum.inl.inj q)
  rw [mi h];exact(g2k.mpr e).symm
theorem qti(a b:Str): decide ((Sum.inr a:Key)=Sum.inr b)=decide (a=b):=by
 by_cases e:a=b
 ·subst e;simp
 ·have h:¬(Sum.inr a:Key)=Sum.inr b:=fun q=>e (Sum.inr.inj q)
  rw [mi h,mi e]
theorem qtj(a:Int)(b:Str): decide ((Sum.inl a:Key)=Sum.inr b)=false:=mi (fun q=>nomatch q)
theorem qtk(a:Str)(b:Int): decide ((Sum.inr a:Key)=Sum.inl b)=false:=mi (fun q=>nomatch q)
def mixKind(prog:Program)(w:World): PySem.KeyKind prog w Key where
 is:=qqr
 hash:=qxm w
 inj:=fun v a b ha hb=>by
  rcases xv ha with⟨i,t,rfl,rfl⟩|⟨x,t,rfl,rfl⟩
  ·rcases xv hb with⟨j,u,rfl,e⟩|⟨y,u,rfl,e⟩
   ·injection e with e1 _;rw [e1]
   ·exact nomatch e
  ·rcases xv hb with⟨j,u,rfl,e⟩|⟨y,u,rfl,e⟩
   ·exact nomatch e
   ·injection e with e1 _;rw [e1]
 byValue:=fun k v h=>by
  rcases xv h with⟨i,t,rfl,rfl⟩|⟨x,t,rfl,rfl⟩ <;> rfl
 pyHash:=fun hv h=>by
  rcases xv hv with⟨i,t,rfl,rfl⟩|⟨x,t,rfl,rfl⟩
  ·exact wpAny_pyHash_int h
  ·exact wpAny_pyHash_str h
 eqBool:=fun hu hv h=>by
  rcases xv hu with⟨i,t,rfl,rfl⟩|⟨x,t,rfl,rfl⟩
  ·rcases xv hv with⟨j,u,rfl,rfl⟩|⟨y,u,rfl,rfl⟩
   ·rw [qth] at h;exact wpAny_eqBool_int h
   ·rw [qtj] at h;exact SeqAt.EqAt.int_str i t y u _ _ _ _ h
  ·rcases xv hv with⟨j,u,rfl,rfl⟩|⟨y,u,rfl,rfl⟩
   ·rw [qtk] at h;exact SeqAt.EqAt.str_int x t j u _ _ _ _ h
   ·rw [qti] at h;exact wpAny_eqBool_str h
 «strs» :=fun k x t v h=>by
  rcases xv h with⟨i,u,rfl,e⟩|⟨y,u,rfl,e⟩
  ·exact nomatch e
  ·injection e with e1 _
   subst e1;cases v <;> rfl
inductive V where
 | non|bl (b:Bool)|int (i:Int)|str (x:Str)|byt (b:Array UInt8)|flt (b:UInt64)|ref (a:Addr)|ty (n:String)
 deriving DecidableEq
def RelV:V->Value->Prop
 | .non,u=>u=Value.none
 | .bl b,u=>u=Value.bool b
 | .int i,u=>∃t,u=Value.int i t
 | .str x,u=>∃t,u=Value.str x t
 | .byt b,u=>∃t,u=Value.bytes b t
 | .flt b,u=>∃t,u=Value.float b t
 | .ref a,u=>u=Value.ref a
 | .ty n,u=>u=Value.type n
abbrev Vals:List V->List Value->Prop:=Paired RelV
theorem Vals.length{xs:List V}{us:List Value}(r:Vals xs us): xs.length=us.length:=g4m r
theorem Vals.get:∀ {xs:List V} {us:List Value} {i:Nat} {x:V},Vals xs us->xs[i]? = some x->∃u,us[i]? = some u/\RelV x u
 | _,_,_,_,.nil,e=>by simp at e
 | _,_,0,_,.cons r _,e=>by simp at e;subst e;exact⟨_,rfl,r⟩
 | _,_,i+1,x,.cons _ t,e=>by
  obtain⟨u,h1,h2⟩:=Vals.get (i:=i) (x:=x) t (by simpa using e);exact⟨u,by simpa using h1,h2⟩
theorem Vals.append:∀ {xs ys:List V} {us ws:List Value},Vals xs us->Vals ys ws->Vals (xs++ys) (us++ws)
 | _,_,_,_,.nil,s=>s
 | _,_,_,_,.cons r t,s=>.cons r (Vals.append t s)
theorem Vals.take:∀ {xs:List V} {us:List Value} (n:Nat),Vals xs us->Vals (xs.take n) (us.take n)
 | _,_,0,_=>.nil
 | _,_,_+1,.nil=>.nil
 | _,_,n+1,.cons r t=>.cons r (Vals.take n t)
theorem Vals.drop:∀ {xs:List V} {us:List Value} (n:Nat),Vals xs us->Vals (xs.drop n) (us.drop n)
 | _,_,0,r=>r
 | _,_,_+1,.nil=>.nil
 | _,_,n+1,.cons _ t=>Vals.drop n t
def RelO:Option V->Option Value->Prop
 | some v,some u=>RelV v u
 | none,none=>True
 | _,_=>False
def KV{κ : Type}: List (κ × V)->List (κ × Value)->Prop:=Paired fun(p : κ × V) (q : κ × Value)=>p.1=q.1/\RelV p.2 q.2
def kV:Key->V
 | .inl i=>.int i
 | .inr x=>.str x
inductive HO where
 /-- a list -/
 | lst (xs:List V)
 /-- a tuple (never changes) -/
 | tup (xs:List V)
 /-- a dict whose keys are ints and texts; one whose keys are tuples of ints and texts (the empty one is both) -/
 | dK (kvs:List (Key×V))|dT (kvs:List (List Key×V))
 /-- a set of ints: its members, its size -/
 | set (S:Int->Bool) (n:Nat)
 /-- an instance of the class at C, its dict at dx, its attributes -/
 | ins (C dx:Addr) (fs:List (Str×V))
 /-- the dict of the instance at x -/
 | own (x:Addr)
 /-- the dict of an exception -/
 | xd (fs:List (Str×V))
 /-- a bound method, f of x -/
 | met (f x:Addr)
 /-- a range object lo, lo + 1, .. below hi -/
 | rng (lo hi:Int)
 /-- a thing that is known to the object (the script; a dict while a loop walks it): read, never written while it is so -/
 | frz (o:Obj) (u:HO)
 /-- a code object's table -/
 | tbl (ps:Array Value)
 /-- any other thing, by what is true of its one object (a def of one's own: SetO a S n := HO.ext fun h => ..) -/
 | ext (φ : Heap->Prop)
abbrev Hp:=Addr->Option HO
def upd(H:Hp)(a:Addr)(o:HO): Hp:=fun b=>if b=a then some o else H b
theorem zi{H:Hp}{a:Addr}{o:HO}: upd H a o a=some o:=by unfold upd;rw [gq rfl]
theorem z8{H:Hp}{a b:Addr}{o:HO}(h:b≠a): upd H a o b=H b:=by unfold upd;rw [m6 h]
theorem xw{H:Hp}{a b:Addr}{o:HO}(h:H a=some o)(h':H b=none): a≠b:=by
 intro e;subst e;rw [h] at h';cases h'
def TupX(h:Heap)(a:Addr)(items:Array Value): Prop:=∃o,h.get? a=some o/\o.cls=.type "tuple" /\ o.dict=none/\∃n,o.data=.seq items n
theorem TupX.up{h:Heap}{a:Addr}{items:Array Value}(p:TupX h a items): IsTup h a items:=let⟨o,x,y,_,z⟩:=p; ⟨o,x,y,z⟩
theorem TupX.new(h:Heap)(items:Array Value): TupX (h.push {cls:=.type "tuple",data:=.seq items}) h.objs.size items:=⟨_,gz _ rfl,rfl,rfl,_,rfl⟩
section
variable(P:Program)(w:World)
def ObjOk(H:Hp)(h:Heap)(a:Addr): HO->Prop
 | .lst xs=>xs.length<=sizeLine/\∃(its:List Value) (n:Nat),Vals xs its/\h.get? a=some {cls:=.type "list",data:=.seq its.toArray n}
 | .tup xs=>xs.length<=sizeLine/\∃its:List Value,Vals xs its/\TupX h a its.toArray
 | .dK kvs=>kvs.length<=sizeLine/\(a==sysModules)=false/\∃vs,KV kvs vs/\h.DictOf (mixKind P w) a vs
 | .dT kvs=>kvs.length<=sizeLine/\(a==sysModules)=false/\∃xs:List (List Key×Addr×Value),
   Paired (fun(p:List Key×V) (q:List Key×Addr×Value)=>p.1=q.1/\H q.2.1=some (.tup (p.1.map kV))/\RelV p.2 q.2.2) kvs xs /\
   ∃o es ep,h.get? a=some o/\o.ExactDict/\o.data=.dict es ep/\es.toList=xs.map (entryOfKey (tupleKind (mixKind P w)))/\(xs.map (·.1)).Nodup
 | .set S n=>h.SetOf (intKind P w) a S n
 | .ins C dx fs=>H dx=some (.own a)/\fs.length<=1000/\dx≠a/\h.get? a=some (PySem.W.instObj C dx) /\
   ∃mA,h.Ns1 dx mA/\(∀f,RelO (fs.lookup f) (mA f))/\PySem.Within mA (fs.map (·.1))
 | .own _=>∃o,h.get? a=some o
 | .xd fs=>∃mA,h.Ns1 a mA/\∀f,RelO (fs.lookup f) (mA f)
 | .rng lo hi=>∃t u v,h.get? a=some {cls:=.type "range",data:=.fields #[.int lo t,.int hi u,.int 1 v]}
 | .frz o u=>h.get? a=some o/\ObjOk H h a u
 | .tbl ps=>h.get? a=some {cls:=.none,data:=.fields ps}
 | .met f x=>h.get? a=some (PySem.W.methodObj (.ref f) (.ref x))
 | .ext φ => φ h/\(∃o,h.get? a=some o)/\∀h1 h2:Heap, φ h1->(∀o,h1.get? a=some o->h2.get? a=some o) -> φ h2
def HOk(H:Hp)(h:Heap): Prop:=∀a o,H a=some o->ObjOk P w H h a o
end
section
variable{P:Program}{w:World}{H H':Hp}{h h':Heap}{a:Addr}{o:HO}
theorem ObjOk.lt(x:ObjOk P w H h a o): a<h.objs.size:=by
 cases o with
 | lst xs=>obtain⟨_,_,_,_,e⟩:=x;exact m9 e
 | tup xs=>obtain⟨_,_,_,p⟩:=x;exact p.up.lt
 | dK kvs=>obtain⟨_,_,_,_,o,_,_,e,_⟩:=x;exact m9 e
 | dT kvs=>obtain⟨_,_,_,_,o,_,_,e,_⟩:=x;exact m9 e
 | set S n=>obtain⟨o,_,_,_,e,_⟩:=x;exact m9 e
 | ins C dx fs=>obtain⟨_,_,_,e,_⟩:=x;exact m9 e
 | own y=>obtain⟨_,e⟩:=x;exact m9 e
 | xd fs=>obtain⟨_,⟨_,_,_,e,_⟩,_⟩:=x;exact m9 e
 | rng lo hi=>obtain⟨_,_,_,e⟩:=x;exact m9 e
 | frz ob u=>obtain⟨e,_⟩:=x;exact m9 e
 | tbl ps=>exact m9 (show h.get? a=some _ from x)
 | met f y=>exact m9 (show h.get? a=some _ from x)
 | ext φ =>obtain⟨_,⟨_,e⟩,_⟩:=x;exact m9 e
theorem Paired.mapP{α β : Type}{F G : α -> β -> Prop}: ∀ {l₁:List α} {l₂:List β},Paired F l₁ l₂->(∀a b,F a b->G a b)->Paired G l₁ l₂
 | _,_,.nil,_=>.nil
 | _,_,.cons r t,f=>.cons (f _ _ r) (Paired.mapP t f)
theorem ObjOk.stay(x:ObjOk P w H h a o)(k:∀b u,(b=a\/H b=some (.own a))->h.get? b=some u->h'.get? b=some u)
  (ho:∀b,H b=some (.own a)->H' b=some (.own a)) (ht:∀b xs,H b=some (.tup xs)->H' b=some (.tup xs)):ObjOk P w H' h' a o:=by
 induction o with
 | lst xs=>obtain⟨z,its,n,r,e⟩:=x;exact⟨z,its,n,r,k _ _ (.inl rfl) e⟩
 | tup xs=>obtain⟨z,its,r,ob,e,c⟩:=x;exact⟨z,its,r,ob,k _ _ (.inl rfl) e,c⟩
 | dK kvs=>obtain⟨z,y,vs,r,ob,es,ep,e,c⟩:=x;exact⟨z,y,vs,r,ob,es,ep,k _ _ (.inl rfl) e,c⟩
 | dT kvs=>
  obtain⟨z,y,xs,r,ob,es,ep,e,c⟩:=x;exact⟨z,y,xs,Paired.mapP r fun p q z=>⟨z.1,ht _ _ z.2.1,z.2.2⟩,ob,es,ep,k _ _ (.inl rfl) e,c⟩
 | set S n=>obtain⟨ob,es,ep,t,e,c⟩:=x;exact⟨ob,es,ep,t,k _ _ (.inl rfl) e,c⟩
 | ins C dx fs=>
  obtain⟨d,z,ne,e,mA,⟨od,es,ep,e2,c⟩,r⟩:=x;exact⟨ho _ d,z,ne,k _ _ (.inl rfl) e,mA,⟨od,es,ep,k _ _ (.inr d) e2,c⟩,r⟩
 | own y=>obtain⟨ob,e⟩:=x;exact⟨ob,k _ _ (.inl rfl) e⟩
 | xd fs=>obtain⟨mA,⟨od,es,ep,e,c⟩,r⟩:=x;exact⟨mA,⟨od,es,ep,k _ _ (.inl rfl) e,c⟩,r⟩
 | rng lo hi=>obtain⟨t,u,v,e⟩:=x;exact⟨t,u,v,k _ _ (.inl rfl) e⟩
 | frz ob u ih=>obtain⟨e,q⟩:=x;exact⟨k _ _ (.inl rfl) e,ih q⟩
 | tbl ps=>
  have e:h.get? a=some {cls:=.none,data:=.fields ps}:=x;show h'.get? a=some {cls:=.none,data:=.fields ps};exact k a _ (.inl rfl) e
 | met f y=>
  have e:h.get? a=some (PySem.W.methodObj (.ref f) (.ref y)):=x;show h'.get? a=some (PySem.W.methodObj (.ref f) (.ref y));exact k a _ (.inl rfl) e
 | ext φ =>obtain⟨p,⟨o,e⟩,st⟩:=x;exact⟨st _ _ p fun o q=>k _ _ (.inl rfl) q,⟨o,k _ _ (.inl rfl) e⟩,st⟩
theorem HOk.lt(x:HOk P w H h)(e:H a=some o): a<h.objs.size:=(x a o e).lt
theorem HOk.fresh(x:HOk P w H h)(e:h.objs.size<=a): H a=none:=by
 cases q:H a with
 | none=>rfl
 | some u=>exact absurd (gr (x.lt q) e) (g1b _)
theorem HOk.kept(x:HOk P w H h)(k:∀b u,h.get? b=some u->h'.get? b=some u): HOk P w H h':=fun a o e=>
 (x a o e).stay (fun b u _ q=>k b u q) (fun _ q=>q) fun _ _ q=>q
theorem HOk.laid(x:HOk P w H h)(k:∀b u,h.get? b=some u->h'.get? b=some u)(hp:h.objs.size<=a)(new:ObjOk P w (upd H a o) h' a o): HOk P w (upd H a o) h':=fun b u e=>by
 have hn:=x.fresh hp
 by_cases hb:b=a
 ·subst hb;rw [zi] at e;cases e;exact new
 ·rw [z8 hb] at e
  exact(x b u e).stay (fun c v _ q=>k c v q) (fun c q=>by rw [z8 (xw q hn)];exact q) fun c xs q=>by rw [z8 (xw q hn)];exact q
end
def Rd(H:Hp)(a:Addr)(u:HO): Prop:=H a=some u\/∃o,H a=some (.frz o u)
theorem Rd.ok{P:Program}{w:World}{H:Hp}{h:Heap}{a:Addr}{u:HO}(r:Rd H a u)(x:HOk P w H h): ObjOk P w H h a u:=by
 rcases r with r|⟨o,r⟩
 ·exact x a u r
 ·obtain⟨_,q⟩:=x a _ r
  exact q
def Mut:Option HO->Prop
 | some (.lst _)=>True
 | some (.dK _)=>True
 | some (.dT _)=>True
 | some (.set _ _)=>True
 | some (.ins _ _ _)=>True
 | some (.ext _)=>True
 | _=>False
section
variable{P:Program}{w:World}{H:Hp}{h h':Heap}{x e:Addr}{o':HO}
theorem HOk.write(ok:HOk P w H h)(mu:Mut (H x))(he:e=x\/H e=some (.own x))(k:∀b u,b≠e->h.get? b=some u->h'.get? b=some u)(heo:∃u,h'.get? e=some u)
  (new:ObjOk P w (upd H x o') h' x o'):HOk P w (upd H x o') h':=fun b u q=>by
 have nown:∀c y,H c=some (.own y)->c≠x:=fun c y r z=>by subst z;rw [r] at mu;exact mu
 have ntup:∀c xs,H c=some (.tup xs)->c≠x:=fun c xs r z=>by subst z;rw [r] at mu;exact mu
 by_cases hb:b=x
 ·subst hb;rw [zi] at q;cases q;exact new
 ·rw [z8 hb] at q
  by_cases hbe:b=e
  ·have q':H b=some (.own x):=by
    rcases he with z|z
    ·exact absurd (hbe.trans z) hb
    ·rw [hbe];exact z
   rw [q] at q';cases q';obtain⟨v,hv⟩:=heo;exact⟨v,by rw [hbe];exact hv⟩
  ·refine(ok b u q).stay (fun c v hc r=>k c v ?_ r) (fun c r=>by rw [z8 (nown c b r)];exact r) fun c xs r=>by rw [z8 (ntup c xs r)];exact r
   rcases hc with rfl|hc
   ·exact hbe
   ·rintro rfl
    rcases he with z|z
    ·exact nown c b hc z
    ·rw [hc] at z;cases z;exact hb rfl
end
structure Un(fs ex:List Addr)(H H':Hp)(h h':Heap): Prop where
 keep:∀b o,h.get? b=some o->H b=none->b∉fs->b∉ex->h'.get? b=some o
 slot:∀b o,h.get? b=some o->H b=none->b∈fs->b∉ex->∃sl,h'.get? b=some {o with slots:=sl}
 free:∀b o,h.get? b=some o->H b=none->b∉ex->H' b=none
 there:∀b o,h.get? b=some o->b∉ex->∃o',h'.get? b=some o'
 tups:∀b xs,H b=some (.tup xs)->H' b=some (.tup xs)
 frzs:∀b o u,H b=some (.frz o u)->H' b=some (.frz o u)
 tbls:∀b ps,H b=some (.tbl ps)->∃more,H' b=some (.tbl (ps++more))
section
variable{fs fs' ex ex':List Addr}{H H1 H2:Hp}{h h1 h2 h':Heap}{a x e:Addr}{o:HO}
theorem Un.any(u:Un fs ex H H1 h h1){b:Addr}{ob:Obj}(q:h.get? b=some ob)(n:H b=none)(hx:b∉ex): ∃sl,h1.get? b=some {ob with slots:=sl}:=by
 by_cases hb:b∈fs
 ·exact u.slot b ob q n hb hx
 ·exact⟨ob.slots,u.keep b ob q n hb hx⟩
theorem Un.trans(a:Un fs ex H H1 h h1)(b:Un fs ex H1 H2 h1 h2): Un fs ex H H2 h h2 where
 keep:=fun c ob q n hc hx=>b.keep c ob (a.keep c ob q n hc hx) (a.free c ob q n hx) hc hx
 slot:=fun c ob q n hc hx=>by
  obtain⟨sl,e1⟩:=a.slot c ob q n hc hx;obtain⟨sl',e2⟩:=b.slot c _ e1 (a.free c ob q n hx) hc hx;exact⟨sl',e2⟩
 free:=fun c ob q n hx=>by
  obtain⟨o',e1⟩:=a.there c ob q hx;exact b.free c o' e1 (a.free c ob q n hx) hx
 there:=fun c ob q hx=>by
  obtain⟨o',e1⟩:=a.there c ob q hx;exact b.there c o' e1 hx
 tups:=fun c xs q=>b.tups c xs (a.tups c xs q)
 frzs:=fun c ob xs q=>b.frzs c ob xs (a.frzs c ob xs q)
 tbls:=fun c ps q=>by
  obtain⟨m1,e1⟩:=a.tbls c ps q;obtain⟨m2,e2⟩:=b.tbls c _ e1;exact⟨m1++m2,by rw [e2,Array.append_assoc]⟩
theorem Un.kept(k:∀b u,h.get? b=some u->h'.get? b=some u): Un fs ex H H h h':=
 ⟨fun b ob q _ _ _=>k b ob q,fun b ob q _ _ _=>⟨ob.slots,k b ob q⟩,fun _ _ _ n _=>n,fun b ob q _=>⟨ob,k b ob q⟩,fun _ _ q=>q,fun _ _ _ q=>q,fun _ ps q=>⟨#[],by rw [q];simp⟩⟩
theorem Un.refl:Un fs ex H H h h:=Un.kept fun _ _ q=>q
theorem Un.laid(k:∀b u,h.get? b=some u->h'.get? b=some u)(hp:h.objs.size<=a)(hn:H a=none): Un fs ex H (upd H a o) h h' where
 keep:=fun b u q _ _ _=>k b u q
 slot:=fun b u q _ _ _=>⟨u.slots,k b u q⟩
 free:=fun b u q n _=>by rw [z8 (mf (gr (m9 q) hp))];exact n
 there:=fun b u q _=>⟨u,k b u q⟩
 tups:=fun b xs q=>by rw [z8 (xw q hn)];exact q
 frzs:=fun b u xs q=>by rw [z8 (xw q hn)];exact q
 tbls:=fun b ps q=>⟨#[],by rw [z8 (xw q hn),q];simp⟩
theorem Un.write(mu:Mut (H x))(he:e=x\/H e=some (.own x))(k:∀b u,b≠e->h.get? b=some u->h'.get? b=some u)(heo:∃u,h'.get? e=some u): Un fs ex H (upd H x o) h h':=by
 have hx:∀b,H b=none->b≠x:=fun b n z=>by subst z;rw [n] at mu;exact mu
 have hb:∀b,H b=none->b≠e:=fun b n z=>by
  subst z;rcases he with r|r
  ·exact hx b n r
  ·rw [n] at r;cases r
 have hm:∀b u,H b=some u->¬Mut (some u)->b≠x:=fun b u q nm z=>by subst z;rw [q] at mu;exact nm mu
 refine⟨fun b u q n _ _=>k b u (hb b n) q,fun b u q n _ _=>⟨u.slots,k b u (hb b n) q⟩,fun b u q n _=>by rw [z8 (hx b n)];exact n,fun b u q _=>?_,
  fun b xs q=>by rw [z8 (hm b _ q fun z=>z)];exact q,fun b u xs q=>by rw [z8 (hm b _ q fun z=>z)];exact q,fun b ps q=>⟨#[],by rw [z8 (hm b _ q fun z=>z),q];simp⟩⟩
 by_cases hbe:b=e
 ·subst hbe;exact heo
 ·exact⟨u,k b u hbe q⟩
end
def trk(h:Heap)(H:Hp): List Addr:=(List.range h.objs.size).filter fun a=>(H a).isSome
def q5h(h:Heap)(H:Hp): Heap:=PySem.W.hideAll h (trk h H)
theorem qll(h:Heap)(H:Hp): (q5h h H).objs.size=h.objs.size:=PySem.W.hideAll_size _ _
theorem qnt{h:Heap}{H:Hp}{b:Addr}{o:Obj}(e:h.get? b=some o)(n:H b=none): (q5h h H).get? b=some o:=
 PySem.W.hideAll_get _ e fun hm=>by
  have q:(H b).isSome=true:=(mn.mp hm).2;rw [n] at q;simp at q
theorem qra{h:Heap}{H:Hp}{b:Addr}{o:Obj}(e:(q5h h H).get? b=some o): h.get? b=some o/\H b=none:=by
 have e':h.get? b=some o:=PySem.W.of_hideAll (trk h H) e;refine⟨e',?_⟩;cases q:H b with
 | none=>rfl
 | some x=>
  have hm:b∈trk h H:=mn.mpr ⟨n9.mpr (m9 e'),by simp [q]⟩;have z:(q5h h H).get? b=none:=PySem.W.hideAll_none (trk h H) hm;rw [z] at e;cases e
def qrb(g h:Heap)(L:Addr): List (Addr×Obj):=(List.range h.objs.size).filterMap fun a=>if a=L\/(g.get? a).isSome=true then none else(h.get? a).map fun o=>(a,o)
def rest(g h:Heap)(L d:Addr): List (Addr×Obj):=(qrb g h L).filter fun p=>decide (p.1≠d)
structure Mod(K:PySem.W.Frag)(mg:Str->Option Value)(base:Heap): Prop where
 kin:K.In base
 glob:base.Ns mainGlobals mg
 blt:∃mb,base.Ns builtinsNs mb/\∀x:Str,x≠"__name__" -> mb x=bootBuiltins x
 nolimit:base.NoLimit
structure Cx where
 prog:Program
 w:World
 K:PySem.W.Frag
 mg:Str->Option Value
 base:Heap
 A:Around
 N:List Str
 s₀:Shared
 H₀:Hp
 env:Env
 outer:List Env
 stack:List Env
 ex:List Addr
 fn:Str->Bool
 calm:Bool
 pn:List (Addr×Obj)
 xe:Value->Shared->Prop
def frs(l:List Env): List Addr:=l.filterMap (·.frame)
abbrev Cx.fs(X:Cx): List Addr:=frs X.outer
def Vis(sc:Scope)(x:Str): Prop:=sc.names.lookup x=some .local\/sc.names.lookup x=some .cell\/sc.names.lookup x=some .free
def Loc(sc:Scope)(x:Str): Prop:=sc.names.lookup x=some .local\/sc.names.lookup x=some .cell
def Look(env:Env)(h:Heap)(m:Str->Option Value)(x:Str)(u:Value): Prop:=
 (env.kindOf x=some .local/\m x=some u)\/((env.kindOf x=some .cell\/env.kindOf x=some .free)/\∃c,env.cells.lookup x=some c/\h.IsCell c (some u))
structure Cx.Ok(X:Cx): Prop where
 mod:Mod X.K X.mg X.base
 kind:X.env.scope.kind=.function
 glob:X.env.globals=mainGlobals
 blt:X.env.builtins=builtinsNs
 above:X.s₀.heap.objs.size<=X.env.locals
 inj:∀x y c,X.env.cells.lookup x=some c->X.env.cells.lookup y=some c->x=y
 has:∀x,(X.env.kindOf x=some .cell\/X.env.kindOf x=some .free)->∃c,X.env.cells.lookup x=some c
 cab:∀x c,X.fn x=true->X.env.cells.lookup x=some c->X.s₀.heap.objs.size<=c
 hd:X.calm=true->X.A.handled=none
 frames:X.A.frames=some X.stack
 stk:X.stack=X.outer\/(X.stack=X.env :: X.outer/\X.env.frame=some X.env.locals)
 exf:∀b∈X.ex,b≠X.env.locals/\∀x c,X.env.cells.lookup x=some c->c≠b
 bs:∀b o,X.base.get? b=some o->X.s₀.heap.get? b=some o/\X.H₀ b=none
 bsz:X.base.objs.size<=X.s₀.heap.objs.size
 noex:∀b o,X.base.get? b=some o->b∉X.ex
 exfs:∀b∈X.ex,b∉X.fs
 funs:X.s₀.heap.FunFrames X.base X.outer
 frf:∀b∈X.fs,X.H₀ b=none
structure Inv(X:Cx)(pins:List (Addr×Obj))(σ : List (Option V))(H:Hp)(s:Shared): Prop where
 ok:X.Ok
 os:s.os=X.s₀.os
 bare:AllBare s.gens
 base:Un X.fs X.ex X.H₀ H X.s₀.heap s.heap
 loc:∃m,s.heap.Ns X.env.locals m/\∀(i:Nat) (x:Str) (v:V),X.N[i]? = some x -> σ[i]? = some (some v)->Vis X.env.scope x->∃u,RelV v u/\Look X.env s.heap m x u
 cell:∀x c,X.env.cells.lookup x=some c->∃v,s.heap.IsCell c v
 free:H X.env.locals=none
 freeC:∀x c,X.env.cells.lookup x=some c->H c=none
 pin:∀p∈X.pn++pins,s.heap.get? p.1=some p.2/\H p.1=none/\p.1≠X.env.locals/\p.1∉X.fs/\∀v,p.2.data ≠ .cell v
 hok:HOk X.prog X.w H s.heap
 len : σ.length=X.N.length
section
variable{X:Cx}{pins:List (Addr×Obj)}{σ : List (Option V)}{H H':Hp}{s:Shared}{h':Heap}
theorem Cx.Ok.nofr(ok:X.Ok){b:Addr}{o:Obj}(e:X.base.get? b=some o): b∉X.fs:=fun hb=>by
 have:=(ok.funs.mem hb).1;rw [e] at this;cases this
theorem Inv.bs(I:Inv X pins σ H s): ∀b o,X.base.get? b=some o->s.heap.get? b=some o/\H b=none:=fun b o e=>
 ⟨I.base.keep b o (I.ok.bs b o e).1 (I.ok.bs b o e).2 (I.ok.nofr e) (I.ok.noex b o e),I.base.free b o (I.ok.bs b o e).1 (I.ok.bs b o e).2 (I.ok.noex b o e)⟩
theorem Inv.bk(I:Inv X pins σ H s): ∀b o,X.base.get? b=some o->s.heap.get? b=some o:=fun b o e=>(I.bs b o e).1
theorem Inv.mod(I:Inv X pins σ H s): Mod X.K X.mg X.base:=I.ok.mod
theorem Inv.kIn(I:Inv X pins σ H s): X.K.In s.heap:=I.ok.mod.kin.keeps I.bk
theorem Inv.nolimit(I:Inv X pins σ H s): s.heap.NoLimit:=I.ok.mod.nolimit.keeps I.bk
theorem Inv.lt(I:Inv X pins σ H s): X.env.locals<s.heap.objs.size:=let⟨_,hn,_⟩:=I.loc;hn.lt
theorem Inv.sz(I:Inv X pins σ H s): X.s₀.heap.objs.size<=s.heap.objs.size:=mq I.ok.above (g0w I.lt)
theorem Inv.nofs(I:Inv X pins σ H s){a:Addr}(h:s.heap.objs.size<=a): a∉X.fs:=fun hb=>by
 obtain⟨_,o,ho,_⟩:=I.ok.funs.mem hb;exact absurd (gr (m9 ho) (mq I.sz h)) (g1b _)
theorem Inv.cne(I:Inv X pins σ H s): ∀x c,X.env.cells.lookup x=some c->c≠X.env.locals:=fun x c e z=>by
 obtain⟨v,o,ho,hd⟩:=I.cell x c e;obtain⟨m,⟨o',es,ep,ho',hd',_⟩,_⟩:=I.loc;rw [z,ho'] at ho;cases ho;rw [hd'] at hd;cases hd
theorem Inv.funs(I:Inv X pins σ H s): s.heap.FunFrames X.base X.outer:=by
 have all:∀(l:List Env),(∀b∈frs l,b∈X.fs)->X.s₀.heap.FunFrames X.base l->s.heap.FunFrames X.base l:=by
  intro l
  induction l with
  | nil=>intro _ _;trivial
  | cons env r ih=>
   intro hs hl;obtain⟨hk,⟨L,o,hf,hn,ho,hd⟩,hr⟩:=hl;have hL:L∈X.fs:=hs L (by unfold frs;rw [g0n,hf];exact gc);obtain⟨sl,e⟩:=I.base.slot L o ho (I.ok.frf L hL) hL fun z=>I.ok.exfs L z hL;exact⟨hk,⟨L,_,hf,hn,e,hd⟩,ih (fun b hb=>hs b (by unfold frs;rw [g0n,hf];exact gf _ hb)) hr⟩
 exact all X.outer (fun _ hb=>hb) I.ok.funs
theorem Inv.stack(I:Inv X pins σ H s): s.heap.FunFrames X.base X.stack:=by
 rcases I.ok.stk with e|⟨e,hf⟩
 ·rw [e];exact I.funs
 ·rw [e]
  obtain⟨m,hn,_⟩:=I.loc;refine .cons (by rw [I.ok.kind];decide) hf hn ?_ I.funs;exact Heap.get?_none_of_le (mq I.ok.bsz I.ok.above)
theorem Inv.stkSub(I:Inv X pins σ H s): ∀b∈frs X.stack,b∈X.env.locals :: X.fs:=fun b hb=>by
 rcases I.ok.stk with e|⟨e,hf⟩
 ·rw [e] at hb;exact gf _ hb
 ·rw [e] at hb
  unfold frs at hb;rw [g0n,hf] at hb;exact hb
theorem Inv.stkFree(I:Inv X pins σ H s): ∀b∈frs X.stack,H b=none:=fun b hb=>by
 rcases ml.mp (I.stkSub b hb) with e|hb
 ·rw [e];exact I.free
 ·obtain⟨_,o,ho,_⟩:=I.ok.funs.mem hb
  exact I.base.free b o ho (I.ok.frf b hb) fun z=>I.ok.exfs b z hb
theorem Inv.step{g':Array GenState}{t':Nat}{d':Drawn}{ch:List Addr}(I:Inv X pins σ H s)
  (hch:∀b∈ch,(b∈X.ex\/X.s₀.heap.objs.size<=b)/\b≠X.env.locals/\(∀x c,X.env.cells.lookup x=some c->c≠b)/\∀p∈X.pn++pins,p.1≠b)
  (keep:∀b o,b≠X.env.locals->b∉X.fs->b∉ch->s.heap.get? b=some o->H b=none->h'.get? b=some o)
  (slot:∀b o,b≠X.env.locals->b∈X.fs->b∉ch->s.heap.get? b=some o->H b=none->∃sl,h'.get? b=some {o with slots:=sl}) (free:∀b o,b∉ch->s.heap.get? b=some o->H b=none->H' b=none)
  (there:∀b o,b∉ch->s.heap.get? b=some o->∃o',h'.get? b=some o')
  (tups:∀b xs,H b=some (.tup xs)->H' b=some (.tup xs)) (frzs:∀b o u,H b=some (.frz o u)->H' b=some (.frz o u)) (tbls:∀b ps,H b=some (.tbl ps)->∃more,H' b=some (.tbl (ps++more)))
  (ns:∀m,s.heap.Ns X.env.locals m->h'.Ns X.env.locals m) (hok:HOk X.prog X.w H' h') (hg:AllBare g') :
  Inv X pins σ H' {s with heap:=h',gens:=g',drawn:=d',toks:=t'}:=by
 have neL:∀b o,X.s₀.heap.get? b=some o->b≠X.env.locals:=fun b o e=>mf (gr (m9 e) I.ok.above);have neC:∀b o,X.s₀.heap.get? b=some o->b∉X.ex->b∉ch:=fun b o e hx hb=>by
  rcases(hch b hb).1 with z|z
  ·exact hx z
  ·exact absurd (gr (m9 e) z) (g1b _)
 have cellK:∀x c,X.env.cells.lookup x=some c->∀v,s.heap.IsCell c v->h'.IsCell c v:=fun x c e v ⟨o,ho,hd⟩=>by
  have nch:c∉ch:=fun z=>(hch c z).2.2.1 x c e rfl
  by_cases hc:c∈X.fs
  ·obtain⟨sl,q⟩:=slot c o (I.cne x c e) hc nch ho (I.freeC x c e)
   exact⟨_,q,hd⟩
  ·exact⟨o,keep c o (I.cne x c e) hc nch ho (I.freeC x c e),hd⟩
 refine⟨I.ok,I.os,hg,⟨fun b o e n hb hx=>?_,fun b o e n hb hx=>?_,fun b o e n hx=>?_,fun b o e hx=>?_,fun b xs e=>tups b xs (I.base.tups b xs e),fun b o xs e=>frzs b o xs (I.base.frzs b o xs e),fun b ps e=>?_⟩,?_,fun x c e=>?_,?_,fun x c e=>?_,fun p hp=>?_,hok,I.len⟩
 ·exact keep b o (neL b o e) hb (neC b o e hx) (I.base.keep b o e n hb hx) (I.base.free b o e n hx)
 ·obtain⟨sl,e1⟩:=I.base.slot b o e n hb hx
  obtain⟨sl',e2⟩:=slot b _ (neL b o e) hb (neC b o e hx) e1 (I.base.free b o e n hx);exact⟨sl',e2⟩
 ·obtain⟨o',e1⟩:=I.base.there b o e hx
  exact free b o' (neC b o e hx) e1 (I.base.free b o e n hx)
 ·obtain⟨o',e1⟩:=I.base.there b o e hx
  exact there b o' (neC b o e hx) e1
 ·obtain⟨m1,e1⟩:=I.base.tbls b ps e
  obtain⟨m2,e2⟩:=tbls b _ e1;exact⟨m1++m2,by rw [e2,Array.append_assoc]⟩
 ·obtain⟨m,hn,hl⟩:=I.loc
  refine⟨m,ns m hn,fun i x v e1 e2 e3=>?_⟩;obtain⟨u,r,l⟩:=hl i x v e1 e2 e3;refine⟨u,r,?_⟩;rcases l with l|⟨k,c,e,z⟩
  ·exact .inl l
  ·exact .inr ⟨k,c,e,cellK x c e _ z⟩
 ·obtain⟨v,z⟩:=I.cell x c e
  exact⟨v,cellK x c e v z⟩
 ·obtain⟨m,⟨o,_,_,ho,_⟩,_⟩:=I.loc
  exact free _ o (fun z=>(hch _ z).2.1 rfl) ho I.free
 ·obtain⟨v,o,ho,hd⟩:=I.cell x c e
  exact free c o (fun z=>(hch c z).2.2.1 x c e rfl) ho (I.freeC x c e)
 ·obtain⟨e,n,ne,nf,d⟩:=I.pin p hp
  have nch:p.1∉ch:=fun z=>(hch p.1 z).2.2.2 p hp rfl;exact⟨keep p.1 p.2 ne nf nch e n,free p.1 p.2 nch e n,ne,nf,d⟩
theorem Inv.un{t':Nat}(I:Inv X pins σ H s)(u:Un X.fs [] H H' s.heap h')(hok:HOk X.prog X.w H' h'): Inv X pins σ H' {s with heap:=h',toks:=t'}:=by
 obtain⟨m,⟨o,es,ep,ho,r⟩,_⟩:=id I.loc;obtain⟨sl,hL⟩:=u.any ho I.free (by simp);exact I.step (g':=s.gens) (d':=s.drawn) (ch:=[]) (fun _ z=>nomatch z) (fun b o _ hb _ e n=>u.keep b o e n hb (by simp)) (fun b o _ hb _ e n=>u.slot b o e n hb (by simp)) (fun b o _ e n=>u.free b o e n (by simp)) (fun b o _ e=>u.there b o e (by simp)) u.tups u.frzs u.tbls (fun m' hm=>by
  obtain⟨o',es',ep',ho',r'⟩:=hm;rw [ho] at ho';cases ho';exact⟨_,es',ep',hL,r'⟩) hok I.bare
theorem Inv.call{g':Array GenState}{t':Nat}{d':Drawn}{ch:List Addr}(I:Inv X pins σ H s)(u:Un (frs X.stack) ch H H' s.heap h')(hok:HOk X.prog X.w H' h')(hg:AllBare g')
  (hch:∀b∈ch,(b∈X.ex\/X.s₀.heap.objs.size<=b)/\b≠X.env.locals/\(∀x c,X.env.cells.lookup x=some c->c≠b)/\∀p∈X.pn++pins,p.1≠b) :
  Inv X pins σ H' {s with heap:=h',gens:=g',drawn:=d',toks:=t'}:=by
 obtain⟨m,⟨o,es,ep,ho,r⟩,_⟩:=id I.loc;obtain⟨sl,hL⟩:=u.any ho I.free fun z=>(hch _ z).2.1 rfl;exact I.step (ch:=ch) hch (fun b o hL hb hc e n=>u.keep b o e n (fun z=>(ml.mp (I.stkSub b z)).elim hL hb) hc) (fun b o _ _ hc e n=>u.any e n hc) (fun b o hc e n=>u.free b o e n hc) (fun b o hc e=>u.there b o e hc) u.tups u.frzs u.tbls (fun m' hm=>by
  obtain⟨o',es',ep',ho',r'⟩:=hm;rw [ho] at ho';cases ho';exact⟨_,es',ep',hL,r'⟩) hok hg
theorem Inv.turned{t':Nat}{it:Addr}(I:Inv X pins σ H s)(k:∀b o,b≠it->s.heap.get? b=some o->h'.get? b=some o)(hn:H it=none)(hL:it≠X.env.locals)
  (h1:it∈X.ex\/X.s₀.heap.objs.size<=it) (h2:∀x c,X.env.cells.lookup x=some c->c≠it) (h3:∀p∈X.pn++pins,p.1≠it):Inv X pins σ H {s with heap:=h',toks:=t'}:=by
 have nit:∀b u,H b=some u->b≠it:=fun b u e z=>by rw [z,hn] at e;cases e
 refine I.step (g':=s.gens) (d':=s.drawn) (ch:=[it]) (fun b hb=>?_) (fun b o _ _ hc e _=>k b o (fun z=>hc (by simp [z])) e) (fun b o _ _ hc e _=>⟨o.slots,k b o (fun z=>hc (by simp [z])) e⟩) (fun _ _ _ _ n=>n)
  (fun b o hc e=>⟨o,k b o (fun z=>hc (by simp [z])) e⟩) (fun _ _ e=>e) (fun _ _ _ e=>e) (fun b ps e=>⟨#[],by rw [e];simp⟩) (fun m hm=>?_) (fun b u e=>?_) I.bare
 ·have e:b=it:=by simpa using hb
  subst e;exact⟨h1,hL,h2,h3⟩
 ·obtain⟨o,es,ep,ho,r⟩:=hm
  exact⟨o,es,ep,k _ o (n4 hL) ho,r⟩
 ·refine(I.hok b u e).stay (fun c v hc q=>k c v ?_ q) (fun _ q=>q) fun _ _ q=>q
  rcases hc with z|z
  ·rw [z];exact nit b u e
  ·exact nit c _ z
theorem Inv.tok(I:Inv X pins σ H s)(t:Nat): Inv X pins σ H {s with toks:=t}:=I.un (h':=s.heap) (t':=t) Un.refl I.hok
theorem Inv.kept{t':Nat}(I:Inv X pins σ H s)(k:∀b u,s.heap.get? b=some u->h'.get? b=some u): Inv X pins σ H {s with heap:=h',toks:=t'}:=I.un (Un.kept k) (I.hok.kept k)
theorem Inv.laid{a:Addr}{o:HO}{t':Nat}(I:Inv X pins σ H s)(k:∀b u,s.heap.get? b=some u->h'.get? b=some u)(hp:s.heap.objs.size<=a)(new:ObjOk X.prog X.w (upd H a o) h' a o):
  Inv X pins σ (upd H a o) {s with heap:=h',toks:=t'}:=I.un (Un.laid k hp (I.hok.fresh hp)) (I.hok.laid k hp new)
theorem Inv.write{x e:Addr}{o:HO}{t':Nat}(I:Inv X pins σ H s)(mu:Mut (H x))(he:e=x\/H e=some (.own x))(k:∀b u,b≠e->s.heap.get? b=some u->h'.get? b=some u)(heo:∃u,h'.get? e=some u)
  (new:ObjOk X.prog X.w (upd H x o) h' x o):Inv X pins σ (upd H x o) {s with heap:=h',toks:=t'}:=I.un (Un.write mu he k heo) (I.hok.write mu he k heo new)
theorem Inv.pins_of{pins':List (Addr×Obj)}(I:Inv X pins σ H s)(h:∀p∈pins',s.heap.get? p.1=some p.2/\H p.1=none/\p.1≠X.env.locals/\p.1∉X.fs/\∀v,p.2.data ≠ .cell v): Inv X pins' σ H s:=
 ⟨I.ok,I.os,I.bare,I.base,I.loc,I.cell,I.free,I.freeC,fun p hp=>(uj.mp hp).elim (fun z=>I.pin p (g3p _ z)) (h p),I.hok,I.len⟩
theorem qeh{N:List Str}(hN:N.Nodup){i j:Nat}{x:Str}(a:N[i]? = some x)(b:N[j]? = some x): i=j:=by
 obtain⟨h1,e1⟩:=nj.mp a;obtain⟨h2,e2⟩:=nj.mp b;exact(g55 hN).mp (e1.trans e2.symm)
theorem qlm{M:Model}{A:Around}{E:Value->Shared->Prop}{i:Nat}{x:Str}{v:V}{u:Value}{Q:Unit->Shared->Prop}(I:Inv X pins σ H s)(hN:X.N.Nodup)(hi:X.N[i]? = some x)(hx:Loc X.env.scope x)(r:RelV v u)
  (h:∀s',Inv X pins (σ.set i (some v)) H s'->(∃a,Heap.SameBut a s.heap s'.heap/\(a=X.env.locals\/X.env.cells.lookup x=some a))->Q () s') (hf:X.fn x=true\/X.env.scope.names.lookup x=some .local:=by first|exact .inl rfl|exact .inr rfl|assumption):wpAny M A (storeName X.env x u) Q E s:=by
 obtain⟨m,hn,hl⟩:=id I.loc;have hcls:(X.env.scope.kind == .class || (X.env.scope.kind == .module&&X.env.locals != X.env.globals))=false:=by rw [I.ok.kind];rfl
 have hiσ : i < σ.length:=by rw [I.len];exact(nj.mp hi).1
 have cne:=I.cne;have tracked:∀ {a:Addr} {h':Heap},(∃o,s.heap.get? a=some o/\H a=none)->Heap.SameBut a s.heap h'->HOk X.prog X.w H h':=fun {a h'} ha hs b ob e=>by
  obtain⟨_,_,hfree⟩:=ha;refine(I.hok b ob e).stay (fun c w' hc q=>(hs.2 c ?_).trans q) (fun _ q=>q) fun _ _ q=>q
  rintro rfl
  rcases hc with rfl|hc
  ·rw [hfree] at e;cases e
  ·rw [hfree] at hc;cases hc
 rcases hx with hk|hk
 ·refine wpAny_storeName_local hk hn (fun h' hn' hs=>?_) hcls
  obtain⟨oL,_,_,hoL,_⟩:=id hn;refine h _ ⟨I.ok,I.os,I.bare,⟨fun b o e n hb hx=>?_,fun b o e n hb hx=>?_,I.base.free,fun b o e hx=>?_,I.base.tups,I.base.frzs,I.base.tbls⟩,⟨_,hn',fun j y v' e1 e2 e3=>?_⟩,fun y c e=>?_,I.free,I.freeC,fun p hp=>?_,tracked ⟨oL,hoL,I.free⟩ hs,by simpa using I.len⟩ ⟨_,hs,.inl rfl⟩
  ·exact(hs.2 b (mf (gr (m9 e) I.ok.above))).trans (I.base.keep b o e n hb hx)
  ·obtain⟨sl,e1⟩:=I.base.slot b o e n hb hx
   exact⟨sl,(hs.2 b (mf (gr (m9 e) I.ok.above))).trans e1⟩
  ·obtain⟨o',e1⟩:=I.base.there b o e hx
   exact⟨o',(hs.2 b (mf (gr (m9 e) I.ok.above))).trans e1⟩
  ·by_cases hj:j=i
   ·subst hj
    rw [hi] at e1;cases e1;rw [g5s hiσ] at e2;cases e2;exact⟨u,r,.inl ⟨hk,by simp⟩⟩
   ·rw [ma (n4 hj)] at e2
    obtain⟨u',r',q⟩:=hl j y v' e1 e2 e3;refine⟨u',r',?_⟩;rcases q with⟨k,e⟩|⟨k,c,e,z⟩
    ·refine .inl ⟨k,?_⟩
     have:y≠x:=fun e=>hj (qeh hN e1 (e ▸ hi));simp [this,e]
    ·exact .inr ⟨k,c,e,z.sameBut hs (cne y c e)⟩
  ·obtain⟨w',z⟩:=I.cell y c e
   exact⟨w',z.sameBut hs (cne y c e)⟩
  ·obtain⟨e,n,ne,nf,d⟩:=I.pin p hp
   exact⟨(hs.2 p.1 ne).trans e,n,ne,nf,d⟩
 ·have hfn:X.fn x=true:=by
   rcases hf with z|z
   ·exact z
   ·rw [z] at hk;cases hk
  obtain⟨c,hc⟩:=I.ok.has x (.inl hk);obtain⟨w',z⟩:=I.cell x c hc;refine wpAny_storeName_cell I.ok.kind hk hc z (fun h' hc' hs=>?_);obtain⟨oc,hoc,hocd⟩:=id z;refine h {s with heap:=h'} ⟨I.ok,I.os,I.bare,⟨fun b o e n hb hx=>?_,fun b o e n hb hx=>?_,I.base.free,fun b o e hx=>?_,I.base.tups,I.base.frzs,I.base.tbls⟩,⟨m,hn.sameBut hs (n4 (cne x c hc)),fun j y v' e1 e2 e3=>?_⟩,fun y c' e=>?_,I.free,I.freeC,fun p hp=>?_,tracked ⟨oc,hoc,I.freeC x c hc⟩ hs,by simpa using I.len⟩ ⟨c,hs,.inr hc⟩
  ·exact(hs.2 b (mf (gr (m9 e) (I.ok.cab x c hfn hc)))).trans (I.base.keep b o e n hb hx)
  ·obtain⟨sl,e1⟩:=I.base.slot b o e n hb hx
   exact⟨sl,(hs.2 b (mf (gr (m9 e) (I.ok.cab x c hfn hc)))).trans e1⟩
  ·obtain⟨o',e1⟩:=I.base.there b o e hx
   exact⟨o',(hs.2 b (mf (gr (m9 e) (I.ok.cab x c hfn hc)))).trans e1⟩
  ·by_cases hj:j=i
   ·subst hj
    rw [hi] at e1;cases e1;rw [g5s hiσ] at e2;cases e2;exact⟨u,r,.inr ⟨.inl hk,c,hc,hc'⟩⟩
   ·rw [ma (n4 hj)] at e2
    obtain⟨u',r',q⟩:=hl j y v' e1 e2 e3;refine⟨u',r',?_⟩;rcases q with q|⟨k,c',e,z'⟩
    ·exact .inl q
    ·refine .inr ⟨k,c',e,z'.sameBut hs ?_⟩
     rintro rfl
     exact hj (qeh hN e1 (I.ok.inj _ _ _ e hc ▸ hi))
  ·by_cases hcc:c'=c
   ·subst hcc;exact⟨_,hc'⟩
   ·obtain⟨w2,z2⟩:=I.cell y c' e
    exact⟨w2,z2.sameBut hs hcc⟩
  ·obtain⟨e,n,ne,nf,d⟩:=I.pin p hp
   refine⟨(hs.2 p.1 ?_).trans e,n,ne,nf,d⟩;intro q;rw [q,hoc] at e;have q':oc=p.2:=gu e;exact d w' (by rw [<- q'];exact hocd)
theorem qa1{M:Model}{A:Around}{E:Value->Shared->Prop}{i:Nat}{x:Str}{v:V}{u:Value}{Q:Unit->Shared->Prop}(I:Inv X pins σ H s)(hN:X.N.Nodup)(hi:X.N[i]? = some x)(hx:Loc X.env.scope x)(r:RelV v u)
  (h:∀s',Inv X pins (σ.set i (some v)) H s'->Q () s') (hf:X.fn x=true\/X.env.scope.names.lookup x=some .local:=by first|exact .inl rfl|exact .inr rfl|assumption):wpAny M A (storeName X.env x u) Q E s:=
 qlm I hN hi hx r (fun s' I' _=>h s' I') hf
theorem Inv.call'{s':Shared}{ch:List Addr}(I:Inv X pins σ H s)(ho:s'.os=s.os)(u:Un (frs X.stack) ch H H' s.heap s'.heap)(hok:HOk X.prog X.w H' s'.heap)(hg:AllBare s'.gens)
  (hch:∀b∈ch,(b∈X.ex\/X.s₀.heap.objs.size<=b)/\b≠X.env.locals/\(∀x c,X.env.cells.lookup x=some c->c≠b)/\∀p∈X.pn++pins,p.1≠b):Inv X pins σ H' s':=by
 obtain⟨h',g',d',t',o'⟩:=s';have e:o'=s.os:=ho;subst e;exact I.call (g':=g') (t':=t') (d':=d') u hok hg hch
end
abbrev XK:=Value->Option Addr->Hp->Prop
abbrev St:=List (Option V)
abbrev VK:=V->Hp->Prop
abbrev TE:=St->Hp->VK->Prop
abbrev TT:=St->Hp->(Bool->Hp->Prop)->Prop
abbrev TA:=St->Hp->(List V->Hp->Prop)->Prop
structure Ends where
 nx:St->Hp->Prop
 rt:VK
 bk:St->Hp->Prop:=fun _ _=>False
 ct:St->Hp->Prop:=fun _ _=>False
abbrev TS:=Ends->St->Hp->Prop
def EP(X:Cx)(pins:List (Addr×Obj))(σ : St)(Q:VK)(u:Value)(s':Shared): Prop:=∃v H',Inv X pins σ H' s'/\RelV v u/\Q v H'
def TP(X:Cx)(pins:List (Addr×Obj))(σ : St)(Q:Bool->Hp->Prop)(b:Bool)(s':Shared): Prop:=∃H',Inv X pins σ H' s'/\Q b H'
def AP(X:Cx)(pins:List (Addr×Obj))(σ : St)(Q:List V->Hp->Prop)(us:List Value)(s':Shared): Prop:=∃vs H',Inv X pins σ H' s'/\Vals vs us/\Q vs H'
def SP(X:Cx)(pins:List (Addr×Obj))(D:Ends)(f:Flow)(s':Shared): Prop:=
 match f with
 | .next=>∃ σ' H',Inv X pins σ' H' s'/\D.nx σ' H'
 | .brk=>∃ σ' H',Inv X pins σ' H' s'/\D.bk σ' H'
 | .cont=>∃ σ' H',Inv X pins σ' H' s'/\D.ct σ' H'
 | .ret u=>∃v σ' H',Inv X pins σ' H' s'/\RelV v u/\D.rt v H'
def PE(X:Cx)(e:Expr)(t:TE): Prop:=
 ∀(pins:List (Addr×Obj)) (s:Shared) (σ : St) (H:Hp) (Q:VK),Inv X pins σ H s->t σ H Q->wpAny (model X.prog X.w) X.A (eval e X.env) (EP X pins σ Q) X.xe s
def PT(X:Cx)(e:Expr)(t:TT): Prop:=
 ∀(pins:List (Addr×Obj)) (s:Shared) (σ : St) (H:Hp) (Q:Bool->Hp->Prop),Inv X pins σ H s->t σ H Q->wpAny (model X.prog X.w) X.A (isTrue e X.env (eval e X.env)) (TP X pins σ Q) X.xe s
def PW(X:Cx)(e:Expr)(t:TT): Prop:=
 ∀(whole:Sem Value) (pins:List (Addr×Obj)) (s:Shared) (σ : St) (H:Hp) (Q:Bool->Hp->Prop),Inv X pins σ H s->t σ H Q->wpAny (model X.prog X.w) X.A (isTrue e X.env whole) (TP X pins σ Q) X.xe s
theorem PW.pt{X:Cx}{e:Expr}{t:TT}(h:PW X e t): PT X e t:=h _
def PA(X:Cx)(es:List Expr)(t:TA): Prop:=
 ∀(pos:Pos) (pins:List (Addr×Obj)) (s:Shared) (σ : St) (H:Hp) (Q:List V->Hp->Prop),Inv X pins σ H s->t σ H Q->wpAny (model X.prog X.w) X.A (spliced (backTo pos (starEach es X.env))) (AP X pins σ Q) X.xe s
def PS(X:Cx)(st:Stmt)(t:TS): Prop:=
 ∀(pins:List (Addr×Obj)) (s:Shared) (σ : St) (H:Hp) (D:Ends),Inv X pins σ H s->t D σ H->wpAny (model X.prog X.w) X.A (exec st X.env) (SP X pins D) X.xe s
def PSs(X:Cx)(st:List Stmt)(t:TS): Prop:=
 ∀(pins:List (Addr×Obj)) (s:Shared) (σ : St) (H:Hp) (D:Ends),Inv X pins σ H s->t D σ H->wpAny (model X.prog X.w) X.A (execs st X.env) (SP X pins D) X.xe s
theorem thn{α : Type}{t:Sem α}{Q Q' : α -> Shared->Prop}{M:Model}{A:Around}{E:Value->Shared->Prop}{s:Shared}(h:wpAny M A t Q E s)(hQ:∀a s,Q a s->Q' a s): wpAny M A t Q' E s:=t5 h hQ fun _ _ x=>x
section
variable{X:Cx}
def qei(i:Nat): TE:=fun σ H Q=>∃v, σ[i]? = some (some v)/\Q v H
def tC(v:V): TE:=fun _ H Q=>Q v H
theorem qtl{i:Nat}{x:Str}{pos:Pos}(hN:X.N[i]? = some x)(hv:Vis X.env.scope x)(hd:(x==("__debug__" : Str))=false:=by decide)(hcd:(x==("__classdict__" : Str))=false:=by decide): PE X (.Name x pos) (qei i):=by
 intro pins s σ H Q I h;obtain⟨v,e,h⟩:=h;obtain⟨m,hn,hl⟩:=I.loc;obtain⟨u,r,l⟩:=hl i x v hN e hv;have fin:EP X pins σ Q u s:=⟨v,H,I,r,h⟩
 rcases l with⟨hk,hm⟩|⟨hk,c,hc,hcell⟩
 ·exact wpAny_Name (wpAny_loadName_local I.ok.kind hk hn hm fin) hd
 ·rcases hk with hk|hk
  ·exact wpAny_Name (wpAny_loadName_cell I.ok.kind hk hc hcell fin) hd
  ·exact wpAny_Name (wpAny_loadName_free I.ok.kind hk hc hcell fin hcd) hd
theorem qtm{i j pos}: PE X (.Constant (.int i) j pos) (tC (.int i)):=fun _ _ _ H _ I h=>wpAny_Constant_int ⟨.int i,H,I.tok _,⟨_,rfl⟩,h⟩
theorem qwc{b j pos}: PE X (.Constant (.bool b) j pos) (tC (.bl b)):=fun _ _ _ H _ I h=>Constant_bool ⟨.bl b,H,I,rfl,h⟩
theorem qtn{j pos}: PE X (.Constant .none j pos) (tC .non):=fun _ _ _ H _ I h=>Constant_none ⟨.non,H,I,rfl,h⟩
def Gl(X:Cx)(x:Str): Prop:=X.env.kindOf x=some .globalImplicit
theorem q94{E:Value->Shared->Prop}{pins:List (Addr×Obj)}{s:Shared}{σ : St}{H:Hp}{x:Str}{u:Value}{pos:Pos}{Q:Value->Shared->Prop}(I:Inv X pins σ H s)(hg:Gl X x)(hm:X.mg x=some u)(h:Q u s)
  (hd:(x==("__debug__" : Str))=false:=by decide):wpAny (model X.prog X.w) X.A (eval (.Name x pos) X.env) Q E s:=
 Calls.Name_function_global I.ok.kind hg (Calls.loadGlobal_global (by rw [I.ok.glob];exact I.mod.glob.keeps I.bk) hm h) hd
theorem q37{E:Value->Shared->Prop}{pins:List (Addr×Obj)}{s:Shared}{σ : St}{H:Hp}{x:Str}{u:Value}{pos:Pos}{Q:Value->Shared->Prop}(I:Inv X pins σ H s)(hg:Gl X x)(hm:X.mg x=none)(hv:bootBuiltins x=some u)(h:Q u s)
  (hn:x≠"__name__" :=by decide) (hd:(x==("__debug__" : Str))=false:=by decide):wpAny (model X.prog X.w) X.A (eval (.Name x pos) X.env) Q E s:=by
 obtain⟨mb,h1,h2⟩:=I.mod.blt;exact Calls.Name_function_global I.ok.kind hg (Calls.loadGlobal_builtin (by rw [I.ok.glob];exact I.mod.glob.keeps I.bk) hm (by rw [I.ok.blt];exact h1.keeps I.bk) ((h2 x hn).trans hv) h) hd
theorem qrc{x:Str}{v:V}{u:Value}{pos:Pos}(hg:Gl X x)(hm:X.mg x=some u)(r:RelV v u)(hd:(x==("__debug__" : Str))=false:=by decide): PE X (.Name x pos) (tC v):=
 fun _ _ _ H _ I h=>q94 I hg hm ⟨v,H,I,r,h⟩ hd
theorem qrd{x:Str}{v:V}{u:Value}{pos:Pos}(hg:Gl X x)(hm:X.mg x=none)(hv:bootBuiltins x=some u)(r:RelV v u)(hn:x≠"__name__" :=by decide)(hd:(x==("__debug__" : Str))=false:=by decide): PE X (.Name x pos) (tC v):=
 fun _ _ _ H _ I h=>q37 I hg hm hv ⟨v,H,I,r,h⟩ hn hd
variable{a b:Expr}{ta tb:TE}{pos:Pos}
theorem qej(b:Expr){op:CmpOp}(h:op ≠ .In)(h2:op ≠ .NotIn): behindInMarks op b=false:=by
 have e1:(op==CmpOp.In)=false:=by cases op <;> first|rfl|exact absurd rfl h
 have e2:(op==CmpOp.NotIn)=false:=by cases op <;> first|rfl|exact absurd rfl h2
 cases b <;> simp [behindInMarks,e1,e2]
variable{tA tB':TT}{rest:List Expr}
def qxn(t u:TT): TT:=fun σ H Q=>t σ H fun c H1=>if c=true then u σ H1 Q else Q false H1
def tOr(t u:TT): TT:=fun σ H Q=>t σ H fun c H1=>if c=true then Q true H1 else u σ H1 Q
def qxo(t:TT): TT:=fun σ H Q=>t σ H fun c H1=>Q (!c) H1
theorem qre(ha:PT X a tA): PW X (.BoolOp .And [a] pos) tA:=by
 intro wh pins s σ H Q I h;refine isTrue_and (thn (ha pins s σ H Q I h) fun c s1 e=>?_);cases c with
 | true=>exact isTrue_and_nil e
 | false=>exact e
theorem qto(ha:PT X a tA): PW X (.BoolOp .Or [a] pos) tA:=by
 intro wh pins s σ H Q I h;refine isTrue_or (thn (ha pins s σ H Q I h) fun c s1 e=>?_);cases c with
 | false=>exact isTrue_or_nil e
 | true=>exact e
theorem qtp(ha:PT X a tA)(hb:PW X (.BoolOp .And (b :: rest) pos) tB'): PW X (.BoolOp .And (a :: b :: rest) pos) (qxn tA tB'):=by
 intro wh pins s σ H Q I h;refine isTrue_and (thn (ha pins s σ H _ I h) fun c s1 ⟨H1,I1,q1⟩=>?_);cases c with
 | true=>exact hb wh pins s1 σ H1 Q I1 q1
 | false=>exact⟨H1,I1,q1⟩
theorem qwd(ha:PT X a tA)(hb:PW X (.BoolOp .Or (b :: rest) pos) tB'): PW X (.BoolOp .Or (a :: b :: rest) pos) (tOr tA tB'):=by
 intro wh pins s σ H Q I h;refine isTrue_or (thn (ha pins s σ H _ I h) fun c s1 ⟨H1,I1,q1⟩=>?_);cases c with
 | true=>exact⟨H1,I1,q1⟩
 | false=>exact hb wh pins s1 σ H1 Q I1 q1
theorem qtq(ha:PT X a tA): PT X (.UnaryOp .Not a pos) (qxo tA):=by
 intro pins s σ H Q I h;exact isTrue_not (ha pins s σ H (fun c H1=>Q (!c) H1) I h)
def qwe(ta tb:TE): TE:=fun σ H Q=>ta σ H fun x H1=>∃c,x=.bl c/\if c=true then tb σ H1 Q else Q (.bl false) H1
def qwf(ta:TE): TE:=fun σ H Q=>ta σ H fun x H1=>∃c,x=.bl c/\Q (.bl (!c)) H1
theorem qtr{op}{t:TE}(h:PE X a t): PE X (.BoolOp op [a] pos) t:=fun pins s σ H Q I hw=>BoolOp_one (h pins s σ H Q I hw)
theorem qts(ha:PE X a ta)(hb:PE X (.BoolOp .And (b :: rest) pos) tb): PE X (.BoolOp .And (a :: b :: rest) pos) (qwe ta tb):=by
 intro pins s σ H Q I h;refine BoolOp_and (thn (ha pins s σ H _ I h) fun v s1 ⟨x,H1,I1,r1,q1⟩=>?_);obtain⟨c,rfl,q1⟩:=q1;cases r1;refine g0i ?_;cases c with
 | true=>exact hb pins s1 σ H1 Q I1 q1
 | false=>exact⟨.bl false,H1,I1,rfl,q1⟩
theorem qtt(ha:PE X a ta): PE X (.UnaryOp .Not a pos) (qwf ta):=by
 intro pins s σ H Q I h;refine UnaryOp_ (thn (ha pins s σ H _ I h) fun v s1 ⟨x,H1,I1,r1,q1⟩=>?_);obtain⟨c,rfl,q1⟩:=q1;cases r1;exact not_of (g0i ⟨.bl (!c),H1,I1,rfl,q1⟩)
def tIf(t:TT)(ta tb:TE): TE:=fun σ H Q=>t σ H fun c H1=>if c=true then ta σ H1 Q else tb σ H1 Q
theorem qnu{c:Expr}(hc:PT X c tA)(ha:PE X a ta)(hb:PE X b tb): PE X (.IfExp c a b pos) (tIf tA ta tb):=by
 intro pins s σ H Q I h;refine wpAny_IfExp (thn (hc pins s σ H _ I h) fun d s1 ⟨H1,I1,q1⟩=>?_);cases d with
 | true=>exact ha pins s1 σ H1 Q I1 q1
 | false=>exact hb pins s1 σ H1 Q I1 q1
end
def SqL(K:PySem.W.Frag)(H:Hp)(a:Addr)(xs:List V): Prop:=
 Rd H a (.lst xs) \/
  ∃(o:Obj) (its:Array Value) (n:Nat),K.lookup a=some o/\o.cls=.type "list" /\ o.dict=none/\o.data=.seq its n/\its.size<=sizeLine/\Vals xs its.toList
def SqT(K:PySem.W.Frag)(H:Hp)(a:Addr)(xs:List V): Prop:=
 Rd H a (.tup xs) \/
  ∃(o:Obj) (its:Array Value) (n:Nat),K.lookup a=some o/\o.cls=.type "tuple" /\ o.dict=none/\o.data=.seq its n/\its.size<=sizeLine/\Vals xs its.toList
def qxp:Value->Option V
 | .none=>some .non
 | .bool b=>some (.bl b)
 | .int i _=>some (.int i)
 | .str x _=>some (.str x)
 | .bytes b _=>some (.byt b)
 | .float b _=>some (.flt b)
 | .ref a=>some (.ref a)
 | .type n=>some (.ty n)
 | _=>none
theorem RelV.abs{x:V}{u:Value}(r:RelV x u): qxp u=some x:=by
 cases x with
 | non=>cases r;rfl
 | bl _=>cases r;rfl
 | int _=>obtain⟨t,rfl⟩:=r;rfl
 | str _=>obtain⟨t,rfl⟩:=r;rfl
 | byt _=>obtain⟨t,rfl⟩:=r;rfl
 | flt _=>obtain⟨t,rfl⟩:=r;rfl
 | ref _=>cases r;rfl
 | ty _=>cases r;rfl
theorem RelV.inj{x y:V}{u:Value}(r:RelV x u)(q:RelV y u): x=y:=gu (r.abs.symm.trans q.abs)
theorem Vals.inj:∀ {xs ys:List V} {us:List Value},Vals xs us->Vals ys us->xs=ys
 | _,_,_,.nil,.nil=>rfl
 | _,_,_,.cons r t,.cons r' t'=>by rw [r.inj r',Vals.inj t t']
section
variable{X:Cx}{pins:List (Addr×Obj)}{σ : St}{H:Hp}{s:Shared}{a:Addr}{xs ys:List V}
theorem SqL.of{K:PySem.W.Frag}(h:H a=some (.lst xs)): SqL K H a xs:=.inl (.inl h)
theorem SqT.of{K:PySem.W.Frag}(h:H a=some (.tup xs)): SqT K H a xs:=.inl (.inl h)
theorem Inv.list(I:Inv X pins σ H s)(h:SqL X.K H a xs): ∃its:List Value,Vals xs its/\PlainL s.heap a its.toArray/\xs.length<=sizeLine:=by
 rcases h with h|⟨o,its,n,hk,hc,hd,hs,hz,r⟩
 ·obtain⟨z,its,n,r,e⟩:=h.ok I.hok
  exact⟨its,r,⟨_,n,e,rfl,rfl,rfl⟩,z⟩
 ·refine⟨its.toList,r,⟨o,n,I.kIn a o hk,hc,hd,by simpa using hs⟩,?_⟩
  have e:=r.length;simp only [ue] at e;omega
theorem Inv.tupleX(I:Inv X pins σ H s)(h:SqT X.K H a xs): ∃its:List Value,Vals xs its/\TupX s.heap a its.toArray/\xs.length<=sizeLine:=by
 rcases h with h|⟨o,its,n,hk,hc,hd,hs,hz,r⟩
 ·obtain⟨z,its,r,p⟩:=h.ok I.hok
  exact⟨its,r,p,z⟩
 ·refine⟨its.toList,r,⟨o,I.kIn a o hk,hc,hd,n,by simpa using hs⟩,?_⟩
  have e:=r.length;simp only [ue] at e;omega
theorem Inv.tuple(I:Inv X pins σ H s)(h:SqT X.K H a xs): ∃its:List Value,Vals xs its/\IsTup s.heap a its.toArray/\xs.length<=sizeLine:=let⟨its,r,p,z⟩:=I.tupleX h; ⟨its,r,p.up,z⟩
theorem Inv.list_inj(I:Inv X pins σ H s)(h:SqL X.K H a xs)(h':SqL X.K H a ys): xs=ys:=by
 obtain⟨its,r,⟨o,n,e,_,_,d⟩,_⟩:=I.list h;obtain⟨its',r',⟨o',n',e',_,_,d'⟩,_⟩:=I.list h';rw [e] at e';cases e';rw [d] at d';injection d' with d1 _
 have:its=its':=by simpa using pk Array.toList d1
 subst this;exact r.inj r'
theorem Inv.tuple_inj(I:Inv X pins σ H s)(h:SqT X.K H a xs)(h':SqT X.K H a ys): xs=ys:=by
 obtain⟨its,r,⟨o,e,_,n,d⟩,_⟩:=I.tuple h;obtain⟨its',r',⟨o',e',_,n',d'⟩,_⟩:=I.tuple h';rw [e] at e';cases e';rw [d] at d';injection d' with d1 _
 have:its=its':=by simpa using pk Array.toList d1
 subst this;exact r.inj r'
end
abbrev Cx.wish(X:Cx)(E:Value->Shared->Prop): Cx:={X with xe:=E}
abbrev Cx.nox(X:Cx): Cx:=X.wish fun _ _=>False
theorem Cx.Ok.wish{X:Cx}(ok:X.Ok)(E:Value->Shared->Prop): (X.wish E).Ok:=
 ⟨ok.mod,ok.kind,ok.glob,ok.blt,ok.above,ok.inj,ok.has,ok.cab,ok.hd,ok.frames,ok.stk,ok.exf,ok.bs,ok.bsz,ok.noex,ok.exfs,ok.funs,ok.frf⟩
theorem Cx.Ok.unwish{X:Cx}{E:Value->Shared->Prop}(ok:(X.wish E).Ok): X.Ok:=
 ⟨ok.mod,ok.kind,ok.glob,ok.blt,ok.above,ok.inj,ok.has,ok.cab,ok.hd,ok.frames,ok.stk,ok.exf,ok.bs,ok.bsz,ok.noex,ok.exfs,ok.funs,ok.frf⟩
section
variable{X:Cx}{pins:List (Addr×Obj)}{σ : St}{H:Hp}{s:Shared}{E:Value->Shared->Prop}
theorem Inv.wish(I:Inv X pins σ H s)(E:Value->Shared->Prop): Inv (X.wish E) pins σ H s:=⟨I.ok.wish E,I.os,I.bare,I.base,I.loc,I.cell,I.free,I.freeC,I.pin,I.hok,I.len⟩
theorem Inv.unwish(I:Inv (X.wish E) pins σ H s): Inv X pins σ H s:=⟨I.ok.unwish,I.os,I.bare,I.base,I.loc,I.cell,I.free,I.freeC,I.pin,I.hok,I.len⟩
theorem SP.unwish{D:Ends}{f:Flow}{s':Shared}(h:SP (X.wish E) pins D f s'): SP X pins D f s':=by
 cases f with
 | next=>obtain⟨σ',H',I,q⟩:=h;exact⟨σ',H',I.unwish,q⟩
 | brk=>obtain⟨σ',H',I,q⟩:=h;exact⟨σ',H',I.unwish,q⟩
 | cont=>obtain⟨σ',H',I,q⟩:=h;exact⟨σ',H',I.unwish,q⟩
 | ret u=>obtain⟨v, σ',H',I,r,q⟩:=h;exact⟨v, σ',H',I.unwish,r,q⟩
theorem PSs.nox{st:List Stmt}{t:TS}(h:PSs X.nox st t): PSs X st t:=fun pins s σ H D I hw=>
 t5 (h pins s σ H D (I.wish _) hw) (fun _ _ q=>q.unwish) fun _ _ z=>False.elim z
end
section
variable{X:Cx}{st:Stmt}{rest:List Stmt}{t u:TS}{e:Expr}{te:TE}{pos:Pos}
def tNext:TS:=fun D σ H=>D.nx σ H
def qxq(t u:TS): TS:=fun D σ H=>t {D with nx:=u D} σ H
theorem qrf:PSs X [] tNext:=fun _ _ σ H _ I h=>g3q ⟨σ,H,I,h⟩
theorem qnv(h1:PS X st t)(h2:PSs X rest u): PSs X (st :: rest) (qxq t u):=by
 intro pins s σ H D I h;refine wpAny_execs_cons (thn (h1 pins s σ H {D with nx:=u D} I h) fun f s1 q=>?_);cases f with
 | next=>
  obtain⟨σ',H',I',q⟩:=q;exact h2 pins s1 σ' H' D I' q
 | ret v=>exact q
 | brk=>exact q
 | cont=>exact q
theorem qrg(h1:PS X st t): PSs X [st] t:=by
 intro pins s σ H D I h;refine wpAny_execs_cons (thn (h1 pins s σ H D I h) fun f s1 q=>?_);cases f with
 | next=>exact g3q q
 | ret v=>exact q
 | brk=>exact q
 | cont=>exact q
theorem Inv.quiet{pins:List (Addr×Obj)}{σ : St}{H:Hp}{s:Shared}(I:Inv X pins σ H s): interactive X.env=false:=by simp [interactive,I.ok.kind]
def qwg(te:TE): TS:=fun D σ H=>te σ H fun _ H1=>D.nx σ H1
theorem qia(he:PE X e te)(hs:swapsWith e none pos.line X.env=pure false:=by rfl): PS X (.Expr e pos) (qwg te):=by
 intro pins s σ H D I h;exact wpAny_Expr_any (thn (he pins s σ H _ I h) fun v s1 ⟨x,H1,I1,r1,q1⟩=>⟨σ,H1,I1,q1⟩) I.quiet hs
def qxr(te:TE): TS:=fun D σ H=>te σ H D.rt
theorem qtu(he:PE X e te): PS X (.Return (some e) pos) (qxr te):=by
 intro pins s σ H D I h;exact wpAny_Return_some (thn (he pins s σ H _ I h) fun v s1 ⟨x,H1,I1,r1,q1⟩=>⟨x, σ,H1,I1,r1,q1⟩)
def qxs(c:TT)(t u:TS): TS:=fun D σ H=>c σ H fun b H1=>if b=true then t D σ H1 else u D σ H1
theorem qwh{c:Expr}{a b:List Stmt}{tc:TT}(hc:PT X c tc)(ha:PSs X a t)(hb:PSs X b u): PS X (.If c a b pos) (qxs tc t u):=by
 intro pins s σ H D I h;refine wpAny_If (thn (hc pins s σ H _ I h) fun d s1 ⟨H1,I1,q1⟩=>?_);cases d with
 | true=>exact ha pins s1 σ H1 D I1 q1
 | false=>exact hb pins s1 σ H1 D I1 q1
end
abbrev TG:=V->St->Hp->(St->Hp->Prop)->Prop
abbrev TGs:=List V->St->Hp->(St->Hp->Prop)->Prop
def PG(X:Cx)(target:Expr)(t:TG): Prop:=
 ∀(pins:List (Addr×Obj)) (s:Shared) (σ : St) (H:Hp) (v:V) (u:Value) (Q:St->Hp->Prop),Inv X pins σ H s->RelV v u->t v σ H Q ->
  wpAny (model X.prog X.w) X.A (assign target X.env u) (fun _ s'=>∃ σ' H',Inv X pins σ' H' s'/\Q σ' H') X.xe s
def PGs(X:Cx)(ts:List Expr)(t:TGs): Prop:=
 ∀(pins:List (Addr×Obj)) (s:Shared) (σ : St) (H:Hp) (vs:List V) (us:List Value) (Q:St->Hp->Prop),Inv X pins σ H s->Vals vs us->t vs σ H Q ->
  wpAny (model X.prog X.w) X.A (assignInOrder ((assignEach ts X.env).map (·.2)) us) (fun _ s'=>∃ σ' H',Inv X pins σ' H' s'/\Q σ' H') X.xe s
section
variable{X:Cx}{pos:Pos}
def q95(i:Nat): TG:=fun v σ H Q=>Q (σ.set i (some v)) H
theorem qrh{i:Nat}{x:Str}(hN:X.N.Nodup)(hi:X.N[i]? = some x)(hx:Loc X.env.scope x)(hf:X.fn x=true\/X.env.scope.names.lookup x=some .local:=by first|exact .inl rfl|exact .inr rfl|assumption): PG X (.Name x pos) (q95 i):=by
 intro pins s σ H v u Q I r h;exact wpAny_assign_Name (qa1 I hN hi hx r (fun s' I'=>⟨_,H,I',h⟩) hf)
def gNil:TGs:=fun vs σ H Q=>vs=[]/\Q σ H
def qwi(t:TG)(u:TGs): TGs:=fun vs σ H Q=>∃v r,vs=v :: r/\t v σ H fun σ' H'=>u r σ' H' Q
theorem qri:PGs X [] gNil:=by
 intro pins s σ H vs us Q I r h;obtain⟨e,h⟩:=h;subst e;cases r;exact assignInOrder_nil ⟨σ,H,I,h⟩
theorem qnw{e:Expr}{es:List Expr}{t:TG}{u:TGs}(h1:PG X e t)(h2:PGs X es u)
  (hs:(assignEach (e :: es) X.env).map (·.2)=assign e X.env :: (assignEach es X.env).map (·.2):=by rfl):PGs X (e :: es) (qwi t u):=by
 intro pins s σ H vs us Q I r h;obtain⟨v,vr,e1,h⟩:=h;subst e1;cases r with
 | cons r rr=>
  rw [hs];refine assignInOrder_cons (thn (h1 pins s σ H _ _ _ I r h) fun _ s1 ⟨σ1,H1,I1,q1⟩=>?_);exact h2 pins s1 σ1 H1 _ _ Q I1 rr q1
def qxt(K:PySem.W.Frag)(n:Nat)(t:TGs): TG:=fun v σ H Q=>∃a xs,v=.ref a/\SqT K H a xs/\xs.length=n/\t xs σ H Q
theorem qtv{es:List Expr}{k:Nat}{t:TGs}{n:Nat}(hc:X.calm=true)(h:PGs X es t)
  (hn:(assignEach es X.env).length=n:=by rfl) (hst:(assignEach es X.env).findIdx? (·.1)=none:=by rfl):PG X (.Tuple es k pos) (qxt X.K n t):=by
 intro pins s σ H v u Q I r hw;obtain⟨a,xs,e1,hq,hl,hw⟩:=hw;subst e1;cases r;obtain⟨its,rv,ht,hz⟩:=I.tuple hq;refine assign_Tuple_tuple (I.ok.hd hc) ht (by simp [hn, <- hl,rv.length]) hst fun h' hx=>?_;have I1:Inv X pins σ H {s with heap:=h'}:=I.kept (t':=s.toks) fun b o e=>hx b o (mf (m9 e)) e;exact h pins _ σ H xs _ Q I1 (by simpa using rv) hw
def qnx(te:TE)(g:TG): TS:=fun D σ H=>te σ H fun x H1=>g x σ H1 D.nx
theorem qtw{tg e:Expr}{te:TE}{g:TG}(he:PE X e te)(hg:PG X tg g)(hs:swapsWithSole [tg] e pos.line X.env=pure false:=by rfl)(hw:swappedStores [tg] e X.env=pure none:=by rfl)
  (h1:(assignEach [tg] X.env).map (·.2)=[assign tg X.env]:=by rfl):PS X (.Assign [tg] e pos) (qnx te g):=by
 intro pins s σ H D I h;refine wpAny_Assign_stores (thn (he pins s σ H _ I h) fun v s1 ⟨x,H1,I1,r1,q1⟩=>?_) hs hw;rw [h1];exact thn (hg pins s1 σ H1 x v _ I1 r1 q1) fun _ s2 q=>q
theorem qln{i:Nat}{x:Str}{e:Expr}{te:TE}{pos':Pos}(hN:X.N.Nodup)(hi:X.N[i]? = some x)(hx:Loc X.env.scope x)(he:PE X e te)(hs:swapsWith e (some (.Name x pos')) pos.line X.env=pure false:=by rfl)(hf:X.fn x=true\/X.env.scope.names.lookup x=some .local:=by first|exact .inl rfl|exact .inr rfl|assumption):
  PS X (.Assign [.Name x pos'] e pos) (qnx te (q95 i)):=by
 intro pins s σ H D I h;refine wpAny_Assign_Name (thn (he pins s σ H _ I h) fun v s1 ⟨y,H1,I1,r1,q1⟩=>?_) hs;exact qa1 I1 hN hi hx r1 (fun s2 I2=>⟨_,H1,I2,q1⟩) hf
end
section
variable{X:Cx}{pos:Pos}
def qtx(c:TT)(tb:TS): TS:=fun D σ H=>∃W:Nat->St->Hp->Prop,(∃m,W m σ H)/\∀m σ H,W m σ H ->
 c σ H fun b H1=>if b=true then ∃N:St->Hp->Prop,(∀ σ' H',N σ' H'->∃m',m'<m/\W m' σ' H')/\tb {D with nx:=N,ct:=N,bk:=D.nx} σ H1 else D.nx σ H1
theorem qny{c:Expr}{body:List Stmt}{tc:TT}{tb:TS}(hp:PassesOwn (model X.prog X.w) X.A X.env X.xe)(hc:PT X c tc)(hb:PSs X body tb): PS X (.While c body [] pos) (qtx tc tb):=by
 intro pins s σ H D I h;obtain⟨W,⟨m0,w0⟩,turn⟩:=h;refine wpAny_While (codeAny_whileLoop (fun n s'=>∃ σ' H',Inv X pins σ' H' s'/\W n σ' H') ?_ m0 ⟨σ,H,I,w0⟩)
 rintro n s1 ⟨σ1,H1,I1,w1⟩
 refine g12 hp (thn (hc pins s1 σ1 H1 _ I1 (turn n σ1 H1 w1)) fun b s2 ⟨H2,I2,q2⟩=>?_);cases b with
 | true=>
  obtain⟨N,hN,q2⟩:=q2;rw [gq rfl];refine g12 hp (thn (hb pins s2 σ1 H2 _ I2 q2) fun f s3 q3=>?_);cases f with
  | next=>
   obtain⟨σ3,H3,I3,n3⟩:=q3;obtain⟨m',hm,w3⟩:=hN σ3 H3 n3;exact⟨m',hm, σ3,H3,I3,w3⟩
  | cont=>
   obtain⟨σ3,H3,I3,n3⟩:=q3;obtain⟨m',hm,w3⟩:=hN σ3 H3 n3;exact⟨m',hm, σ3,H3,I3,w3⟩
  | brk=>exact q3
  | ret v=>exact q3
 | false=>
  rw [m6 mh];exact g3q ⟨σ1,H2,I2,q2⟩
end
structure It where
 go:Nat->Hp->Prop
 yld:Nat->Hp->V->Hp->Prop
 stop:Nat->Hp->Prop
def q47(X:Cx)(pins:List (Addr×Obj))(H:Hp)(b:Addr): Prop:=
 H b=none/\b≠X.env.locals/\b∉X.fs/\(b∈X.ex\/X.s₀.heap.objs.size<=b)/\(∀x c,X.env.cells.lookup x=some c->c≠b)/\∀p∈X.pn++pins,p.1≠b
theorem Inv.fpOk{X:Cx}{pins:List (Addr×Obj)}{σ : St}{H H':Hp}{s:Shared}{b:Addr}(I:Inv X pins σ H s)(hb:s.heap.objs.size<=b)(hn:H' b=none): q47 X pins H' b:=by
 refine⟨hn,uw (gr I.lt hb),I.nofs hb,.inr (mq I.sz hb),fun x c e z=>?_,fun p hp z=>?_⟩
 ·obtain⟨v,q⟩:=I.cell x c e
  exact absurd (gr q.lt (by rw [z];exact hb)) (g1b _)
 ·exact absurd (gr (m9 (I.pin p hp).1) (by rw [z];exact hb)) (g1b _)
structure Turn(P:Program)(w:World)(K:PySem.W.Frag)(tg:Expr)(J:It)(fp:List Addr)(it:Addr)(tn:Nat->Heap->Prop): Prop where
 mem:it∈fp
 obj:∀i h,tn i h->∀b∈fp,∃o,h.get? b=some o/\∀v,o.data ≠ .cell v
 keep:∀i h h',tn i h->(∀b∈fp,∀o,h.get? b=some o->h'.get? b=some o)->tn i h'
 item:∀(X:Cx),X.prog=P->X.w=w->X.K=K->X.calm=true->∀(i:Nat) (pins:List (Addr×Obj)) (s:Shared) (σ : St) (H:Hp) (E:Value->Shared->Prop),Inv X pins σ H s->(∀b∈fp,q47 X pins H b)->tn i s.heap->J.go i H ->
  wpAny (model P w) X.A (pyNext (.ref it)) (fun r s1=>∃u,r=some u /\
   wpAny (model P w) X.A (letOwnedTupleGo tg (.ref it) u) (fun _ s2=>∃x H',Inv X pins σ H' s2/\RelV x u/\J.yld i H x H'/\tn (i+1) s2.heap/\∀b∈fp,H' b=none) E s1) E s
 done:∀(X:Cx),X.prog=P->X.w=w->X.K=K->X.calm=true->∀(i:Nat) (pins:List (Addr×Obj)) (s:Shared) (σ : St) (H:Hp) (E:Value->Shared->Prop),Inv X pins σ H s->(∀b∈fp,q47 X pins H b)->tn i s.heap->J.stop i H ->
  wpAny (model P w) X.A (pyNext (.ref it)) (fun r s1=>r=none/\Inv X pins σ H s1) E s
 self:∀(A:Around) (i:Nat) (s:Shared) (Q:Value->Shared->Prop) (E:Value->Shared->Prop),tn i s.heap->Q (.ref it) s->wpAny (model P w) A (pyIter (.ref it)) Q E s
abbrev TI:=St->Hp->(It->Hp->Prop)->Prop
def PIE(X:Cx)(pins:List (Addr×Obj))(σ : St)(tg:Expr)(R:It->Hp->Prop)(itv:Value)(s2:Shared): Prop:=
 ∃(it:Addr) (fp:List Addr) (tn:Nat->Heap->Prop) (J:It) (H':Hp),itv=.ref it/\Inv X pins σ H' s2/\Turn X.prog X.w X.K tg J fp it tn/\tn 0 s2.heap/\(∀b∈fp,q47 X pins H' b)/\R J H'
def PI(X:Cx)(tg iter:Expr)(wi:TI): Prop:=
 ∀(pins:List (Addr×Obj)) (s:Shared) (σ : St) (H:Hp) (R:It->Hp->Prop),Inv X pins σ H s->wi σ H R ->
  wpAny (model X.prog X.w) X.A (eval iter X.env) (fun v s1=>wpAny (model X.prog X.w) X.A (pyIter v) (PIE X pins σ tg R) X.xe s1) X.xe s
theorem qe5{M:Model}{A:Around}{E:Value->Shared->Prop}{s:Shared}{tg:Expr}{it:Addr}{u:Value}{o:Obj}{n:String}{vs:Array Value}{Q:Unit->Shared->Prop}(ho:s.heap.get? it=some o)(hc:o.cls=.type n)(hd:o.data=.fields vs)
  (hn:["enumerate","zip","dict_itemiterator","dict_reverseitemiterator","odict_iterator","itertools.zip_longest","itertools.pairwise"].contains n=false) (hQ:Q () s):wpAny M A (letOwnedTupleGo tg (.ref it) u) Q E s:=by
 unfold letOwnedTupleGo;cases tg <;> first
  | exact g8 hQ
  | (cases u <;> first
    | exact g8 hQ
    | (refine g0 (wpAny_load ho ?_);rw [hc,hd];show wpAny M A (if(["enumerate","zip","dict_itemiterator","dict_reverseitemiterator","odict_iterator","itertools.zip_longest","itertools.pairwise"].contains n&&vs[0]? == some (rawInt _))=true then _ else _) Q E s;rw [m6 (by intro h;rw [hn,g46] at h;cases h)];exact g8 hQ))
def Itl(K:PySem.W.Frag)(a:Addr): It:=
 ⟨fun i H=>∃xs x,SqL K H a xs/\xs[i]? = some x,fun i H x H'=>H'=H/\∀xs,SqL K H a xs->xs[i]? = some x,fun i H=>∃xs,SqL K H a xs/\xs.length<=i⟩
def Itt(K:PySem.W.Frag)(a:Addr): It:=
 ⟨fun i H=>∃xs x,SqT K H a xs/\xs[i]? = some x,fun i H x H'=>H'=H/\∀xs,SqT K H a xs->xs[i]? = some x,fun i H=>∃xs,SqT K H a xs/\xs.length<=i⟩
def Itr(lo:Int)(n:Nat): It:=⟨fun i _=>i<n,fun i H x H'=>H'=H/\x=.int (lo+i),fun i _=>n<=i⟩
theorem qlo{P:Program}{w:World}{K:PySem.W.Frag}{tg:Expr}(a it:Addr): Turn P w K tg (Itl K a) [it] it (fun i h=>h.IsListIter it a i) where
 mem:=by simp
 obj:=fun i h st b hb=>by
  have e:b=it:=by simpa using hb
  subst e;obtain⟨o,e,c,d⟩:=st;exact⟨o,e,fun v z=>by rw [d] at z;cases z⟩
 keep:=fun i h h' st k=>st.at fun o e=>k it (by simp) o e
 item:=by
  intro X hP hw hK hc i pins s σ H E I hf st hg;subst hP hw hK;obtain⟨xs,x,hq,hx⟩:=hg;obtain⟨its,rv,p,hz⟩:=I.list hq;obtain⟨u,hu,ru⟩:=rv.get hx;obtain⟨f0,f1,f2,f3,f4,f5⟩:=hf it (by simp);refine wpAny_pyNext_list_item st p.isList (x:=u) (by simpa using hu) fun h' st' sb=>?_;have I1:Inv X pins σ H {s with heap:=h'}:=I.turned (t':=s.toks) (fun b o hb e=>(sb.2 b hb).trans e) f0 f1 f3 f4 f5;obtain⟨o,e,c,d⟩:=id st';exact⟨u,rfl,qe5 (s:={s with heap:=h'}) e c d (by decide) ⟨x,H,I1,ru,⟨rfl,fun ys hy=>by rw [I.list_inj hy hq];exact hx⟩,st',fun b hb=>(hf b hb).1⟩⟩
 done:=by
  intro X hP hw hK hc i pins s σ H E I hf st hg;subst hP hw hK;obtain⟨xs,hq,hx⟩:=hg;obtain⟨its,rv,p,hz⟩:=I.list hq;obtain⟨f0,f1,f2,f3,f4,f5⟩:=hf it (by simp);have hl:=rv.length;exact wpAny_pyNext_list_end (I.ok.hd hc) st p.isList (by simp;omega) fun h' eb=>⟨rfl,I.turned (t':=s.toks) (fun b o hb e=>eb b o hb e) f0 f1 f3 f4 f5⟩
 self:=fun _ _ _ _ _ st h=>wpAny_pyIter_listiter st h
theorem qj9{P:Program}{w:World}{K:PySem.W.Frag}{tg:Expr}(a it:Addr): Turn P w K tg (Itt K a) [it] it (fun i h=>h.IsTupleIter it a i) where
 mem:=by simp
 obj:=fun i h st b hb=>by
  have e:b=it:=by simpa using hb
  subst e;obtain⟨o,e,c,d⟩:=st;exact⟨o,e,fun v z=>by rw [d] at z;cases z⟩
 keep:=fun i h h' st k=>st.at fun o e=>k it (by simp) o e
 item:=by
  intro X hP hw hK hc i pins s σ H E I hf st hg;subst hP hw hK;obtain⟨xs,x,hq,hx⟩:=hg;obtain⟨its,rv,p,hz⟩:=I.tuple hq;obtain⟨u,hu,ru⟩:=rv.get hx;obtain⟨f0,f1,f2,f3,f4,f5⟩:=hf it (by simp);refine wpAny_pyNext_tuple_item st (show s.heap.IsTuple a its.toArray from p) (x:=u) (by simpa using hu) fun h' st' sb=>?_;have I1:Inv X pins σ H {s with heap:=h'}:=I.turned (t':=s.toks) (fun b o hb e=>(sb.2 b hb).trans e) f0 f1 f3 f4 f5;obtain⟨o,e,c,d⟩:=id st';exact⟨u,rfl,qe5 (s:={s with heap:=h'}) e c d (by decide) ⟨x,H,I1,ru,⟨rfl,fun ys hy=>by rw [I.tuple_inj hy hq];exact hx⟩,st',fun b hb=>(hf b hb).1⟩⟩
 done:=by
  intro X hP hw hK hc i pins s σ H E I hf st hg;subst hP hw hK;obtain⟨xs,hq,hx⟩:=hg;obtain⟨its,rv,p,hz⟩:=I.tuple hq;obtain⟨f0,f1,f2,f3,f4,f5⟩:=hf it (by simp);have hl:=rv.length;exact wpAny_pyNext_tuple_end (I.ok.hd hc) st (show s.heap.IsTuple a its.toArray from p) (by simp;omega) fun h' eb=>⟨rfl,I.turned (t':=s.toks) (fun b o hb e=>eb b o hb e) f0 f1 f3 f4 f5⟩
 self:=fun _ _ _ _ _ st h=>wpAny_pyIter_tupleiter st h
theorem qja{P:Program}{w:World}{K:PySem.W.Frag}{tg:Expr}(it:Addr)(lo:Int)(n:Nat): Turn P w K tg (Itr lo n) [it] it (fun i h=>IsRangeIter h it (lo+(i:Nat)*1) ((n:Int)-(i:Nat)) 1) where
 mem:=by simp
 obj:=fun i h st b hb=>by
  have e:b=it:=by simpa using hb
  subst e;exact⟨_,st,fun v z=>by
   have z':Data.fields _=Data.cell v:=z;cases z'⟩
 keep:=fun i h h' st k=>k it (by simp) _ st
 item:=by
  intro X hP hw hK hc i pins s σ H E I hf st hg;subst hP hw hK;obtain⟨f0,f1,f2,f3,f4,f5⟩:=hf it (by simp);have W:=Walks.range (prog:=X.prog) (w:=X.w) (I.ok.hd hc) it lo 1 n;refine W.item i s _ _ hg st fun v h' tk hv st' kk=>?_;obtain⟨t,rfl⟩:=hv;have I1:Inv X pins σ H {s with heap:=h',toks:=tk}:=I.turned (fun b o hb e=>kk b o (by simpa using hb) e) f0 f1 f3 f4 f5;refine⟨_,rfl,qe5 (s:={s with heap:=h',toks:=tk}) (n:="range_iterator") st' rfl rfl (by decide) ⟨.int (lo+i),H,I1,⟨t,?_⟩,⟨rfl,rfl⟩,st',fun b hb=>(hf b hb).1⟩⟩;rw [Int.mul_one]
 done:=by
  intro X hP hw hK hc i pins s σ H E I hf st hg;subst hP hw hK;obtain⟨f0,f1,f2,f3,f4,f5⟩:=hf it (by simp);exact wpAny_pyNext_range_end (I.ok.hd hc) st (by have:n<=i:=hg;omega) fun h' eb=>⟨rfl,I.turned (t':=s.toks) (fun b o hb e=>eb b o hb e) f0 f1 f3 f4 f5⟩
 self:=fun _ _ _ _ _ st h=>wpAny_pyIter_rangeiter st h
section
variable{X:Cx}{tg:Expr}
theorem qek{pins:List (Addr×Obj)}{σ : St}{H:Hp}{s:Shared}{R:It->Hp->Prop}{E:Value->Shared->Prop}{lo hi:Int}{t u v:Tok}{tk:Nat}(I:Inv X pins σ H s)(h1 : -(2 ^ 62)<=lo)(h2:lo<2 ^ 62)(h3 : -(2 ^ 62)<=hi)(h4:hi<2 ^ 62)
  (q:R (Itr lo (hi-lo).toNat) H):wpAny (model X.prog X.w) X.A (pyIter (.ref s.heap.objs.size)) (PIE X pins σ tg R) E {s with heap:=s.heap.push {cls:=.type "range",data:=.fields #[.int lo t,.int hi u,.int 1 v]},toks:=tk}:=by
 refine wpAny_pyIter_range (IsRange.new ..) (small_one h1 h2 h3 h4) ?_;have I1:Inv X pins σ H {s with heap:=s.heap.push {cls:=.type "range",data:=.fields #[.int lo t,.int hi u,.int 1 v]},toks:=tk}:=I.kept fun b o e=>gb _ e;refine⟨(s.heap.push {cls:=.type "range",data:=.fields #[.int lo t,.int hi u,.int 1 v]}).objs.size,[(s.heap.push {cls:=.type "range",data:=.fields #[.int lo t,.int hi u,.int 1 v]}).objs.size],_,_,H,rfl,
  I1.kept (t':=tk) fun b o e=>gb _ e,qja _ lo (hi-lo).toNat,?_,fun b hb=>?_,q⟩
 ·have e1:lo+((0:Nat):Int)*1=lo:=by simp
  have e2:(((hi-lo).toNat:Nat):Int)-((0:Nat):Int)=Builtin.Range.rangeSize lo hi 1:=by rw [rangeSize_one];split <;> omega
  show IsRangeIter _ _ (lo+((0:Nat):Int)*1) ((((hi-lo).toNat:Nat):Int)-((0:Nat):Int)) 1;rw [e1,e2];exact gz _ rfl
 ·have e:b=(s.heap.push {cls:=.type "range",data:=.fields #[.int lo t,.int hi u,.int 1 v]}).objs.size:=by simpa using hb
  subst e;exact I1.fpOk (gi _) (I1.hok.fresh (gi _))
def qwj(ta:TA): TI:=fun σ H R=>ta σ H fun vs H1=>∃j:Int,vs=[.int j] /\ -(2 ^ 62)<=j/\j<2 ^ 62/\R (Itr 0 j.toNat) H1
def qwk(ta:TA): TI:=fun σ H R=>ta σ H fun vs H1=>∃i j:Int,vs=[.int i,.int j]/\(-(2 ^ 62)<=i/\i<2 ^ 62 /\ -(2 ^ 62)<=j/\j<2 ^ 62)/\R (Itr i (j-i).toNat) H1
theorem qlp{a:Expr}{ta:TA}{p pos:Pos}(hg:Gl X "range")(hm:X.mg "range" = none)(ha:PA X [a] ta)(hs:starEach [a] X.env=[(false,eval a X.env)]:=by rfl): PI X tg (.Call (.Name "range" p) [a] [] pos) (qwj ta):=by
 intro pins s σ H R I h;refine Call_ (q37 I hg hm boot_range (g08 (thn (ha pos pins s σ H _ I h) fun us s1 ⟨vs,H1,I1,r1,q1⟩=>?_) hs rfl));obtain⟨j,e,q1,q2,q⟩:=q1;subst e;cases r1 with
 | cons r rr=>
  cases rr;obtain⟨t,rfl⟩:=r;exact call_range_1 (qek I1 (by omega) (by omega) q1 q2 (by simpa using q))
theorem qlq{a b:Expr}{ta:TA}{p pos:Pos}(hg:Gl X "range")(hm:X.mg "range" = none)(ha:PA X [a,b] ta)(hs:starEach [a,b] X.env=[(false,eval a X.env),(false,eval b X.env)]:=by rfl)(hs2:starEach [b] X.env=[(false,eval b X.env)]:=by rfl):
  PI X tg (.Call (.Name "range" p) [a,b] [] pos) (qwk ta):=by
 intro pins s σ H R I h;refine Call_ (q37 I hg hm boot_range (g08 (thn (ha pos pins s σ H _ I h) fun us s1 ⟨vs,H1,I1,r1,q1⟩=>?_) (by rw [hs,hs2]) (by rw [hs2];rfl)));obtain⟨i,j,e,⟨q1,q2,q3,q4⟩,q⟩:=q1;subst e;cases r1 with
 | cons r rr=>
  cases rr with
  | cons r' rr=>
   cases rr;obtain⟨t,rfl⟩:=r;obtain⟨t',rfl⟩:=r';exact call_range_2 (qek I1 q1 q2 q3 q4 q)
def qxu(wi:TI)(g:TG)(tb:TS): TS:=fun D σ H=>wi σ H fun J H1=>∃W:Nat->Nat->St->Hp->Prop,(∃m,W 0 m σ H1)/\∀i m σ H,W i m σ H ->
 (J.stop i H/\D.nx σ H)\/(J.go i H/\∃N:St->Hp->Prop,(∀ σ' H',N σ' H'->∃m',m'<m/\W (i+1) m' σ' H')/\∀x H',J.yld i H x H'->g x σ H' fun σ2 H2=>tb {D with nx:=N,ct:=N,bk:=D.nx} σ2 H2)
def q65(fp:List Addr)(h:Heap): List (Addr×Obj):=fp.filterMap fun b=>(h.get? b).map fun o=>(b,o)
theorem q3x{fp:List Addr}{h:Heap}{b:Addr}{o:Obj}(hb:b∈fp)(e:h.get? b=some o): (b,o)∈q65 fp h:=g4d.mpr ⟨b,hb,by rw [e];rfl⟩
theorem qlr{fp:List Addr}{h:Heap}{p:Addr×Obj}(hp:p∈q65 fp h): p.1∈fp/\h.get? p.1=some p.2:=by
 obtain⟨b,hb,e⟩:=g4d.mp hp;cases q:h.get? b with
 | none=>rw [q] at e;cases e
 | some o=>
  rw [q] at e;have e':(b,o)=p:=gu e;subst e';exact⟨hb,q⟩
theorem Inv.pinned{pins:List (Addr×Obj)}{σ : St}{H:Hp}{s:Shared}{fp:List Addr}(I:Inv X pins σ H s)(hf:∀b∈fp,q47 X pins H b)(ho:∀b∈fp,∃o,s.heap.get? b=some o/\∀v,o.data ≠ .cell v): Inv X (pins++q65 fp s.heap) σ H s:=
 I.pins_of fun p hp=>(uj.mp hp).elim (fun z=>I.pin p (n8 _ z)) fun z=>by
  obtain⟨hb,e⟩:=qlr z;obtain⟨f0,f1,f2,_⟩:=hf p.1 hb;obtain⟨o,e',d⟩:=ho p.1 hb;rw [e] at e';cases e';exact⟨e,f0,f1,f2,d⟩
theorem Inv.unpinned{pins pl:List (Addr×Obj)}{σ : St}{H:Hp}{s:Shared}(I:Inv X (pins++pl) σ H s): Inv X pins σ H s:=I.pins_of fun p hp=>I.pin p (n8 _ (g3p _ hp))
theorem qty{iter:Expr}{body:List Stmt}{wi:TI}{g:TG}{tb:TS}{pos:Pos}(hp:PassesOwn (model X.prog X.w) X.A X.env X.xe)(hc:X.calm=true)(hi:PI X tg iter wi)(hg:PG X tg g)(hb:PSs X body tb)
  (hs:∀x,foldedSetIterable iter X.env x=pure x:=by intro _;rfl):PS X (.For tg iter body [] pos) (qxu wi g tb):=by
 intro pins s σ H D I h;refine wpAny_For (thn (hi pins s σ H _ I h) fun v s1 h1=>thn h1 fun itv s2 h2=>?_) hs;obtain⟨it,fp,tn,J,H2,e,I2,T,st2,f2,W,⟨m0,w0⟩,turn⟩:=h2;subst e
 -- what stays true of the iterator's objects through the loop
 have stat:∀ {H':Hp},(∀b∈fp,H' b=none)->∀b∈fp,q47 X pins H' b:=fun hn b hb=>⟨hn b hb,(f2 b hb).2⟩
 refine codeAny_forLoop_any (fun n s'=>∃i σ' H',Inv X pins σ' H' s'/\tn i s'.heap/\(∀b∈fp,H' b=none)/\W i n σ' H') ?_ m0 ⟨0, σ,H2,I2,st2,fun b hb=>(f2 b hb).1,w0⟩
 rintro n s3 ⟨i, σ3,H3,I3,st3,fr3,w3⟩
 rcases turn i n σ3 H3 w3 with⟨stop,qn⟩|⟨go,N,hN,step⟩
 ·refine g12 hp (thn (T.done X rfl rfl rfl hc i pins s3 σ3 H3 X.xe I3 (stat fr3) st3 stop) fun r s4 ⟨hr,I4⟩=>?_)
  subst hr;exact g3q ⟨σ3,H3,I4,qn⟩
 ·refine g12 hp (thn (T.item X rfl rfl rfl hc i pins s3 σ3 H3 X.xe I3 (stat fr3) st3 go) fun r s4 ⟨u,hr,h4⟩=>?_)
  subst hr;refine g12 hp (thn h4 fun _ s5 ⟨x,H5,I5,r5,y5,st5,fr5⟩=>?_);have I5':=I5.pinned (stat fr5) (T.obj _ _ st5);refine g12 hp (thn (hg _ s5 σ3 H5 x u _ I5' r5 (step x H5 y5)) fun _ s6 ⟨σ6,H6,I6,q6⟩=>?_);refine g12 hp (thn (hb _ s6 σ6 H6 _ I6 q6) fun f s7 q7=>?_);have again:∀ {σ7:St} {H7:Hp},Inv X (pins++q65 fp s5.heap) σ7 H7 s7->N σ7 H7->∃m,m<n/\∃i σ' H',Inv X pins σ' H' s7/\tn i s7.heap/\(∀b∈fp,H' b=none)/\W i m σ' H':=fun {σ7 H7} I7 n7=>by
   obtain⟨m',hm,w7⟩:=hN σ7 H7 n7;refine⟨m',hm,i+1, σ7,H7,I7.unpinned,T.keep _ _ _ st5 fun b hb o e=>(I7.pin (b,o) (n8 _ (n8 _ (q3x hb e)))).1,fun b hb=>?_,w7⟩;obtain⟨o,e,d⟩:=T.obj _ _ st5 b hb;exact(I7.pin (b,o) (n8 _ (n8 _ (q3x hb e)))).2.1
  cases f with
  | next=>obtain⟨σ7,H7,I7,n7⟩:=q7;exact again I7 n7
  | cont=>obtain⟨σ7,H7,I7,n7⟩:=q7;exact again I7 n7
  | brk=>obtain⟨σ7,H7,I7,q7⟩:=q7;exact⟨σ7,H7,I7.unpinned,q7⟩
  | ret v=>obtain⟨x7, σ7,H7,I7,r7,q7⟩:=q7;exact⟨x7, σ7,H7,I7.unpinned,r7,q7⟩
end
abbrev R2:=V->V->Hp->VK->Prop
def OpR(X:Cx)(f:Value->Value->Sem Value)(r:R2): Prop:=
 ∀(pins:List (Addr×Obj)) (s:Shared) (σ : St) (H:Hp) (x y:V) (v u:Value) (Q:VK),Inv X pins σ H s->RelV x v->RelV y u->r x y H Q ->
  wpAny (model X.prog X.w) X.A (f v u) (EP X pins σ Q) X.xe s
def jx(X:Cx)(f:Value)(r:List V->Hp->VK->Prop): Prop:=
 ∀(pins:List (Addr×Obj)) (s:Shared) (σ : St) (H:Hp) (xs:List V) (us:List Value) (Q:VK),Inv X pins σ H s->Vals xs us->r xs H Q ->
  wpAny (model X.prog X.w) X.A (call f us) (EP X pins σ Q) X.xe s
def qxv(X:Cx)(r:V->Hp->(Bool->Hp->Prop)->Prop): Prop:=
 ∀(pins:List (Addr×Obj)) (s:Shared) (σ : St) (H:Hp) (x:V) (v:Value) (Q:Bool->Hp->Prop),Inv X pins σ H s->RelV x v->r x H Q ->
  wpAny (model X.prog X.w) X.A (truthy v) (TP X pins σ Q) X.xe s
def tOp(r:R2)(ta tb:TE): TE:=fun σ H Q=>ta σ H fun x H1=>tb σ H1 fun y H2=>r x y H2 Q
def rI(C:Int->Int->Prop)(g:Int->Int->V): R2:=fun x y H Q=>∃i j,x=.int i/\y=.int j/\C i j/\Q (g i j) H
def rI0(g:Int->Int->V): R2:=fun x y H Q=>∃i j,x=.int i/\y=.int j/\Q (g i j) H
section
variable{X:Cx}{a b c:Expr}{ta tb tc:TE}{pos:Pos}
theorem qnz(ha:PE X a ta)(hb:PE X b tb){pins:List (Addr×Obj)}{s:Shared}{σ : St}{H:Hp}{R:V->V->Hp->Prop}(I:Inv X pins σ H s)
  (h:ta σ H fun x H1=>tb σ H1 fun y H2=>R x y H2) {Q:Value->Shared->Prop} {f:Value->Value->Sem Value}
  (hf:∀v u s2 x y H2,Inv X pins σ H2 s2->RelV x v->RelV y u->R x y H2->wpAny (model X.prog X.w) X.A (f v u) Q X.xe s2) :
  wpAny (model X.prog X.w) X.A (eval a X.env) (fun v s₁=>wpAny (model X.prog X.w) X.A (eval b X.env) (fun u s₂=>wpAny (model X.prog X.w) X.A (f v u) Q X.xe s₂) X.xe s₁) X.xe s:=by
 refine thn (ha pins s σ H _ I h) fun v s1 ⟨x,H1,I1,r1,q1⟩=>?_;refine thn (hb pins s1 σ H1 _ I1 q1) fun u s2 ⟨y,H2,I2,r2,q2⟩=>?_;exact hf v u s2 x y H2 I2 r1 r2 q2
theorem qqs{op:Operator}{r:R2}(ho:OpR X (binaryOp op) r)(ha:PE X a ta)(hb:PE X b tb): PE X (.BinOp a op b pos) (tOp r ta tb):=by
 intro pins s σ H Q I h;exact wpAny_BinOp (qnz ha hb I h fun v u s2 x y H2 I2 rx ry q=>ho pins s2 σ H2 x y v u Q I2 rx ry q)
theorem opI{f:Value->Value->Sem Value}{C:Int->Int->Prop}{g:Int->Int->Int}
  (rule:∀(i j:Int) (t u:Tok) (s:Shared) (Q:Value->Shared->Prop) (E:Value->Shared->Prop),C i j->Q (.int (g i j) s.toks) {s with toks:=s.toks+1}->wpAny (model X.prog X.w) X.A (f (.int i t) (.int j u)) Q E s) :
  OpR X f (rI C fun i j=>.int (g i j)):=by
 intro pins s σ H x y v u Q I rx ry h;obtain⟨i,j,rfl,rfl,hc,q⟩:=h;obtain⟨t,rfl⟩:=rx;obtain⟨t',rfl⟩:=ry;exact rule i j t t' s _ _ hc ⟨.int (g i j),H,I.tok _,⟨_,rfl⟩,q⟩
theorem qjb{f:Value->Value->Sem Value}{g:Int->Int->Int}
  (rule:∀(i j:Int) (t u:Tok) (s:Shared) (Q:Value->Shared->Prop) (E:Value->Shared->Prop),Q (.int (g i j) s.toks) {s with toks:=s.toks+1}->wpAny (model X.prog X.w) X.A (f (.int i t) (.int j u)) Q E s) :
  OpR X f (rI0 fun i j=>.int (g i j)):=by
 intro pins s σ H x y v u Q I rx ry h;obtain⟨i,j,rfl,rfl,q⟩:=h;obtain⟨t,rfl⟩:=rx;obtain⟨t',rfl⟩:=ry;exact rule i j t t' s _ _ ⟨.int (g i j),H,I.tok _,⟨_,rfl⟩,q⟩
theorem qjc{f:Value->Value->Sem Value}{g:Int->Int->Bool}
  (rule:∀(i j:Int) (t u:Tok) (s:Shared) (Q:Value->Shared->Prop) (E:Value->Shared->Prop),Q (.bool (g i j)) s->wpAny (model X.prog X.w) X.A (f (.int i t) (.int j u)) Q E s) :
  OpR X f (rI0 fun i j=>.bl (g i j)):=by
 intro pins s σ H x y v u Q I rx ry h;obtain⟨i,j,rfl,rfl,q⟩:=h;obtain⟨t,rfl⟩:=rx;obtain⟨t',rfl⟩:=ry;exact rule i j t t' s _ _ ⟨.bl (g i j),H,I,rfl,q⟩
def qxw(i j:Int): Prop:=0<j/\j<1073741824
def qtz(i j:Int): Prop:=0<=j/\j<=1000000/\i.natAbs<2 ^ 64
def CMul(i j:Int): Prop:=(-(2 ^ 64)<i/\i<2 ^ 64)\/(-(2 ^ 64)<j/\j<2 ^ 64)
theorem CMul.ok{i j:Int}(h:CMul i j): IntMulOk i j:=by
 rcases h with⟨h1,h2⟩|⟨h1,h2⟩
 ·exact .of_left (intBits_le_64 h1 h2)
 ·exact .of_right (intBits_le_64 h1 h2)
theorem qjd(k:Nat): (0:Int)<=2 ^ k:=by
 rw [two_pow_cast];exact g4e _
theorem qu0:OpR X (binaryOp .Add) (rI0 fun i j=>.int (i+j)):=qjb fun _ _ _ _ _ _ _ q=>add_int q
theorem qu1:OpR X (binaryOp .Sub) (rI0 fun i j=>.int (i-j)):=qjb fun _ _ _ _ _ _ _ q=>sub_int q
theorem qu2:OpR X (binaryOp .Mult) (rI CMul fun i j=>.int (i*j)):=opI fun _ _ _ _ _ _ _ hc q=>mul_int q hc.ok
theorem qrj:OpR X (binaryOp .FloorDiv) (rI qxw fun i j=>.int (i / j)):=opI fun i j _ _ _ _ _ hc q=>by
 have h1:(0:Int)<j:=hc.1;have h2:j<1073741824:=hc.2;exact floordiv_int (by omega) (by rw [g2f i (by omega)];exact q) (.inl (PyProof.noPylong_small (by omega)))
theorem qu3:OpR X (binaryOp .Mod) (rI (fun _ j=>0<j) fun i j=>.int (i%j)):=opI fun i j _ _ _ _ _ hc q=>by
 have h1:(0:Int)<j:=hc;exact mod_int' (by omega) (by rw [Int.fmod_eq_emod_of_nonneg i (by omega)];exact q)
theorem qu4:OpR X (binaryOp .Pow) (rI qtz fun i j=>.int (i ^ j.toNat)):=opI fun _ _ _ _ _ _ _ hc q=>pow_int_small hc.1 hc.2.1 hc.2.2 q
theorem qu5:OpR X (binaryOp .LShift) (rI qtz fun i j=>.int (i*2 ^ j.toNat)):=opI fun _ _ _ _ _ _ _ hc q=>lshift_int_small hc.1 hc.2.1 hc.2.2 q
theorem qu6:OpR X (binaryOp .RShift) (rI (fun _ j=>0<=j) fun i j=>.int (i / 2 ^ j.toNat)):=opI fun i j _ _ _ _ _ hc q=>
 rshift_int hc (by rw [g2f i (qjd _)];exact q)
theorem qu7:OpR X (binaryOp .BitAnd) (rI0 fun i j=>.int (Builtin.bitAnd i j)):=qjb fun _ _ _ _ _ _ _ q=>and_int q
theorem qwl:OpR X (binaryOp .BitOr) (rI0 fun i j=>.int (Builtin.bitOr i j)):=qjb fun _ _ _ _ _ _ _ q=>or_int q
end
def qby:V->V->Bool
 | .non,.non=>true | .non,.int _=>true | .int _,.non=>true | .non,.bl _=>true | .bl _,.non=>true | .non,.str _=>true | .str _,.non=>true
 | .int _,.int _=>true | .bl _,.bl _=>true | .str _,.str _=>true | .byt _,.byt _=>true
 | .int _,.str _=>true | .str _,.int _=>true | .bl _,.str _=>true | .str _,.bl _=>true
 | _,_=>false
def rEq:R2:=fun x y H Q=>qby x y=true/\Q (.bl (decide (x=y))) H
def rNe:R2:=fun x y H Q=>qby x y=true/\Q (.bl (!decide (x=y))) H
theorem qib{i j:Int}: decide (V.int i=V.int j)=(i==j):=by
 rw [p6];simp
theorem qls{i j:Bool}: decide (V.bl i=V.bl j)=(i==j):=by
 rw [p6];simp
theorem qic{i j:Str}: decide (V.str i=V.str j)=(i==j):=by
 rw [p6];simp
theorem qid{i j:Array UInt8}: decide (V.byt i=V.byt j)=(i.toList==j.toList):=by
 rw [p6];cases i;cases j;simp
section
variable{X:Cx}{a b c:Expr}{ta tb tc:TE}{pos:Pos}
theorem j5{pins:List (Addr×Obj)}{σ : St}{H:Hp}{s:Shared}{Q:VK}{k k':Bool}(I:Inv X pins σ H s)(q:Q (.bl k) H)(e:k=k'): EP X pins σ Q (.bool k') s:=by
 subst e;exact⟨.bl k,H,I,rfl,q⟩
theorem qwm:OpR X (compareOp .Eq) rEq:=by
 intro pins s σ H x y v u Q I rx ry h;obtain⟨hs,q⟩:=h;cases x with
 | non=>
  cases rx;cases y with
  | non=>cases ry;exact PySem.EqNone.eq_none_none (j5 I q (by simp))
  | bl j=>cases ry;exact PySem.EqNone.eq_none_bool (j5 I q (by simp))
  | int j=>obtain⟨t',rfl⟩:=ry;exact PySem.EqNone.eq_none_int (j5 I q (by simp))
  | str j=>obtain⟨t',rfl⟩:=ry;exact PySem.EqNone.eq_none_str (j5 I q (by simp))
  | _=>exact absurd (show false=true from hs) mh
 | bl i=>
  cases rx;cases y with
  | non=>cases ry;exact PySem.EqNone.eq_bool_none (j5 I q (by simp))
  | bl j=>cases ry;exact eq_bool (j5 I q qls)
  | str j=>obtain⟨t',rfl⟩:=ry;exact PySem.EqMixed.eq_bool_str (j5 I q (by simp))
  | _=>exact absurd (show false=true from hs) mh
 | int i=>
  obtain⟨t,rfl⟩:=rx;cases y with
  | non=>cases ry;exact PySem.EqNone.eq_int_none (j5 I q (by simp))
  | int j=>obtain⟨t',rfl⟩:=ry;exact eq_int (j5 I q qib)
  | str j=>obtain⟨t',rfl⟩:=ry;exact PySem.EqMixed.eq_int_str (j5 I q (by simp))
  | _=>exact absurd (show false=true from hs) mh
 | str i=>
  obtain⟨t,rfl⟩:=rx;cases y with
  | non=>cases ry;exact PySem.EqNone.eq_str_none (j5 I q (by simp))
  | bl j=>cases ry;exact PySem.EqMixed.eq_str_bool (j5 I q (by simp))
  | int j=>obtain⟨t',rfl⟩:=ry;exact PySem.EqMixed.eq_str_int (j5 I q (by simp))
  | str j=>obtain⟨t',rfl⟩:=ry;exact eq_str (j5 I q qic)
  | _=>exact absurd (show false=true from hs) mh
 | byt i=>
  obtain⟨t,rfl⟩:=rx;cases y with
  | byt j=>obtain⟨t',rfl⟩:=ry;exact PySem.W.eq_bytes (j5 I q qid)
  | _=>exact absurd (show false=true from hs) mh
 | _=>cases y <;> exact absurd (show false=true from hs) mh
theorem qwn:OpR X (compareOp .NotEq) rNe:=by
 intro pins s σ H x y v u Q I rx ry h;obtain⟨hs,q⟩:=h;cases x with
 | non=>
  cases rx;cases y with
  | non=>cases ry;exact PySem.EqNone.ne_none_none (j5 I q (by simp))
  | bl j=>cases ry;exact PySem.EqNone.ne_none_bool (j5 I q (by simp))
  | int j=>obtain⟨t',rfl⟩:=ry;exact PySem.EqNone.ne_none_int (j5 I q (by simp))
  | str j=>obtain⟨t',rfl⟩:=ry;exact PySem.EqNone.ne_none_str (j5 I q (by simp))
  | _=>exact absurd (show false=true from hs) mh
 | bl i=>
  cases rx;cases y with
  | non=>cases ry;exact PySem.EqNone.ne_bool_none (j5 I q (by simp))
  | bl j=>cases ry;exact ne_bool (j5 I q (pk not qls))
  | str j=>obtain⟨t',rfl⟩:=ry;exact PySem.EqMixed.ne_bool_str (j5 I q (by simp))
  | _=>exact absurd (show false=true from hs) mh
 | int i=>
  obtain⟨t,rfl⟩:=rx;cases y with
  | non=>cases ry;exact PySem.EqNone.ne_int_none (j5 I q (by simp))
  | int j=>obtain⟨t',rfl⟩:=ry;exact ne_int (j5 I q (pk not qib))
  | str j=>obtain⟨t',rfl⟩:=ry;exact PySem.EqMixed.ne_int_str (j5 I q (by simp))
  | _=>exact absurd (show false=true from hs) mh
 | str i=>
  obtain⟨t,rfl⟩:=rx;cases y with
  | non=>cases ry;exact PySem.EqNone.ne_str_none (j5 I q (by simp))
  | bl j=>cases ry;exact PySem.EqMixed.ne_str_bool (j5 I q (by simp))
  | int j=>obtain⟨t',rfl⟩:=ry;exact PySem.EqMixed.ne_str_int (j5 I q (by simp))
  | str j=>obtain⟨t',rfl⟩:=ry;exact ne_str (j5 I q (pk not qic))
  | _=>exact absurd (show false=true from hs) mh
 | byt i=>
  obtain⟨t,rfl⟩:=rx;cases y with
  | byt j=>obtain⟨t',rfl⟩:=ry;exact PySem.W.ne_bytes (j5 I q (pk not qid))
  | _=>exact absurd (show false=true from hs) mh
 | _=>cases y <;> exact absurd (show false=true from hs) mh
theorem qwo:OpR X (compareOp .Lt) (rI0 fun i j=>.bl (decide (i<j))):=qjc fun _ _ _ _ _ _ _ q=>lt_int q
theorem qwp:OpR X (compareOp .LtE) (rI0 fun i j=>.bl (decide (i<=j))):=qjc fun _ _ _ _ _ _ _ q=>le_int q
theorem qwq:OpR X (compareOp .Gt) (rI0 fun i j=>.bl (decide (j<i))):=qjc fun _ _ _ _ _ _ _ q=>gt_int q
theorem qwr:OpR X (compareOp .GtE) (rI0 fun i j=>.bl (decide (j<=i))):=qjc fun _ _ _ _ _ _ _ q=>ge_int q
theorem qrk{op:CmpOp}{r:R2}(ho:OpR X (compareOp op) r)(ha:PE X a ta)(hb:PE X b tb)(hm:behindInMarks op b=false): PE X (.Compare a [op] [b] pos) (tOp r ta tb):=by
 intro pins s σ H Q I h;exact wpAny_Compare1 (qnz ha hb I h fun v u s2 x y H2 I2 rx ry q=>ho pins s2 σ H2 x y v u Q I2 rx ry q) hm
def qws(t:TE): TT:=fun σ H Q=>t σ H fun x H'=>∃k,x=.bl k/\Q k H'
theorem qrl{op:CmpOp}{r:R2}(ho:OpR X (compareOp op) r)(ha:PE X a ta)(hb:PE X b tb)(hm:behindInMarks op b=false): PT X (.Compare a [op] [b] pos) (qws (tOp r ta tb)):=by
 intro pins s σ H Q I h;refine wpAny_isTrue_Compare1 (thn (ha pins s σ H _ I h) fun v s1 ⟨x,H1,I1,r1,q1⟩=>thn (hb pins s1 σ H1 _ I1 q1) fun u s2 ⟨y,H2,I2,r2,q2⟩=>
  thn (ho pins s2 σ H2 x y v u _ I2 r1 r2 q2) fun c s3 ⟨z,H3,I3,r3,k,e,q3⟩=>?_) hm
 subst e;cases r3;exact g0i ⟨H3,I3,q3⟩
def qo0(K:PySem.W.Frag)(x:V)(H:Hp)(k:Bool): Prop:=
 match x with
 | .non=>k=false
 | .bl b=>k=b
 | .int i=>k=(i != 0)
 | .str y=>y.length<=sizeLine/\k=((y.length:Int) != 0)
 | .byt y=>y.size<=sizeLine/\k=((y.size:Int) != 0)
 | .ref p=>(∃xs,SqL K H p xs/\k = !xs.isEmpty)\/(∃xs,SqT K H p xs/\k = !xs.isEmpty)\/∃kvs,H p=some (.dK kvs)/\k = !kvs.isEmpty
 | _=>False
theorem qje{κ : Type}{kvs:List (κ × V)}{vs:List (κ × Value)}(r:KV kvs vs): (!vs.isEmpty) = !kvs.isEmpty:=by
 cases r <;> rfl
theorem qap{xs:List V}{its:List Value}(r:Vals xs its): (!its.toArray.isEmpty) = !xs.isEmpty:=by
 cases r <;> simp
theorem q7v:(sizeLine:Nat)<2 ^ 63:=by rw [g1z];decide
theorem qu8:qxv X (fun x H Q=>∃k,qo0 X.K x H k/\Q k H):=by
 intro pins s σ H x v Q I rx h;obtain⟨k,e,q⟩:=h;have hl:=q7v;have hs:sizeLine=16777216:=g1z;cases x with
 | non=>
  cases rx;have e':k=false:=e;subst e';exact truthy_none ⟨H,I,q⟩
 | bl b=>
  cases rx;have e':k=b:=e;subst e';exact g0i ⟨H,I,q⟩
 | int i=>
  obtain⟨t,rfl⟩:=rx;have e':k=(i != 0):=e;subst e';exact PySem.P.truthy_int ⟨H,I,q⟩
 | str y=>
  obtain⟨t,rfl⟩:=rx;obtain⟨hy,e'⟩:y.length<=sizeLine/\k=((y.length:Int) != 0):=e;subst e';exact PySem.P.truthy_str (by omega) ⟨H,I.tok _,q⟩
 | byt y=>
  obtain⟨t,rfl⟩:=rx;obtain⟨hy,e'⟩:y.size<=sizeLine/\k=((y.size:Int) != 0):=e;subst e';exact PySem.W.truthy_bytes (by omega) ⟨H,I.tok _,q⟩
 | ref p=>
  cases rx;have e':(∃xs,SqL X.K H p xs/\k = !xs.isEmpty)\/(∃xs,SqT X.K H p xs/\k = !xs.isEmpty)\/∃kvs,H p=some (.dK kvs)/\k = !kvs.isEmpty:=e;rcases e' with⟨xs,hx,e'⟩|⟨xs,hx,e'⟩|⟨kvs,hx,e'⟩
  ·subst e'
   obtain⟨its,r,pl,hz⟩:=I.list hx;have hlen:=r.length;exact wpAny_truthy_list pl.isList (by simp only [gj];omega) ⟨H,I.tok _,by rw [qap r];exact q⟩
  ·subst e'
   obtain⟨its,r,pl,hz⟩:=I.tuple hx;have hlen:=r.length;exact truthy_tuple pl (by simp only [gj];omega) ⟨H,I.tok _,by rw [qap r];exact q⟩
  ·subst e'
   obtain⟨hz,hS,vs,r,m⟩:kvs.length<=sizeLine/\(p==sysModules)=false/\∃vs,KV kvs vs/\s.heap.DictOf (mixKind X.prog X.w) p vs:=I.hok p _ hx;have hlen:kvs.length=vs.length:=g4m r;exact wpAny_truthy_dict hS m (by omega) ⟨H,I.tok _,by rw [qje r];exact q⟩
 | _=>exact(show False from e).elim
theorem qo1(ha:PE X a ta)(he:∀whole,isTrue a X.env whole=(do let v <- whole;standAt a.pos;holding [v] (truthy v))):
  PT X a (fun σ H Q=>ta σ H fun x H'=>∃k,qo0 X.K x H' k/\Q k H'):=by
 intro pins s σ H Q I h;exact isTrue_plain (thn (ha pins s σ H _ I h) fun v s1 ⟨x,H1,I1,r1,q1⟩=>qu8 pins s1 σ H1 x v Q I1 r1 q1) (he _)
theorem vals1{x:V}{us:List Value}(r:Vals [x] us): ∃u,us=[u]/\RelV x u:=by
 cases r with
 | cons r1 r2=>cases r2;exact⟨_,rfl,r1⟩
theorem vals2{x y:V}{us:List Value}(r:Vals [x,y] us): ∃u w',us=[u,w']/\RelV x u/\RelV y w':=by
 cases r with
 | cons r1 r2=>
  cases r2 with
  | cons r3 r4=>cases r4;exact⟨_,_,rfl,r1,r3⟩
theorem qlt(hc:X.calm=true): jx X (.builtin "max") (fun xs H Q=>∃i j,xs=[.int i,.int j]/\Q (.int (if j>i then j else i)) H):=by
 intro pins s σ H xs us Q I r h;obtain⟨i,j,rfl,q⟩:=h;obtain⟨u,w',rfl,⟨t,rfl⟩,⟨t',rfl⟩⟩:=vals2 r;refine max_two_ints (I.ok.hd hc) fun h' tk k=>⟨_,H,I.kept k,?_,q⟩
 by_cases hj:j>i
 ·rw [gq hj,gq hj];exact⟨_,rfl⟩
 ·rw [m6 hj,m6 hj];exact⟨_,rfl⟩
theorem qlu:jx X (.type "int") (fun xs H Q=>(∃i,xs=[.int i]/\Q (.int i) H)\/∃k,xs=[.bl k]/\Q (.int (if k then 1 else 0)) H):=by
 intro pins s σ H xs us Q I r h;rcases h with⟨i,rfl,q⟩|⟨k,rfl,q⟩
 ·obtain⟨u,rfl,t,rfl⟩:=vals1 r
  exact call_int_int ⟨.int i,H,I,⟨_,rfl⟩,q⟩
 ·obtain⟨u,rfl,r1⟩:=vals1 r
  cases r1;exact call_int_bool ⟨.int (if k then 1 else 0),H,I.tok _,⟨_,rfl⟩,q⟩
def qxx(K:PySem.W.Frag)(x:V)(H:Hp)(n:Nat): Prop:=
 match x with
 | .str y=>y.length<=sizeLine/\n=y.length
 | .byt y=>y.size<=sizeLine/\n=y.size
 | .ref p=>(∃xs,SqL K H p xs/\n=xs.length)\/∃xs,SqT K H p xs/\n=xs.length
 | _=>False
theorem qo2:jx X (.builtin "len") (fun xs H Q=>∃x n,xs=[x]/\qxx X.K x H n/\Q (.int n) H):=by
 intro pins s σ H xs us Q I r h;obtain⟨x,n,rfl,e,q⟩:=h;obtain⟨u,rfl,rx⟩:=vals1 r;have hl:=q7v;have hs:sizeLine=16777216:=g1z;cases x with
 | str y=>
  obtain⟨t,rfl⟩:=rx;obtain⟨hy,e'⟩:y.length<=sizeLine/\n=y.length:=e;subst e';exact len_str (by omega) ⟨.int _,H,I.tok _,⟨_,rfl⟩,q⟩
 | byt y=>
  obtain⟨t,rfl⟩:=rx;obtain⟨hy,e'⟩:y.size<=sizeLine/\n=y.size:=e;subst e';exact PySem.W.len_bytes (by omega) ⟨.int _,H,I.tok _,⟨_,rfl⟩,q⟩
 | ref p=>
  cases rx;have e':(∃xs,SqL X.K H p xs/\n=xs.length)\/∃xs,SqT X.K H p xs/\n=xs.length:=e;rcases e' with⟨xs,hx,e'⟩|⟨xs,hx,e'⟩
  ·subst e'
   obtain⟨its,r',pl,hz⟩:=I.list hx;have hlen:=r'.length;exact Calls.call_len_list pl.isList (by simp only [gj];omega) ⟨.int xs.length,H,I.tok _,⟨_,by simp only [gj];rw [hlen]⟩,q⟩
  ·subst e'
   obtain⟨its,r',pl,hz⟩:=I.tuple hx;have hlen:=r'.length;exact len_tuple pl (by simp only [gj];omega) ⟨.int xs.length,H,I.tok _,⟨_,by simp only [gj];rw [hlen]⟩,q⟩
 | _=>exact(show False from e).elim
end
structure ObjM(h:Heap)(x dx C:Addr)(mA:Str->Option Value): Prop where
 obj:h.get? x=some (PySem.W.instObj C dx)
 ns:h.Ns1 dx mA
 ne:dx≠x
theorem qlv{h:Heap}{dx:Addr}{mA:Str->Option Value}(n:h.Ns1 dx mA): ∃od,h.get? dx=some od/\∀name,PySem.W.lookIn name od=some (mA name):=by
 obtain⟨o,es,ep,ho,hd,hk,_,hm⟩:=n;refine⟨o,ho,fun name=>?_⟩;have e:=hm name;unfold nsFind findBy at e;rw [<- Array.find?_toList] at e;unfold PySem.W.lookIn;rw [hd];dsimp only
 split
 ·rename_i y q
  rw [q] at e;exact pk some e
 ·rename_i q
  rw [q] at e;have a:es.toList.any (·.refKey)=false:=by
   rw [List.any_eq_false];intro y hy;obtain⟨z,t,hkey⟩:=hk y (Array.mem_toList_iff.mp hy);simp [DictEntry.refKey,hkey]
  have a':¬es.toList.any (·.refKey)=true:=by rw [a];exact mh
  rw [m6 a'];exact pk some e
theorem ObjM.look{h:Heap}{x dx C:Addr}{mA:Str->Option Value}(I:ObjM h x dx C mA): ∃od,PySem.W.InstAt h x (PySem.W.instObj C dx) C (some od)/\∀name,PySem.W.lookIn name od=some (mA name):=
 let⟨od,ho,hl⟩:=qlv I.ns
 ⟨od,⟨I.obj,rfl,rfl,ho⟩,hl⟩
section
variable{prog:Program}{w:World}{A:Around}{E:Value->Shared->Prop}{s:Shared}{K:PySem.W.Frag}{x dx C f:Addr}{mA:Str->Option Value}{name:Str}{v:Value}
theorem qo3{pl:Sem Bool}{Q:Value×List Value->Shared->Prop}(X:K.In s.heap)(I:ObjM s.heap x dx C mA)(hg:PySem.W.plainGet K C name=true)
  (hf:PySem.W.findIn K (.ref C) name=some (some (.ref f))) (ht:PySem.W.isFn K (.ref f)=true) (hv:mA name=none) (h:Q (.ref f,[.ref x]) s) :
  wpAny (model prog w) A (getMethod (.ref x) name pl) Q E s:=by
 obtain⟨od,J,hl⟩:=I.look;exact PySem.W.method_fn X J (PySem.W.plainGet_of hg).1 (PySem.W.plainGet_of hg).2 hf (g30.mp ht) (by show(PySem.W.lookIn name od).map (·.isSome)=some false;rw [hl,hv];rfl) h
end
theorem RelO.none_of{o:Option Value}(r:RelO none o): o=none:=by
 cases o with
 | none=>rfl
 | some u=>exact(show False from r).elim
section
variable{P:Program}{w:World}{H H':Hp}{h h':Heap}{a C dx:Addr}{fs fs':List (Str×V)}
theorem qie(hok:HOk P w H h)(e:H a=some (.ins C dx fs)): ∃mA,ObjM h a dx C mA/\(∀f,RelO (fs.lookup f) (mA f))/\PySem.Within mA (fs.map (·.1))/\fs.length<=1000/\H dx=some (.own a):=by
 obtain⟨d,z,ne,ob,mA,n,r,q⟩:=(show ObjOk P w H h a (.ins C dx fs) from hok a _ e)
 exact⟨mA,⟨ob,n,ne⟩,r,q,z,d⟩
end
structure Cls(K:PySem.W.Frag)(C:Addr): Prop where
 pg:PySem.W.plainGet K C Str.empty=true
 hd:PySem.W.hasDictIn K C=true
 po:PySem.W.plainOver K C=true
 sa:PySem.W.findIn K (.ref C) "__setattr__" = some (some (.builtin "object.__setattr__"))
theorem Cls.get{K:PySem.W.Frag}{C:Addr}(c:Cls K C)(f:Str): PySem.W.plainGet K C f=true:=c.pg
structure Meth(K:PySem.W.Frag)(C:Addr)(m:Str)(f:Addr): Prop where
 at_:PySem.W.findIn K (.ref C) m=some (some (.ref f))
 fn:PySem.W.isFn K (.ref f)=true
 kp:PySem.W.keepIn K (.ref f)=true
section
variable{X:Cx}{pins:List (Addr×Obj)}{σ : St}{H:Hp}{s:Shared}{a C dx:Addr}{fs:List (Str×V)}{f:Str}{v:V}{A:Around}{E:Value->Shared->Prop}
theorem qjf{m:Str}{g:Addr}{pl:Sem Bool}{Q:Value×List Value->Shared->Prop}(I:Inv X pins σ H s)(e:H a=some (.ins C dx fs))(c:Cls X.K C)(k:Meth X.K C m g)(l:fs.lookup m=none)
  (h:Q (.ref g,[.ref a]) s):wpAny (model X.prog X.w) A (getMethod (.ref a) m pl) Q E s:=by
 obtain⟨mA,O,r,_,_,_⟩:=qie I.hok e;have hn:mA m=none:=RelO.none_of (by rw [<- l];exact r m);exact qo3 I.kIn O (c.get m) k.at_ k.fn hn h
theorem Inv.made(I:Inv X pins σ H s): Inv X pins σ (upd (upd H s.heap.objs.size (.own (s.heap.objs.size+1))) (s.heap.objs.size+1) (.ins C s.heap.objs.size []))
  {s with heap:=(s.heap.push PySem.W.emptyDict).push (PySem.W.instObj C s.heap.objs.size)}:=by
 have e1:(s.heap.push PySem.W.emptyDict).get? s.heap.objs.size=some PySem.W.emptyDict:=gz s.heap rfl;have e2:((s.heap.push PySem.W.emptyDict).push (PySem.W.instObj C s.heap.objs.size)).get? (s.heap.objs.size+1)=some (PySem.W.instObj C s.heap.objs.size):=by
  have:=gz (s.heap.push PySem.W.emptyDict) (o:=PySem.W.instObj C s.heap.objs.size) rfl;rwa [g0c] at this
 have e3:(s.heap.push PySem.W.emptyDict).Ns s.heap.objs.size (fun _=>none):=⟨PySem.W.emptyDict, #[],_,e1,rfl,(fun e he=>absurd he (by simp)),fun _=>rfl⟩
 have I1:=I.laid (a:=s.heap.objs.size) (o:=.own (s.heap.objs.size+1)) (h':=s.heap.push PySem.W.emptyDict) (t':=s.toks) (fun b u q=>gb _ q) (gi _) ⟨_,e1⟩;refine I1.laid (a:=s.heap.objs.size+1) (o:=.ins C s.heap.objs.size []) (t':=s.toks) (fun b u q=>gb _ q) (g6d (g0c _ _)) ?_;have ne:s.heap.objs.size≠s.heap.objs.size+1:=mf (p9 _);refine⟨by rw [z8 ne,zi],t6 _,ne,e2,fun _=>none,(Heap.Ns1.of_empty e3).at fun o q=>gb _ q,fun _=>True.intro,fun y hy=>absurd rfl hy⟩
end
section
variable{X:Cx}{o e value:Expr}{f:Str}{pos pos' tpos:Pos}{ta tv:TE}
end
section
variable{X:Cx}{pins:List (Addr×Obj)}{σ : St}{H:Hp}{s:Shared}{A:Around}{E:Value->Shared->Prop}{Q:Value->Shared->Prop}{c:Value}{b:Bool}
end
structure Room(k:Nat)(A:Around): Prop where
 hd:A.handled=none
 dp:A.depth+3*k+5<recursionLimit
 un:A.units+16*k+200<cLine
theorem Room.mono{j k:Nat}{A:Around}(r:Room k A)(h:j<=k): Room j A:=⟨r.hd,by have:=r.dp;omega,by have:=r.un;omega⟩
theorem Room.deeper{k:Nat}{A:Around}(r:Room (k+1) A)(env:Env): Room k (A.deeper env):=
 ⟨r.hd,by have:=r.dp;show A.depth+1+3*k+5<_;omega,by have:=r.un;show A.units+3+16*k+200<_;omega⟩
theorem Room.in1{k:Nat}{A:Around}(r:Room (k+1) A): Room k A.in1:=
 ⟨r.hd,by have:=r.dp;show A.depth+3*k+5<_;omega,by have:=r.un;show A.units+1+16*k+200<_;omega⟩
theorem Room.depth{k:Nat}{A:Around}(r:Room k A): A.depth<recursionLimit:=by have:=r.dp;omega
theorem Room.units{k:Nat}{A:Around}(r:Room k A): A.units+64<cLine:=by have:=r.un;omega
def tNil:TA:=fun _ H Q=>Q [] H
def qqt(ta:TE)(tr:TA): TA:=fun σ H Q=>ta σ H fun x H1=>tr σ H1 fun xs H2=>Q (x :: xs) H2
section
variable{X:Cx}{e:Expr}{es:List Expr}{te:TE}{t:TA}{pos:Pos}
theorem q48:PA X [] tNil:=fun _ _ _ _ H Q I h=>Calls.spliced_nil ⟨[],H,I,.nil,h⟩
theorem q1m(ha:PE X e te)(hr:PA X es t)(hs:starEach (e :: es) X.env=(false,eval e X.env) :: starEach es X.env:=by rfl): PA X (e :: es) (qqt te t):=by
 intro pos pins s σ H Q I h;rw [hs];show wpAny _ _ (spliced ((false,eval e X.env) :: backTo pos (starEach es X.env))) _ _ s;refine Calls.spliced_cons (thn (ha pins s σ H _ I h) fun u s1 ⟨x,H1,I1,r1,q1⟩=>?_);exact thn (hr pos pins s1 σ H1 _ I1 q1) fun us s2 ⟨xs,H2,I2,r2,q2⟩=>⟨x :: xs,H2,I2,.cons r1 r2,q2⟩
def qxy(t:TA): TE:=fun σ H Q=>t σ H fun xs H1=>xs.length<=sizeLine/\∀p,H1 p=none->Q (.ref p) (upd H1 p (.tup xs))
def qxz(t:TA): TE:=fun σ H Q=>t σ H fun xs H1=>xs.length<=sizeLine/\∀p,H1 p=none->Q (.ref p) (upd H1 p (.lst xs))
theorem qu9{x1}(h:PA X es t): PE X (.Tuple es x1 pos) (qxy t):=by
 intro pins s σ H Q I hq;refine wpAny_Tuple_spliced (thn (h pos pins s σ H _ I hq) fun us s1 ⟨xs,H1,I1,r,z,q⟩=>⟨by rw [<- r.length];exact z,?_⟩);have hf:H1 s1.heap.objs.size=none:=I1.hok.fresh (gi _);refine⟨.ref s1.heap.objs.size,upd H1 s1.heap.objs.size (.tup xs),I1.laid (t':=s1.toks) (fun b u e=>gb _ e) (gi _) ?_,rfl,q _ hf⟩;exact⟨z,us,r,⟨_,gz _ rfl,rfl,rfl,_,rfl⟩⟩
theorem qua(h:PA X es t): PE X (.List es pos) (qxz t):=by
 intro pins s σ H Q I hq;refine wpAny_List_spliced (thn (h pos pins s σ H _ I hq) fun us s1 ⟨xs,H1,I1,r,z,q⟩=>⟨by rw [<- r.length];exact z,?_⟩);have hf:H1 s1.heap.objs.size=none:=I1.hok.fresh (gi _);refine⟨.ref s1.heap.objs.size,upd H1 s1.heap.objs.size (.lst xs),I1.laid (t':=s1.toks) (fun b u e=>gb _ e) (gi _) ?_,rfl,q _ hf⟩;exact⟨z,us,0,r,gz _ rfl⟩
end
abbrev Sp:=List V->Hp->VK->XK->Prop
abbrev CXT:=List Env->Hp->Shared->XK->Value->Shared->Prop
structure Env0(P:Program)(w:World)(K:PySem.W.Frag)(mg:Str->Option Value)(base:Heap)(A:Around)(outer:List Env)(s:Shared)(H:Hp): Prop where
 frames:A.frames=some outer
 mod:Mod K mg base
 bs:∀b o,base.get? b=some o->s.heap.get? b=some o/\H b=none
 bsz:base.objs.size<=s.heap.objs.size
 funs:s.heap.FunFrames base outer
 frf:∀b∈frs outer,H b=none
 hok:HOk P w H s.heap
 bare:AllBare s.gens
def CE(outer:List Env)(P:Program)(w:World)(H:Hp)(s:Shared)(Q:VK)(u:Value)(s':Shared): Prop:=
 ∃v H',s'.os=s.os/\AllBare s'.gens/\Un (frs outer) [] H H' s.heap s'.heap/\HOk P w H' s'.heap/\RelV v u/\Q v H'
def CR(CX:CXT)(outer:List Env)(P:Program)(w:World)(H:Hp)(s:Shared)(Q:VK)(E:XK)(r:Result)(s':Shared): Prop:=
 match r with
 | .ok (.ret u)=>CE outer P w H s Q u s'
 | .ok _=>False
 | .error e=>CX outer H s E e s'
structure FnOk(P:Program)(w:World)(K:PySem.W.Frag)(mg:Str->Option Value)(base:Heap)(CX:CXT)(k:Nat)(f:Addr)(fd:FuncData)(ps:List Str)(sp:Sp): Prop where
 len:∀vs H Q E,sp vs H Q E->vs.length=ps.length
 run:∀(A:Around) (outer:List Env) (s:Shared) (H:Hp) (args:Args) (us:List Value) (vs:List V) (Q:VK) (E:XK),Room k A->Env0 P w K mg base A outer s H->BindsTo s fd args (ps.zip us)->Vals vs us->sp vs H Q E ->
  codeAny (model P w) A (.call (.ref f) args) (CR CX outer P w H s Q E) s
theorem FnOk.imp{P:Program}{w:World}{K:PySem.W.Frag}{mg:Str->Option Value}{base:Heap}{CX:CXT}{k:Nat}{f:Addr}{fd:FuncData}{ps:List Str}{sp sp':Sp}(F:FnOk P w K mg base CX k f fd ps sp)
  (h:∀vs H Q E,sp' vs H Q E->sp vs H Q E):FnOk P w K mg base CX k f fd ps sp':=
 ⟨fun vs H Q E q=>F.len vs H Q E (h _ _ _ _ q),fun A outer s H args us vs Q E hr he hb hv hs=>F.run A outer s H args us vs Q E hr he hb hv (h _ _ _ _ hs)⟩
section
variable{X:Cx}{pins:List (Addr×Obj)}{σ : St}{H:Hp}{s s':Shared}
theorem Inv.env0(I:Inv X pins σ H s): Env0 X.prog X.w X.K X.mg X.base X.A X.stack s H:=
 ⟨I.ok.frames,I.ok.mod,I.bs,mq I.ok.bsz I.sz,I.stack,I.stkFree,I.hok,I.bare⟩
theorem Inv.after{Q:VK}{u:Value}(I:Inv X pins σ H s)(h:CE X.stack X.prog X.w H s Q u s'): EP X pins σ Q u s':=by
 obtain⟨v,H',os,bare,un,hok,r,q⟩:=h;obtain⟨hh,g,d,t,os'⟩:=s';obtain rfl:os'=s.os:=os;exact⟨v,H',I.call (h':=hh) (g':=g) (d':=d) (t':=t) (ch:=[]) un hok bare (fun b z=>absurd z (by simp)),r,q⟩
end
def qwt(sp:Sp)(dvs:List V)(E:XK)(t:TA): TE:=fun σ H Q=>t σ H fun vs H1=>sp (vs++dvs) H1 Q E
def qwu(C:Addr)(m:Str)(sp:Sp)(dvs:List V)(E:XK)(ta:TE)(t:TA): TE:=fun σ H Q=>ta σ H fun x H1=>∃a dx fs,x=.ref a/\H1 a=some (.ins C dx fs)/\fs.lookup m=none /\
 t σ H1 fun vs H2=>sp (x :: (vs++dvs)) H2 Q E
def Binds(K:PySem.W.Frag)(fd:FuncData)(ps:List Str)(ds:List Value): Prop:=
 ∀(s:Shared) (us:List Value),K.In s.heap->(us++ds).length=ps.length->BindsTo s fd ⟨us,[]⟩ (ps.zip (us++ds))
def q66(CX:CXT)(X:Cx)(E:XK): Prop:=∀(pins:List (Addr×Obj)) (σ : St) (H:Hp) (s:Shared) (e:Value) (s':Shared),Inv X pins σ H s->CX X.stack H s E e s'->X.xe e s'
section
variable{X:Cx}{CX:CXT}{k:Nat}{f C:Addr}{fd:FuncData}{ps:List Str}{sp:Sp}{dvs:List V}{ds:List Value}{E:XK}{x m:Str}{p pos apos:Pos}{e o:Expr}{es:List Expr}{ta:TE}{t:TA}
theorem qlw{pins:List (Addr×Obj)}{σ : St}{H:Hp}{s:Shared}{Q:VK}{us:List Value}{vs:List V}(F:FnOk X.prog X.w X.K X.mg X.base CX k f fd ps sp)(hr:Room k X.A)(hb:Binds X.K fd ps ds)(hd:Vals dvs ds)(hx:q66 CX X E)
  (I:Inv X pins σ H s) (r:Vals vs us) (h:sp (vs++dvs) H Q E):wpAny (model X.prog X.w) X.A (call (.ref f) us) (EP X pins σ Q) X.xe s:=by
 have r2:Vals (vs++dvs) (us++ds):=r.append hd;have hl:(us++ds).length=ps.length:=by rw [<- r2.length];exact F.len _ _ _ _ h
 refine g31 (g24 (F.run X.A X.stack s H ⟨us,[]⟩ (us++ds) (vs++dvs) Q E hr I.env0 (hb s us I.kIn hl) r2 h) fun r s' hq=>?_);cases r with
 | error e=>exact hx pins σ H s e s' I hq
 | ok fl=>
  cases fl with
  | ret u=>exact I.after hq
  | next=>exact False.elim hq
  | brk=>exact False.elim hq
  | cont=>exact False.elim hq
theorem qrm(F:FnOk X.prog X.w X.K X.mg X.base CX k f fd ps sp)(hr:Room k X.A)(hg:Gl X x)(hm:X.mg x=some (.ref f))(hk:PySem.W.keepIn X.K (.ref f)=true)(hb:Binds X.K fd ps ds)(hd:Vals dvs ds)(hx:q66 CX X E)
  (ha:PA X (e :: es) t) (hdb:(x==("__debug__" : Str))=false:=by decide) (he:starEach (e :: es) X.env=(false,eval e X.env) :: starEach es X.env:=by rfl) (hpl:(backTo pos (starEach es X.env)).any (·.1)=false:=by rfl) :
  PE X (.Call (.Name x p) (e :: es) [] pos) (qwt sp dvs E t):=by
 intro pins s σ H Q I h;refine g0x (q94 I hg hm ?_ hdb);refine PySem.W.callWith_K (h₀:=X.base) I.ok.mod.kin hk (thn (ha pos pins s σ H _ I h) fun us s1 ⟨vs,H1,I1,r,q⟩=>⟨I1.kIn,?_⟩) he hpl;exact qlw F hr hb hd hx I1 r q
theorem qrn{pl:Sem Bool}(he:PE X o ta)(c:Cls X.K C)(hm:Meth X.K C m f)(F:FnOk X.prog X.w X.K X.mg X.base CX k f fd ps sp)(hr:Room k X.A)(hb:Binds X.K fd ps ds)(hd:Vals dvs ds)(hx:q66 CX X E)(ha:PA X (e :: es) t)
  (hst:starEach (e :: es) X.env=(false,eval e X.env) :: starEach es X.env:=by rfl) (hpl:(backTo pos (starEach es X.env)).any (·.1)=false:=by rfl)
  (ht:eval (.Call (.Attribute o m apos) (e :: es) [] pos) X.env=(do
   let ov <- eval o X.env
   standAt apos.atName
   let(f,first) <- holding [ov] (getMethod ov m pl)
   callWith pos f first (backTo pos (starEach (e :: es) X.env)) (backToKw pos (keywordEach [] X.env))):=by rfl) :
  PE X (.Call (.Attribute o m apos) (e :: es) [] pos) (qwu C m sp dvs E ta t):=by
 intro pins s σ H Q I h;refine PySem.W.methodCall_KW (pl:=pl) (thn (he pins s σ H _ I h) fun u s1 ⟨x,H1,I1,rx,a,dx,fs,ex,ea,l,q⟩=>?_) ht;subst ex;obtain rfl:u=Value.ref a:=rx;refine qjf I1 ea c hm l ?_;refine PySem.W.callWith_K (first:=[.ref a]) (h₀:=X.base) I.ok.mod.kin hm.kp (thn (ha pos pins s1 σ H1 _ I1 q) fun us s2 ⟨vs,H2,I2,r,q2⟩=>⟨I2.kIn,?_⟩) hst hpl;exact qlw (us:=.ref a :: us) (vs:=.ref a :: vs) F hr hb hd hx I2 (.cons rfl r) q2
end
def PK(X:Cx)(kws:List Keyword)(t:TA): Prop:=
 ∀(pos:Pos) (pins:List (Addr×Obj)) (s:Shared) (σ : St) (H:Hp) (Q:List V->Hp->Prop),Inv X pins σ H s->t σ H Q->wpAny (model X.prog X.w) X.A (evalAll ((backToKw pos (keywordEach kws X.env)).map (·.2))) (AP X pins σ Q) X.xe s
section
variable{X:Cx}{CX:CXT}{k:Nat}{f C:Addr}{fd:FuncData}{ps ks:List Str}{sp:Sp}{E:XK}{x m:Str}{p pos apos kpos:Pos}{e o:Expr}{es:List Expr}{kws:List Keyword}{te ta:TE}{t tk:TA}{nm:Option Str}
theorem qub:PK X [] tNil:=fun _ _ _ _ H Q I h=>wpAny_evalAll_nil ⟨[],H,I,.nil,h⟩
theorem qro(ha:PE X e te)(hr:PK X kws t): PK X (⟨nm,e,kpos⟩ :: kws) (qqt te t):=by
 intro pos pins s σ H Q I h;show wpAny _ _ (evalAll ((do let v <- eval e X.env;standAt pos;pure v) :: (backToKw pos (keywordEach kws X.env)).map (·.2))) _ _ s;refine wpAny_evalAll_cons (g0 (thn (ha pins s σ H _ I h) fun u s1 ⟨x,H1,I1,r1,q1⟩=>g0 (wpAny_standAt (g8 ?_))));exact thn (hr pos pins s1 σ H1 _ I1 q1) fun us s2 ⟨xs,H2,I2,r2,q2⟩=>⟨x :: xs,H2,I2,.cons r1 r2,q2⟩
structure KBinds(K:PySem.W.Frag)(fd:FuncData)(ps ks:List Str)(g:List Value->List Value->List Value)(gV:List V->List V->List V): Prop where
 to:∀(s:Shared) (us ws:List Value),K.In s.heap->(g us ws).length=ps.length->BindsTo s fd ⟨us,ks.zip ws⟩ (ps.zip (g us ws))
 rel:∀ {vs:List V} {us:List Value} {zs:List V} {ws:List Value},Vals vs us->Vals zs ws->Vals (gV vs zs) (g us ws)
def quc(sp:Sp)(gV:List V->List V->List V)(E:XK)(t tk:TA): TE:=fun σ H Q=>t σ H fun vs H1=>tk σ H1 fun zs H2=>sp (gV vs zs) H2 Q E
variable{g:List Value->List Value->List Value}{gV:List V->List V->List V}
theorem qrp{pins:List (Addr×Obj)}{σ : St}{H:Hp}{s:Shared}{Q:VK}{us ws:List Value}{vs zs:List V}(F:FnOk X.prog X.w X.K X.mg X.base CX k f fd ps sp)(hr:Room k X.A)(hb:KBinds X.K fd ps ks g gV)(hx:q66 CX X E)
  (I:Inv X pins σ H s) (r:Vals vs us) (rz:Vals zs ws) (h:sp (gV vs zs) H Q E):wpAny (model X.prog X.w) X.A (call (.ref f) us (ks.zip ws)) (EP X pins σ Q) X.xe s:=by
 have r2:=hb.rel r rz;have hl:(g us ws).length=ps.length:=by rw [<- r2.length];exact F.len _ _ _ _ h
 refine g31 (g24 (F.run X.A X.stack s H ⟨us,ks.zip ws⟩ (g us ws) (gV vs zs) Q E hr I.env0 (hb.to s us ws I.kIn hl) r2 h) fun r s' hq=>?_);cases r with
 | error e=>exact hx pins σ H s e s' I hq
 | ok fl=>
  cases fl with
  | ret u=>exact I.after hq
  | next=>exact False.elim hq
  | brk=>exact False.elim hq
  | cont=>exact False.elim hq
theorem qo4(F:FnOk X.prog X.w X.K X.mg X.base CX k f fd ps sp)(hr:Room k X.A)(hg:Gl X x)(hm:X.mg x=some (.ref f))(hk:PySem.W.keepIn X.K (.ref f)=true)(hb:KBinds X.K fd ps ks g gV)(hx:q66 CX X E)
  (ha:PA X (e :: es) t) (hkw:PK X kws tk) (hall:(backToKw pos (keywordEach kws X.env)).all (·.1.isSome)=true:=by rfl) (hks:(backToKw pos (keywordEach kws X.env)).filterMap (·.1)=ks:=by rfl)
  (hdb:(x==("__debug__" : Str))=false:=by decide) (he:starEach (e :: es) X.env=(false,eval e X.env) :: starEach es X.env:=by rfl)
  (hpl:((backTo pos (starEach (e :: es) X.env)).any (·.1) || (backToKw pos (keywordEach kws X.env)).any (·.1.isNone))=false:=by rfl) :
  PE X (.Call (.Name x p) (e :: es) kws pos) (quc sp gV E t tk):=by
 intro pins s σ H Q I h;refine g0x (q94 I hg hm ?_ hdb);refine PySem.W.callWith_KW (h₀:=X.base) I.ok.mod.kin hk hall (thn (ha pos pins s σ H _ I h) fun us s1 ⟨vs,H1,I1,r,q⟩=>?_) hpl he;refine thn (hkw pos pins s1 σ H1 _ I1 q) fun ws s2 ⟨zs,H2,I2,rz,q2⟩=>⟨I2.kIn,?_⟩
 rw [hks];exact qrp F hr hb hx I2 r rz q2
end
structure FnScope(N P:List Str)(sc:Scope): Prop where
 kind:sc.kind=.function
 co:sc.isCoroutine=false
 gen:sc.isGenerator=false
 nd:N.Nodup
 pre:N.take P.length=P
 par:∀x∈P,sc.names.lookup x=some .local\/sc.names.lookup x=some .cell
 nofree:∀y∈sc.names,y.2 ≠ .free
theorem qcy{kindOf:Str->Option NameKind}{x:Str}: ∀ {binds:List (Str×Value)} {m:Str->Option Value},(∀v,(x,v)∉binds)->bindL kindOf binds m x=m x
 | [],_,_=>rfl
 | (n,v) :: r,m,h=>by
  unfold bindL;rw [qcy fun w hw=>h w (gf _ hw)]
  split
  ·have:x≠n:=by rintro rfl;exact h v gc
   simp [this]
  ·rfl
theorem qcz{kindOf:Str->Option NameKind}{x:Str}: ∀ {binds:List (Str×Value)} {m:Str->Option Value},(∀v,(x,v)∉binds)->bindC kindOf binds m x=m x
 | [],_,_=>rfl
 | (n,v) :: r,m,h=>by
  unfold bindC;rw [qcz fun w hw=>h w (gf _ hw)]
  split
  ·rfl
  ·have:x≠n:=by rintro rfl;exact h v gc
   simp [this]
theorem qd0{kindOf:Str->Option NameKind}{x:Str}{v:Value}: ∀ {P:List Str} {vs:List Value} {i:Nat} {m:Str->Option Value},P.Nodup->P[i]? = some x->vs[i]? = some v->kindOf x=some .local ->
  bindL kindOf (P.zip vs) m x=some v
 | [],_,_,_,_,h,_,_=>by simp at h
 | _ :: _,[],_,_,_,_,h,_=>by simp at h
 | p :: P,w :: vs,0,m,nd,h1,h2,hk=>by
  simp at h1 h2;subst h1;subst h2;show bindL kindOf ((p,w) :: P.zip vs) m p=_;unfold bindL;rw [qcy fun v hv=>(g09.mp nd).1 (g3r hv).1,gq hk];simp
 | p :: P,w :: vs,i+1,m,nd,h1,h2,hk=>by
  show bindL kindOf ((p,w) :: P.zip vs) m x=_;unfold bindL;exact qd0 (i:=i) (g09.mp nd).2 (by simpa using h1) (by simpa using h2) hk
theorem qd1{kindOf:Str->Option NameKind}{x:Str}{v:Value}: ∀ {P:List Str} {vs:List Value} {i:Nat} {m:Str->Option Value},P.Nodup->P[i]? = some x->vs[i]? = some v->kindOf x≠some .local ->
  bindC kindOf (P.zip vs) m x=some v
 | [],_,_,_,_,h,_,_=>by simp at h
 | _ :: _,[],_,_,_,_,h,_=>by simp at h
 | p :: P,w :: vs,0,m,nd,h1,h2,hk=>by
  simp at h1 h2;subst h1;subst h2;show bindC kindOf ((p,w) :: P.zip vs) m p=_;unfold bindC;rw [qcz fun v hv=>(g09.mp nd).1 (g3r hv).1,m6 hk];simp
 | p :: P,w :: vs,i+1,m,nd,h1,h2,hk=>by
  show bindC kindOf ((p,w) :: P.zip vs) m x=_;unfold bindC;exact qd1 (i:=i) (g09.mp nd).2 (by simpa using h1) (by simpa using h2) hk
def start(N:List Str)(vs:List V): St:=vs.map some++List.replicate (N.length-vs.length) none
def zy(CX:CXT)(P:Program)(w:World)(K:PySem.W.Frag)(mg:Str->Option Value)(base:Heap)(N:List Str)(qual:Str)(scope:Scope)(f:Addr)(cd:Value)(A:Around)(outer:List Env)(s:Shared)(H:Hp)(E:XK): Cx where
 prog:=P
 w:=w
 K:=K
 mg:=mg
 base:=base
 A:=A.deeper (envOfC qual scope s.heap.objs.size f cd)
 N:=N
 s₀:=s
 H₀:=H
 env:=envOfC qual scope s.heap.objs.size f cd
 outer:=outer
 stack:=envOfC qual scope s.heap.objs.size f cd :: outer
 ex:=[]
 calm:=true
 fn:=fun _=>true
 pn:=[]
 xe:=fun e s'=>wpAny (model P w) (A.deeper (envOfC qual scope s.heap.objs.size f cd)) (leaving (envOfC qual scope s.heap.objs.size f cd) e) (fun _ s''=>CX outer H s E e s'') (fun e' s''=>CX outer H s E e' s'') s'
theorem qel{sc:Scope}{n:Nat}{x:Str}(h:sc.names.lookup x=some .cell): ∃c,(cellsFrom n sc.names []).lookup x=some c:=by
 have q:=g5t sc.names n [] (.inl h);exact g01.mp q
theorem qlx{CX:CXT}{P:Program}{w:World}{K:PySem.W.Frag}{mg:Str->Option Value}{base:Heap}{N ps:List Str}{qual:Str}{scope:Scope}{f:Addr}{cd:Value}{A:Around}{outer:List Env}{s s1:Shared}{H:Hp}{E:XK}{us:List Value}{vs:List V}
  (S:FnScope N ps scope) (hd:A.handled=none) (e0:Env0 P w K mg base A outer s H) (hl:vs.length=ps.length) (r:Vals vs us)
  (x:InCallC s s.heap.objs.size (bindL (envOfC qual scope s.heap.objs.size f cd).kindOf (ps.zip us) fun _=>none) (cellsFrom (s.heap.objs.size+1) scope.names []) (bindC (envOfC qual scope s.heap.objs.size f cd).kindOf (ps.zip us) fun _=>none) s1) :
  Inv (zy CX P w K mg base N qual scope f cd A outer s H E) [] (start N vs) H s1:=by
 have hpl:ps.length<=N.length:=by have:=pk List.length S.pre;rw [pq] at this;omega
 obtain⟨h1,tk,rfl,hk⟩:=x.done;have noA:∀b:Addr,b∉(zy CX P w K mg base N qual scope f cd A outer s H E).ex:=fun b z=>absurd (show b∈([]:List Addr) from z) (by simp);refine⟨⟨e0.mod,S.kind,rfl,rfl,gi _,fun y z c h1 h2=>?_,fun y hy=>?_,fun y c _ h=>?_,fun _=>hd,Around.frames_deeper e0.frames,.inr ⟨rfl,rfl⟩,fun b z=>absurd z (noA b),e0.bs,e0.bsz,fun b _ _=>noA b,fun b z=>absurd z (noA b),e0.funs,e0.frf⟩,
  rfl,e0.bare,Un.kept hk,⟨_,x.toInCall.ns,fun i y v h1 h2 h3=>?_⟩,fun y c h=>⟨_,x.cell y c h⟩,e0.hok.fresh (gi _),fun y c h=>?_,fun p hp=>absurd (show p∈([]:List (Addr×Obj)) from hp) (by simp),e0.hok.kept hk,?_⟩
 ·exact name_of_addr x.apart (g1q h1) (g1q h2)
 ·have hy:scope.names.lookup y=some .cell\/scope.names.lookup y=some .free:=hy
  rcases hy with hy|hy
  ·exact qel hy
  ·exact absurd rfl (S.nofree _ (g1q hy))
 ·exact g0w (x.above y c (g1q h))
 ·have hi:i<vs.length:=by
   unfold start at h2
   by_cases hi:i<vs.length
   ·exact hi
   ·rw [ux (by simpa using hi)] at h2
    rw [g06] at h2
    split at h2 <;> cases h2
  have ha:vs[i]? = some v:=by
   unfold start at h2;rw [uc (by simpa using hi),mj] at h2;cases e:vs[i]? with
   | none=>rw [e] at h2;cases h2
   | some a=>rw [e] at h2;cases h2;rfl
  obtain⟨u,hu,rv⟩:=r.get ha;have hp:ps[i]? = some y:=by
   rw [<- S.pre,g2p (by omega)];exact h1
  have ndP:ps.Nodup:=by rw [<- S.pre];exact S.nd.sublist (g4p _ _)
  refine⟨u,rv,?_⟩;rcases S.par y (uo hp) with k|k
  ·exact .inl ⟨k,qd0 ndP hp hu k⟩
  ·obtain⟨c,e⟩:=qel (n:=s.heap.objs.size+1) k
   refine .inr ⟨.inl k,c,e,?_⟩;have q:=x.cell y c e;rw [qd1 ndP hp hu (by show scope.names.lookup y≠_;rw [k];decide)] at q;exact q
 ·exact e0.hok.fresh (g0w (x.above y c (g1q h)))
 ·unfold start
  show _=N.length;rw [ng,gh,g62];omega
theorem qwv{CX:CXT}{P:Program}{w:World}{K:PySem.W.Frag}{mg:Str->Option Value}{base:Heap}{k:Nat}{f:Addr}{name qual:Str}{params:Arguments}{body:List Stmt}{scope:Scope}{dV kV doc pm cdv ct oc:Value}{an od:Option Addr}
  {osl:Array (Option Value)} {N ps:List Str} {sp:Sp} (lk:K.lookup f=some ⟨oc,od,.func (PySem.W.fnOf name qual params body scope dV kV doc pm an cdv ct),osl⟩) (hcd:PySem.W.codeIn K cdv qual=true) (S:FnScope N ps scope)
  (len:∀vs H Q E,sp vs H Q E->vs.length=ps.length)
  (hbody:∀(A:Around) (outer:List Env) (s:Shared) (H:Hp) (vs:List V) (Q:VK) (E:XK),Room k (A.deeper (envOfC qual scope s.heap.objs.size f cdv))->sp vs H Q E ->
   ∃t,PSs (zy CX P w K mg base N qual scope f cdv A outer s H E) body t/\t {nx:=fun _ H'=>Q .non H',rt:=Q} (start N vs) H) :
  FnOk P w K mg base CX (k+1) f (PySem.W.fnOf name qual params body scope dV kV doc pm an cdv ct) ps sp:=by
 refine⟨len,fun A outer s H args us vs Q E hr e0 hb r hsp=>?_⟩;have hl:=len _ _ _ _ hsp;have KX:K.In s.heap:=e0.mod.kin.keeps fun b o e=>(e0.bs b o e).1;have lim:s.heap.NoLimit:=e0.mod.nolimit.keeps fun b o e=>(e0.bs b o e).1;have hkind:∀y∈ps.zip us,scope.names.lookup y.1=some .local\/(scope.names.lookup y.1=some .cell/\((cellsFrom (s.heap.objs.size+1) scope.names []).lookup y.1).isSome=true):=fun⟨n,v⟩ hy=>by
  rcases S.par n (g3r hy).1 with q|q
  ·exact .inl q
  ·exact .inr ⟨q,g5t _ _ _ (.inl q)⟩
 refine codeAny_call_function hr.depth (KX _ _ lk) rfl S.co S.gen rfl (PySem.W.codeRec_of KX hcd) (hb _ _ _ _ ?_);refine wpAny_newFunctionEnv_cells S.kind hkind fun env he s1 x=>?_;subst he;refine⟨lim.keeps x.toInCall.keep,codeAny_func ?_⟩;obtain⟨t,ht,hq⟩:=hbody A outer s H vs Q E (hr.deeper _) hsp;have I:Inv (zy CX P w K mg base N qual scope f cdv A outer s H E) [] (start N vs) H s1:=qlx S hr.hd e0 hl r x;refine t5 (ht [] s1 (start N vs) H _ I hq) (fun fl s' hs=>?_) fun e s' hs=>hs;have fin:∀ {σ':St} {H':Hp} {v:V} {u:Value},Inv (zy CX P w K mg base N qual scope f cdv A outer s H E) [] σ' H' s'->RelV v u->Q v H'->CE outer P w H s Q u s':=
  fun {σ' H' v u} J rv q=>⟨v,H',J.os,J.bare,J.base,J.hok,rv,q⟩
 cases fl with
 | ret u=>
  obtain⟨v, σ',H',J,rv,q⟩:=hs;exact fin J rv q
 | next=>
  obtain⟨σ',H',J,q⟩:=hs;exact fin (v:=V.non) (u:=Value.none) J rfl q
 | brk=>
  obtain⟨_,_,_,q⟩:=hs;exact False.elim q
 | cont=>
  obtain⟨_,_,_,q⟩:=hs;exact False.elim q
section
variable{X:Cx}{x:Str}{p pos:Pos}{e:Expr}{es:List Expr}{t:TA}{id T:String}{r:List V->Hp->VK->Prop}
def tCB(r:List V->Hp->VK->Prop)(t:TA): TE:=fun σ H Q=>t σ H fun vs H1=>r vs H1 Q
theorem q6p(hc:jx X (.builtin id) r)(hg:Gl X x)(hm:X.mg x=none)(hv:bootBuiltins x=some (.builtin id))(ha:PA X (e :: es) t)(hn:x≠"__name__" :=by decide)(hdb:(x==("__debug__" : Str))=false:=by decide)
  (he:starEach (e :: es) X.env=(false,eval e X.env) :: starEach es X.env:=by rfl) (hpl:(backTo pos (starEach es X.env)).any (·.1)=false:=by rfl):PE X (.Call (.Name x p) (e :: es) [] pos) (tCB r t):=by
 intro pins s σ H Q I h;refine g0x (q37 I hg hm hv ?_ hn hdb);exact PyProof.Rows.callWith_builtin1 (thn (ha pos pins s σ H _ I h) fun us s1 ⟨vs,H1,I1,r1,q1⟩=>hc pins s1 σ H1 vs us Q I1 r1 q1) he hpl
theorem q7w(hc:jx X (.type T) r)(hg:Gl X x)(hm:X.mg x=none)(hv:bootBuiltins x=some (.type T))(ha:PA X (e :: es) t)(hn:x≠"__name__" :=by decide)(hdb:(x==("__debug__" : Str))=false:=by decide)
  (he:starEach (e :: es) X.env=(false,eval e X.env) :: starEach es X.env:=by rfl) (hpl:(backTo pos (starEach es X.env)).any (·.1)=false:=by rfl):PE X (.Call (.Name x p) (e :: es) [] pos) (tCB r t):=by
 intro pins s σ H Q I h;refine g0x (q37 I hg hm hv ?_ hn hdb);exact g08 (thn (ha pos pins s σ H _ I h) fun us s1 ⟨vs,H1,I1,r1,q1⟩=>hc pins s1 σ H1 vs us Q I1 r1 q1) he hpl
end
end L2
namespace HT
open PySem PyProof.Rows
section
open PySem.SeqAt
open PySem.AutoSeq1 (wpAny_loadPart')
open PySem.MeetsSeq PySem.MeetsSeq2 PySem.MeetsSeq3
end
section
variable{prog:Program}{w:World}{A:Around}{E:Value->Shared->Prop}{s:Shared}
theorem cat_tup{t b:Addr}{vs ws:List Value}{Q:Value->Shared->Prop}(ht:IsTup s.heap t vs.toArray)(hb:IsTup s.heap b ws.toArray)(hv:vs≠[])
  (h1:ws=[]->Q (.ref t) s) (h2:ws≠[]->Q (.ref s.heap.objs.size) {s with heap:=s.heap.push {cls:=.type "tuple",data:=.seq (vs++ws).toArray} })
  (hsz:vs.length+ws.length<=sizeLine):wpAny (model prog w) A (binaryOp .Add (.ref t) (.ref b)) Q E s:=by
 obtain⟨⟨cls,dd,data,sl⟩,ho,hc,n,hd⟩:=id ht;obtain⟨⟨cls2,dd2,data2,sl2⟩,ho2,hc2,n2,hd2⟩:=id hb;simp only at hc hd hc2 hd2;subst hc hd hc2 hd2;have e:vs.toArray++ws.toArray=(vs++ws).toArray:=by simp
 by_cases hw:ws=[]
 ·exact g56 ⟨_,ho,rfl⟩ ⟨_,ho2,rfl⟩ g57 seq_tuple_add g38 g32 (g2q _ _)
   (tuple_addW1 t b vs.toArray ws.toArray n n2 dd dd2 sl sl2 (by simpa using hv) (by simp [hw])) ⟨ho,ho2,h1 hw⟩
 ·refine g56 ⟨_,ho,rfl⟩ ⟨_,ho2,rfl⟩ g57 seq_tuple_add g38 g32 (g2q _ _)
   (tuple_addW2 t b vs.toArray ws.toArray n n2 dd dd2 sl sl2 (by simpa using hv) (by simpa using hw) (by rw [gj,gj];exact hsz)) ⟨ho,ho2,?_⟩
  rw [e];exact h2 hw
def sIx(n d:Nat): Option Int->Nat
 | none=>d
 | some v=>if v<0 then(v+(n:Int)).toNat else min v.toNat n
theorem sIx_none(n d:Nat): sIx n d none=d:=rfl
theorem sIx_nat(n d k:Nat): sIx n d (some (k:Int))=min k n:=by
 show(if(k:Int)<0 then((k:Int)+(n:Int)).toNat else min (k:Int).toNat n)=min k n;rw [m6 (by omega),my]
theorem qud(n d:Nat)(hd:d<=n)(o:Option Int): sIx n d o<=n:=by
 cases o with
 | none=>exact hd
 | some v=>
  show(if v<0 then(v+(n:Int)).toNat else min v.toNat n)<=n
  by_cases hv:v<0
  ·rw [gq hv];omega
  ·rw [m6 hv];exact Nat.min_le_right _ _
theorem qif(v:Int)(n d:Nat): (if v<0 then max (v+(n:Int)) 0 else min v (n:Int))=((sIx n d (some v):Nat):Int):=by
 show(if v<0 then max (v+(n:Int)) 0 else min v (n:Int))=(((if v<0 then(v+(n:Int)).toNat else min v.toNat n):Nat):Int)
 by_cases hv:v<0
 ·simp only [gq hv];omega
 ·simp only [m6 hv];omega
theorem qjg(lo hi:Option Int)(n:Nat): Builtin.Slice.sliceAdjust lo hi 1 (n:Int)=(((sIx n 0 lo:Nat):Int),((sIx n n hi:Nat):Int)):=by
 have h1:¬((1:Int)<0):=by omega
 unfold Builtin.Slice.sliceAdjust;simp only [h1,p8];refine Prod.ext ?_ ?_
 ·cases lo with
  | none=>rfl
  | some v=>exact qif v n 0
 ·cases hi with
  | none=>rfl
  | some v=>exact qif v n n
theorem qjh(i j:Nat): Builtin.Slice.slicePlaces (i:Int) (j:Int) 1=j-i:=by
 unfold Builtin.Slice.slicePlaces;have h1:(1:Int)>0:=by omega
 simp only [h1,tf,Int.ediv_one]
 split <;> omega
theorem qaq{v:Value}{o:Option Int}{Q:Option Int->Shared->Prop}(p:IsPart v o)(h:Q o s): wpAny (model prog w) A (Builtin.Slice.slicePartIndex v) Q E s:=by
 cases p with
 | none=>exact slicePart_none h
 | int i t=>exact slicePart_int h
theorem sliceApplied_gen{sl:Addr}{vl vu:Value}{lo hi:Option Int}{n:Nat}{Q:Int×Int×Nat->Shared->Prop}(hs:s.heap.IsSliceOf sl vl vu .none)(pl:IsPart vl lo)(pu:IsPart vu hi)
  (h:Q (((sIx n 0 lo:Nat):Int),1,sIx n n hi-sIx n 0 lo) s):wpAny (model prog w) A (Builtin.Slice.sliceApplied (.ref sl) (pure (n:Int))) Q E s:=by
 obtain⟨os,hos,hcs,hds⟩:=id hs;unfold Builtin.Slice.sliceApplied Builtin.Slice.sliceFields;refine g0 (g0 (wpAny_field hos hds (x:=vl) rfl (g0 (wpAny_field hos hds (x:=vu) rfl (g0 (wpAny_field hos hds (x:=.none) rfl (g8 ?_)))))));refine g0 (slicePart_none ?_);show wpAny _ _ (if((1:Int)==0)=true then _ else _) _ _ s;rw [m6 (by decide)];refine g0 (qaq pl (g0 (qaq pu (g0 (g8 ?_)))));show wpAny _ _ (match Builtin.Slice.sliceAdjust lo hi 1 (n:Int) with|(lo,hi)=>pure (lo,(1:Int),Builtin.Slice.slicePlaces lo hi 1)) _ _ s;rw [qjg lo hi n];show wpAny _ _ (pure (((sIx n 0 lo:Nat):Int),(1:Int),Builtin.Slice.slicePlaces ((sIx n 0 lo:Nat):Int) ((sIx n n hi:Nat):Int) 1)) _ _ s;rw [qjh];exact g8 h
theorem qo5(xs:Array Value)(i k:Nat): ((List.range k).filterMap fun(m:Nat)=>xs[((i:Int)+(m:Int)*1).toNat]?).toArray=((xs.toList.drop i).take k).toArray:=by
 have e:(fun(m:Nat)=>xs[((i:Int)+(m:Int)*1).toNat]?)=fun m=>xs[i+m]? :=by
  funext m
  have:((i:Int)+(m:Int)*1).toNat=i+m:=by omega
  rw [this]
 rw [e];have:=pick_run xs i k;rw [g2r] at this;have e2:((fun x=>xs[x]?) ∘ fun x=>i+x)=fun m=>xs[i+m]? :=rfl;rw [e2] at this;rw [this]
theorem getItem_tuple_cut{t sl:Addr}{items:Array Value}{vl vu:Value}{lo hi:Option Int}{Q:Value->Shared->Prop}(ht:IsTup s.heap t items)(hs:s.heap.IsSliceOf sl vl vu .none)(pl:IsPart vl lo)(pu:IsPart vu hi)
  (hw:¬(sIx items.size 0 lo=0/\sIx items.size items.size hi=items.size))
  (h:Q (.ref s.heap.objs.size) {s with heap:=s.heap.push {cls:=.type "tuple",data:=.seq ((items.toList.drop (sIx items.size 0 lo)).take (sIx items.size items.size hi-sIx items.size 0 lo)).toArray} })
  (hsz:items.size<=sizeLine):wpAny (model prog w) A (getItem (.ref t) (.ref sl)) Q E s:=by
 have htake:sizeOk (.seq ((items.toList.drop (sIx items.size 0 lo)).take (sIx items.size items.size hi-sIx items.size 0 lo)).toArray):=by
  show((items.toList.drop (sIx items.size 0 lo)).take (sIx items.size items.size hi-sIx items.size 0 lo)).toArray.size<=sizeLine;rw [gj,pq,g0p,ue];omega
 have hj:sIx items.size items.size hi<=items.size:=qud _ _ (gi _) hi;obtain⟨os,hos,hcs,hds⟩:=id hs;have hTs:s.TypeIs (.ref sl) "slice" :=⟨os,hos,hcs⟩
 unfold getItem
 try with_reducible refine nk ?_
 first|refine g0 (g8 ?_)|skip
 refine g0 (wpAny_sequenceKey ht.typeIs (by decide) ?_);refine g0 (g07 (name:=Str.ofString "__getitem__") ht.typeIs tx
  (nz tx ht.typeIs entry_tuple_getitem ?_ (args_tuple_getitem _ _)))
 show wpAny _ _ (Builtin.Tuple.tupleItemsOf (.ref t) >>= _) _ _ s;refine g0 (tupleItemsOf_ ht ?_);refine g0 (g0y hTs ?_);rw [gq (by decide)];refine g0 (sliceApplied_gen hs pl pu ?_);have hno:¬((((sIx items.size 0 lo:Nat):Int)==0&&(1:Int)==1&&(sIx items.size items.size hi-sIx items.size 0 lo)==items.size)=true):=by
  intro q;rw [gm,gm] at q;have q1:((sIx items.size 0 lo:Nat):Int)=0:=eq_of_beq q.1.1;have q2:sIx items.size items.size hi-sIx items.size 0 lo=items.size:=eq_of_beq q.2;exact hw ⟨by omega,by omega⟩
 show wpAny _ _ (if(((sIx items.size 0 lo:Nat):Int)==0&&(1:Int)==1&&(sIx items.size items.size hi-sIx items.size 0 lo)==items.size)=true then _ else _) _ _ s;rw [m6 hno,qo5]
 first
  | exact g0 (m:=Builtin.Tuple.tupleExact _) (ug (g8 ⟨_,rfl,g8 h⟩) htake)
  | exact g0 (m:=Builtin.Tuple.tupleExact _) (ug (g0 (g8 (g8 ⟨_,rfl,g8 h⟩))) htake)
  | exact g0 (g0 (m:=Builtin.Tuple.tupleExact _) (ug (g8 (g8 ⟨_,rfl,g8 h⟩)) htake))
  | exact g0 (g0 (m:=Builtin.Tuple.tupleExact _) (ug (g8 ⟨_,rfl,g8 h⟩) htake))
end
end HT
namespace L2
open PySem PySem.Spec PyProof.Rows
abbrev TO:=St->Hp->(Option Int->Hp->Prop)->Prop
def PO(X:Cx)(e:Option Expr)(t:TO): Prop:=
 ∀(pins:List (Addr×Obj)) (s:Shared) (σ : St) (H:Hp) (Q:Option Int->Hp->Prop),Inv X pins σ H s->t σ H Q ->
  wpAny (model X.prog X.w) X.A (evalPart e X.env) (fun u s'=>∃o H',Inv X pins σ H' s'/\IsPart u o/\Q o H') X.xe s
def tNoPart:TO:=fun _ H Q=>Q none H
def qww(t:TE): TO:=fun σ H Q=>t σ H fun x H1=>∃i,x=.int i/\Q (some i) H1
theorem intsAre_of{ns:List Int}: ∀ {us:List Value},Vals (ns.map V.int) us->IntsAre us ns:=by
 induction ns with
 | nil=>intro us r;rw [g02] at r;cases r;exact .nil
 | cons n ns ih=>
  intro us r;rw [gd] at r;cases r with
  | cons r1 r2=>
   obtain⟨t,e⟩:=r1;subst e;exact .cons n t (ih r2)
section
variable{X:Cx}{e:Expr}{te:TE}{lo hi:Option Expr}{tl th:TO}{pos p2:Pos}
theorem qrq:PO X none tNoPart:=by
 intro pins s σ H Q I h;rw [evalPart_none];exact g8 ⟨none,H,I,.none,h⟩
theorem qrr(h:PE X e te): PO X (some e) (qww te):=by
 intro pins s σ H Q I hw;rw [evalPart_some];refine thn (h pins s σ H _ I hw) fun u s1 ⟨x,H1,I1,r1,q1⟩=>?_;obtain⟨i,rfl,q⟩:=q1;obtain⟨t,rfl⟩:=r1;exact⟨some i,H1,I1,.int i t,q⟩
def SlR(X:Cx)(r:V->Option Int->Option Int->Hp->VK->Prop): Prop:=
 ∀(pins:List (Addr×Obj)) (s:Shared) (σ : St) (H:Hp) (x:V) (v vl vu:Value) (lo hi:Option Int) (sl:Addr) (Q:VK),Inv X pins σ H s->RelV x v->s.heap.IsSliceOf sl vl vu .none->IsPart vl lo->IsPart vu hi->r x lo hi H Q ->
  ∃T id,typeLookup (.type T) "__getitem__" = pure (some (.builtin id))/\s.TypeIs v T/\wpAny (model X.prog X.w) X.A (getItem v (.ref sl)) (EP X pins σ Q) X.xe s
theorem SlR.or{r r':V->Option Int->Option Int->Hp->VK->Prop}(h:SlR X r)(h':SlR X r'): SlR X (fun x lo hi H Q=>r x lo hi H Q\/r' x lo hi H Q):=by
 intro pins s σ H x v vl vu lo hi sl Q I rx hs pl pu q;rcases q with q|q
 ·exact h pins s σ H x v vl vu lo hi sl Q I rx hs pl pu q
 ·exact h' pins s σ H x v vl vu lo hi sl Q I rx hs pl pu q
def tSl(r:V->Option Int->Option Int->Hp->VK->Prop)(te:TE)(tl th:TO): TE:=fun σ H Q=>te σ H fun x H1=>tl σ H1 fun l H2=>th σ H2 fun u H3=>r x l u H3 Q
theorem qo6{r:V->Option Int->Option Int->Hp->VK->Prop}(hr:SlR X r)(he:PE X e te)(hl:PO X lo tl)(hu:PO X hi th): PE X (.Subscript e (.Slice lo hi none p2) pos) (tSl r te tl th):=by
 intro pins s σ H Q I h;refine Subscript_ (thn (he pins s σ H _ I h) fun v s1 ⟨x,H1,I1,r1,q1⟩=>?_);refine wpAny_Slice (thn (hl pins s1 σ H1 _ I1 q1) fun vl s2 ⟨l,H2,I2,pl,q2⟩=>thn (hu pins s2 σ H2 _ I2 q2) fun vu s3 ⟨u,H3,I3,pu,q3⟩=>?_);rw [evalPart_none];refine g8 ?_;have I4:Inv X pins σ H3 {s3 with heap:=s3.heap.push {cls:=.type "slice",data:=.fields #[vl,vu,.none]} }:=I3.kept (t':=s3.toks) fun b ob q=>gb _ q;obtain⟨T,id,hT,ht,hg⟩:=hr pins {s3 with heap:=s3.heap.push {cls:=.type "slice",data:=.fields #[vl,vu,.none]} } σ H3 x v vl vu l u s3.heap.objs.size Q I4 r1 (Heap.IsSliceOf.new ..) pl pu q3;show wpAny (model X.prog X.w) X.A (subscriptTail e (.Slice lo hi none p2) v (.ref s3.heap.objs.size)) (EP X pins σ Q) X.xe {s3 with heap:=s3.heap.push {cls:=.type "slice",data:=.fields #[vl,vu,.none]} };exact tail_any (ops:=[.ref s3.heap.objs.size,v]) ht hT hg (by with_unfolding_all rfl)
def q3q(xs:List V)(lo hi:Option Int): List V:=(xs.drop (HT.sIx xs.length 0 lo)).take (HT.sIx xs.length xs.length hi-HT.sIx xs.length 0 lo)
theorem q9t(xs:List V)(lo hi:Option Int): (q3q xs lo hi).length<=xs.length:=by
 unfold q3q;rw [pq,g0p];omega
def qy0(K:PySem.W.Frag): V->Option Int->Option Int->Hp->VK->Prop:=fun x lo hi H Q=>∃a xs,x=.ref a/\SqT K H a xs /\
 ¬(HT.sIx xs.length 0 lo=0/\HT.sIx xs.length xs.length hi=xs.length)/\∀p,H p=none->Q (.ref p) (upd H p (.tup (q3q xs lo hi)))
theorem sl_tup:SlR X (qy0 X.K):=by
 intro pins s σ H x v vl vu lo hi sl Q I rx hs pl pu h;obtain⟨a,xs,rfl,hx,hw,q⟩:=h;cases rx;obtain⟨its,r,ht,hz⟩:=I.tuple hx;have hlen:its.toArray.size=xs.length:=by rw [gj];exact r.length.symm
 refine⟨"tuple",_,tx.lookup,ht.typeIs,?_⟩;refine HT.getItem_tuple_cut ht hs pl pu (by rw [hlen];exact hw) ?_ (by rw [hlen];exact hz);rw [hlen];refine⟨.ref s.heap.objs.size,_,I.laid (t':=s.toks) (o:=.tup (q3q xs lo hi)) (fun b ob q=>gb _ q) (gi _) ?_,rfl,q _ (I.hok.fresh (gi _))⟩;exact⟨mq (q9t xs lo hi) hz,_,(r.drop (HT.sIx xs.length 0 lo)).take (HT.sIx xs.length xs.length hi-HT.sIx xs.length 0 lo),TupX.new _ _⟩
def qwx(K:PySem.W.Frag): R2:=fun x y H Q=>∃a b xs ys,x=.ref a/\y=.ref b/\SqT K H a xs/\SqT K H b ys/\xs≠[]/\xs.length+ys.length<=sizeLine /\
 (ys=[]->Q (.ref a) H)/\(ys≠[]->∀p,H p=none->Q (.ref p) (upd H p (.tup (xs++ys))))
theorem Vals.nil_iff{xs:List V}{us:List Value}(r:Vals xs us): us=[]↔xs=[]:=by
 cases r with
 | nil=>simp
 | cons _ _=>simp
theorem qrs:OpR X (binaryOp .Add) (qwx X.K):=by
 intro pins s σ H x y v u Q I rx ry h;obtain⟨a,b,xs,ys,rfl,rfl,ha,hb,hx,hz,q1,q2⟩:=h;cases rx;cases ry;obtain⟨its,r1,p1,_⟩:=I.tuple ha;obtain⟨its2,r2,p2,_⟩:=I.tuple hb;refine HT.cat_tup p1 p2 (fun z=>hx (r1.nil_iff.mp z)) (fun z=>⟨.ref a,H,I,rfl,q1 (r2.nil_iff.mp z)⟩) (fun z=>?_) (by rw [<- r1.length, <- r2.length];exact hz);refine⟨.ref s.heap.objs.size,_,I.laid (t':=s.toks) (o:=.tup (xs++ys)) (fun b ob q=>gb _ q) (gi _) ?_,rfl,q2 (fun w=>z (r2.nil_iff.mpr w)) _ (I.hok.fresh (gi _))⟩;exact⟨by rw [ng];exact hz,_,r1.append r2,TupX.new _ _⟩
end
def ixN(n:Nat)(i:Int): Option Nat:=if 0<=i then(if i<n then some i.toNat else none) else if -(n:Int)<=i then some (i+n).toNat else none
def atI{α : Type}(xs:List α)(i:Int): Option α :=(ixN xs.length i).bind fun j=>xs[j]?
theorem qrt{n:Nat}{i:Int}{j:Nat}(h:ixN n i=some j): seqIndex? i n=some j/\j<n /\ -(n:Int)<=i/\i<n:=by
 unfold ixN at h
 by_cases h0:0<=i
 ·rw [gq h0] at h
  by_cases h1:i<n
  ·rw [gq h1] at h
   have e:i.toNat=j:=gu h;exact⟨by rw [seqIndex_of h0 h1,e],by omega,by omega,h1⟩
  ·rw [m6 h1] at h;cases h
 ·rw [m6 h0] at h
  by_cases h1 : -(n:Int)<=i
  ·rw [gq h1] at h
   have e:(i+n).toNat=j:=gu h;exact⟨by rw [seqIndex_neg (by omega) h1,e],by omega,h1,by omega⟩
  ·rw [m6 h1] at h;cases h
theorem qbz{α : Type}{xs:List α}{i:Int}{v : α}(h:atI xs i=some v): ∃j,seqIndex? i xs.length=some j/\xs[j]? = some v/\j<xs.length /\ -(xs.length:Int)<=i/\i<xs.length:=by
 unfold atI at h;cases e:ixN xs.length i with
 | none=>rw [e] at h;cases h
 | some j=>
  rw [e] at h;obtain⟨h1,h2,h3,h4⟩:=qrt e;exact⟨j,h1,h,h2,h3,h4⟩
def qc0(b:Expr): Prop:=∀o i,subscripted b false o i=operate [o,i] (getItem o i)
def IxR(X:Cx)(r:R2): Prop:=
 ∀(value slice:Expr) (pins:List (Addr×Obj)) (s:Shared) (σ : St) (H:Hp) (x y:V) (v u:Value) (Q:VK),Inv X pins σ H s->RelV x v->RelV y u->r x y H Q ->
  subscripted slice false v u=operate [v,u] (getItem v u)->wpAny (model X.prog X.w) X.A (subscriptTail value slice v u) (EP X pins σ Q) X.xe s
def MtR(X:Cx)(id:String)(r:V->List V->Hp->VK->Prop): Prop:=
 ∀(pins:List (Addr×Obj)) (s:Shared) (σ : St) (H:Hp) (x:V) (xs:List V) (v:Value) (us:List Value) (Q:VK),Inv X pins σ H s->RelV x v->Vals xs us->r x xs H Q ->
  wpAny (model X.prog X.w) X.A (call (.builtin id) (v :: us)) (EP X pins σ Q) X.xe s
section
variable{X:Cx}{a b:Expr}{ta tb:TE}{pos:Pos}
theorem IxR.or{r r':R2}(h:IxR X r)(h':IxR X r'): IxR X (fun x y H Q=>r x y H Q\/r' x y H Q):=by
 intro value slice pins s σ H x y v u Q I rx ry q hs;rcases q with q|q
 ·exact h value slice pins s σ H x y v u Q I rx ry q hs
 ·exact h' value slice pins s σ H x y v u Q I rx ry q hs
theorem qqu{r:R2}(hr:IxR X r)(ha:PE X a ta)(hb:PE X b tb)(hs:qc0 b): PE X (.Subscript a b pos) (tOp r ta tb):=by
 intro pins s σ H Q I h;exact Subscript_ (qnz ha hb I h fun v u s2 x y H2 I2 rx ry q=>hr a b pins s2 σ H2 x y v u Q I2 rx ry q (hs _ _))
def que(K:PySem.W.Frag): R2:=fun x y H Q=>∃p xs i v,x=.ref p/\y=.int i/\SqL K H p xs/\atI xs i=some v/\Q v H
def quf(K:PySem.W.Frag): R2:=fun x y H Q=>∃p xs i v,x=.ref p/\y=.int i/\SqT K H p xs/\atI xs i=some v/\Q v H
def rIxS:R2:=fun x y H Q=>∃z i c,x=.str z/\y=.int i/\z.length<=sizeLine/\atI z.cps.toList i=some c/\Q (.str ⟨#[c]⟩) H
theorem ix_list:IxR X (que X.K):=by
 intro value slice pins s σ H x y v u Q I rx ry h hs;obtain⟨p,xs,i,z,rfl,rfl,hq,he,q⟩:=h;cases rx;obtain⟨t,rfl⟩:=ry;obtain⟨its,r,pl,hz⟩:=I.list hq;obtain⟨j,h1,h2,h3,h4,h5⟩:=qbz he;obtain⟨w,ew,rw'⟩:=r.get h2;have hl:=r.length;have hn:=q7v;have fin:EP X pins σ Q w s:=⟨z,H,I,rw',q⟩
 by_cases h0:0<=i
 ·have hj:i.toNat=j:=by
   rw [seqIndex_of h0 h5] at h1;exact gu h1
  exact item_listR pl.isList h0 (by omega) (by rw [hj];simpa using ew) fin hs
 ·have hj:(i+(its.toArray.size:Int)).toNat=j:=by
   rw [seqIndex_neg (by omega) h4] at h1;rw [gj, <- hl];exact gu h1
  exact subscriptTail_builtinR (x:=w) pl.isList.typeIs slot_list_getitem.lookup
   (wpAny_getItem_list_neg (Q:=fun r s'=>r=w/\EP X pins σ Q r s') pl.isList (by omega) (by rw [gj] <;> omega) (by omega) (by rw [hj];simpa using ew) ⟨rfl,fin⟩) hs
theorem ix_tup:IxR X (quf X.K):=by
 intro value slice pins s σ H x y v u Q I rx ry h hs;obtain⟨p,xs,i,z,rfl,rfl,hq,he,q⟩:=h;cases rx;obtain⟨t,rfl⟩:=ry;obtain⟨its,r,pl,hz⟩:=I.tuple hq;obtain⟨j,h1,h2,h3,h4,h5⟩:=qbz he;obtain⟨w,ew,rw'⟩:=r.get h2;have hl:=r.length;have hn:=q7v;have fin:EP X pins σ Q w s:=⟨z,H,I,rw',q⟩
 exact subscriptTail_builtinR (x:=w) pl.typeIs slot_tuple_getitem.lookup
  (getItem_tuple (j:=j) (Q:=fun r s'=>r=w/\EP X pins σ Q r s') pl (by omega) (by omega) (by rw [gj, <- hl];exact h1) (by simpa using ew) ⟨rfl,fin⟩) hs
theorem qug:IxR X rIxS:=by
 intro value slice pins s σ H x y v u Q I rx ry h hs;obtain⟨z,i,c,rfl,rfl,hz,he,q⟩:=h;obtain⟨t,rfl⟩:=rx;obtain⟨t',rfl⟩:=ry;obtain⟨j,h1,h2,h3,h4,h5⟩:=qbz he;have hl:z.cps.toList.length=z.length:=by simp [Str.length]
 rw [hl] at h1 h4 h5;have hn:=q7v;exact tail_any (typeIs_str s z t) slot_str_getitem.lookup (getItem_str (c:=c) (by
  have e1:decide (i < -(2 ^ 63:Int))=false:=mi (by omega);have e2:decide (i>=2 ^ 63)=false:=mi (by omega);rw [e1,e2,Bool.or_false]) (by rw [h1];simpa using h2) ⟨.str ⟨#[c]⟩,H,I.tok _,⟨_,rfl⟩,q⟩) hs
def rIx(K:PySem.W.Frag): R2:=fun x y H Q=>que K x y H Q\/quf K x y H Q\/rIxS x y H Q
theorem quh:IxR X (rIx X.K):=ix_list.or (ix_tup.or qug)
theorem qem(lo hi:Option Int)(n:Nat): (sliceBounds lo hi none n).1=((HT.sIx n 0 lo:Nat):Int)/\(sliceBounds lo hi none n).2.1=((HT.sIx n n hi:Nat):Int)/\(sliceBounds lo hi none n).2.2=1:=by
 refine⟨?_,?_,rfl⟩
 ·cases lo with
  | none=>simp [sliceBounds,HT.sIx]
  | some i=>
   simp only [sliceBounds,HT.sIx,Option.getD_none,show(1:Int)>0 by decide,tf]
   by_cases h:i<0
   ·simp only [h,tf] <;> omega
   ·simp only [h,p8] <;> omega
 ·cases hi with
  | none=>simp [sliceBounds,HT.sIx]
  | some i=>
   simp only [sliceBounds,HT.sIx,Option.getD_none,show(1:Int)>0 by decide,tf]
   by_cases h:i<0
   ·simp only [h,tf] <;> omega
   ·simp only [h,p8] <;> omega
theorem qdu(its:List Value)(lo hi:Option Int): slicePick its.toArray lo hi none=((its.drop (HT.sIx its.length 0 lo)).take (HT.sIx its.length its.length hi-HT.sIx its.length 0 lo)).toArray:=by
 obtain⟨h1,h2,h3⟩:=qem lo hi its.toArray.size;unfold slicePick;rw [h1,h2,h3];simp only [sliceRange_one,pick_run,gj] <;> rfl
def qy1(K:PySem.W.Frag): V->Option Int->Option Int->Hp->VK->Prop:=fun x lo hi H Q=>∃a xs,x=.ref a/\SqL K H a xs/\∀p,H p=none->Q (.ref p) (upd H p (.lst (q3q xs lo hi)))
theorem sl_list:SlR X (qy1 X.K):=by
 intro pins s σ H x v vl vu lo hi sl Q I rx hs pl pu h;obtain⟨a,xs,rfl,hx,q⟩:=h;cases rx;obtain⟨its,r,ht,hz⟩:=I.list hx;have hlen:=r.length;refine⟨"list",_,slot_list_getitem.lookup,ht.isList.typeIs,?_⟩;refine wpAny_getItem_list_slice ht.isList hs pl pu .none (by simp) ?_ (by rw [gj] <;> omega);rw [qdu, <- hlen];refine⟨.ref s.heap.objs.size,_,I.laid (t':=s.toks) (o:=.lst (q3q xs lo hi)) (fun b ob q=>gb _ q) (gi _) ?_,rfl,q _ (I.hok.fresh (gi _))⟩;exact⟨mq (q9t xs lo hi) hz,_,0,(r.drop (HT.sIx xs.length 0 lo)).take (HT.sIx xs.length xs.length hi-HT.sIx xs.length 0 lo),gz _ rfl⟩
def q1c:V->Bool
 | .non=>true
 | .bl _=>true
 | .int _=>true
 | .str _=>true
 | _=>false
def eqV:V->V->Bool
 | .non,.non=>true
 | .bl a,.bl b=>a==b
 | .bl a,.int b=>(if a then 1 else 0)==b
 | .int a,.bl b=>a==(if b then 1 else 0)
 | .int a,.int b=>a==b
 | .str a,.str b=>a==b
 | _,_=>false
theorem qly{A:Around}{s:Shared}{y x:V}{u v:Value}(ry:RelV y u)(rx:RelV x v)(fy:q1c y=true)(fx:q1c x=true): SeqAt.EqAt A s u v (eqV y x):=by
 cases y with
 | non=>
  cases ry;cases x with
  | non=>cases rx;exact g5l _
  | bl b=>cases rx;exact SeqAt.EqAt.none_bool b
  | int b=>obtain⟨t,rfl⟩:=rx;exact SeqAt.EqAt.none_int b t
  | str b=>obtain⟨t,rfl⟩:=rx;exact SeqAt.EqAt.none_str b t
  | _=>exact absurd (show false=true from fx) mh
 | bl a=>
  cases ry;cases x with
  | non=>cases rx;exact SeqAt.EqAt.bool_none a
  | bl b=>cases rx;exact SeqAt.EqAt.bool_bool a b
  | int b=>obtain⟨t,rfl⟩:=rx;exact SeqAt.EqAt.bool_int a b t
  | str b=>obtain⟨t,rfl⟩:=rx;exact SeqAt.EqAt.bool_str a b t
  | _=>exact absurd (show false=true from fx) mh
 | int a=>
  obtain⟨t',rfl⟩:=ry;cases x with
  | non=>cases rx;exact SeqAt.EqAt.int_none a t'
  | bl b=>cases rx;exact SeqAt.EqAt.int_bool a t' b
  | int b=>obtain⟨t,rfl⟩:=rx;exact SeqAt.EqAt.int_int a t' b t
  | str b=>obtain⟨t,rfl⟩:=rx;exact SeqAt.EqAt.int_str a t' b t
  | _=>exact absurd (show false=true from fx) mh
 | str a=>
  obtain⟨t',rfl⟩:=ry;cases x with
  | non=>cases rx;exact SeqAt.EqAt.str_none a t'
  | bl b=>cases rx;exact SeqAt.EqAt.str_bool a t' b
  | int b=>obtain⟨t,rfl⟩:=rx;exact SeqAt.EqAt.str_int a t' b t
  | str b=>obtain⟨t,rfl⟩:=rx;exact SeqAt.EqAt.str_str a t' b t
  | _=>exact absurd (show false=true from fx) mh
 | _=>exact absurd (show false=true from fy) mh
def eqU(x:V)(u:Value): Bool:=match u with
 | .none=>eqV .non x
 | .bool b=>eqV (.bl b) x
 | .int i _=>eqV (.int i) x
 | .str z _=>eqV (.str z) x
 | _=>false
theorem qlz{x y:V}{u:Value}(r:RelV y u)(f:q1c y=true): eqU x u=eqV y x:=by
 cases y with
 | non=>cases r;rfl
 | bl b=>cases r;rfl
 | int i=>obtain⟨t,rfl⟩:=r;rfl
 | str z=>obtain⟨t,rfl⟩:=r;rfl
 | _=>exact absurd (show false=true from f) mh
theorem q67{x:V}: ∀ {xs:List V} {us:List Value},Vals xs us->xs.all q1c=true->us.any (eqU x)=xs.any fun y=>eqV y x
 | _,_,.nil,_=>rfl
 | y :: xs,u :: us,.cons r t,f=>by
  rw [g3c,gm] at f;rw [List.any_cons,List.any_cons,qlz r f.1,q67 t f.2]
theorem q49{A:Around}{s:Shared}{x:V}{v:Value}(rx:RelV x v)(fx:q1c x=true): ∀ {xs:List V} {us:List Value},Vals xs us->xs.all q1c=true->∀u∈us,SeqAt.EqAt A s u v (eqU x u)
 | _,_,.nil,_=>fun u hu=>by cases hu
 | y :: xs,u :: us,.cons r t,f=>fun u' hu=>by
  rw [g3c,gm] at f;rcases ml.mp hu with rfl|hu
  ·rw [qlz r f.1];exact qly r rx f.1 fx
  ·exact q49 rx fx t f.2 u' hu
def inV(x:V)(xs:List V): Bool:=xs.any fun y=>eqV y x
def rIn(K:PySem.W.Frag)(neg:Bool): R2:=fun x y H Q=>∃p xs,y=.ref p/\(SqL K H p xs\/SqT K H p xs)/\q1c x=true/\xs.all q1c=true/\Q (.bl (if neg then !inV x xs else inV x xs)) H
theorem qm0:OpR X (compareOp .In) (rIn X.K false):=by
 intro pins s σ H x y v u Q I rx ry h;obtain⟨p,xs,rfl,hq,fx,fs,q⟩:=h;cases ry;rcases hq with hq|hq
 ·obtain⟨its,r,pl,hz⟩:=I.list hq
  refine SeqAt.in_listAt (eqU x) pl.isList (fun w hw=>q49 rx fx r fs w (by simpa using hw)) ⟨.bl _,H,I,rfl,?_⟩;rw [show its.toArray.any (eqU x)=its.any (eqU x) by simp,q67 r fs];exact q
 ·obtain⟨its,r,pl,hz⟩:=I.tuple hq
  refine SeqAt.in_tupleAt (eqU x) pl (fun w hw=>q49 rx fx r fs w (by simpa using hw)) ⟨.bl _,H,I,rfl,?_⟩;rw [show its.toArray.any (eqU x)=its.any (eqU x) by simp,q67 r fs];exact q
theorem qen:OpR X (compareOp .NotIn) (rIn X.K true):=by
 intro pins s σ H x y v u Q I rx ry h;obtain⟨p,xs,rfl,hq,fx,fs,q⟩:=h;cases ry;rcases hq with hq|hq
 ·obtain⟨its,r,pl,hz⟩:=I.list hq
  refine SeqAt.notIn_listAt (eqU x) pl.isList (fun w hw=>q49 rx fx r fs w (by simpa using hw)) ⟨.bl _,H,I,rfl,?_⟩;rw [show its.toArray.any (eqU x)=its.any (eqU x) by simp,q67 r fs];exact q
 ·obtain⟨its,r,pl,hz⟩:=I.tuple hq
  refine SeqAt.notIn_tupleAt (eqU x) pl (fun w hw=>q49 rx fx r fs w (by simpa using hw)) ⟨.bl _,H,I,rfl,?_⟩;rw [show its.toArray.any (eqU x)=its.any (eqU x) by simp,q67 r fs];exact q
theorem qdv:jx X (.type "tuple") (fun xs H Q=>∃p ys,xs=[.ref p]/\((SqL X.K H p ys/\∀l,H l=none->Q (.ref l) (upd H l (.tup ys)))\/(SqT X.K H p ys/\Q (.ref p) H))):=by
 intro pins s σ H xs us Q I r h;obtain⟨p,ys,rfl,h⟩:=h;obtain⟨u,rfl,rx⟩:=vals1 r;cases rx;rcases h with⟨hq,q⟩|⟨hq,q⟩
 ·obtain⟨its,r',pl,hz⟩:=I.list hq
  have hlen:=r'.length;refine call_tuple_list pl.isList (fun h' kp=>?_) (by simp only [gj] <;> omega);have I1:Inv X pins σ H {s with heap:=h'}:=I.kept (t':=s.toks) kp;have I2:Inv X pins σ (upd H h'.objs.size (.tup ys)) {s with heap:=h'.push {cls:=.type "tuple",data:=.seq its.toArray} }:=
   I1.laid (t':=s.toks) (fun b o e=>gb _ e) (gi _) (show ObjOk X.prog X.w _ _ _ (.tup ys) from⟨hz,its,r',TupX.new _ _⟩)
  exact⟨.ref h'.objs.size,_,I2,rfl,q _ (I1.hok.fresh (gi _))⟩
 ·obtain⟨its,r',pl,hz⟩:=I.tuple hq
  exact call_tuple_same pl ⟨.ref p,H,I,rfl,q⟩
def tyV(K:PySem.W.Frag)(T:String)(x:V)(H:Hp): Prop:=match x with
 | .str _=>T="str"
 | .int _=>T="int"
 | .ref p=>(T="list" /\ ∃xs,SqL K H p xs)\/(T="tuple" /\ ∃o,K.lookup p=some o/\o.cls=.type "tuple" /\ o.dict=none) \/
   (T="dict" /\ ((∃kvs,H p=some (.dK kvs))\/∃kvs,H p=some (.dT kvs)))\/(T="set" /\ ∃S n,H p=some (.set S n))
 | _=>False
theorem qui{pins:List (Addr×Obj)}{σ : St}{H:Hp}{s:Shared}{T:String}{x:V}{v:Value}(I:Inv X pins σ H s)(r:RelV x v)(ty:tyV X.K T x H):
  s.TypeIs v T/\∀a,v=.ref a->∃ob,s.heap.get? a=some ob/\ob.dict=none:=by
 cases x with
 | str z=>
  obtain⟨t,rfl⟩:=r;cases(show T="str" from ty);exact⟨typeIs_str s z t,fun _ e=>nomatch e⟩
 | int i=>
  obtain⟨t,rfl⟩:=r;cases(show T="int" from ty);exact⟨typeIs_int s i t,fun _ e=>nomatch e⟩
 | ref p=>
  cases r;rcases ty with⟨rfl,xs,hq⟩|⟨rfl,o,hk,hc,hd⟩|⟨rfl,hk⟩|⟨rfl,S,n,hk⟩
  ·obtain⟨its,_,pl,_⟩:=I.list hq
   refine⟨pl.isList.typeIs,fun a e=>?_⟩;cases e;obtain⟨o,n,e,c,hd,_⟩:=pl;exact⟨o,e,hd⟩
  ·refine⟨⟨o,I.kIn p o hk,hc⟩,fun a e=>?_⟩
   cases e;exact⟨o,I.kIn _ o hk,hd⟩
  ·have z:∃o,s.heap.get? p=some o/\o.ExactDict:=by
    rcases hk with⟨kvs,hk⟩|⟨kvs,hk⟩
    ·obtain⟨_,_,_,_,o,_,_,e,ex,_⟩:=I.hok p _ hk
     exact⟨o,e,ex⟩
    ·obtain⟨_,_,_,_,o,_,_,e,ex,_⟩:=I.hok p _ hk
     exact⟨o,e,ex⟩
   obtain⟨o,e,ex⟩:=z;refine⟨⟨o,e,ex.1⟩,fun a e2=>?_⟩;cases e2;exact⟨o,e,ex.2.1⟩
  ·obtain⟨o,_,_,_,e,ex,_⟩:=I.hok p _ hk
   refine⟨⟨o,e,ex.1⟩,fun a e2=>?_⟩;cases e2;exact⟨o,e,ex.2.1⟩
 | _=>exact False.elim ty
def tBM(K:PySem.W.Frag)(T:String)(r:V->List V->Hp->VK->Prop)(to:TE)(t:TA): TE:=fun σ H Q=>to σ H fun x H1=>tyV K T x H1/\t σ H1 fun xs H2=>r x xs H2 Q
variable{o e:Expr}{es:List Expr}{to:TE}{t:TA}{name:Str}{apos cpos:Pos}{T id:String}{r:V->List V->Hp->VK->Prop}
theorem qqv(pa:PlainAttrs T)(slot:Slot T name id)(hty:typeOf (.builtin id)=pure (.type "method_descriptor"))(hm:MtR X id r)(ho:PE X o to)(ha:PA X (e :: es) t)
  (hbase:attributeBase o name X.env (eval o X.env)=eval o X.env:=by rfl)
  (hfew:((backTo cpos (starEach (e :: es) X.env)).all (fun x=> !x.1)&&(backToKw cpos (keywordEach [] X.env)).all (fun x=>x.1.isSome)
   && decide ((e :: es).length+([]:List Keyword).length+(if([]:List Keyword).isEmpty then 0 else 1)<30))=true:=by rfl)
  (hline:(apos.endLine==cpos.line)=true:=by rfl) (hs:starEach (e :: es) X.env=(false,eval e X.env) :: starEach es X.env:=by rfl) (hplain:(backTo cpos (starEach es X.env)).any (·.1)=false:=by rfl) :
  PE X (.Call (.Attribute o name apos) (e :: es) [] cpos) (tBM X.K T r to t):=by
 intro pins s σ H Q I h;refine wpAny_Call_method_late hbase hfew hline rfl (thn (ho pins s σ H _ I h) fun v s1 ⟨x,H1,I1,r1,ty,q1⟩=>?_);obtain⟨h1,h2⟩:=qui I1 r1 ty;refine⟨T,id,pa,slot,hty,h1,h2,?_⟩;have hA:=ha cpos pins s1 σ H1 _ I1 q1;rw [hs] at hA ⊢;refine Calls.callWith_builtin (by show(false || (backTo cpos (starEach es X.env)).any (·.1))=false;rw [hplain] <;> rfl) (Calls.evalArgs_plain ?_);exact thn hA fun us s2 ⟨vs,H2,I2,r2,q2⟩=>hm pins s2 σ H2 x vs v us Q I2 r1 r2 q2
end
def MtM(X:Cx)(id:String)(r:V->List V->Hp->VK->Prop): Prop:=
 ∀(pins:List (Addr×Obj)) (s:Shared) (σ : St) (H:Hp) (x:V) (xs:List V) (v:Value) (us:List Value) (Q:VK),Inv X pins σ H s->RelV x v->Vals xs us->r x xs H Q ->
  wpAny (model X.prog X.w) X.A (call (.builtin id) (v :: us)) (EP X pins σ Q) X.xe s
theorem Vals.one:∀ {x:V} {us:List Value},Vals [x] us->∃u,us=[u]/\RelV x u
 | _,_,.cons r .nil=>⟨_,rfl,r⟩
theorem Vals.two:∀ {x y:V} {us:List Value},Vals [x,y] us->∃u v,us=[u,v]/\RelV x u/\RelV y v
 | _,_,_,.cons r (.cons q .nil)=>⟨_,_,rfl,r,q⟩
section
variable{X:Cx}{pins:List (Addr×Obj)}{σ : St}{H:Hp}{s:Shared}{l b:Addr}{xs ys zs:List V}
theorem Inv.lset{its its':List Value}{n:Nat}{f:Array Value->Array Value}{t':Nat}(I:Inv X pins σ H s)(hH:H l=some (.lst xs))
  (e:s.heap.get? l=some {cls:=.type "list",data:=.seq its.toArray n}) (hf:f its.toArray=its'.toArray) (hv:Vals ys its') (hz:ys.length<=sizeLine) :
  Inv X pins σ (upd H l (.lst ys)) {s with heap:=s.heap.update l (Obj.mapSeq f),toks:=t'}:=by
 have q:=PySem.IsL.update e f;rw [hf] at q;refine I.write (x:=l) (e:=l) (by rw [hH];exact trivial) (.inl rfl) (fun b' u hb hu=>(g0s s.heap (Obj.mapSeq f) (n4 hb)).trans hu) ⟨_,q⟩ ?_;exact⟨hz,its',_,hv,q⟩
theorem Inv.lnew{its:List Value}{t':Nat}(I:Inv X pins σ H s)(hv:Vals ys its)(hz:ys.length<=sizeLine):
  Inv X pins σ (upd H s.heap.objs.size (.lst ys)) {s with heap:=s.heap.push {cls:=.type "list",data:=.seq its.toArray},toks:=t'}:=
 I.laid (fun _ _ q=>gb _ q) (gi _) ⟨hz,its,0,hv,gz _ rfl⟩
theorem Inv.fresh(I:Inv X pins σ H s): H s.heap.objs.size=none:=I.hok.fresh (gi _)
theorem Inv.lstM(I:Inv X pins σ H s)(hH:H l=some (.lst xs)): xs.length<=sizeLine/\∃(its:List Value) (n:Nat),Vals xs its/\xs.length=its.length/\s.heap.get? l=some {cls:=.type "list",data:=.seq its.toArray n}:=by
 obtain⟨z,its,n,r,e⟩:=I.hok l _ hH;exact⟨z,its,n,r,r.length,e⟩
theorem qo7{n:Nat}(h:n<=sizeLine): Builtin.List.listTooLong n=false:=by
 unfold Builtin.List.listTooLong;exact mi (by omega)
end
section
variable{X:Cx}
def rAppend:V->List V->Hp->VK->Prop:=fun x vs H Q=>∃l xs y,x=.ref l/\vs=[y]/\H l=some (.lst xs)/\xs.length<sizeLine/\Q .non (upd H l (.lst (xs++[y])))
theorem qd2:MtM X "list.append" rAppend:=by
 intro pins s σ H x vs v us Q I rx rv h;obtain⟨l,xs,y,rfl,rfl,hH,hz,q⟩:=h;cases rx;obtain⟨u,rfl,ru⟩:=rv.one;obtain⟨z,its,n,r,hl,e⟩:=I.lstM hH;refine g3s F.slot_list_append ⟨_,e,rfl⟩ F.entry_list_append (F.args_list_append_2 _ _) (PySem.list_append l its.toArray n u (by rw [gj];omega)) ⟨e,?_⟩;refine⟨.non,_,I.lset (its':=its++[u]) hH e (by simp) (r.append (.cons ru .nil)) ?_,rfl,q⟩;rw [ng,g3l];omega
end
section
variable{prog:Program}{w:World}{A:Around}{E:Value->Shared->Prop}{s:Shared}
end
section
variable{X:Cx}
end
end L2
namespace Att
open PySem PySem.W PySem.Calls PyProof.Rows
theorem qar{P:Params}{h:Heap}: ∀(ns:List Int) (vs:List Value),WellAll P h vs (ns.map WData.int)->IntsAre vs ns:=by
 intro ns
 induction ns with
 | nil=>
  intro vs w;rw [g02] at w;cases w;exact .nil
 | cons n ns ih=>
  intro vs w;rw [gd] at w;cases w with
  | cons a b=>
   cases a;exact .cons _ _ (ih _ b)
theorem qm1{l:OpenLaw}{n:Nat}(hn:l.most=some n){P:Params}{h:Heap}{args:List WData}{vals:List Value}
  (hpre:l.row.toRowW.claim.pre args=true) (hwl:WellAll P h vals args) :
  ∃a vs ns,vals=[Value.ref a]/\args=[WData.list (ns.map WData.int)]/\h.get? a=some {cls:=.type "list",data:=.seq vs.toArray}/\IntsAre vs ns/\ns.length<=n:=by
 have hsh:WShape.hasAll [] args [.list .int]=true:=(pre_splitW hpre).1;have hc:l.pre.holds [] {args:=args}=true:=(pre_splitW hpre).2;obtain⟨d,r,rfl,h1,h2⟩:=hasAllW_cons hsh;obtain rfl:=hasAllW_nil h2;obtain⟨xs,rfl,h3⟩:=hasW_list h1;obtain⟨ns,rfl⟩:=items_int h3;have hlen:ns.length<=n:=by
  unfold OpenLaw.pre at hc;have h4:(WTm.not (.lt (.lit (.int (n:Int))) (.len (.arg 0)))).holds [] {args:=[.list (ns.map .int)]}=true:=by
   have h4:=(holds_andW hc).1;rw [hn] at h4;exact h4
  have h5:=condW_of h4 (w_not (w_lt w_lit (w_len_list (w_arg rfl))));rw [gh] at h5;refine Nat.le_of_not_lt fun q=>?_;have q':(n:Int)<((ns.length:Nat):Int):=by omega
  first
   | (rw [gv q'] at h5;exact absurd h5 (by decide))
   | (simp at h5;omega)
 cases hwl with
 | cons w1 w2=>
  cases w2;cases w1 with
  | list ho hall=>exact⟨_,_,ns,rfl,rfl,ho,qar ns _ hall,hlen⟩
theorem qm2(l:OpenLaw)(args:List WData): l.row.toRowW.claim.post args (.bool true) args=true:=
 postW_of (r:=l.row.toRowW) (X:=(true==true))
  (show WShape.has [] (.bool true) .bool=true by first|rfl|decide|simp [WShape.has,WShape.arms,WShape.armsAll])
  (show(WTm.eq .res (.lit (.bool true))).value [] {args:=args,res:=some (.bool true),after:=args}=some (.bool (true==true)) from w_eq_bool (w_res rfl) w_lit) rfl
theorem attach_call{l:OpenLaw}{n:Nat}{q:Program}{loose:List Str}{XP:(Str->Option Value)->Heap->Prop}{YP:World->Heap->Prop}{d:DefRec}
  (hn:l.most=some n) (hdf:d.params.defaults=[])
  (call:∀(w:World) (s₀ s₁:Shared) (mg mb:Str->Option Value) (fa:Addr) (o:Obj) (pm cd doc:Value) (a:Addr) (vs:List Value) (ns:List Int),
   Ground q loose [] XP w s₀ mg mb s₁.heap->YP w s₁.heap ->
   s₁.heap.get? fa=some o->o.data=.func (docDef d.name d.params d.body d.scope pm cd doc)->s₁.heap.CodeRec cd d.name->mg d.name=some (.ref fa) ->
   s₁.heap.get? a=some {cls:=.type "list",data:=.seq vs.toArray}->IntsAre vs ns->ns.length<=n->s₁.gens = #[] ->
   codeAny (model l.prog w) callerA (.call (.ref fa) ⟨[.ref a],[]⟩) (fun r s'=>r=.ok (.ret (.bool true))/\OldK s₁.heap s'.heap/\s'.os=s₁.os/\AllBare s'.gens) s₁) :
  WalkO q loose XP YP l.row.toRowW d [] (fun f vs=>PySem.call f vs):=by
 intro w s₀ s₁ mg mb G Y fa o pm cd doc dV kV ho hd hcd hD hmg hg args vals as hpre hlay hrd hwl hlo;obtain rfl:dV=.none:=Dflts.none hD hdf;obtain rfl:kV=.none:=Dflts.noKw hD;obtain⟨a,vs,ns,rfl,rfl,hobj,hints,hlen⟩:=qm1 hn hpre hwl;refine enter_call (g24 (call w s₀ s₁ mg mb fa o pm cd doc a vs ns G Y ho (fd_plain hd) hcd hmg hobj hints hlen hg) fun r s' hq=>?_);obtain⟨rfl,h2,h3,h4⟩:=hq;exact⟨.inl ⟨.bool true,.bool true,[],rfl,fun _=>rfl,.bool true,qm2 l _,fun _=>⟨List.Pairwise.nil,fun _ hm=>(nomatch hm)⟩⟩,h2,h3,h4⟩
section
variable{prog:Program}{w:World}{A:Around}{E:Value->Shared->Prop}{s:Shared}{K:Frag}
end
end Att
namespace L2
open PySem PySem.Spec PyProof.Rows
theorem q38:∀ {vs:List Value} {ns:List Int},IntsAre vs ns->Vals (ns.map V.int) vs
 | _,_,.nil=>.nil
 | _,_,.cons n t h=>.cons ⟨t,rfl⟩ (q38 h)
def vx(s:Stmt): Arguments:=match s with
 | .FunctionDef _ a _ _ _ _ _ _ _ _=>a
 | _=>{posonlyargs:=[],args:=[],vararg:=none,kwonlyargs:=[],kw_defaults:=[],kwarg:=none,defaults:=[]}
def qw(s:Stmt): List Stmt:=match s with
 | .FunctionDef _ _ b _ _ _ _ _ _ _=>b
 | _=>[]
def qh(s:Stmt): Scope:=match s with
 | .FunctionDef _ _ _ _ _ _ sc _ _ _=>sc
 | _=>{kind:=.function,names:=[],isGenerator:=false,isCoroutine:=false}
abbrev CX0:CXT:=fun _ _ _ _ _ _=>False
abbrev E0:XK:=fun _ _ _=>False
theorem qji{X:Cx}: q66 CX0 X E0:=fun _ _ _ _ _ _ _ h=>h.elim
structure Fun(K:PySem.W.Frag)(x qual:Str)(st:Stmt)(f:Addr)(fd:FuncData): Prop where
 ex:∃(oc:Value) (od:Option Addr) (kV doc pm:Value) (an:Option Addr) (cdv ct:Value) (osl:Array (Option Value)),
  fd=PySem.W.fnOf x qual (vx st) (qw st) (qh st) .none kV doc pm an cdv ct/\K.lookup f=some ⟨oc,od,.func fd,osl⟩/\PySem.W.codeIn K cdv qual=true
 kp:PySem.W.keepIn K (.ref f)=true
section
variable{P:Program}{w:World}{K:PySem.W.Frag}{mg:Str->Option Value}{base:Heap}
end
section
variable{X:Cx}
theorem pv(i:Nat){x:Str}{pos:Pos}(hN:X.N[i]? = some x:=by rfl)(hv:Vis X.env.scope x:=by first|exact Or.inl rfl|exact Or.inr (Or.inl rfl)|exact Or.inr (Or.inr rfl))(hd:(x==("__debug__" : Str))=false:=by decide)
  (hcd:(x==("__classdict__" : Str))=false:=by decide):PE X (.Name x pos) (qei i):=qtl hN hv hd hcd
end
theorem qy2{A B:Prop}(h:B): if false=true then A else B:=by
 rw [m6 mh];exact h
theorem qy3{A B:Prop}(h:A): if true=true then A else B:=by
 rw [gq rfl];exact h
def Same(H H':Hp): Prop:=∀b o,H b=some o->H' b=some o
theorem Same.refl(H:Hp): Same H H:=fun _ _ h=>h
theorem Same.trans{H H1 H2:Hp}(a:Same H H1)(b:Same H1 H2): Same H H2:=fun c o h=>b c o (a c o h)
theorem Same.free{H H':Hp}(e:Same H H'){l:Addr}(h:H' l=Option.none): H l=Option.none:=by
 cases q:H l with
 | none=>rfl
 | some o=>
  rw [e l o q] at h;cases h
theorem Same.seq{K:PySem.W.Frag}{H H':Hp}{a:Addr}{xs:List V}(e:Same H H')(h:SqL K H a xs): SqL K H' a xs:=by
 rcases h with(h|⟨o,h⟩)|h
 ·exact .inl (.inl (e _ _ h))
 ·exact .inl (.inr ⟨o,e _ _ h⟩)
 ·exact .inr h
theorem q4a(env:Env): ∀(names:List (Str×NameKind)) (acc:List (Str×Addr)),
  (∀y∈names,y.2=.free->∃c,env.cells.lookup y.1=some c)->(∀x c,acc.lookup x=some c->env.cells.lookup x=some c) ->
  ∃ cl,(forIn names acc (fun(x:Str×NameKind) (r:List (Str×Addr))=>(do
    if x.2==NameKind.free then do
     let a <- cellOf env x.1
     pure (ForInStep.yield ((x.1,a) :: r))
    else pure (ForInStep.yield r):Sem (ForInStep (List (Str×Addr))))):Sem (List (Str×Addr)))=pure cl /\
   (∀x c,cl.lookup x=some c->env.cells.lookup x=some c)/\(∀x c,acc.lookup x=some c->∃d,cl.lookup x=some d)/\(∀y∈names,y.2=.free->∃c,cl.lookup y.1=some c)
 | [],acc,_,h2=>⟨acc,rfl,h2,fun x c h=>⟨c,h⟩,fun y hy=>by cases hy⟩
 | (n,k) :: r,acc,h1,h2=>by
  by_cases hk:k=NameKind.free
  ·subst hk
   obtain⟨c,hc⟩:=h1 (n,.free) gc rfl;have h2':∀x d,((n,c) :: acc).lookup x=some d->env.cells.lookup x=some d:=fun x d e=>by
    rw [pz] at e
    split at e
    ·rename_i q
     have q':x=n:=by simpa using q
     subst q';cases e;exact hc
    ·exact h2 x d e
   obtain⟨cl,e,a1,a2,a3⟩:=q4a env r ((n,c) :: acc) (fun y hy=>h1 y (gf _ hy)) h2';refine⟨cl,?_,a1,fun x d e2=>?_,fun y hy hf=>?_⟩
   ·rw [g3t]
    simp only [beq_self_eq_true,tf];have hco:cellOf env n=pure c:=by unfold cellOf;rw [hc]
    rw [hco];exact e
   ·by_cases q:x=n
    ·subst q
     exact a2 x c (by rw [pz];simp)
    ·exact a2 x d (by rw [pz,show(x==n)=false by simpa using q];exact e2)
   ·rcases ml.mp hy with rfl|hy
    ·exact a2 n c (by rw [pz];simp)
    ·exact a3 y hy hf
  ·obtain⟨cl,e,a1,a2,a3⟩:=q4a env r acc (fun y hy=>h1 y (gf _ hy)) h2
   refine⟨cl,?_,a1,a2,fun y hy hf=>?_⟩
   ·rw [g3t]
    have hb:(k==NameKind.free)=false:=by simpa using hk
    simp only [hb,m8,p8];exact e
   ·rcases ml.mp hy with rfl|hy
    ·exact absurd hf hk
    ·exact a3 y hy hf
theorem q6q{scope:Scope}{env:Env}(h:∀y∈scope.names,y.2=.free->∃c,env.cells.lookup y.1=some c):
  ∃cl,closureFor scope env=pure cl/\(∀x c,cl.lookup x=some c->env.cells.lookup x=some c)/\(∀y∈scope.names,y.2=.free->∃c,cl.lookup y.1=some c):=by
 obtain⟨cl,e,a1,_,a3⟩:=q4a env scope.names [] h (fun x c q=>by cases q);refine⟨cl,?_,a1,a3⟩;unfold closureFor;exact(pk (fun m=>m >>= fun r=>(pure r:Sem (List (Str×Addr)))) e).trans rfl
abbrev qm3(ifs:List Expr)(env:Env): Sem Bool:=
 forIn ifs true fun c r=>if r=true then do let ok <- isTrue c env (eval c env);pure (ForInStep.yield ok) else pure (ForInStep.yield r)
def q3r(X:Cx)(ifs:List Expr)(t:TT): Prop:=
 ∀(pins:List (Addr×Obj)) (s:Shared) (σ : St) (H:Hp) (Q:Bool->Hp->Prop),Inv X pins σ H s->t σ H Q->wpAny (model X.prog X.w) X.A (qm3 ifs X.env) (TP X pins σ Q) X.xe s
def tTrue:TT:=fun _ H Q=>Q true H
theorem qo8{X:Cx}: q3r X [] tTrue:=fun pins s σ H Q I h=>wpAny_tests_nil ⟨H,I,h⟩
theorem qo9{X:Cx}{c:Expr}{t:TT}(h:PT X c t): q3r X [c] t:=fun pins s σ H Q I hq=>wpAny_tests_one (h pins s σ H Q I hq)
section
variable{prog:Program}{w:World}{A:Around}{R:Result->Shared->Prop}{s:Shared}
theorem qhg{elt target iter:Expr}{ifs:List Expr}{scope:Scope}{pos:Pos}{it acc:Value}{env:Env}(I:Nat->Shared->Prop)
  (turn:∀n s,I n s->wpAny (model prog w) A (pyNext it) (fun r s₁=>match r with
   | none=>R (.ok .next) s₁
   | some v=>wpAny (model prog w) A (letOwnedTupleGo target it v) (fun _ s'=>wpAny (model prog w) A (assign target env v) (fun _ s₂=>
     wpAny (model prog w) A (qm3 ifs env) (fun ok s₃=>
      if ok=true then wpAny (model prog w) A (eval elt env) (fun x s₄=>
       wpAny (model prog w) A (call (.builtin "list.append") [acc,x]) (fun _ s₅=>∃m,m<n/\I m s₅) (fun _ _=>False) s₄) (fun _ _=>False) s₃
      else ∃m,m<n/\I m s₃) (fun _ _=>False) s₂) (fun _ _=>False) s') (fun _ _=>False) s₁) (fun _ _=>False) s)
  (n:Nat) (h:I n s) :
  codeAny (model prog w) A (.compLoop (.ListComp elt [⟨target,iter,ifs,0⟩] scope pos) 0 it acc env) R s:=by
 refine codeAny_loop rfl I (fun n s hI=>?_) n h;show wpAny _ A ((compTurn (.ListComp elt [⟨target,iter,ifs,0⟩] scope pos) 0 it acc env).onRaise (fun x=>do noteFrame x env;theTreesLotGoes x)) _ _ s;refine wpAny_noted ?_;rw [compTurn_list];refine g0 (wpAny_standAt (g0 (t5 (turn n s hI) (fun r s₁ h₁=>?_) fun _ _ h'=>h'.elim)));cases r with
 | none=>exact g8 h₁
 | some v=>
  refine g0 (t5 h₁ (fun _ s' h'=>?_) fun _ _ h'=>h'.elim);refine g0 (t5 h' (fun _ s₂ h₂=>g0 (t5 h₂ (fun ok s₃ h₃=>?_) fun _ _ h'=>h'.elim)) fun _ _ h'=>h'.elim);cases ok with
  | false=>exact g8 ⟨rfl,h₃⟩
  | true=>
   exact g0 (g0 (t5 h₃ (fun x s₄ h₄=>g0 (t5 h₄ (fun _ s₅ h₅=>g8 (g8 ⟨rfl,h₅⟩)) fun _ _ h'=>h'.elim)) fun _ _ h'=>h'.elim))
end
abbrev xk(X:Cx)(N':List Str)(scope:Scope)(cl:List (Str×Addr))(C:Addr)(s₀:Shared)(H₀:Hp)(fp:List Addr): Cx:=
 {X with N:=N',env:=compEnvC scope cl C X.env,s₀:=s₀,H₀:=H₀,outer:=X.stack,ex:=fp,fn:=fun _=>false,pn:=[],xe:=fun _ _=>False}
structure CapOk(X:Cx)(N':List Str)(scope:Scope)(cap:List (Option Nat)): Prop where
 kind:scope.kind=.function
 cell:∀y∈scope.names,y.2 ≠ .cell
 names:∀y∈scope.names,y.2=.local->scope.names.lookup y.1=some .local
 frees:∀y∈scope.names,y.2=.free->X.env.kindOf y.1=some .cell\/X.env.kindOf y.1=some .free
 len:cap.length=N'.length
 cap:∀(i j:Nat),cap[i]? = some (some j)->∃x,N'[i]? = some x/\X.N[j]? = some x/\scope.names.lookup x=some .free
def q7x(cap:List (Option Nat))(σ : St): St:=cap.map fun o=>o.bind fun j=>(σ[j]?).join
theorem lookup_mem{α β : Type}[BEq α][LawfulBEq α]{l:List (α × β)}{a : α}{b : β}(h:l.lookup a=some b): (a,b)∈l:=by
 induction l with
 | nil=>cases h
 | cons p r ih=>
  obtain⟨x,y⟩:=p;rw [pz] at h
  split at h
  ·rename_i q
   have q':a=x:=by simpa using q
   subst q';cases h;exact gc
  ·exact gf _ (ih h)
theorem q4b{env:Env}: ∀ {names:List (Str×NameKind)} {x:Str} {k:NameKind},(names.map fun(n,k)=>if(k==NameKind.free&&env.scope.kind == .function&&env.kindOf n==some .cell) then(n,NameKind.cell) else(n,k)).lookup x=some k ->
  (names.lookup x=some k)\/(k=.cell/\names.lookup x=some .free)
 | [],_,_,h=>by cases h
 | (n,k0) :: r,x,k,h=>by
  have ih:=@q4b env r x k;have h':List.lookup x ((if(k0==NameKind.free&&env.scope.kind == .function&&env.kindOf n==some .cell)=true then(n,NameKind.cell) else(n,k0)) :: _)=some k:=h
  by_cases hc:(k0==NameKind.free&&env.scope.kind == .function&&env.kindOf n==some .cell)=true
  ·rw [gq hc,pz] at h'
   have hf:k0=.free:=by
    simp only [gm,g30] at hc;exact hc.1.1
   cases q:x==n with
   | true=>rw [q] at h';cases h';exact .inr ⟨rfl,by rw [pz,q,hf]⟩
   | false=>rw [q] at h';rw [pz,q];exact ih h'
  ·rw [m6 hc,pz] at h'
   cases q:x==n with
   | true=>rw [q] at h';rw [pz,q];exact .inl h'
   | false=>rw [q] at h';rw [pz,q];exact ih h'
theorem q7y{env:Env}: ∀ {names:List (Str×NameKind)} {x:Str},names.lookup x=some .free ->
  (names.map fun(n,k)=>if(k==NameKind.free&&env.scope.kind == .function&&env.kindOf n==some .cell) then(n,NameKind.cell) else(n,k)).lookup x=some .cell \/
  (names.map fun(n,k)=>if(k==NameKind.free&&env.scope.kind == .function&&env.kindOf n==some .cell) then(n,NameKind.cell) else(n,k)).lookup x=some .free
 | [],_,h=>by cases h
 | (n,k0) :: r,x,h=>by
  have ih:=@q7y env r x;show List.lookup x ((if(k0==NameKind.free&&env.scope.kind == .function&&env.kindOf n==some .cell)=true then(n,NameKind.cell) else(n,k0)) :: _)=_\/List.lookup x ((if(k0==NameKind.free&&env.scope.kind == .function&&env.kindOf n==some .cell)=true then(n,NameKind.cell) else(n,k0)) :: _)=_;rw [pz] at h
  by_cases hc:(k0==NameKind.free&&env.scope.kind == .function&&env.kindOf n==some .cell)=true
  ·rw [gq hc,pz]
   cases q:x==n with
   | true=>exact .inl rfl
   | false=>rw [q] at h;exact ih h
  ·rw [m6 hc,pz]
   cases q:x==n with
   | true=>rw [q] at h;exact .inr h
   | false=>rw [q] at h;exact ih h
section
variable{X:Cx}{pins:List (Addr×Obj)}{σ : St}{H:Hp}{s:Shared}{N':List Str}{scope:Scope}{cap:List (Option Nat)}{cl:List (Str×Addr)}{fp:List Addr}
theorem qoa(I:Inv X pins σ H s)(co:CapOk X N' scope cap)(h1:∀x c,cl.lookup x=some c->X.env.cells.lookup x=some c)(h2:∀y∈scope.names,y.2=.free->∃c,cl.lookup y.1=some c)
  (hf:∀b∈fp,q47 X pins H b) (ho:∀b∈fp,∃o,s.heap.get? b=some o) {h':Heap} {t':Nat} {m:Str->Option Value} (hn:h'.Ns s.heap.objs.size m) (hk:∀b o,s.heap.get? b=some o->h'.get? b=some o) :
  Inv (xk X N' scope cl s.heap.objs.size s H fp) [] (q7x cap σ) H {s with heap:=h',toks:=t'}:=by
 have flt:∀b∈fp,b<s.heap.objs.size:=fun b hb=>let⟨o,e⟩:=ho b hb;m9 e
 refine⟨⟨I.ok.mod,co.kind,I.ok.glob,I.ok.blt,gi _,fun x y c e1 e2=>I.ok.inj x y c (h1 x c e1) (h1 y c e2),fun x hx=>?_,fun x c z _=>(nomatch z),I.ok.hd,I.ok.frames,.inl rfl,fun b hb=>?_,I.bs,mq I.ok.bsz I.sz,fun b o e hb=>?_,fun b hb z=>?_,I.stack,I.stkFree⟩,
  rfl,I.bare,Un.kept hk,⟨m,hn,fun i x v e1 e2 e3=>?_⟩,fun x c e=>?_,I.hok.fresh (gi _),fun x c e=>I.freeC x c (h1 x c e),fun p hp=>(nomatch hp),I.hok.kept hk,?_⟩
 ·have hx':(relabel scope X.env).names.lookup x=some .cell\/(relabel scope X.env).names.lookup x=some .free:=hx
  have hfree:scope.names.lookup x=some .free:=by
   rcases hx' with q|q
   ·rcases q4b q with z|⟨_,z⟩
    ·exact absurd rfl (co.cell _ (lookup_mem z))
    ·exact z
   ·rcases q4b q with z|⟨z,_⟩
    ·exact z
    ·cases z
  exact h2 (x,.free) (lookup_mem hfree) rfl
 ·obtain⟨f0,f1,f2,f3,f4,f5⟩:=hf b hb
  exact⟨mf (flt b hb),fun x c e=>f4 x c (h1 x c e)⟩
 ·obtain⟨f0,f1,f2,f3,f4,f5⟩:=hf b hb
  rcases f3 with z|z
  ·exact I.ok.noex b o e z
  ·exact absurd (gr (m9 e) (mq I.ok.bsz z)) (g1b _)
 ·obtain⟨f0,f1,f2,f3,f4,f5⟩:=hf b hb
  rcases ml.mp (I.stkSub b z) with q|q
  ·exact f1 q
  ·exact f2 q
 ·-- a captured name
  have e2':(cap.map fun o=>o.bind fun j=>(σ[j]?).join)[i]? = some (some v):=e2;rw [mj] at e2';cases q:cap[i]? with
  | none=>rw [q] at e2';cases e2'
  | some o=>
   rw [q] at e2';cases o with
   | none=>cases e2'
   | some j=>
    obtain⟨y,a1,a2,a3⟩:=co.cap i j q;have e1':N'[i]? = some x:=e1;rw [a1] at e1';obtain rfl:y=x:=gu e1';have ej:(σ[j]?).join=some v:=by
     have:=e2';simp only [mw,g9,g0j] at this;exact this
    have ej' : σ[j]? = some (some v):=by
     cases z : σ[j]? with
     | none=>rw [z] at ej;cases ej
     | some u=>rw [z] at ej;simp only [g2a] at ej;rw [ej]
    have kd:=co.frees (y,.free) (lookup_mem a3) rfl;obtain⟨m0,hn0,hl0⟩:=I.loc;have vis:Vis X.env.scope y:=by
     rcases kd with k|k
     ·exact .inr (.inl k)
     ·exact .inr (.inr k)
    obtain⟨u,ru,lk⟩:=hl0 j y v a2 ej' vis;refine⟨u,ru,.inr ⟨q7y a3,?_⟩⟩;obtain⟨c,hc⟩:=h2 (y,.free) (lookup_mem a3) rfl;rcases lk with⟨k,_⟩|⟨_,c',hc',z⟩
    ·rcases kd with k'|k'
     ·rw [k] at k';cases k'
     ·rw [k] at k';cases k'
    ·have:=h1 _ _ hc
     rw [hc'] at this;obtain rfl:c'=c:=gu this;obtain⟨o,eo,ed⟩:=z;exact⟨c',hc,o,hk _ _ eo,ed⟩
 ·obtain⟨v,o,eo,ed⟩:=I.cell x c (h1 x c e)
  exact⟨v,o,hk _ _ eo,ed⟩
 ·show(cap.map _).length=N'.length
  rw [gh];exact co.len
theorem qjj{N':List Str}{C:Addr}{H':Hp}{s':Shared}{σ':St}{h':Heap}(I:Inv X pins σ H s)(hf:∀b∈fp,q47 X pins H b)(J:Inv (xk X N' scope cl C s H fp) [] σ' H' s')(hs:Heap.SameBut C s'.heap h'):
  Inv X pins σ H' {s' with heap:=h'}:=by
 have hC:s.heap.objs.size<=C:=J.ok.above;have kp:∀b o,b≠C->s'.heap.get? b=some o->h'.get? b=some o:=fun b o hb e=>(hs.2 b hb).trans e;have hC0:H' C=none:=J.free;have un:Un (frs X.stack) fp H H' s.heap h':=by
  have u:Un (frs X.stack) fp H H' s.heap s'.heap:=J.base;have neC:∀b o,s.heap.get? b=some o->b≠C:=fun b o e=>mf (gr (m9 e) hC);exact⟨fun b o e n h1 h2=>kp b o (neC b o e) (u.keep b o e n h1 h2),fun b o e n h1 h2=>let⟨sl,q⟩:=u.slot b o e n h1 h2; ⟨sl,kp b _ (neC b o e) q⟩,u.free,fun b o e h=>let⟨o',q⟩:=u.there b o e h; ⟨o',kp b o' (neC b o e) q⟩,u.tups,u.frzs,u.tbls⟩
 have hok:HOk X.prog X.w H' h':=fun b u e=>by
  refine(J.hok b u e).stay (fun c v hc q=>kp c v ?_ q) (fun _ q=>q) fun _ _ q=>q;rcases hc with z|z
  ·rw [z];intro z2;rw [z2,hC0] at e;cases e
  ·intro z2;rw [z2,hC0] at z;cases z
 exact I.call' (s':={s' with heap:=h'}) (ch:=fp) J.os un hok J.bare fun b hb=>by
  obtain⟨f0,f1,f2,f3,f4,f5⟩:=hf b hb;exact⟨f3,f1,f4,f5⟩
end
def quj(J:It)(cap:List (Option Nat))(g:TG)(tc:TT)(te:TE)(σ : St)(H1:Hp)(p:Addr)(K:Hp->Prop): Prop:=
 ∃ W:Nat->Nat->St->Hp->Prop,(∃m,W 0 m (q7x cap σ) (upd H1 p (.lst [])))/\∀i m σ' H',W i m σ' H' ->
  (J.stop i H'/\K H')\/(J.go i H'/\∀x H'',J.yld i H' x H''->g x σ' H'' fun σ2 H2=>tc σ2 H2 fun b H3=>
   if b=true then te σ2 H3 fun y H4=>∃xs,H4 p=some (.lst xs)/\xs.length<sizeLine/\∃m',m'<m/\W (i+1) m' σ2 (upd H4 p (.lst (xs++[y])))
   else ∃m',m'<m/\W (i+1) m' σ2 H3)
def qjk(wi:TI)(cap:List (Option Nat))(g:TG)(tc:TT)(te:TE): TE:=fun σ H Q=>wi σ H fun J H1=>∀p,H1 p=none->quj J cap g tc te σ H1 p (Q (.ref p))
section
variable{X:Cx}{N':List Str}{scope:Scope}{cap:List (Option Nat)}{tg iter elt:Expr}{ifs:List Expr}{wi:TI}{g:TG}{tc:TT}{te:TE}{pos:Pos}
theorem qd3{cl:List (Str×Addr)}{pins:List (Addr×Obj)}{s:Shared}{σ : St}{H:Hp}{it:Addr}{fp:List Addr}{tn:Nat->Heap->Prop}{J:It}{E:Value->Shared->Prop}{K:Addr->Hp->Prop}
  {RR:Value->Addr->Result->Shared->Prop} (hc:X.calm=true) (co:CapOk X N' scope cap)
  (h1:∀x c,cl.lookup x=some c->X.env.cells.lookup x=some c) (h2:∀y∈scope.names,y.2=.free->∃c,cl.lookup y.1=some c)
  (hg:∀cl C s₀ H₀ fp,PG (xk X N' scope cl C s₀ H₀ fp) tg g) (hcs:∀cl C s₀ H₀ fp,q3r (xk X N' scope cl C s₀ H₀ fp) ifs tc) (he:∀cl C s₀ H₀ fp,PE (xk X N' scope cl C s₀ H₀ fp) elt te)
  (I:Inv X pins σ H s) (T:Turn X.prog X.w X.K tg J fp it tn) (st:tn 0 s.heap) (hf:∀b∈fp,q47 X pins H b) (h:∀p,H p=none->quj J cap g tc te σ H p (K p))
  (hRR:∀(D C:Addr) (s':Shared) (H':Hp),s.heap.objs.size<=C->(∃m,s'.heap.Ns C m)->(∀h',Heap.SameBut C s'.heap h'->Inv X pins σ H' {s' with heap:=h'})->H' C=none->K D H'->RR (.ref D) C (.ok .next) s') :
  wpAny (model X.prog X.w) X.A (newList []) (fun acc s₃=>wpAny (model X.prog X.w) X.A (newFunctionEnv scope X.env.globals cl [] X.env.qual none .none (some X.env)) (fun cenv s₄=>
   codeAny (model X.prog X.w) X.A (.compStart (.ListComp elt [⟨tg,iter,ifs,0⟩] scope pos) 0 (.ref it) acc {cenv with scope:=relabel scope X.env}) (RR acc cenv.locals) s₄) E s₃) E s:=by
 refine ug (wpAny_newFunctionEnv co.cell (by intro y hy;simp at hy) (fun hh hns hsb=>?_) co.kind);have hD:H s.heap.objs.size=none:=I.fresh;have I3:Inv X pins σ (upd H s.heap.objs.size (.lst [])) {s with heap:=s.heap.push {cls:=.type "list",dict:=none,data:=.seq ([]:List Value).toArray} }:=I.lnew (ys:=[]) (its:=[]) (t':=s.toks) .nil (t6 _);obtain⟨W,⟨m0,w0⟩,turn⟩:=h s.heap.objs.size hD;have fobj:∀b∈fp,∃o,s.heap.get? b=some o:=fun b hb=>let⟨o,e,_⟩:=T.obj 0 _ st b hb; ⟨o,e⟩
 generalize e3:({s with heap:=s.heap.push {cls:=.type "list",dict:=none,data:=.seq ([]:List Value).toArray} }:Shared)=s3 at I3;have es3:s3.heap=s.heap.push {cls:=.type "list",dict:=none,data:=.seq ([]:List Value).toArray}:=by rw [<- e3]
 have eC:(s.heap.push {cls:=.type "list",dict:=none,data:=.seq ([]:List Value).toArray}).objs.size=s3.heap.objs.size:=by rw [es3]
 have hf3:∀b∈fp,q47 X pins (upd H s.heap.objs.size (.lst [])) b:=fun b hb=>by
  obtain⟨f0,f1⟩:=hf b hb;obtain⟨o,e⟩:=fobj b hb;exact⟨by rw [z8 (mf (m9 e))];exact f0,f1⟩
 have kp:∀b o,s3.heap.get? b=some o->hh.get? b=some o:=fun b o e=>by
  refine hsb.extBut b o ?_ (gb _ (by rw [<- es3];exact e));show b≠(s.heap.push {cls:=.type "list",dict:=none,data:=.seq ([]:List Value).toArray}).objs.size;rw [eC];exact mf (m9 e)
 have hle:s.heap.objs.size<=s3.heap.objs.size:=by rw [es3,g0c];exact g0t _
 have s3e:∀t:Nat,({s with heap:=hh,toks:=t}:Shared) = {s3 with heap:=hh,toks:=t}:=fun t=>by rw [<- e3]
 have I4:Inv (xk X N' scope cl s3.heap.objs.size s3 (upd H s.heap.objs.size (.lst [])) fp) [] (q7x cap σ) (upd H s.heap.objs.size (.lst [])) {s3 with heap:=hh,toks:=s.toks+([]:List (Str×Value)).length}:=
  qoa I3 co h1 h2 hf3 (fun b hb=>let⟨o,e⟩:=fobj b hb; ⟨o,by rw [es3];exact gb _ e⟩) (by rw [<- eC];exact hns) kp
 have st4:tn 0 hh:=T.keep 0 _ _ st fun b hb o e=>kp b o (by rw [es3];exact gb _ e);have etk:s3.toks+([]:List (Str×Value)).length=s.toks+([]:List (Str×Value)).length:=by rw [<- e3]
 show codeAny (model X.prog X.w) X.A (.compStart (.ListComp elt [⟨tg,iter,ifs,0⟩] scope pos) 0 (.ref it) (.ref s.heap.objs.size) (compEnvC scope cl s3.heap.objs.size X.env)) (RR (.ref s.heap.objs.size) s3.heap.objs.size)
  {s3 with heap:=hh,toks:=s3.toks+([]:List (Str×Value)).length}
 rw [etk];generalize eX:xk X N' scope cl s3.heap.objs.size s3 (upd H s.heap.objs.size (.lst [])) fp=X' at I4;have hg':PG X' tg g:=by rw [<- eX];exact hg _ _ _ _ _
 have hcs':q3r X' ifs tc:=by rw [<- eX];exact hcs _ _ _ _ _
 have he':PE X' elt te:=by rw [<- eX];exact he _ _ _ _ _
 have eenv:X'.env=compEnvC scope cl s3.heap.objs.size X.env:=by rw [<- eX]
 have exe:X'.xe=fun _ _=>False:=by rw [<- eX]
 have eex:X'.ex=fp:=by rw [<- eX]
 have eprog:X'.prog=X.prog:=by rw [<- eX]
 have ew:X'.w=X.w:=by rw [<- eX]
 have eK:X'.K=X.K:=by rw [<- eX]
 have eA:X'.A=X.A:=by rw [<- eX]
 have ecalm:X'.calm=true:=by rw [<- eX];exact hc
 have epn:X'.pn=[]:=by rw [<- eX]
 have eloc:X'.env.locals=s3.heap.objs.size:=by rw [eenv];rfl
 have ok':=I4.ok;have stat:∀ {H':Hp},(∀b∈fp,H' b=none)->∀b∈fp,q47 X' [] H' b:=fun hn b hb=>by
  have hbx:b∈X'.ex:=by rw [eex];exact hb
  exact⟨hn b hb,(ok'.exf b hbx).1,ok'.exfs b hbx,.inl hbx,(ok'.exf b hbx).2,fun p hp=>by rw [epn] at hp;cases hp⟩
 have back:∀ {σ':St} {H':Hp} {s':Shared},Inv X' [] σ' H' s'->K s.heap.objs.size H'->RR (.ref s.heap.objs.size) s3.heap.objs.size (.ok .next) s':=fun {σ' H' s'} J' k=>by
  refine hRR _ _ _ H' hle ?_ (fun h' hs'=>?_) ?_ k
  ·obtain⟨m,hm,_⟩:=J'.loc
   exact⟨m,by rw [<- eloc];exact hm⟩
  ·rw [<- eX] at J'
   exact qjj I3 hf3 J' hs'
  ·rw [<- eloc];exact J'.free
 have loop:codeAny (model X.prog X.w) X.A (.compLoop (.ListComp elt [⟨tg,iter,ifs,0⟩] scope pos) 0 (.ref it) (.ref s.heap.objs.size) (compEnvC scope cl s3.heap.objs.size X.env)) (RR (.ref s.heap.objs.size) s3.heap.objs.size)
   {s3 with heap:=hh,toks:=s.toks+([]:List (Str×Value)).length}:=by
  refine qhg (fun n s'=>∃i σ' H',Inv X' [] σ' H' s'/\tn i s'.heap/\(∀b∈fp,H' b=none)/\W i n σ' H') ?_ m0 ⟨0,_,_,I4,st4,fun b hb=>(hf3 b hb).1,w0⟩
  rintro n s5 ⟨i, σ5,H5,I5,st5,fr5,w5⟩
  rw [<- eenv];rcases turn i n σ5 H5 w5 with⟨stop,qn⟩|⟨go,step⟩
  ·have:=T.done X' eprog ew eK ecalm i [] s5 σ5 H5 (fun _ _=>False) I5 (stat fr5) st5 stop
   rw [eA] at this;refine thn this fun r s6 ⟨hr,I6⟩=>?_;subst hr;exact back I6 qn
  ·have:=T.item X' eprog ew eK ecalm i [] s5 σ5 H5 (fun _ _=>False) I5 (stat fr5) st5 go
   rw [eA] at this;refine thn this fun r s6 ⟨u,hr,h6⟩=>?_;subst hr;refine thn h6 fun _ s7 ⟨x,H7,I7,r7,y7,st7,fr7⟩=>?_;have I7':=I7.pinned (stat fr7) (T.obj _ _ st7);have hg2:=hg' _ s7 σ5 H7 x u _ I7' r7 (step x H7 y7);rw [exe,eprog,ew,eA] at hg2;refine thn hg2 fun _ s8 ⟨σ8,H8,I8,q8⟩=>?_;have hc2:=hcs' _ s8 σ8 H8 _ I8 q8;rw [exe,eprog,ew,eA] at hc2;refine thn hc2 fun ok s9 ⟨H9,I9,q9⟩=>?_;have again:∀ {H':Hp} {s':Shared} {m':Nat},Inv X' ([]++q65 fp s7.heap) σ8 H' s'->m'<n->W (i+1) m' σ8 H'->∃m,m<n/\∃i σ' H',Inv X' [] σ' H' s'/\tn i s'.heap/\(∀b∈fp,H' b=none)/\W i m σ' H':=fun {H' s' m'} J' hm w'=>by
    refine⟨m',hm,i+1, σ8,H',J'.unpinned,T.keep _ _ _ st7 fun b hb o e=>(J'.pin (b,o) (n8 _ (n8 _ (q3x hb e)))).1,fun b hb=>?_,w'⟩;obtain⟨o,e,d⟩:=T.obj _ _ st7 b hb;exact(J'.pin (b,o) (n8 _ (n8 _ (q3x hb e)))).2.1
   cases ok with
   | false=>
    rw [m6 mh] at q9 ⊢;obtain⟨m',hm,w'⟩:=q9;exact again I9 hm w'
   | true=>
    rw [gq rfl] at q9 ⊢;have he2:=he' _ s9 σ8 H9 _ I9 q9;rw [exe,eprog,ew,eA] at he2;refine thn he2 fun y s10 ⟨yv,H10,I10,r10,xs,hp,hz,m',hm,w'⟩=>?_;have ha2:=qd2 (X:=X') ([]++q65 fp s7.heap) s10 σ8 H10 (.ref s.heap.objs.size) [yv] (.ref s.heap.objs.size) [y] (fun _ H'=>H'=upd H10 s.heap.objs.size (.lst (xs++[yv]))) I10 rfl (.cons r10 .nil) ⟨_,xs,yv,rfl,rfl,hp,hz,rfl⟩;rw [exe,eprog,ew,eA] at ha2;refine thn ha2 fun _ s11 ⟨_,H11,I11,_,e11⟩=>?_;subst e11;exact again I11 hm w'
 exact codeAny_compStart_list loop (T.self _ 0 _ _ _ st4 loop)
theorem qru(hc:X.calm=true)(co:CapOk X N' scope cap)(hi:PI X tg iter wi)
  (hg:∀cl C s₀ H₀ fp,PG (xk X N' scope cl C s₀ H₀ fp) tg g) (hcs:∀cl C s₀ H₀ fp,q3r (xk X N' scope cl C s₀ H₀ fp) ifs tc) (he:∀cl C s₀ H₀ fp,PE (xk X N' scope cl C s₀ H₀ fp) elt te)
  (hs:∀x,foldedSetIterable iter X.env x=pure x:=by intro _;rfl):PE X (.ListComp elt [⟨tg,iter,ifs,0⟩] scope pos) (qjk wi cap g tc te):=by
 intro pins s σ H Q I h;obtain⟨cl,ecl,c1,c2⟩:=q6q (scope:=scope) (env:=X.env) fun y hy hf=>I.ok.has y.1 (co.frees y hy hf);rw [eval_ListComp];refine wpAny_comprehension_free (use:=none) rfl hs ecl co.kind co.names (t5 (hi pins s σ H _ I h) (fun v s1 h1=>t5 h1 (fun itv s2 h2=>?_) fun _ _ e=>e) fun _ _ e=>e);obtain⟨it,fp,tn,J,H2,rfl,I2,T,st2,f2,h2⟩:=h2;refine qd3 (K:=fun p=>Q (.ref p)) (RR:=fun acc C=>compPost (model X.prog X.w) X.A X.xe none (EP X pins σ Q) acc C) hc co c1 c2 hg hcs he I2 T st2 f2 h2 ?_;intro D C s' H' hle ⟨m,hm⟩ hI hC q;exact⟨m,hm,fun h' hs'=>⟨.ref D,H',hI h' hs',rfl,q⟩⟩
end
section
variable{X:Cx}{N':List Str}{scope:Scope}{cap:List (Option Nat)}{tg iter elt:Expr}{ifs:List Expr}{wi:TI}{g:TG}{tc:TT}{te:TE}{pos:Pos}
theorem qjl{i:Nat}{x:Str}{px pe:Pos}(hc:X.calm=true)(hN:X.N.Nodup)(hx0:X.N[i]? = some x)(hx:X.env.scope.names.lookup x=some .local)(co:CapOk X N' scope cap)(hi:PI X tg iter wi)
  (hg:∀cl C s₀ H₀ fp,PG (xk X N' scope cl C s₀ H₀ fp) tg g) (hcs:∀cl C s₀ H₀ fp,q3r (xk X N' scope cl C s₀ H₀ fp) ifs tc) (he:∀cl C s₀ H₀ fp,PE (xk X N' scope cl C s₀ H₀ fp) elt te)
  (hsw:swapsWith (.ListComp elt [⟨tg,iter,ifs,0⟩] scope pe) (some (.Name x px)) pos.line X.env=pure true:=by rfl)
  (hs:∀x,foldedSetIterable iter X.env x=pure x:=by intro _;rfl):PS X (.Assign [.Name x px] (.ListComp elt [⟨tg,iter,ifs,0⟩] scope pe) pos) (qnx (qjk wi cap g tc te) (q95 i)):=by
 intro pins s σ H D I h;obtain⟨cl,ecl,c1,c2⟩:=q6q (scope:=scope) (env:=X.env) fun y hy hf=>I.ok.has y.1 (co.frees y hy hf);rw [exec_Assign_Name_used _ _ _ _ hsw];refine g0 (wpAny_standAt (g0 ?_));show wpAny _ X.A (do let _ <- comprehension (.ListComp elt [⟨tg,iter,ifs,0⟩] scope pe) scope X.env _ (newList []) false (eval iter X.env) (some (assign (.Name x px) X.env))) _ _ s;refine g0 (t5 (wpAny_comprehension_free (use:=some (assign (.Name x px) X.env)) (Q:=fun _ s'=>SP X pins D .next s') rfl hs ecl co.kind co.names
  (t5 (hi pins s σ H _ I h) (fun v s1 h1=>t5 h1 (fun itv s2 h2=>?_) fun _ _ e=>e) fun _ _ e=>e)) (fun _ s' hq=>g8 (g8 hq)) fun _ _ e=>e)
 obtain⟨it,fp,tn,J,H2,rfl,I2,T,st2,f2,h2⟩:=h2;refine qd3 (K:=fun p H'=>q95 i (.ref p) σ H' D.nx) (RR:=fun acc C=>compPost (model X.prog X.w) X.A X.xe (some (assign (.Name x px) X.env)) (fun _ s'=>SP X pins D .next s') acc C) hc co c1 c2 hg hcs he I2 T st2 f2 h2 ?_;intro Da C s' H' hle ⟨m,hm⟩ hI hC q;have I':Inv X pins σ H' s':=hI s'.heap (g21 ..);obtain⟨o,es,ep,ho,hd,hk⟩:=id hm;have hCL:C≠X.env.locals:=uw (gr I2.lt hle);have hCf:C∉X.fs:=I2.nofs hle;have I'':Inv X (pins++[(C,o)]) σ H' s':=I'.pins_of fun p hp=>(uj.mp hp).elim (fun z=>I'.pin p (n8 _ z)) fun z=>by
  obtain rfl:p=(C,o):=by simpa using z
  exact⟨ho,hC,hCL,hCf,fun v z=>by rw [hd] at z;cases z⟩
 show wpAny (model X.prog X.w) X.A (assign (.Name x px) X.env (.ref Da)) _ _ _;refine wpAny_assign_Name (qa1 I'' hN hx0 (.inl hx) (v:=.ref Da) rfl (fun s'' J=>?_) (.inr hx));have hC2:s''.heap.get? C=some o:=(J.pin (C,o) (n8 _ (n8 _ gc))).1;refine⟨m,⟨o,es,ep,hC2,hd,hk⟩,fun h' hs'=>?_⟩;have J2:Inv X pins (σ.set i (some (.ref Da))) H' {s'' with heap:=h'}:=J.unpinned.turned (t':=s''.toks) (it:=C) (fun b ob hb e=>(hs'.2 b hb).trans e) hC hCL
  (.inr (mq I2.sz hle)) (fun y c e z=>by
   obtain⟨v,q2⟩:=I2.cell y c e;exact absurd (gr q2.lt (by rw [z];exact hle)) (g1b _)) fun p hp z=>by
   exact absurd (gr (m9 (I2.pin p hp).1) (by rw [z];exact hle)) (g1b _)
 exact⟨_,H',J2,q⟩
end
end L2
namespace DL
open PySem PySem.Spec PyProof.Rows L2
structure ExcC(K:PySem.W.Frag)(D:Addr): Prop where
 ga:PySem.W.findIn K (.ref D) "__getattribute__" = some (some (.builtin "BaseException.__getattribute__"))
 gk:PySem.W.findIn K (.ref D) "__getattr__" = some none
 cc:PySem.W.findIn K (.ref D) "__class__" = some (some (.builtin "object.__class__"))
 cs:PySem.W.specialIn K (.builtin "object.__class__") "__get__" = some (some (.builtin "getset_descriptor.__get__"))
 ct:PySem.W.takesIn K (.builtin "object.__class__")=some true
 cm:PySem.W.mroIn K D (.type "object")=some true
 cb:PySem.W.mroIn K D (.type "BaseException")=some true
section
variable{prog:Program}{w:World}{A:Around}{E:Value->Shared->Prop}{K:PySem.W.Frag}{s:Shared}{x D:Addr}{od:Option Addr}{ox:Obj}
open PySem.W in
theorem qig(c:ExcC K D): (clsIn K D).isSome=true:=by
 have:=c.cm;unfold mroIn at this;cases q:clsIn K D with
 | none=>rw [q] at this;cases this
 | some cd=>rfl
def XE(a C:Addr)(od:Option Addr)(h:Heap): Prop:=∃o vs,h.get? a=some o/\o.cls=.ref C/\o.dict=od/\o.data=.fields vs
open PySem.W in
theorem q68{M:Model}{a C:Addr}{od:Option Addr}{h:Heap}(e:XE a C od h): Looks M h (typeOf (.ref a)) (.ref C):=by
 obtain⟨o,vs,e1,e2,_,e3⟩:=e;exact e2 ▸ (Looks.ld e1).andThen .now
open PySem.W Builtin.ObjectAttr in
theorem qrv{M:Model}{h:Heap}(c:ExcC K D)(X:K.In h): Looks M h (find (.ref x) (.ref D) "__class__") (.bind (.builtin "getset_descriptor.__get__") (.builtin "object.__class__")):=by
 refine(looks_findIn (M:=M) X c.cc).andThen ((looks_specialIn (M:=M) X c.cs).andThen ?_);exact(show Looks M h (dataDescriptor? (some (.builtin "object.__class__")) (some (.builtin "getset_descriptor.__get__"))) (some (.builtin "getset_descriptor.__get__",.builtin "object.__class__")) from(looks_takesIn (M:=M) X c.ct).andThen .now).andThen (Looks.tag .now)
open PySem.W Builtin Builtin.ObjectAttr Builtin.Getset_descriptor in
theorem quk{tp:Value}{R:Result->Shared->Prop}(c:ExcC K D)(X:K.In s.heap)(I:XE x D od s.heap)(h:R (.ok (.ret (.ref D))) s):
  codeAny (model prog w) A (.call (.builtin "getset_descriptor.__get__") ⟨[.builtin "object.__class__",.ref x,tp],[]⟩) R s:=by
 obtain⟨hh,g,dr,t,os⟩:=s;have L0:=q68 (M:=model prog w) I;have L1:=looks_mroIn (M:=model prog w) X c.cm;refine g2b KF.slot_gs.plain KF.entry_gs (KF.slot_gs.check _ _ _ _ _ _ _ _ KF.type_class (KF.args_gs _ _ _) ?_);unfold Builtin.«getset_descriptor.__get__» descrGet;rw [dga_obj];refine g0 (g8 ?_);unfold descrGetter descrCheckInstance descrNameAndClass isInstance;simp only [KF.owner_class]
 repeat lk
 refine⟨Code.quiet_builtin _ (by decide +kernel),uk KF.entry_class ?_⟩;unfold Builtin.«object.__class__» shownTypeOf
 repeat lk
 exact h
open PySem.W in
theorem qob{tk:Tok}{Q:Fin->Shared->Prop}(c:ExcC K D)(X:K.In s.heap)(I:XE x D od s.heap)(hq:Q (.done (.ret (.ref D))) s):
  wpAny (model prog w) A (Builtin.«object.__getattribute__» ⟨[.ref x,.str "__class__" tk],[]⟩) Q E s:=by
 obtain⟨hh,g,dr,t,os⟩:=s;have L0:=q68 (M:=model prog w) I;have L1:=qrv (x:=x) (M:=model prog w) c X;unfold Builtin.«object.__getattribute__»;refine g0 (g8 (g0 (g8 (g0 (L0.at (g0 (L1.at ?_)))))));show wpAny _ _ (Builtin.ObjectAttr.bindTo _ _ _ _) _ _ _;unfold Builtin.ObjectAttr.bindTo;refine g0 (nk (g31 (quk c X I ?_)));exact g8 hq
open PySem.W in
theorem qoc{M:Model}{nameV:Value}{Q:Unit->Shared->Prop}(c:ExcC K D)(X:K.In s.heap)(I:XE x D od s.heap)(hq:Q () s): wpAny M A (checkBuiltinCall "BaseException.__getattribute__" ⟨[.ref x,nameV],[]⟩) Q E s:=by
 obtain⟨hh,g,dr,t,os⟩:=s;have L0:=q68 (M:=M) I;have L1:=looks_mroIn (M:=M) X c.cb;have hk:builtinKind "BaseException.__getattribute__" = some .slot:=by decide +kernel
 have hsplit:splitId "BaseException.__getattribute__" = some ("BaseException","__getattribute__"):=by decide +kernel
 have ha:=F.args_bexc_ga (.ref x) nameV;simp only [checkBuiltinCall,hk,hsplit];refine g0 ?_;unfold isInstance;refine g0 (L0.at (L1.at ?_))
 repeat (first|wp_step)
 exact hq
open PySem.W in
theorem qod{Q:Option Value->Shared->Prop}(c:ExcC K D)(X:K.In s.heap)(I:XE x D od s.heap)(h:Q (some (.ref D)) {s with toks:=s.toks+1}): wpAny (model prog w) A (getAttr? (.ref x) "__class__") Q E s:=by
 obtain⟨hh,g,dr,t,os⟩:=s;have L0:=q68 (M:=model prog w) I;have L1:=looks_findIn (M:=model prog w) X c.ga;have L2:=looks_findIn (M:=model prog w) X c.gk;have f3:=g4f.ga.bind (.ref x);unfold getAttr? getAttrBy? getAttrBy;refine g0 (wpAny_mkText (g0 (g1c (nk (g0 (L0.at (g0 (L1.at ?_))))))));show wpAny _ _ (getAttrByItsOwn _ _ _ _ _ _) _ _ _;unfold getAttrByItsOwn hookBefore;rw [gq (show onTheHeap (Value.ref D)=true from rfl)];refine g0 (L2.at ?_);refine g0 (g1c (nk ?_));unfold callGetattribute boundAndCalled;rw [m6 (by decide)];rw [f3];refine g0 (g8 ?_);refine g31 (g2b g4f.ga.plain F.entry_bexc_ga (qoc c X I (qob c X I ?_)));dsimp only;exact handed_on rfl (g8 h)
theorem qoe(c:ExcC K D): PySem.W.KitX K (.ref x) (.ref D) (XE x D od) where
 ty:=fun M h _ e=>q68 e
 it:=fun _ _ X _=>by
  obtain⟨cdD,hcD⟩:=g01.mp (qig c);unfold PySem.W.clsIn at hcD
  split at hcD
  ·rename_i c' d' cd' sl' ho
   intro A' Q' E' s' k q;unfold isType loadHead;exact g0 (wpAny_loadPart (k _ _ (X _ _ ho)) (g8 q))
  ·cases hcD
 ne:=fun h tp dd its n sl X htp=>by
  obtain⟨cdD,hcD⟩:=g01.mp (qig c);refine Bool.eq_false_iff.mpr fun q=>?_;have e:D=tp:=Value.ref.inj (g30.mp q);subst e;unfold PySem.W.clsIn at hcD
  split at hcD
  ·rename_i c' d' cd' sl' ho
   have z:=(X _ _ ho).symm.trans htp;cases z
  ·cases hcD
 ca:=fun X e k=>qod c X e k
end
def qul(K:PySem.W.Frag)(C:Addr): Prop:=ExcC K C/\∀T:String,T∈["int","bool","tuple","list","str","dict"]->PySem.W.kitOne K (.ref C) (.type T)=some false
inductive D where
 | non
 | bl (b:Bool)
 | int (i:Int)
 | str (x:Str)
 | tup (ds:List D)
 | lst (ds:List D)
 | dct (ks:List Key) (vs:List D)
 | dtt (ks:List (List Int)) (vs:List D)
 | dt2 (ks:List (List Int×List Int))
 | obj (x:Str)
 | exc (x:Str) (f:Option (Str×Int))
abbrev Frag:=PySem.W.Frag
abbrev St:=L2.St
def qof(K:Frag)(C:Addr): Prop:=PySem.W.plainGet K C "__class__" = true/\PySem.W.hasDictIn K C=true/\PySem.W.findIn K (.ref C) "__class__" = some (some (.builtin "object.__class__")) /\
 PySem.W.specialIn K (.builtin "object.__class__") "__get__" = some (some (.builtin "getset_descriptor.__get__"))/\PySem.W.takesIn K (.builtin "object.__class__")=some true/\PySem.W.mroIn K C (.type "object")=some true /\
 ∀T:String,T∈["int","bool","tuple","list","str","dict"]->PySem.W.kitOne K (.ref C) (.type T)=some false
def qum(x:List Int×Addr×Value): DictEntry:=⟨reduceHash (Builtin.Tuple.tupleHashOf (x.1.map hashInt)),.ref x.2.1,x.2.2⟩
def DE(a:Addr)(xs:List (List Int×Addr×Value))(ep:Nat)(h:Heap): Prop:=∃o es,h.get? a=some o/\o.ExactDict/\o.data=.dict es ep/\es.toList=xs.map qum
def qy4(x:(List Int×List Int)×Addr×Value): DictEntry:=⟨reduceHash (Builtin.Tuple.tupleHashOf [reduceHash (Builtin.Tuple.tupleHashOf (x.1.1.map hashInt)),reduceHash (Builtin.Tuple.tupleHashOf (x.1.2.map hashInt))]),.ref x.2.1,x.2.2⟩
def DE2(a:Addr)(xs:List ((List Int×List Int)×Addr×Value))(ep:Nat)(h:Heap): Prop:=∃o es,h.get? a=some o/\o.ExactDict/\o.data=.dict es ep/\es.toList=xs.map qy4
def SqP(K:Frag)(H:Hp)(a:Addr)(k:List Int×List Int): Prop:=∃p q,SqT K H a [.ref p,.ref q]/\SqT K H p (k.1.map V.int)/\SqT K H q (k.2.map V.int)
def XF(H:Hp): Option Addr->Option (Str×Int)->Prop
 | none,none=>True
 | some dx,some p=>H dx=some (.xd [(p.1,.int p.2)])
 | _,_=>False
theorem XF.mono{H H':Hp}(e:Same H H'): ∀ {od:Option Addr} {f:Option (Str×Int)},XF H od f->XF H' od f
 | none,none,_=>trivial
 | some _,some _,h=>e _ _ h
 | none,some _,h=>h
 | some _,none,h=>h
mutual
/-- v stands for the datum in the heap H -/
def Rep(K:Frag)(H:Hp): D->V->Prop
 | .non,v=>v=.non
 | .bl b,v=>v=.bl b
 | .int i,v=>v=.int i
 | .str x,v=>v=.str x
 | .tup ds,v=>∃a xs,v=.ref a/\SqT K H a xs/\RepL K H ds xs
 | .lst ds,v=>∃a xs,v=.ref a/\SqL K H a xs/\RepL K H ds xs
 | .dct ks vs,v=>∃a xs,v=.ref a/\H a=some (.dK (ks.zip xs))/\ks.length=xs.length/\RepL K H vs xs
 | .dtt ks vs,v=>∃a xs ys ep,v=.ref a/\H a=some (.ext (DE a xs ep))/\xs.map (·.1)=ks/\ks.Nodup/\xs.length<=sizeLine/\(a==sysModules)=false/\(∀x∈xs,SqT K H x.2.1 (x.1.map V.int))/\Vals ys (xs.map fun x=>x.2.2)/\RepL K H vs ys
 | .dt2 ks,v=>∃a xs ep,v=.ref a/\H a=some (.ext (DE2 a xs ep))/\xs.map (·.1)=ks/\ks.Nodup/\xs.length<=sizeLine/\(a==sysModules)=false/\∀x∈xs,SqP K H x.2.1 x.1
 | .obj x,v=>∃a dx C,v=.ref a/\H a=some (.ins C dx [])/\PySem.W.nsIn K mainGlobals x=some (some (.ref C))/\qof K C
 | .exc x f,v=>∃a C,v=.ref a/\(∃od,H a=some (.ext (XE a C od))/\XF H od f)/\PySem.W.nsIn K mainGlobals x=some (some (.ref C))/\qul K C
def RepL(K:Frag)(H:Hp): List D->List V->Prop
 | [],xs=>xs=[]
 | d :: ds,xs=>∃x r,xs=x :: r/\Rep K H d x/\RepL K H ds r
end
theorem qt{K:Frag}{H H':Hp}{a:Addr}{xs:List V}(e:Same H H')(h:SqT K H a xs): SqT K H' a xs:=by
 rcases h with(h|⟨o,h⟩)|h
 ·exact .inl (.inl (e _ _ h))
 ·exact .inl (.inr ⟨o,e _ _ h⟩)
 ·exact .inr h
theorem SqP.mono{K:Frag}{H H':Hp}{a:Addr}{k:List Int×List Int}(e:Same H H')(h:SqP K H a k): SqP K H' a k:=by
 obtain⟨p,q,h1,h2,h3⟩:=h;exact⟨p,q,qt e h1,qt e h2,qt e h3⟩
mutual
theorem Rep.mono{K:Frag}{H H':Hp}(e:Same H H'): ∀ {d:D} {v:V},Rep K H d v->Rep K H' d v
 | .non,v,h=>by simpa only [Rep] using h
 | .bl b,v,h=>by simpa only [Rep] using h
 | .int i,v,h=>by simpa only [Rep] using h
 | .str x,v,h=>by simpa only [Rep] using h
 | .tup ds,v,h=>by
  simp only [Rep] at h ⊢;obtain⟨a,xs,e1,e2,e3⟩:=h;exact⟨a,xs,e1,qt e e2,RepL.mono e e3⟩
 | .lst ds,v,h=>by
  simp only [Rep] at h ⊢;obtain⟨a,xs,e1,e2,e3⟩:=h;exact⟨a,xs,e1,e.seq e2,RepL.mono e e3⟩
 | .dct ks vs,v,h=>by
  simp only [Rep] at h ⊢;obtain⟨a,xs,e1,e2,e3,e4⟩:=h;exact⟨a,xs,e1,e _ _ e2,e3,RepL.mono e e4⟩
 | .dtt ks vs,v,h=>by
  simp only [Rep] at h ⊢;obtain⟨a,xs,ys,ep,e1,e2,e3,e4,e5,e6,e7,e8,e9⟩:=h;exact⟨a,xs,ys,ep,e1,e _ _ e2,e3,e4,e5,e6,fun x hx=>qt e (e7 x hx),e8,RepL.mono e e9⟩
 | .dt2 ks,v,h=>by
  simp only [Rep] at h ⊢;obtain⟨a,xs,ep,e1,e2,e3,e4,e5,e6,e7⟩:=h;exact⟨a,xs,ep,e1,e _ _ e2,e3,e4,e5,e6,fun x hx=>(e7 x hx).mono e⟩
 | .obj x,v,h=>by
  simp only [Rep] at h ⊢;obtain⟨a,dx,C,e1,e2,e3⟩:=h;exact⟨a,dx,C,e1,e _ _ e2,e3⟩
 | .exc x f,v,h=>by
  simp only [Rep] at h ⊢;obtain⟨a,C,e1,⟨od,e2,e4⟩,e3⟩:=h;exact⟨a,C,e1,⟨od,e _ _ e2,e4.mono e⟩,e3⟩
theorem RepL.mono{K:Frag}{H H':Hp}(e:Same H H'): ∀ {ds:List D} {xs:List V},RepL K H ds xs->RepL K H' ds xs
 | [],xs,h=>by simpa only [RepL] using h
 | d :: ds,xs,h=>by
  simp only [RepL] at h ⊢;obtain⟨x,r,e1,e2,e3⟩:=h;exact⟨x,r,e1,Rep.mono e e2,RepL.mono e e3⟩
end
section
variable{K:Frag}{H:Hp}
theorem RepL.nil:RepL K H [] []:=by simp only [RepL]
theorem RepL.cons{d:D}{ds:List D}{x:V}{xs:List V}(h:Rep K H d x)(t:RepL K H ds xs): RepL K H (d :: ds) (x :: xs):=by
 simp only [RepL];exact⟨x,xs,rfl,h,t⟩
theorem RepL.nil_inv{xs:List V}(h:RepL K H [] xs): xs=[]:=by simpa only [RepL] using h
theorem RepL.cons_inv{d:D}{ds:List D}{xs:List V}(h:RepL K H (d :: ds) xs): ∃x r,xs=x :: r/\Rep K H d x/\RepL K H ds r:=by simpa only [RepL] using h
theorem RepL.length:∀ {ds:List D} {xs:List V},RepL K H ds xs->ds.length=xs.length
 | [],xs,h=>by rw [h.nil_inv];rfl
 | d :: ds,xs,h=>by
  obtain⟨x,r,rfl,_,t⟩:=h.cons_inv;simp [RepL.length t]
theorem RepL.append:∀ {ds es:List D} {xs ys:List V},RepL K H ds xs->RepL K H es ys->RepL K H (ds++es) (xs++ys)
 | [],es,xs,ys,h,t=>by rw [h.nil_inv];exact t
 | d :: ds,es,xs,ys,h,t=>by
  obtain⟨x,r,rfl,h1,h2⟩:=h.cons_inv;exact .cons h1 (RepL.append h2 t)
theorem RepL.get:∀ {ds:List D} {xs:List V} {i:Nat} {d:D},RepL K H ds xs->ds[i]? = some d->∃x,xs[i]? = some x/\Rep K H d x
 | [],xs,i,d,h,e=>by simp at e
 | d :: ds,xs,0,d',h,e=>by
  obtain⟨x,r,rfl,h1,h2⟩:=h.cons_inv;simp at e;subst e;exact⟨x,rfl,h1⟩
 | d :: ds,xs,i+1,d',h,e=>by
  obtain⟨x,r,rfl,h1,h2⟩:=h.cons_inv;obtain⟨y,e1,e2⟩:=RepL.get (i:=i) h2 (by simpa using e);exact⟨y,by simpa using e1,e2⟩
theorem RepL.take:∀ {ds:List D} {xs:List V} (n:Nat),RepL K H ds xs->RepL K H (ds.take n) (xs.take n)
 | _,_,0,_=>by simp only [List.take_zero];exact .nil
 | [],xs,n+1,h=>by rw [h.nil_inv];exact .nil
 | d :: ds,xs,n+1,h=>by
  obtain⟨x,r,rfl,h1,h2⟩:=h.cons_inv;exact .cons h1 (RepL.take n h2)
theorem RepL.drop:∀ {ds:List D} {xs:List V} (n:Nat),RepL K H ds xs->RepL K H (ds.drop n) (xs.drop n)
 | ds,xs,0,h=>by simpa only [g63] using h
 | [],xs,n+1,h=>by rw [h.nil_inv];exact .nil
 | d :: ds,xs,n+1,h=>by
  obtain⟨x,r,rfl,h1,h2⟩:=h.cons_inv;exact RepL.drop n h2
theorem RepL.ints:∀ {ns:List Int} {xs:List V},RepL K H (ns.map D.int) xs↔xs=ns.map V.int
 | [],xs=>by simp only [g02,RepL]
 | n :: ns,xs=>by
  simp only [gd,RepL]
  constructor
  ·rintro⟨x,r,rfl,h1,h2⟩
   simp only [Rep] at h1;rw [h1,RepL.ints.mp h2]
  ·rintro rfl
   exact⟨_,_,rfl,by simp only [Rep],RepL.ints.mpr rfl⟩
theorem rep_int{i:Int}{v:V}: Rep K H (.int i) v↔v=.int i:=by simp only [Rep]
theorem rep_bl{i:Bool}{v:V}: Rep K H (.bl i) v↔v=.bl i:=by simp only [Rep]
theorem rep_str{i:Str}{v:V}: Rep K H (.str i) v↔v=.str i:=by simp only [Rep]
theorem rep_non{v:V}: Rep K H .non v↔v=.non:=by simp only [Rep]
theorem rep_tup{ds:List D}{v:V}: Rep K H (.tup ds) v↔∃a xs,v=.ref a/\SqT K H a xs/\RepL K H ds xs:=by simp only [Rep]
theorem rep_lst{ds:List D}{v:V}: Rep K H (.lst ds) v↔∃a xs,v=.ref a/\SqL K H a xs/\RepL K H ds xs:=by simp only [Rep]
theorem rep_dct{ks:List Key}{vs:List D}{v:V}: Rep K H (.dct ks vs) v↔∃a xs,v=.ref a/\H a=some (.dK (ks.zip xs))/\ks.length=xs.length/\RepL K H vs xs:=by simp only [Rep]
theorem rep_dtt{ks:List (List Int)}{vs:List D}{v:V}: Rep K H (.dtt ks vs) v↔∃a xs ys ep,v=.ref a/\H a=some (.ext (DE a xs ep))/\xs.map (·.1)=ks/\ks.Nodup/\xs.length<=sizeLine/\(a==sysModules)=false/\(∀x∈xs,SqT K H x.2.1 (x.1.map V.int))/\Vals ys (xs.map fun x=>x.2.2)/\RepL K H vs ys:=by simp only [Rep]
theorem rep_dt2{ks:List (List Int×List Int)}{v:V}: Rep K H (.dt2 ks) v↔∃a xs ep,v=.ref a/\H a=some (.ext (DE2 a xs ep))/\xs.map (·.1)=ks/\ks.Nodup/\xs.length<=sizeLine/\(a==sysModules)=false/\∀x∈xs,SqP K H x.2.1 x.1:=by simp only [Rep]
theorem rep_exc{x:Str}{f:Option (Str×Int)}{v:V}: Rep K H (.exc x f) v↔∃a C,v=.ref a/\(∃od,H a=some (.ext (XE a C od))/\XF H od f)/\PySem.W.nsIn K mainGlobals x=some (some (.ref C))/\qul K C:=by simp only [Rep]
theorem rep_obj{x:Str}{v:V}: Rep K H (.obj x) v↔∃a dx C,v=.ref a/\H a=some (.ins C dx [])/\PySem.W.nsIn K mainGlobals x=some (some (.ref C))/\qof K C:=by simp only [Rep]
end
class Lam where
 tab:List (Addr×Str)
class Pin where
 pin:Option Addr
instance (priority:=low) pin0:Pin:=⟨none⟩
variable[Lam][Pin]
def Tab(H:Hp): Prop:=∀p∈Lam.tab,∃ps,H p.1=some (.tbl ps)/\TriplesOk ps.toList/\∀pos cv,codeAmong pos ps.toList=some cv->∃c φ,cv=.ref c/\H c=some (.ext φ)/\∀h, φ h->h.CodeRec (.ref c) p.2
def qog(F:Hp): Prop:=∀p∈Lam.tab,F p.1=none
theorem Tab.updG{H:Hp}(t:Tab H){p:Addr}{o:HO}(h:∀u,H p=some u->(∀ps,u ≠ .tbl ps)/\∀ φ,u ≠ .ext φ): Tab (upd H p o):=fun q hq=>by
 obtain⟨ps,e,ht,k⟩:=t q hq;refine⟨ps,by rw [z8 (fun z=>by subst z;exact(h _ e).1 ps rfl)];exact e,ht,fun pos cv z=>?_⟩;obtain⟨c, φ,e1,e2,e3⟩:=k pos cv z;exact⟨c, φ,e1,by rw [z8 (fun z=>by subst z;exact(h _ e2).2 φ rfl)];exact e2,e3⟩
theorem Tab.upd{H:Hp}(t:Tab H){p:Addr}{o:HO}(h:H p=none\/∃xs,H p=some (.lst xs)): Tab (upd H p o):=t.updG fun u e=>by
 rcases h with h|⟨xs,h⟩
 ·rw [h] at e;cases e
 ·rw [h] at e;cases e;exact⟨nofun,nofun⟩
abbrev KO:=(Addr×Addr×List (Str×V)) ⊕ List (Key×V)
def KO.ho:KO->HO
 | .inl u=>.ins u.1 u.2.1 u.2.2
 | .inr k=>.dK k
structure Kept(H H':Hp): Prop where
 lst:∀b xs,H b=some (.lst xs)->H' b=some (.lst xs)
 ext:∀b φ,H b=some (.ext φ)->H' b=some (.ext φ)
 free:∀ {b},H' b=none->H b=none
 tb:Tab H->Tab H'
 dk:∀b (u:KO),H b=some u.ho->H' b=some u.ho
theorem Kept.refl(H:Hp): Kept H H:=⟨fun _ _ e=>e,fun _ _ e=>e,fun e=>e,fun t=>t,fun _ _ e=>e⟩
theorem Kept.trans{H H1 H2:Hp}(a:Kept H H1)(b:Kept H1 H2): Kept H H2:=⟨fun c xs e=>b.lst c xs (a.lst c xs e),fun c φ e=>b.ext c φ (a.ext c φ e),fun e=>a.free (b.free e),fun t=>b.tb (a.tb t),fun c kvs e=>b.dk c kvs (a.dk c kvs e)⟩
theorem Kept.new{H:Hp}{p:Addr}{o:HO}(hp:H p=none): Kept H (upd H p o):=⟨fun b xs e=>by rw [z8 (xw e hp)];exact e,fun b φ e=>by rw [z8 (xw e hp)];exact e,fun {b} e=>by
 by_cases z:b=p
 ·subst z;exact hp
 ·rw [z8 z] at e;exact e,fun t=>t.upd (.inl hp),fun b kvs e=>by rw [z8 (xw e hp)];exact e⟩
structure SameT(F H:Hp): Prop where
 s:Same F H
 t:Tab H
 f:qog F
structure Grow(F H F' H':Hp): Prop where
 ff:Same F F'
 hh:Kept H H'
 fh:Same F' H'
 nw:∀b,F' b≠none->F b≠none\/H b=none
theorem Grow.refl{F H:Hp}(h:Same F H): Grow F H F H:=⟨.refl _,.refl _,h,fun _ h=>.inl h⟩
theorem Grow.trans{F H F1 H1 F2 H2:Hp}(a:Grow F H F1 H1)(b:Grow F1 H1 F2 H2): Grow F H F2 H2:=
 ⟨a.ff.trans b.ff,a.hh.trans b.hh,b.fh,fun c h=>(b.nw c h).elim (fun z=>a.nw c z) fun z=>.inr (a.hh.free z)⟩
theorem q6r{H:Hp}{p:Addr}{o:HO}(h:H p=none): Same H (upd H p o):=fun b u q=>by rw [z8 (xw q h)];exact q
theorem qm4{F H:Hp}{p:Addr}{o:HO}(h:Same F H): Same (upd F p o) (upd H p o):=fun b u q=>by
 unfold upd at q ⊢
 split
 ·rename_i z;rw [gq z] at q;exact q
 ·rename_i z;rw [m6 z] at q;exact h _ _ q
theorem Grow.new{F H:Hp}{p:Addr}{o:HO}(h:Same F H)(hp:H p=none): Grow F H (upd F p o) (upd H p o):=
 ⟨q6r (h.free hp),.new hp,qm4 h,fun b hb=>by
  by_cases e:b=p
  ·subst e;exact .inr hp
  ·rw [z8 e] at hb;exact .inl hb⟩
theorem Grow.own{F H:Hp}{p:Addr}{o:HO}(h:Same F H)(hp:H p=none): Grow F H F (upd H p o):=
 ⟨.refl _,.new hp,h.trans (q6r hp),fun _ h=>.inl h⟩
inductive B where
 | fz (d:D)
 | ow (ds:List D)
 | od (kvs:Str×List (Str×D))
abbrev Rho:=List (Option B)
def FsR(K:Frag)(F:Hp): List (Str×D)->List (Str×V)->Prop
 | [],vs=>vs=[]
 | p :: fs,vs=>∃v r,vs=(p.1,v) :: r/\Rep K F p.2 v/\FsR K F fs r
omit [Lam] [Pin] in
theorem FsR.mono{K:Frag}{F F':Hp}(s:Same F F'): ∀ {fs:List (Str×D)} {vs:List (Str×V)},FsR K F fs vs->FsR K F' fs vs
 | [],_,h=>h
 | p :: fs,_,⟨v,r,e,h1,h2⟩=>⟨v,r,e,h1.mono s,FsR.mono s h2⟩
structure ODt(K:Frag)(F H H0:Hp)(a:Addr)(bs:List Addr)(kvs:Str×List (Str×D)): Prop where
 nb:bs=[]
 ex:∃C dx vs,H a=some (.ins C dx vs)/\PySem.W.nsIn K mainGlobals kvs.1=some (some (.ref C))/\FsR K F kvs.2 vs
 f:F a=none
 z:H0 a=none
 pn:∀p,Pin.pin=some p->a=p
structure RS(K:Frag)(F0 H0 F H:Hp)(σ : St)(ρ : Rho): Prop where
 t0:Tab H0/\qog F0
 g:Grow F0 H0 F H
 len : σ.length = ρ.length
 fz:∀(i:Nat) (d:D), ρ[i]? = some (some (.fz d))->∃v, σ[i]? = some (some v)/\Rep K F d v
 ow:∀(i:Nat) (ds:List D), ρ[i]? = some (some (.ow ds))->∃a xs, σ[i]? = some (some (.ref a))/\H a=some (.lst xs)/\F a=none/\H0 a=none/\RepL K F ds xs
 dj:∀(i j:Nat) (ds es:List D) (a:Addr),i≠j -> ρ[i]? = some (some (.ow ds)) -> ρ[j]? = some (some (.ow es)) -> σ[i]? = some (some (.ref a)) -> σ[j]? ≠ some (some (.ref a))
 od:∀(i:Nat) (kvs:Str×List (Str×D)), ρ[i]? = some (some (.od kvs))->∃a bs, σ[i]? = some (some (.ref a))/\ODt K F H H0 a bs kvs/\∀(j:Nat) (es:List D) (b:Addr), ρ[j]? = some (some (.ow es))->b∈bs -> σ[j]? ≠ some (some (.ref b))
 o1:∀(i j:Nat) (k1 k2:Str×List (Str×D)), ρ[i]? = some (some (.od k1)) -> ρ[j]? = some (some (.od k2))->i=j
theorem qrw{F H F' H':Hp}{a:Addr}{o:HO}(g:Grow F H F' H')(h1:F a=none)(h2:H a=some o): F' a=none:=by
 cases q:F' a with
 | none=>rfl
 | some o=>
  rcases g.nw a (by rw [q];simp) with z|z
  ·exact absurd h1 z
  ·rw [h2] at z;cases z
theorem ODt.mem{K:Frag}{F H H0:Hp}{a:Addr}{bs:List Addr}{kvs:Str×List (Str×D)}(o:ODt K F H H0 a bs kvs){b:Addr}(h:b∈bs): ∃xs,H b=some (.lst xs)/\F b=none/\H0 b=none:=by
 rw [o.nb] at h;cases h
theorem ODt.nl{K:Frag}{F H H0:Hp}{a:Addr}{bs:List Addr}{kvs:Str×List (Str×D)}(o:ODt K F H H0 a bs kvs){xs:List V}(h:H a=some (.lst xs)): False:=by
 obtain⟨C,dx,vs,e,_⟩:=o.ex;rw [h] at e;cases e
theorem ODt.grow{K:Frag}{F H F' H' H0:Hp}{a:Addr}{bs:List Addr}{kvs:Str×List (Str×D)}(o:ODt K F H H0 a bs kvs)(g:Grow F H F' H'): ODt K F' H' H0 a bs kvs:=by
 obtain⟨C,dx,vs,e1,e2,e3⟩:=o.ex;exact⟨o.nb,⟨C,dx,vs,g.hh.dk a (.inl (C,dx,_)) e1,e2,e3.mono g.ff⟩,qrw g o.f e1,o.z,o.pn⟩
theorem ODt.other{K:Frag}{F H H0:Hp}{a p:Addr}{bs:List Addr}{kvs:Str×List (Str×D)}{u:HO}(o:ODt K F H H0 a bs kvs)(h1:p≠a)(h2:p∉bs): ODt K F (upd H p u) H0 a bs kvs:=by
 obtain⟨C,dx,vs,e1,e2,e3⟩:=o.ex;exact⟨o.nb,⟨C,dx,vs,by rw [z8 (n4 h1)];exact e1,e2,e3⟩,o.f,o.z,o.pn⟩
theorem ODt.otherF{K:Frag}{F H H0:Hp}{a p:Addr}{bs:List Addr}{kvs:Str×List (Str×D)}{u:HO}(o:ODt K F H H0 a bs kvs)(hs:Same F (upd F p u))(h1:p≠a)(h2:p∉bs): ODt K (upd F p u) H H0 a bs kvs:=by
 obtain⟨C,dx,vs,e1,e2,e3⟩:=o.ex;exact⟨o.nb,⟨C,dx,vs,e1,e2,e3.mono hs⟩,by rw [z8 (n4 h1)];exact o.f,o.z,o.pn⟩
section
variable{K:Frag}{F0 H0 F H F' H':Hp}{σ : St}{ρ : Rho}
theorem RS.fh(r:RS K F0 H0 F H σ ρ): Same F H:=r.g.fh
theorem RS.tab(r:RS K F0 H0 F H σ ρ): Tab H:=r.g.hh.tb r.t0.1
theorem RS.tabF(r:RS K F0 H0 F H σ ρ): qog F:=fun p hp=>by
 cases q:F p.1 with
 | none=>rfl
 | some o=>
  rcases r.g.nw p.1 (by rw [q];simp) with z|z
  ·exact absurd (r.t0.2 p hp) z
  ·obtain⟨ps,e,_⟩:=r.t0.1 p hp
   rw [e] at z;cases z
theorem RS.grow(r:RS K F0 H0 F H σ ρ)(g:Grow F H F' H'): RS K F0 H0 F' H' σ ρ where
 t0:=r.t0
 g:=r.g.trans g
 len:=r.len
 fz:=fun i d e=>let⟨v,e1,e2⟩:=r.fz i d e; ⟨v,e1,e2.mono g.ff⟩
 ow:=fun i ds e=>by
  obtain⟨a,xs,e1,e2,e3,e4,e5⟩:=r.ow i ds e;refine⟨a,xs,e1,g.hh.lst _ _ e2,?_,e4,e5.mono g.ff⟩;cases q:F' a with
  | none=>rfl
  | some o=>
   rcases g.nw a (by rw [q];simp) with z|z
   ·exact absurd e3 z
   ·rw [e2] at z;cases z
 dj:=r.dj
 od:=fun i kvs e=>let⟨a,bs,e1,e2,e3⟩:=r.od i kvs e; ⟨a,bs,e1,e2.grow g,e3⟩
 o1:=r.o1
theorem RS.sameT(r:RS K F0 H0 F H σ ρ)(g:Grow F H F' H'): SameT F' H':=⟨g.fh,(r.grow g).tab,(r.grow g).tabF⟩
theorem zl{α : Type}{l:List α}{i:Nat}{x y : α}(h:(l.set i x)[i]? = some y): y=x/\i<l.length:=by
 rw [g4q] at h;simp only [tf] at h
 split at h
 ·exact⟨(gu h).symm,by assumption⟩
 ·cases h
theorem RS.set(r:RS K F0 H0 F H σ ρ){d:D}{v:V}(i:Nat)(h:Rep K F d v): RS K F0 H0 F H (σ.set i (some v)) (ρ.set i (some (.fz d))) where
 t0:=r.t0
 g:=r.g
 len:=by rw [g14,g14];exact r.len
 fz:=fun j e h1=>by
  by_cases q:j=i
  ·subst q
   obtain⟨z,l⟩:=zl h1;cases z;exact⟨v,by rw [g4q];simp [r.len,l],h⟩
  ·rw [ma (n4 q)] at h1 ⊢
   exact r.fz j e h1
 ow:=fun j ds h1=>by
  by_cases q:j=i
  ·subst q
   obtain⟨z,l⟩:=zl h1;cases z
  ·rw [ma (n4 q)] at h1 ⊢
   exact r.ow j ds h1
 dj :=fun j k ds es a hjk h1 h2 h3=>by
  by_cases q:j=i
  ·subst q
   obtain⟨z,l⟩:=zl h1;cases z
  ·by_cases q2:k=i
   ·subst q2
    obtain⟨z,l⟩:=zl h2;cases z
   ·rw [ma (n4 q)] at h1 h3
    rw [ma (n4 q2)] at h2 ⊢;exact r.dj j k ds es a hjk h1 h2 h3
 od :=fun j kvs h1=>by
  by_cases q:j=i
  ·subst q
   obtain⟨z,l⟩:=zl h1;cases z
  ·rw [ma (n4 q)] at h1 ⊢
   obtain⟨a,bs,e1,e2,e3⟩:=r.od j kvs h1;refine⟨a,bs,e1,e2,fun k es b h2 h3=>?_⟩
   by_cases q2:k=i
   ·subst q2
    obtain⟨z,l⟩:=zl h2;cases z
   ·rw [ma (n4 q2)] at h2 ⊢
    exact e3 k es b h2 h3
 o1 :=fun j k k1 k2 h1 h2=>by
  by_cases q:j=i
  ·subst q
   obtain⟨z,l⟩:=zl h1;cases z
  ·by_cases q2:k=i
   ·subst q2
    obtain⟨z,l⟩:=zl h2;cases z
   ·rw [ma (n4 q)] at h1
    rw [ma (n4 q2)] at h2;exact r.o1 j k k1 k2 h1 h2
theorem RS.setO(r:RS K F0 H0 F H σ ρ){ds:List D}{xs:List V}{a:Addr}(i:Nat)(h1:H a=some (.lst xs))(h2:F a=none)(h3:H0 a=none)(h4:RepL K F ds xs)
  (h5:∀(j:Nat) (es:List D), ρ[j]? = some (some (.ow es)) -> σ[j]? ≠ some (some (.ref a)))
  (h6:∀(j:Nat) (kvs:Str×List (Str×D)), ρ[j]? = some (some (.od kvs))->∃a' bs, σ[j]? = some (some (.ref a'))/\ODt K F H H0 a' bs kvs/\a∉bs/\∀(j':Nat) (es:List D) (b:Addr), ρ[j']? = some (some (.ow es))->b∈bs -> σ[j']? ≠ some (some (.ref b))):RS K F0 H0 F H (σ.set i (some (.ref a))) (ρ.set i (some (.ow ds))) where
 t0:=r.t0
 g:=r.g
 len:=by rw [g14,g14];exact r.len
 fz:=fun j e q1=>by
  by_cases q:j=i
  ·subst q
   obtain⟨z,l⟩:=zl q1;cases z
  ·rw [ma (n4 q)] at q1 ⊢
   exact r.fz j e q1
 ow:=fun j es q1=>by
  by_cases q:j=i
  ·subst q
   obtain⟨z,l⟩:=zl q1;cases z;exact⟨a,xs,by rw [g4q];simp [r.len,l],h1,h2,h3,h4⟩
  ·rw [ma (n4 q)] at q1 ⊢
   exact r.ow j es q1
 dj :=fun j k ds' es b hjk q1 q2 q3=>by
  by_cases q:j=i
  ·subst q
   have e3:=zl q3;have eb:b=a:=by have:=e3.1;simpa using this
   subst eb;rw [ma hjk] at q2 ⊢;exact h5 k es q2
  ·rw [ma (n4 q)] at q1 q3
   by_cases q4:k=i
   ·subst q4
    intro z;have eb:b=a:=by have:=(zl z).1;simpa using this
    subst eb;exact h5 j ds' q1 q3
   ·rw [ma (n4 q4)] at q2 ⊢
    exact r.dj j k ds' es b hjk q1 q2 q3
 od :=fun j kvs q1=>by
  by_cases q:j=i
  ·subst q
   obtain⟨z,l⟩:=zl q1;cases z
  ·rw [ma (n4 q)] at q1 ⊢
   obtain⟨a',bs,e1,e2,e3,e4⟩:=h6 j kvs q1;refine⟨a',bs,e1,e2,fun k es b p1 p2 p3=>?_⟩
   by_cases q2:k=i
   ·subst q2
    have eb:b=a:=by have:=(zl p3).1;simpa using this
    exact e3 (eb ▸ p2)
   ·rw [ma (n4 q2)] at p1 p3
    exact e4 k es b p1 p2 p3
 o1 :=fun j k k1 k2 p1 p2=>by
  by_cases q:j=i
  ·subst q
   obtain⟨z,l⟩:=zl p1;cases z
  ·by_cases q2:k=i
   ·subst q2
    obtain⟨z,l⟩:=zl p2;cases z
   ·rw [ma (n4 q)] at p1
    rw [ma (n4 q2)] at p2;exact r.o1 j k k1 k2 p1 p2
theorem RS.wrt(r:RS K F0 H0 F H σ ρ){ds es:List D}{ys:List V}{a:Addr}{i:Nat}(h1 : ρ[i]? = some (some (.ow ds)))(h2 : σ[i]? = some (some (.ref a)))(h4:RepL K F es ys):
  RS K F0 H0 F (upd H a (.lst ys)) σ (ρ.set i (some (.ow es))):=by
 obtain⟨a',xs,e1,e2,e3,e4,e5⟩:=r.ow i ds h1;rw [h2] at e1;obtain rfl:a=a':=by simpa using e1
 have nF:∀b o,F b=some o->b≠a:=fun b o e z=>by subst z;rw [e3] at e;cases e
 exact {
  t0:=r.t0
  g :=⟨r.g.ff,⟨fun b o e=>by rw [z8 (fun z=>by subst z;rw [e4] at e;cases e)];exact r.g.hh.lst b o e,fun b o e=>by rw [z8 (fun z=>by subst z;rw [e4] at e;cases e)];exact r.g.hh.ext b o e,fun {b} e=>by
    by_cases z:b=a
    ·subst z;exact e4
    ·rw [z8 z] at e;exact r.g.hh.free e,fun t=>(r.g.hh.tb t).upd (.inr ⟨_,e2⟩),fun b o e=>by rw [z8 (fun z=>by subst z;rw [e4] at e;cases e)];exact r.g.hh.dk b o e⟩,fun b o e=>by rw [z8 (nF b o e)];exact r.g.fh b o e,r.g.nw⟩
  len:=by rw [g14];exact r.len
  fz:=fun j e q1=>by
   by_cases q:j=i
   ·subst q
    obtain⟨z,l⟩:=zl q1;cases z
   ·rw [ma (n4 q)] at q1
    exact r.fz j e q1
  ow :=fun j es' q1=>by
   by_cases q:j=i
   ·subst q
    obtain⟨z,l⟩:=zl q1;cases z;exact⟨a,ys,h2,zi,e3,e4,h4⟩
   ·rw [ma (n4 q)] at q1
    obtain⟨b,zs,f1,f2,f3,f4,f5⟩:=r.ow j es' q1;have hb:b≠a:=fun z=>by
     subst z;exact r.dj i j ds es' b (n4 q) h1 q1 h2 f1
    exact⟨b,zs,f1,by rw [z8 hb];exact f2,f3,f4,f5⟩
  dj:=fun j k ds' es' b hjk q1 q2 q3=>by
   have back:∀(l:Nat) (us:List D),(ρ.set i (some (.ow es)))[l]? = some (some (.ow us))->∃ws, ρ[l]? = some (some (.ow ws)):=fun l us z=>by
    by_cases q:l=i
    ·subst q;exact⟨ds,h1⟩
    ·rw [ma (n4 q)] at z;exact⟨us,z⟩
   obtain⟨w1,z1⟩:=back j ds' q1;obtain⟨w2,z2⟩:=back k es' q2;exact r.dj j k w1 w2 b hjk z1 z2 q3
  od:=fun j kvs q1=>by
   by_cases q:j=i
   ·subst q
    obtain⟨z,l⟩:=zl q1;cases z
   ·rw [ma (n4 q)] at q1
    obtain⟨a',bs,f1,f2,f3⟩:=r.od j kvs q1;refine⟨a',bs,f1,f2.other (fun z=>by subst z;exact f2.nl e2) fun z=>f3 i ds a h1 z h2,fun k es' b p1 p2=>?_⟩
    by_cases q2:k=i
    ·subst q2;exact f3 k ds b h1 p2
    ·rw [ma (n4 q2)] at p1;exact f3 k es' b p1 p2
  o1 :=fun j k k1 k2 p1 p2=>by
   have back:∀(l:Nat) (us),(ρ.set i (some (.ow es)))[l]? = some (some (.od us)) -> ρ[l]? = some (some (.od us)):=fun l us z=>by
    by_cases q:l=i
    ·subst q
     obtain⟨z',_⟩:=zl z;cases z'
    ·rw [ma (n4 q)] at z;exact z
   exact r.o1 j k k1 k2 (back _ _ p1) (back _ _ p2)}
theorem RS.freeze(r:RS K F0 H0 F H σ ρ){ds:List D}{i:Nat}(h1 : ρ[i]? = some (some (.ow ds))): ∃F',Same F F'/\RS K F0 H0 F' H σ (ρ.set i (some (.fz (.lst ds)))):=by
 obtain⟨a,xs,e1,e2,e3,e4,e5⟩:=r.ow i ds h1;have sF:Same F (upd F a (.lst xs)):=q6r e3;refine⟨upd F a (.lst xs),sF,?_⟩;exact {
  t0:=r.t0
  g :=⟨r.g.ff.trans sF,r.g.hh,fun b o e=>by
    by_cases q:b=a
    ·subst q;rw [zi] at e;cases e;exact e2
    ·rw [z8 q] at e;exact r.g.fh b o e,fun b hb=>by
    by_cases q:b=a
    ·subst q;exact .inr e4
    ·rw [z8 q] at hb;exact r.g.nw b hb⟩
  len:=by rw [g14];exact r.len
  fz:=fun j e q1=>by
   by_cases q:j=i
   ·subst q
    obtain⟨z,l⟩:=zl q1;cases z;exact⟨_,e1,rep_lst.mpr ⟨a,xs,rfl,SqL.of zi,e5.mono sF⟩⟩
   ·rw [ma (n4 q)] at q1
    obtain⟨v,z1,z2⟩:=r.fz j e q1;exact⟨v,z1,z2.mono sF⟩
  ow :=fun j es' q1=>by
   by_cases q:j=i
   ·subst q
    obtain⟨z,l⟩:=zl q1;cases z
   ·rw [ma (n4 q)] at q1
    obtain⟨b,zs,f1,f2,f3,f4,f5⟩:=r.ow j es' q1;have hb:b≠a:=fun z=>by
     subst z;exact r.dj i j ds es' b (n4 q) h1 q1 e1 f1
    exact⟨b,zs,f1,f2,by rw [z8 hb];exact f3,f4,f5.mono sF⟩
  dj :=fun j k ds' es' b hjk q1 q2 q3=>by
   have back:∀(l:Nat) (us:List D),(ρ.set i (some (.fz (.lst ds))))[l]? = some (some (.ow us)) -> ρ[l]? = some (some (.ow us)):=fun l us z=>by
    by_cases q:l=i
    ·subst q
     obtain⟨z',_⟩:=zl z;cases z'
    ·rw [ma (n4 q)] at z;exact z
   exact r.dj j k ds' es' b hjk (back _ _ q1) (back _ _ q2) q3
  od:=fun j kvs q1=>by
   by_cases q:j=i
   ·subst q
    obtain⟨z,l⟩:=zl q1;cases z
   ·rw [ma (n4 q)] at q1
    obtain⟨a',bs,f1,f2,f3⟩:=r.od j kvs q1;refine⟨a',bs,f1,f2.otherF sF (fun z=>by subst z;exact f2.nl e2) fun z=>f3 i ds a h1 z e1,fun k es' b p1 p2=>?_⟩
    by_cases q2:k=i
    ·subst q2;exact f3 k ds b h1 p2
    ·rw [ma (n4 q2)] at p1;exact f3 k es' b p1 p2
  o1 :=fun j k k1 k2 p1 p2=>by
   have back:∀(l:Nat) (us),(ρ.set i (some (.fz (.lst ds))))[l]? = some (some (.od us)) -> ρ[l]? = some (some (.od us)):=fun l us z=>by
    by_cases q:l=i
    ·subst q
     obtain⟨z',_⟩:=zl z;cases z'
    ·rw [ma (n4 q)] at z;exact z
   exact r.o1 j k k1 k2 (back _ _ p1) (back _ _ p2)}
end
end DL
namespace DL
open PySem PySem.Spec PyProof.Rows L2
variable[Lam][Pin]
abbrev lim:Nat:=1000000
theorem x8{n:Nat}(h:n<=lim): n<=sizeLine:=mq h (by decide)
theorem qd4{n:Nat}(h:n<lim): n<sizeLine:=gr h (by decide)
abbrev FE:=Rho->Option D
abbrev FT:=Rho->Option Bool
abbrev FA:=Rho->Option (List D)
inductive Fl where
 | nx|bk|ct
 | rt (d:D)
abbrev FS:=Rho->Option (Fl×Rho)
def tD(K:Frag)(f:FE): TE:=fun σ H Q=>∃F0 H0 F ρ d,RS K F0 H0 F H σ ρ /\ f ρ = some d/\∀v F' H',Grow F H F' H'->Rep K F' d v->Q v H'
def tL(K:Frag)(f:FA): TE:=fun σ H Q=>∃F0 H0 F ρ ds,RS K F0 H0 F H σ ρ /\ f ρ = some ds/\∀a xs F' H',Grow F H F' H'->F' a=none->H a=none->H' a=some (.lst xs)->RepL K F' ds xs->Q (.ref a) H'
def tDT(K:Frag)(f:FT): TT:=fun σ H Q=>∃F0 H0 F ρ b,RS K F0 H0 F H σ ρ /\ f ρ = some b/\∀F' H',Grow F H F' H'->Q b H'
def tDA(K:Frag)(f:FA): TA:=fun σ H Q=>∃F0 H0 F ρ ds,RS K F0 H0 F H σ ρ /\ f ρ = some ds/\∀vs F' H',Grow F H F' H'->RepL K F' ds vs->Q vs H'
def qjm(K:Frag)(F0 H0 F:Hp)(D:Ends)(fl:Fl)(ρ':Rho): Prop:=match fl with
 | .nx=>∀ σ' F' H',Same F F'->RS K F0 H0 F' H' σ' ρ'->D.nx σ' H'
 | .bk=>∀ σ' F' H',Same F F'->RS K F0 H0 F' H' σ' ρ'->D.bk σ' H'
 | .ct=>∀ σ' F' H',Same F F'->RS K F0 H0 F' H' σ' ρ'->D.ct σ' H'
 | .rt d=>∀v σ' F' H',RS K F0 H0 F' H' σ' ρ'->Rep K F' d v->D.rt v H'
def tDS(K:Frag)(f:FS): TS:=fun D σ H=>∃F0 H0 F ρ fl ρ',RS K F0 H0 F H σ ρ /\ f ρ = some (fl, ρ')/\qjm K F0 H0 F D fl ρ'
section
variable{X:Cx}{e:Expr}{pos:Pos}
theorem jo{t t':TE}(h:PE X e t)(i:∀ σ H Q,t' σ H Q->t σ H Q): PE X e t':=fun pins s σ H Q I q=>h pins s σ H Q I (i σ H Q q)
theorem qeo{t t':TT}(h:PT X e t)(i:∀ σ H Q,t' σ H Q->t σ H Q): PT X e t':=fun pins s σ H Q I q=>h pins s σ H Q I (i σ H Q q)
theorem qm5{es:List Expr}{t t':TA}(h:PA X es t)(i:∀ σ H Q,t' σ H Q->t σ H Q): PA X es t':=fun pos pins s σ H Q I q=>h pos pins s σ H Q I (i σ H Q q)
theorem q0o{st:Stmt}{t t':TS}(h:PS X st t)(i:∀D σ H,t' D σ H->t D σ H): PS X st t':=fun pins s σ H D I q=>h pins s σ H D I (i D σ H q)
theorem qc1{st:List Stmt}{t t':TS}(h:PSs X st t)(i:∀D σ H,t' D σ H->t D σ H): PSs X st t':=fun pins s σ H D I q=>h pins s σ H D I (i D σ H q)
def eV(i:Nat): FE:=fun ρ =>match ρ[i]? with
 | some (some (.fz d))=>some d
 | _=>none
def eC(d:D): FE:=fun _=>some d
theorem qrx{i:Nat}{ρ : Rho}{d:D}(h:eV i ρ = some d): ρ[i]? = some (some (.fz d)):=by
 unfold eV at h
 split at h
 ·rename_i e;rw [e,gu h]
 ·cases h
theorem qa{K:Frag}{i:Nat}(h:PE X e (qei i)): PE X e (tD K (eV i)):=jo h fun σ H Q ⟨F0,H0,F, ρ,d,r,hf,q⟩=>by
 obtain⟨v,e1,e2⟩:=r.fz i d (qrx hf);exact⟨v,e1,q v F H (.refl r.fh) e2⟩
theorem q6s{K:Frag}{v:V}{d:D}(h:PE X e (tC v))(hd:∀H,Rep K H d v): PE X e (tD K (eC d)):=jo h fun σ H Q ⟨F0,H0,F, ρ,d',r,hf,q⟩=>by
 cases hf;exact q v F H (.refl r.fh) (hd F)
theorem qd{K:Frag}{i j}: PE X (.Constant (.int i) j pos) (tD K (eC (.int i))):=q6s qtm fun _=>rep_int.mpr rfl
theorem q1d{K:Frag}{b j}: PE X (.Constant (.bool b) j pos) (tD K (eC (.bl b))):=q6s qwc fun _=>rep_bl.mpr rfl
theorem q39{K:Frag}{j}: PE X (.Constant .none j pos) (tD K (eC .non)):=q6s qtn fun _=>rep_non.mpr rfl
def rD(K:Frag)(op:D->D->Option D): R2:=fun x y H Q=>∃F d1 d2 d,Same F H/\Rep K F d1 x/\Rep K F d2 y/\op d1 d2=some d/\∀v F' H',Grow F H F' H'->Rep K F' d v->Q v H'
def eOp(op:D->D->Option D)(f g:FE): FE:=fun ρ =>(f ρ).bind fun x=>(g ρ).bind fun y=>op x y
theorem two{K:Frag}{f g:FE}{op:D->D->Option D}{σ : St}{H:Hp}{Q:VK}(h:tD K (eOp op f g) σ H Q): tD K f σ H fun x H1=>tD K g σ H1 fun y H2=>rD K op x y H2 Q:=by
 obtain⟨F0,H0,F, ρ,d,r,hf,q⟩:=h;obtain⟨d1,h1,hf⟩:=g7.mp hf;obtain⟨d2,h2,h3⟩:=g7.mp hf;refine⟨F0,H0,F, ρ,d1,r,h1,fun v F1 H1 g1 r1=>⟨F0,H0,F1, ρ,d2,r.grow g1,h2,fun u F2 H2 g2 r2=>?_⟩⟩;exact⟨F2,d1,d2,d,g2.fh,r1.mono g2.ff,r2,h3,fun w F3 H3 g3 r3=>q w F3 H3 (g1.trans (g2.trans g3)) r3⟩
variable{a b:Expr}{f g:FE}
theorem ql{op:Operator}{o:D->D->Option D}(ho:OpR X (binaryOp op) (rD X.K o))(ha:PE X a (tD X.K f))(hb:PE X b (tD X.K g)): PE X (.BinOp a op b pos) (tD X.K (eOp o f g)):=
 jo (qqs ho ha hb) fun σ H Q h=>two h
theorem q2h{f:Value->Value->Sem Value}{r r':R2}(h:OpR X f r)(i:∀x y H Q,r' x y H Q->r x y H Q): OpR X f r':=fun pins s σ H x y v u Q I rx ry q=>h pins s σ H x y v u Q I rx ry (i x y H Q q)
theorem q7z{f:Value->Value->Sem Value}{K:Frag}{o o':D->D->Option D}(h:OpR X f (rD K o))(h':OpR X f (rD K o')): OpR X f (rD K fun x y=>(o x y).or (o' x y)):=fun pins s σ H x y v u Q I rx ry q=>by
 obtain⟨F,d1,d2,d,q1,q2,q3,q4,q5⟩:=q;have q4:(o d1 d2).or (o' d1 d2)=some d:=q4;cases e:o d1 d2 with
 | some d'=>rw [e] at q4;cases q4;exact h pins s σ H x y v u Q I rx ry ⟨F,d1,d2,_,q1,q2,q3,e,q5⟩
 | none=>rw [e] at q4;exact h' pins s σ H x y v u Q I rx ry ⟨F,d1,d2,d,q1,q2,q3,q4,q5⟩
def oI(C:Int->Int->Bool)(z:Int->Int->Int): D->D->Option D
 | .int i,.int j=>if C i j then some (.int (z i j)) else none
 | _,_=>none
def oB(z:Int->Int->Bool): D->D->Option D
 | .int i,.int j=>some (.bl (z i j))
 | _,_=>none
theorem qih{C:Int->Int->Bool}{z:Int->Int->Int}{d1 d2 d:D}(h:oI C z d1 d2=some d): ∃i j,d1=.int i/\d2=.int j/\C i j=true/\d=.int (z i j):=by
 cases d1 <;> cases d2 <;> simp only [oI] at h <;> first|(cases h;done)|skip
 split at h
 ·exact⟨_,_,rfl,rfl,by assumption,(gu h).symm⟩
 ·cases h
theorem qry{z:Int->Int->Bool}{d1 d2 d:D}(h:oB z d1 d2=some d): ∃i j,d1=.int i/\d2=.int j/\d=.bl (z i j):=by
 cases d1 <;> cases d2 <;> simp only [oB] at h <;> first|(cases h;done)|skip
 exact⟨_,_,rfl,rfl,(gu h).symm⟩
theorem q6t{fv:Value->Value->Sem Value}{P:Int->Int->Prop}{C:Int->Int->Bool}{z:Int->Int->Int}(h:OpR X fv (rI P fun i j=>.int (z i j)))(hC:∀i j,C i j=true->P i j): OpR X fv (rD X.K (oI C z)):=
 q2h h fun x y H Q ⟨F,d1,d2,d,q1,q2,q3,q4,q5⟩=>by
  obtain⟨i,j,rfl,rfl,c,rfl⟩:=qih q4;exact⟨i,j,rep_int.mp q2,rep_int.mp q3,hC i j c,q5 _ F H (.refl q1) (rep_int.mpr rfl)⟩
theorem qas{fv:Value->Value->Sem Value}{z:Int->Int->Int}(h:OpR X fv (rI0 fun i j=>.int (z i j))): OpR X fv (rD X.K (oI (fun _ _=>true) z)):=
 q2h h fun x y H Q ⟨F,d1,d2,d,q1,q2,q3,q4,q5⟩=>by
  obtain⟨i,j,rfl,rfl,c,rfl⟩:=qih q4;exact⟨i,j,rep_int.mp q2,rep_int.mp q3,q5 _ F H (.refl q1) (rep_int.mpr rfl)⟩
theorem qat{fv:Value->Value->Sem Value}{z:Int->Int->Bool}(h:OpR X fv (rI0 fun i j=>.bl (z i j))): OpR X fv (rD X.K (oB z)):=
 q2h h fun x y H Q ⟨F,d1,d2,d,q1,q2,q3,q4,q5⟩=>by
  obtain⟨i,j,rfl,rfl,rfl⟩:=qry q4;exact⟨i,j,rep_int.mp q2,rep_int.mp q3,q5 _ F H (.refl q1) (rep_bl.mpr rfl)⟩
abbrev oAdd:=oI (fun _ _=>true) fun i j=>i+j
abbrev oSub:=oI (fun _ _=>true) fun i j=>i-j
abbrev oMul:=oI (fun i j=>(decide (-(2 ^ 64)<i)&&decide (i<2 ^ 64)) || (decide (-(2 ^ 64)<j)&&decide (j<2 ^ 64))) fun i j=>i*j
abbrev oDiv:=oI (fun _ j=>decide (0<j)&&decide (j<1073741824)) fun i j=>i / j
abbrev oMod:=oI (fun _ j=>decide (0<j)) fun i j=>i%j
abbrev oShr:=oI (fun _ j=>decide (0<=j)) fun i j=>i / 2 ^ j.toNat
theorem q1n{p q:Prop}[Decidable p][Decidable q](h:(decide p&&decide q)=true): p/\q:=by simpa using h
theorem qun:OpR X (binaryOp .Add) (rD X.K oAdd):=qas qu0
theorem qm6:OpR X (binaryOp .Sub) (rD X.K oSub):=qas qu1
theorem quo:OpR X (binaryOp .Mult) (rD X.K oMul):=q6t qu2 fun i j h=>by
 rcases g0f _ _ ▸ h with z|z
 ·exact .inl (q1n z)
 ·exact .inr (q1n z)
theorem q3a:OpR X (binaryOp .FloorDiv) (rD X.K oDiv):=q6t qrj fun i j h=>q1n h
theorem j2:OpR X (binaryOp .Mod) (rD X.K oMod):=q6t qu3 fun i j h=>td h
theorem qup:OpR X (binaryOp .RShift) (rD X.K oShr):=q6t qu6 fun i j h=>td h
abbrev oShl:=oI (fun i j=>decide (0<=j)&&(decide (j<=1000000)&&decide (i.natAbs<2 ^ 64))) fun i j=>i*2 ^ j.toNat
abbrev oPow:=oI (fun i j=>decide (0<=j)&&(decide (j<=1000000)&&decide (i.natAbs<2 ^ 64))) fun i j=>i ^ j.toNat
theorem qep{p q r:Prop}[Decidable p][Decidable q][Decidable r](h:(decide p&&(decide q&&decide r))=true): p/\q/\r:=by simpa using h
theorem q69:OpR X (binaryOp .LShift) (rD X.K oShl):=q6t qu5 fun i j h=>qep h
theorem q80:OpR X (binaryOp .Pow) (rD X.K oPow):=q6t qu4 fun i j h=>qep h
abbrev oLt:=oB fun i j=>decide (i<j)
abbrev oLe:=oB fun i j=>decide (i<=j)
abbrev oGt:=oB fun i j=>decide (j<i)
abbrev oGe:=oB fun i j=>decide (j<=i)
theorem qwy:OpR X (compareOp .Lt) (rD X.K oLt):=qat qwo
theorem qqw:OpR X (compareOp .LtE) (rD X.K oLe):=qat qwp
theorem qe6:OpR X (compareOp .Gt) (rD X.K oGt):=qat qwq
theorem q51:OpR X (compareOp .GtE) (rD X.K oGe):=qat qwr
def flD:D->Option V
 | .non=>some .non
 | .bl b=>some (.bl b)
 | .int i=>some (.int i)
 | .str x=>some (.str x)
 | _=>none
theorem q96{K:Frag}{H:Hp}{d:D}{v u:V}(h:flD d=some u)(r:Rep K H d v): v=u:=by
 cases d <;> simp only [flD] at h <;> first|(cases h;done)|skip
 ·cases h;exact rep_non.mp r
 ·cases h;exact rep_bl.mp r
 ·cases h;exact rep_int.mp r
 ·cases h;exact rep_str.mp r
def qoh:D->D->Option D:=fun d e=>(flD d).bind fun x=>(flD e).bind fun y=>if qby x y then some (.bl (decide (x=y))) else none
def q1r:D->D->Option D:=fun d e=>(flD d).bind fun x=>(flD e).bind fun y=>if qby x y then some (.bl (!decide (x=y))) else none
theorem quq:OpR X (compareOp .Eq) (rD X.K qoh):=q2h qwm fun x y H Q ⟨F,d1,d2,d,q1,q2,q3,q4,q5⟩=>by
 obtain⟨u,h1,q4⟩:=g7.mp q4;obtain⟨w,h2,q4⟩:=g7.mp q4;cases q96 h1 q2;cases q96 h2 q3
 split at q4
 ·rename_i z
  cases q4;exact⟨z,q5 _ F H (.refl q1) (rep_bl.mpr rfl)⟩
 ·cases q4
theorem q3b:OpR X (compareOp .NotEq) (rD X.K q1r):=q2h qwn fun x y H Q ⟨F,d1,d2,d,q1,q2,q3,q4,q5⟩=>by
 obtain⟨u,h1,q4⟩:=g7.mp q4;obtain⟨w,h2,q4⟩:=g7.mp q4;cases q96 h1 q2;cases q96 h2 q3
 split at q4
 ·rename_i z
  cases q4;exact⟨z,q5 _ F H (.refl q1) (rep_bl.mpr rfl)⟩
 ·cases q4
theorem q3c{op:CmpOp}{o:D->D->Option D}(ho:OpR X (compareOp op) (rD X.K o))(ha:PE X a (tD X.K f))(hb:PE X b (tD X.K g))(hm:behindInMarks op b=false:=by first|exact qej _ (by decide) (by decide)|rfl):
  PE X (.Compare a [op] [b] pos) (tD X.K (eOp o f g)):=jo (qrk ho ha hb hm) fun σ H Q h=>two h
def q81:D->Option Bool
 | .non=>some false
 | .bl b=>some b
 | .int i=>some (i != 0)
 | .tup ds=>some (!ds.isEmpty)
 | .lst ds=>some (!ds.isEmpty)
 | .str x=>if x.length<=lim then some ((x.length:Int) != 0) else none
 | _=>none
def bT(f:FE): FT:=fun ρ =>(f ρ).bind q81
theorem qur{K:Frag}{F H:Hp}{d:D}{b:Bool}{v:V}(h:q81 d=some b)(fh:Same F H)(r:Rep K F d v): qo0 K v H b:=by
 cases d with
 | non=>cases h;rw [rep_non.mp r];rfl
 | bl c=>cases h;rw [rep_bl.mp r];rfl
 | int i=>cases h;rw [rep_int.mp r];rfl
 | str x=>
  simp only [q81] at h
  split at h
  ·rename_i z
   cases h;rw [rep_str.mp r];exact⟨x8 z,rfl⟩
  ·cases h
 | tup ds=>
  cases h;obtain⟨p,xs,rfl,q1,q2⟩:=rep_tup.mp r;refine .inr (.inl ⟨xs,qt fh q1,?_⟩);cases ds with
  | nil=>rw [q2.nil_inv];rfl
  | cons d ds=>obtain⟨y,r',rfl,_⟩:=q2.cons_inv;rfl
 | lst ds=>
  cases h;obtain⟨p,xs,rfl,q1,q2⟩:=rep_lst.mp r;refine .inl ⟨xs,fh.seq q1,?_⟩;cases ds with
  | nil=>rw [q2.nil_inv];rfl
  | cons d ds=>obtain⟨y,r',rfl,_⟩:=q2.cons_inv;rfl
 | dct _ _=>cases h
 | dtt _ _=>cases h
 | dt2 _=>cases h
 | obj _=>cases h
 | exc _ _=>cases h
theorem xa(ha:PE X a (tD X.K f))(he:∀whole,isTrue a X.env whole=(do let v <- whole;standAt a.pos;holding [v] (truthy v)):=by intro _;rfl): PT X a (tDT X.K (bT f)):=
 qeo (qo1 ha he) fun σ H Q ⟨F0,H0,F, ρ,b,r,hf,q⟩=>by
  obtain⟨d,h1,h2⟩:=g7.mp hf;exact⟨F0,H0,F, ρ,d,r,h1,fun v F' H' g' r'=>⟨b,qur h2 g'.fh r',q F' H' g'⟩⟩
def isB:D->Option Bool
 | .bl b=>some b
 | _=>none
def zb(o:D->D->Option D)(f g:FE): FT:=fun ρ =>(eOp o f g ρ).bind isB
theorem zm{op:CmpOp}{o:D->D->Option D}(ho:OpR X (compareOp op) (rD X.K o))(ha:PE X a (tD X.K f))(hb:PE X b (tD X.K g))(hm:behindInMarks op b=false:=by first|exact qej _ (by decide) (by decide)|rfl):
  PT X (.Compare a [op] [b] pos) (tDT X.K (zb o f g)):=qeo (qrl ho ha hb hm) fun σ H Q ⟨F0,H0,F, ρ,c,r,hf,q⟩=>by
 obtain⟨d,h1,h2⟩:=g7.mp hf;refine two ⟨F0,H0,F, ρ,d,r,h1,fun v F' H' g' r'=>?_⟩;cases d <;> simp only [isB] at h2 <;> first|(cases h2;done)|skip
 cases h2;exact⟨_,rep_bl.mp r',q F' H' g'⟩
def wx(t:FT): FT:=fun ρ =>(t ρ).map not
def ku(t u:FT): FT:=fun ρ =>(t ρ).bind fun c=>if c then u ρ else some false
def bOr(t u:FT): FT:=fun ρ =>(t ρ).bind fun c=>if c then some true else u ρ
variable{t u:FT}{rest:List Expr}
theorem k7(ha:PT X a (tDT X.K t)): PT X (.UnaryOp .Not a pos) (tDT X.K (wx t)):=qeo (qtq ha) fun σ H Q ⟨F0,H0,F, ρ,c,r,hf,q⟩=>by
 obtain⟨d,h1,h2⟩:=gw.mp hf;subst h2;exact⟨F0,H0,F, ρ,d,r,h1,fun F' H' g'=>q F' H' g'⟩
theorem qm7{t t':TT}(h:PW X a t)(i:∀ σ H Q,t' σ H Q->t σ H Q): PW X a t':=fun wh pins s σ H Q I q=>h wh pins s σ H Q I (i σ H Q q)
theorem q97(ha:PT X a (tDT X.K t)): PW X (.BoolOp .And [a] pos) (tDT X.K t):=qre ha
theorem q0p(ha:PT X a (tDT X.K t)): PW X (.BoolOp .Or [a] pos) (tDT X.K t):=qto ha
theorem q82(ha:PT X a (tDT X.K t))(hb:PW X (.BoolOp .And (b :: rest) pos) (tDT X.K u)): PW X (.BoolOp .And (a :: b :: rest) pos) (tDT X.K (ku t u)):=qm7 (qtp ha hb) fun σ H Q ⟨F0,H0,F, ρ,c,r,hf,q⟩=>by
 obtain⟨d,h1,h2⟩:=g7.mp hf;refine⟨F0,H0,F, ρ,d,r,h1,fun F' H' g'=>?_⟩;cases d with
 | true=>rw [gq rfl] at h2 ⊢;exact⟨F0,H0,F', ρ,c,r.grow g',h2,fun F2 H2 g2=>q F2 H2 (g'.trans g2)⟩
 | false=>rw [m6 mh] at h2 ⊢;cases h2;exact q F' H' g'
theorem yy(ha:PT X a (tDT X.K t))(hb:PW X (.BoolOp .Or (b :: rest) pos) (tDT X.K u)): PW X (.BoolOp .Or (a :: b :: rest) pos) (tDT X.K (bOr t u)):=qm7 (qwd ha hb) fun σ H Q ⟨F0,H0,F, ρ,c,r,hf,q⟩=>by
 obtain⟨d,h1,h2⟩:=g7.mp hf;refine⟨F0,H0,F, ρ,d,r,h1,fun F' H' g'=>?_⟩;cases d with
 | false=>rw [m6 mh] at h2 ⊢;exact⟨F0,H0,F', ρ,c,r.grow g',h2,fun F2 H2 g2=>q F2 H2 (g'.trans g2)⟩
 | true=>rw [gq rfl] at h2 ⊢;cases h2;exact q F' H' g'
def q6u(f g:FE): FE:=fun ρ =>(f ρ).bind fun x=>(isB x).bind fun c=>if c then g ρ else some (.bl false)
def eOr(f g:FE): FE:=fun ρ =>(f ρ).bind fun x=>(isB x).bind fun c=>if c then some (.bl true) else g ρ
def qc2(f:FE): FE:=fun ρ =>(f ρ).bind fun x=>(isB x).map fun c=>.bl (!c)
def eIf(t:FT)(f g:FE): FE:=fun ρ =>(t ρ).bind fun c=>if c then f ρ else g ρ
theorem qeq{d:D}{c:Bool}(h:isB d=some c): d=.bl c:=by
 cases d <;> simp only [isB] at h <;> first|(cases h;done)|skip
 rw [gu h]
theorem qer{op}(h:PE X a (tD X.K f)): PE X (.BoolOp op [a] pos) (tD X.K f):=qtr h
theorem q83(ha:PE X a (tD X.K f))(hb:PE X (.BoolOp .And (b :: rest) pos) (tD X.K g)): PE X (.BoolOp .And (a :: b :: rest) pos) (tD X.K (q6u f g)):=jo (qts ha hb) fun σ H Q ⟨F0,H0,F, ρ,d,r,hf,q⟩=>by
 obtain⟨x,h1,hf⟩:=g7.mp hf;obtain⟨c,h2,h3⟩:=g7.mp hf;refine⟨F0,H0,F, ρ,x,r,h1,fun v F' H' g' r'=>?_⟩;rw [qeq h2] at r';refine⟨c,rep_bl.mp r',?_⟩;cases c with
 | true=>rw [gq rfl] at h3 ⊢;exact⟨F0,H0,F', ρ,d,r.grow g',h3,fun w F2 H2 g2 r2=>q w F2 H2 (g'.trans g2) r2⟩
 | false=>rw [m6 mh] at h3 ⊢;cases h3;exact q _ F' H' g' (rep_bl.mpr rfl)
theorem qm8(ha:PE X a (tD X.K f)): PE X (.UnaryOp .Not a pos) (tD X.K (qc2 f)):=jo (qtt ha) fun σ H Q ⟨F0,H0,F, ρ,d,r,hf,q⟩=>by
 obtain⟨x,h1,hf⟩:=g7.mp hf;obtain⟨c,h2,h3⟩:=gw.mp hf;subst h3;refine⟨F0,H0,F, ρ,x,r,h1,fun v F' H' g' r'=>?_⟩;rw [qeq h2] at r';exact⟨c,rep_bl.mp r',q _ F' H' g' (rep_bl.mpr rfl)⟩
theorem qwz{c:Expr}(hc:PT X c (tDT X.K t))(ha:PE X a (tD X.K f))(hb:PE X b (tD X.K g)): PE X (.IfExp c a b pos) (tD X.K (eIf t f g)):=jo (qnu hc ha hb) fun σ H Q ⟨F0,H0,F, ρ,d,r,hf,q⟩=>by
 obtain⟨x,h1,h2⟩:=g7.mp hf;refine⟨F0,H0,F, ρ,x,r,h1,fun F' H' g'=>?_⟩;cases x with
 | true=>rw [gq rfl] at h2 ⊢;exact⟨F0,H0,F', ρ,d,r.grow g',h2,fun w F2 H2 g2 r2=>q w F2 H2 (g'.trans g2) r2⟩
 | false=>rw [m6 mh] at h2 ⊢;exact⟨F0,H0,F', ρ,d,r.grow g',h2,fun w F2 H2 g2 r2=>q w F2 H2 (g'.trans g2) r2⟩
end
section
variable{X:Cx}{e:Expr}{es:List Expr}{pos:Pos}{f g:FE}{fa:FA}
def notStar:Expr->Bool
 | .Starred _ _=>false
 | _=>true
theorem q98{e:Expr}{es:List Expr}{env:Env}(h:notStar e=true): starEach (e :: es) env=(false,eval e env) :: starEach es env:=by
 cases e <;> first|rfl|cases h
def qf:FA:=fun _=>some []
def qc(f:FE)(fa:FA): FA:=fun ρ =>(f ρ).bind fun d=>(fa ρ).map fun ds=>d :: ds
theorem qe:PA X [] (tDA X.K qf):=qm5 q48 fun σ H Q ⟨F0,H0,F, ρ,ds,r,hf,q⟩=>by
 cases hf;exact q [] F H (.refl r.fh) .nil
theorem qii(ha:PE X e (tD X.K f))(hr:PA X es (tDA X.K fa))(hs:starEach (e :: es) X.env=(false,eval e X.env) :: starEach es X.env:=by first|exact q98 rfl|rfl): PA X (e :: es) (tDA X.K (qc f fa)):=
 qm5 (q1m ha hr hs) fun σ H Q ⟨F0,H0,F, ρ,ds,r,hf,q⟩=>by
  obtain⟨d,h1,hf⟩:=g7.mp hf;obtain⟨ds',h2,h3⟩:=gw.mp hf;subst h3;refine⟨F0,H0,F, ρ,d,r,h1,fun v F1 H1 g1 r1=>⟨F0,H0,F1, ρ,ds',r.grow g1,h2,fun vs F2 H2 g2 r2=>?_⟩⟩;exact q _ F2 H2 (g1.trans g2) (.cons (r1.mono g2.ff) r2)
def zc(fa:FA): FE:=fun ρ =>(fa ρ).bind fun ds=>if ds.length<=lim then some (.tup ds) else none
def q1h(fa:FA): FA:=fun ρ =>(fa ρ).bind fun ds=>if ds.length<=lim then some ds else none
theorem za{x1}(h:PA X es (tDA X.K fa)): PE X (.Tuple es x1 pos) (tD X.K (zc fa)):=jo (qu9 h) fun σ H Q ⟨F0,H0,F, ρ,d,r,hf,q⟩=>by
 obtain⟨ds,h1,h2⟩:=g7.mp hf
 split at h2
 ·rename_i hl
  cases h2;refine⟨F0,H0,F, ρ,ds,r,h1,fun vs F1 H1 g1 r1=>⟨x8 (by rw [<- r1.length];exact hl),fun p hp=>?_⟩⟩;have gn:Grow F1 H1 (upd F1 p (.tup vs)) (upd H1 p (.tup vs)):=Grow.new g1.fh hp;exact q _ _ _ (g1.trans gn) (rep_tup.mpr ⟨p,vs,rfl,SqT.of zi,r1.mono gn.ff⟩)
 ·cases h2
theorem q0q(h:PA X es (tDA X.K fa)): PE X (.List es pos) (tL X.K (q1h fa)):=jo (qua h) fun σ H Q ⟨F0,H0,F, ρ,ds,r,hf,q⟩=>by
 obtain⟨ds',h1,h2⟩:=g7.mp hf
 split at h2
 ·rename_i hl
  cases h2;refine⟨F0,H0,F, ρ,ds,r,h1,fun vs F1 H1 g1 r1=>⟨x8 (by rw [<- r1.length];exact hl),fun p hp=>?_⟩⟩;exact q p vs F1 (upd H1 p (.lst vs)) (g1.trans (Grow.own g1.fh hp)) (g1.fh.free hp) (g1.hh.free hp) zi r1
 ·cases h2
def eL(fa:FA): FE:=fun ρ =>(fa ρ).map .lst
theorem x9(h:PE X e (tL X.K fa)): PE X e (tD X.K (eL fa)):=jo h fun σ H Q ⟨F0,H0,F, ρ,d,r,hf,q⟩=>by
 obtain⟨ds,h1,h2⟩:=gw.mp hf;subst h2;refine⟨F0,H0,F, ρ,ds,r,h1,fun a xs F1 H1 g1 fa' ha' hl r1=>?_⟩;have sF:Same F1 (upd F1 a (.lst xs)):=q6r fa';refine q _ (upd F1 a (.lst xs)) H1 ⟨g1.ff.trans sF,g1.hh,fun b o z=>?_,fun b hb=>?_⟩ (rep_lst.mpr ⟨a,xs,rfl,SqL.of zi,r1.mono sF⟩)
 ·by_cases q':b=a
  ·subst q';rw [zi] at z;cases z;exact hl
  ·rw [z8 q'] at z;exact g1.fh b o z
 ·by_cases q':b=a
  ·subst q';exact .inr ha'
  ·rw [z8 q'] at hb;exact g1.nw b hb
def rC(K:Frag)(op:List D->Option D): List V->Hp->VK->Prop:=fun xs H Q=>∃F ds d,Same F H/\RepL K F ds xs/\op ds=some d/\∀v F' H',Grow F H F' H'->Rep K F' d v->Q v H'
def qi(op:List D->Option D)(fa:FA): FE:=fun ρ =>(fa ρ).bind op
theorem q52{f:Value}{r r':List V->Hp->VK->Prop}(h:jx X f r)(i:∀xs H Q,r' xs H Q->r xs H Q): jx X f r':=fun pins s σ H xs us Q I rv q=>h pins s σ H xs us Q I rv (i xs H Q q)
theorem qm9{K:Frag}{op:List D->Option D}{σ : St}{H:Hp}{Q:VK}(h:tD K (qi op fa) σ H Q): tDA K fa σ H fun vs H1=>rC K op vs H1 Q:=by
 obtain⟨F0,H0,F, ρ,d,r,hf,q⟩:=h;obtain⟨ds,h1,h2⟩:=g7.mp hf;exact⟨F0,H0,F, ρ,ds,r,h1,fun vs F1 H1 g1 r1=>⟨F1,ds,d,g1.fh,r1,h2,fun v F2 H2 g2 r2=>q v F2 H2 (g1.trans g2) r2⟩⟩
theorem j6{x:Str}{p:Pos}{id:String}{op:List D->Option D}(hc:jx X (.builtin id) (rC X.K op))(hg:Gl X x)(hm:X.mg x=none)(hv:bootBuiltins x=some (.builtin id))(ha:PA X (e :: es) (tDA X.K fa))
  (hn:x≠"__name__" :=by decide) (hdb:(x==("__debug__" : Str))=false:=by decide)
  (he:starEach (e :: es) X.env=(false,eval e X.env) :: starEach es X.env:=by rfl) (hpl:(backTo pos (starEach es X.env)).any (·.1)=false:=by rfl):PE X (.Call (.Name x p) (e :: es) [] pos) (tD X.K (qi op fa)):=
 jo (q6p hc hg hm hv ha hn hdb he hpl) fun σ H Q h=>qm9 h
theorem jr{x:Str}{p:Pos}{T:String}{op:List D->Option D}(hc:jx X (.type T) (rC X.K op))(hg:Gl X x)(hm:X.mg x=none)(hv:bootBuiltins x=some (.type T))(ha:PA X (e :: es) (tDA X.K fa))
  (hn:x≠"__name__" :=by decide) (hdb:(x==("__debug__" : Str))=false:=by decide)
  (he:starEach (e :: es) X.env=(false,eval e X.env) :: starEach es X.env:=by rfl) (hpl:(backTo pos (starEach es X.env)).any (·.1)=false:=by rfl):PE X (.Call (.Name x p) (e :: es) [] pos) (tD X.K (qi op fa)):=
 jo (q7w hc hg hm hv ha hn hdb he hpl) fun σ H Q h=>qm9 h
def spD(K:Frag)(ar:Nat)(op:List D->Option D): Sp:=fun vs H Q _=>∃F ds d,SameT F H/\RepL K F ds vs/\ds.length=ar/\op ds=some d/\∀v F' H',Grow F H F' H'->Rep K F' d v->Q v H'
def qq(ar:Nat)(dds:List D)(op:List D->Option D): List D->Option D:=fun ds=>if(ds++dds).length=ar then op (ds++dds) else none
theorem qij{k ar:Nat}{fn:Addr}{fd:FuncData}{ps:List Str}{op:List D->Option D}{x:Str}{p:Pos}{dvs:List V}{dds:List D}{dv:List Value}(F:FnOk X.prog X.w X.K X.mg X.base CX0 k fn fd ps (spD X.K ar op))(hr:Room k X.A)(hg:Gl X x)(hm:X.mg x=some (.ref fn))(hk:PySem.W.keepIn X.K (.ref fn)=true)
  (hb:Binds X.K fd ps dv) (hd:Vals dvs dv) (hdd:∀H,RepL X.K H dds dvs) (ha:PA X (e :: es) (tDA X.K fa)) (hdb:(x==("__debug__" : Str))=false:=by decide)
  (he:starEach (e :: es) X.env=(false,eval e X.env) :: starEach es X.env:=by rfl) (hpl:(backTo pos (starEach es X.env)).any (·.1)=false:=by rfl) :
  PE X (.Call (.Name x p) (e :: es) [] pos) (tD X.K (qi (qq ar dds op) fa)):=
 jo (qrm F hr hg hm hk hb hd qji ha hdb he hpl) fun σ H Q ⟨F0,H0,Fz, ρ,d,r,hf,q⟩=>by
  obtain⟨ds,h1,h2⟩:=g7.mp hf;unfold qq at h2
  split at h2
  ·rename_i hl
   exact⟨F0,H0,Fz, ρ,ds,r,h1,fun vs F1 H1 g1 r1=>⟨F1,ds++dds,d,r.sameT g1,r1.append (hdd F1),hl,h2,fun v F2 H2 g2 r2=>q v F2 H2 (g1.trans g2) r2⟩⟩
  ·cases h2
end
section
variable{X:Cx}{st:Stmt}{rest:List Stmt}{e:Expr}{pos:Pos}{f:FE}{fa:FA}{t:FT}{u w:FS}
def jw:FS:=fun ρ =>some (.nx, ρ)
def qz(u w:FS): FS:=fun ρ =>(u ρ).bind fun r=>match r with
 | (.nx, ρ')=>w ρ'
 | (fl, ρ')=>some (fl, ρ')
def sIf(t:FT)(u w:FS): FS:=fun ρ =>(t ρ).bind fun c=>if c then u ρ else w ρ
def zo(i:Nat)(f:FE): FS:=fun ρ =>(f ρ).map fun d=>(.nx, ρ.set i (some (.fz d)))
def q1s(i:Nat)(fa:FA): FS:=fun ρ =>(fa ρ).map fun ds=>(.nx, ρ.set i (some (.ow ds)))
def zg(f:FE): FS:=fun ρ =>(f ρ).map fun d=>(.rt d, ρ)
def qx0:FS:=fun ρ =>some (.rt .non, ρ)
def qy5:FS:=fun ρ =>some (.bk, ρ)
def qy6:FS:=fun ρ =>some (.ct, ρ)
def qx1(f:FE): FS:=fun ρ =>(f ρ).map fun _=>(.nx, ρ)
theorem j8:PSs X [] (tDS X.K jw):=qc1 qrf fun D σ H ⟨F0,H0,F, ρ,fl, ρ',r,hf,q⟩=>by
 cases hf;exact q σ F H (.refl _) r
theorem q6v{K:Frag}{F0 H0 F F':Hp}{D:Ends}{fl:Fl}{ρ':Rho}(s:Same F F')(h:qjm K F0 H0 F D fl ρ'): qjm K F0 H0 F' D fl ρ':=by
 cases fl with
 | nx=>exact fun σ' F2 H2 s2 r=>h σ' F2 H2 (s.trans s2) r
 | bk=>exact fun σ' F2 H2 s2 r=>h σ' F2 H2 (s.trans s2) r
 | ct=>exact fun σ' F2 H2 s2 r=>h σ' F2 H2 (s.trans s2) r
 | rt d=>exact h
theorem qk(h1:PS X st (tDS X.K u))(h2:PSs X rest (tDS X.K w)): PSs X (st :: rest) (tDS X.K (qz u w)):=qc1 (qnv h1 h2) fun D σ H ⟨F0,H0,F, ρ,fl, ρ',r,hf,q⟩=>by
 obtain⟨⟨fl1, ρ1⟩,h3,h4⟩:=g7.mp hf;refine⟨F0,H0,F, ρ,fl1, ρ1,r,h3,?_⟩;cases fl1 with
 | nx=>exact fun σ' F' H' s r'=>⟨F0,H0,F', ρ1,fl, ρ',r',h4,q6v s q⟩
 | bk=>cases h4;exact q
 | ct=>cases h4;exact q
 | rt d=>cases h4;exact q
theorem qp(h1:PS X st (tDS X.K u)): PSs X [st] (tDS X.K u):=qrg h1
theorem jl{c:Expr}{a b:List Stmt}(hc:PT X c (tDT X.K t))(ha:PSs X a (tDS X.K u))(hb:PSs X b (tDS X.K w)): PS X (.If c a b pos) (tDS X.K (sIf t u w)):=q0o (qwh hc ha hb) fun D σ H ⟨F0,H0,F, ρ,fl, ρ',r,hf,q⟩=>by
 obtain⟨c,h1,h2⟩:=g7.mp hf;refine⟨F0,H0,F, ρ,c,r,h1,fun F' H' g'=>?_⟩;cases c with
 | true=>rw [gq rfl] at h2 ⊢;exact⟨F0,H0,F', ρ,fl, ρ',r.grow g',h2,q6v g'.ff q⟩
 | false=>rw [m6 mh] at h2 ⊢;exact⟨F0,H0,F', ρ,fl, ρ',r.grow g',h2,q6v g'.ff q⟩
theorem z5(he:PE X e (tD X.K f)): PS X (.Return (some e) pos) (tDS X.K (zg f)):=q0o (qtu he) fun D σ H ⟨F0,H0,F, ρ,fl, ρ',r,hf,q⟩=>by
 obtain⟨d,h1,h2⟩:=gw.mp hf;cases h2;exact⟨F0,H0,F, ρ,d,r,h1,fun v F' H' g' r'=>q v σ F' H' (r.grow g') r'⟩
theorem qx2{K:Frag}{i:Nat}{D:Ends}{σ : St}{H:Hp}(h:tDS K (zo i f) D σ H): tD K f σ H fun x H1=>q95 i x σ H1 D.nx:=by
 obtain⟨F0,H0,F, ρ,fl, ρ',r,hf,q⟩:=h;obtain⟨d,h1,h2⟩:=gw.mp hf;cases h2;exact⟨F0,H0,F, ρ,d,r,h1,fun v F' H' g' r'=>q _ F' H' g'.ff ((r.grow g').set i r')⟩
theorem qqx{K:Frag}{i:Nat}{D:Ends}{σ : St}{H:Hp}(h:tDS K (q1s i fa) D σ H): tL K fa σ H fun x H1=>q95 i x σ H1 D.nx:=by
 obtain⟨F0,H0,F, ρ,fl, ρ',r,hf,q⟩:=h;obtain⟨ds,h1,h2⟩:=gw.mp hf;cases h2;refine⟨F0,H0,F, ρ,ds,r,h1,fun a xs F' H' g' fa' ha' hl r'=>q _ F' H' g'.ff ((r.grow g').setO i hl fa' (r.g.hh.free ha') r' (fun j es z1 z2=>?_) fun j kvs z1=>?_)⟩
 ·obtain⟨b,ys,e1,e2,_⟩:=r.ow j es z1
  rw [z2] at e1;obtain rfl:a=b:=by simpa using e1
  rw [ha'] at e2;cases e2
 ·obtain⟨b,bs,e1,e2,e3⟩:=r.od j kvs z1
  refine⟨b,bs,e1,e2.grow g',fun z=>?_,e3⟩;obtain⟨xs,f,_⟩:=e2.mem z;rw [ha'] at f;cases f
theorem z7{i:Nat}{x:Str}{px:Pos}(hN:X.N.Nodup)(hi:X.N[i]? = some x)(hx:Loc X.env.scope x)(he:PE X e (tD X.K f))(hs:swapsWith e (some (.Name x px)) pos.line X.env=pure false:=by rfl)(hf:X.fn x=true\/X.env.scope.names.lookup x=some .local:=by first|exact .inl rfl|exact .inr rfl|assumption):
  PS X (.Assign [.Name x px] e pos) (tDS X.K (zo i f)):=q0o (qln hN hi hx he hs hf) fun D σ H h=>qx2 h
theorem q84{i:Nat}{x:Str}{px:Pos}(hN:X.N.Nodup)(hi:X.N[i]? = some x)(hx:Loc X.env.scope x)(he:PE X e (tL X.K fa))(hs:swapsWith e (some (.Name x px)) pos.line X.env=pure false:=by rfl)(hf:X.fn x=true\/X.env.scope.names.lookup x=some .local:=by first|exact .inl rfl|exact .inr rfl|assumption):
  PS X (.Assign [.Name x px] e pos) (tDS X.K (q1s i fa)):=q0o (qln hN hi hx he hs hf) fun D σ H h=>qqx h
def q85(i:Nat)(ρ : Rho): Option (List D):=match ρ[i]? with
 | some (some (.ow ds))=>some ds
 | _=>none
theorem qd5{i:Nat}{ρ : Rho}{ds:List D}(h:q85 i ρ = some ds): ρ[i]? = some (some (.ow ds)):=by
 unfold q85 at h
 split at h
 ·rename_i e;rw [e,gu h]
 ·cases h
def q4c(i:Nat)(f:FE): FS:=fun ρ =>(q85 i ρ).bind fun ds=>(f ρ).bind fun d=>if ds.length<lim then some (.nx, ρ.set i (some (.ow (ds++[d])))) else none
theorem qau{i:Nat}{x:Str}{px apos cpos:Pos}(hv:PE X (.Name x px) (qei i))(he:PE X e (tD X.K f))
  (hbase:attributeBase (.Name x px) "append" X.env (eval (.Name x px) X.env)=eval (.Name x px) X.env:=by rfl)
  (hfew:((backTo cpos (starEach [e] X.env)).all (fun x=> !x.1)&&(backToKw cpos (keywordEach [] X.env)).all (fun x=>x.1.isSome)&&decide ([e].length+([]:List Keyword).length+(if([]:List Keyword).isEmpty then 0 else 1)<30))=true:=by rfl)
  (hline:(apos.endLine==cpos.line)=true:=by rfl) (hse:starEach [e] X.env=(false,eval e X.env) :: starEach [] X.env:=by rfl)
  (hs:swapsWith (.Call (.Attribute (.Name x px) "append" apos) [e] [] cpos) none pos.line X.env=pure false:=by rfl):PS X (.Expr (.Call (.Attribute (.Name x px) "append" apos) [e] [] cpos) pos) (tDS X.K (q4c i f)):=
 q0o (qia (qqv g5i PySem.F.slot_list_append PySem.F.type_list_append qd2 hv (q1m he q48 hse) hbase hfew hline hse rfl) hs) fun D σ H ⟨F0,H0,F, ρ,fl, ρ',r,hf,q⟩=>by
  obtain⟨ds,h1,hf⟩:=g7.mp hf;obtain⟨d,h2,h3⟩:=g7.mp hf;have h1:=qd5 h1
  split at h3
  ·rename_i hl
   cases h3;obtain⟨a,xs,e1,e2,e3,e4,e5⟩:=r.ow i ds h1;refine⟨.ref a,e1,.inl ⟨rfl,xs,SqL.of e2⟩,F0,H0,F, ρ,d,r,h2,fun v F' H' g' r'=>?_⟩;have r2:=r.grow g';refine⟨a,xs,v,rfl,rfl,g'.hh.lst _ _ e2,qd4 (by rw [<- e5.length];exact hl),?_⟩;exact q _ F' _ g'.ff (r2.wrt h1 e1 ((e5.mono g'.ff).append (.cons r' .nil)))
  ·cases h3
def frz(i:Nat)(ρ : Rho): Rho:=match ρ[i]? with
 | some (some (.ow ds))=> ρ.set i (some (.fz (.lst ds)))
 | _=> ρ
def wy(i:Nat)(u:FS): FS:=fun ρ =>u (frz i ρ)
theorem qus{K:Frag}{F0 H0 F H:Hp}{σ : St}{ρ : Rho}(i:Nat)(r:RS K F0 H0 F H σ ρ): ∃F',Same F F'/\RS K F0 H0 F' H σ (frz i ρ):=by
 unfold frz
 split
 ·rename_i ds h
  exact r.freeze h
 ·exact⟨F,.refl _,r⟩
theorem q0r(i:Nat){sts:List Stmt}(h:PSs X sts (tDS X.K u)): PSs X sts (tDS X.K (wy i u)):=qc1 h fun D σ H ⟨F0,H0,F, ρ,fl, ρ',r,hf,q⟩=>by
 obtain⟨F',s',r'⟩:=qus i r;exact⟨F0,H0,F',frz i ρ,fl, ρ',r',hf,q6v s' q⟩
end
def zj(n:Nat)(u:FS)(ds:List D): Option D:=match u (ds.map (fun d=>some (.fz d))++List.replicate (n-ds.length) none) with
 | some (.rt d,_)=>some d
 | some (.nx,_)=>some .non
 | _=>none
theorem qma{N:List Str}{vs:List V}{i:Nat}{v:V}(h:vs[i]? = some v): (L2.start N vs)[i]? = some (some v):=by
 unfold L2.start;have hi:i<vs.length:=(nj.mp h).1;rw [uc (by simpa using hi),mj,h];rfl
theorem qut{P:Program}{w:World}{K:Frag}{H:Hp}{vs:List V}{Q:VK}{N:List Str}{u:FS}{ar:Nat}{E:XK}(hl:ar<=N.length)(h:spD K ar (zj N.length u) vs H Q E): tDS K u {nx:=fun _ H'=>Q .non H',rt:=Q} (L2.start N vs) H:=by
 obtain⟨F,ds,d,fh,rl,el,hd,q⟩:=h;have hlen:=rl.length;have r:RS K F H F H (L2.start N vs) (ds.map (fun d=>some (.fz d))++List.replicate (N.length-ds.length) none):={
  t0:=⟨fh.t,fh.f⟩
  g:=.refl fh.s
  len:=by unfold L2.start;simp only [ng,gh,g62];omega
  fz :=fun i e h1=>by
   by_cases hi:i<ds.length
   ·rw [uc (by simpa using hi),mj] at h1
    cases z:ds[i]? with
    | none=>rw [z] at h1;cases h1
    | some d'=>
     rw [z] at h1;cases h1;obtain⟨v,e1,e2⟩:=rl.get z;exact⟨v,qma e1,e2⟩
   ·rw [ux (by simpa using hi),g06] at h1
    split at h1 <;> cases h1
  ow:=fun i es h1=>by
   by_cases hi:i<ds.length
   ·rw [uc (by simpa using hi),mj] at h1
    cases z:ds[i]? with
    | none=>rw [z] at h1;cases h1
    | some d'=>rw [z] at h1;cases h1
   ·rw [ux (by simpa using hi),g06] at h1
    split at h1 <;> cases h1
  dj:=fun i j us es a _ h1=>by
   by_cases hi:i<ds.length
   ·rw [uc (by simpa using hi),mj] at h1
    cases z:ds[i]? with
    | none=>rw [z] at h1;cases h1
    | some d'=>rw [z] at h1;cases h1
   ·rw [ux (by simpa using hi),g06] at h1
    split at h1 <;> cases h1
  od:=fun i kvs h1=>by
   by_cases hi:i<ds.length
   ·rw [uc (by simpa using hi),mj] at h1
    cases z:ds[i]? with
    | none=>rw [z] at h1;cases h1
    | some d'=>rw [z] at h1;cases h1
   ·rw [ux (by simpa using hi),g06] at h1
    split at h1 <;> cases h1
  o1:=fun i j k1 k2 h1=>by
   by_cases hi:i<ds.length
   ·rw [uc (by simpa using hi),mj] at h1
    cases z:ds[i]? with
    | none=>rw [z] at h1;cases h1
    | some d'=>rw [z] at h1;cases h1
   ·rw [ux (by simpa using hi),g06] at h1
    split at h1 <;> cases h1}
 unfold zj at hd;cases z:u (ds.map (fun d=>some (.fz d))++List.replicate (N.length-ds.length) none) with
 | none=>rw [z] at hd;cases hd
 | some p=>
  obtain⟨fl, ρ'⟩:=p;rw [z] at hd;refine⟨F,H,F,_,fl, ρ',r,z,?_⟩;cases fl with
  | nx=>cases hd;exact fun σ' F' H' s' r'=>q .non F' H' r'.g (rep_non.mpr rfl)
  | bk=>cases hd
  | ct=>cases hd
  | rt d'=>cases hd;exact fun v σ' F' H' g' r'=>q v F' H' g'.g r'
theorem qqy{P:Program}{w:World}{K:Frag}{mg:Str->Option Value}{base:Heap}{k:Nat}{f:Addr}{name qual:Str}{params:Arguments}{body:List Stmt}{scope:Scope}{dV kV doc pm cdv ct oc:Value}{an od:Option Addr}
  {osl:Array (Option Value)} {N ps:List Str} {u:FS} (lk:K.lookup f=some ⟨oc,od,.func (PySem.W.fnOf name qual params body scope dV kV doc pm an cdv ct),osl⟩) (hcd:PySem.W.codeIn K cdv qual=true) (S:FnScope N ps scope)
  (hb:∀(A:Around) (outer:List Env) (s:Shared) (H:Hp) (E:XK),Room k (A.deeper (envOfC qual scope s.heap.objs.size f cdv))->PSs (zy CX0 P w K mg base N qual scope f cdv A outer s H E).nox body (tDS K u)) :
  FnOk P w K mg base CX0 (k+1) f (PySem.W.fnOf name qual params body scope dV kV doc pm an cdv ct) ps (spD K ps.length (zj N.length u)):=by
 have hpl:ps.length<=N.length:=by have:=pk List.length S.pre;rw [pq] at this;omega
 refine qwv lk hcd S (fun vs H Q E h=>?_) fun A outer s H vs Q E hr hsp=>⟨_,(hb A outer s H E hr).nox,qut (P:=P) (w:=w) hpl hsp⟩
 obtain⟨F,ds,d,_,rl,el,_⟩:=h;rw [<- rl.length];exact el
structure ItD(K:Frag)(F:Hp)(ds:List D)(J:It): Prop where
 go:∀(i:Nat) (F' H:Hp),Same F F'->Same F' H->i<ds.length->J.go i H
 yld:∀(i:Nat) (d:D) (F' H:Hp) (x:V) (H':Hp),Same F F'->Same F' H->ds[i]? = some d->J.yld i H x H'->∃F'',Grow F' H F'' H'/\Rep K F'' d x
 stop:∀(i:Nat) (F' H:Hp),Same F F'->Same F' H->ds.length<=i->J.stop i H
def tDI(K:Frag)(f:FA): TI:=fun σ H R=>∃F0 H0 F ρ ds,RS K F0 H0 F H σ ρ /\ f ρ = some ds/\∀J F' H',Grow F H F' H'->ItD K F' ds J->R J H'
abbrev FB:=D->Rho->Option Rho
abbrev FBs:=List D->Rho->Option Rho
def tDG(K:Frag)(b:FB): TG:=fun v σ H Q=>∃F0 H0 F ρ d ρ',RS K F0 H0 F H σ ρ /\ Rep K F d v/\b d ρ = some ρ'/\∀ σ',RS K F0 H0 F H σ' ρ'->Q σ' H
def qjn(K:Frag)(b:FBs): TGs:=fun vs σ H Q=>∃F0 H0 F ρ ds ρ',RS K F0 H0 F H σ ρ /\ RepL K F ds vs/\b ds ρ = some ρ'/\∀ σ',RS K F0 H0 F H σ' ρ'->Q σ' H
section
variable{X:Cx}{tg e:Expr}{es:List Expr}{pos:Pos}
theorem qav{t t':TI}(h:PI X tg e t)(i:∀ σ H R,t' σ H R->t σ H R): PI X tg e t':=fun pins s σ H R I q=>h pins s σ H R I (i σ H R q)
theorem qmb{t t':TG}(h:PG X e t)(i:∀v σ H Q,t' v σ H Q->t v σ H Q): PG X e t':=fun pins s σ H v u Q I r q=>h pins s σ H v u Q I r (i v σ H Q q)
theorem qik{t t':TGs}(h:PGs X es t)(i:∀v σ H Q,t' v σ H Q->t v σ H Q): PGs X es t':=fun pins s σ H v u Q I r q=>h pins s σ H v u Q I r (i v σ H Q q)
def bN(i:Nat): FB:=fun d ρ =>some (ρ.set i (some (.fz d)))
def q0i:FBs:=fun ds ρ =>if ds.isEmpty then some ρ else none
def jy(b:FB)(bs:FBs): FBs:=fun ds ρ =>match ds with
 | d :: r=>(b d ρ).bind fun ρ'=>bs r ρ'
 | []=>none
def q0j(n:Nat)(bs:FBs): FB:=fun d ρ =>match d with
 | .tup ds=>if ds.length=n then bs ds ρ else none
 | _=>none
theorem zd{i:Nat}{x:Str}(hN:X.N.Nodup)(hi:X.N[i]? = some x)(hx:Loc X.env.scope x)(hf:X.fn x=true\/X.env.scope.names.lookup x=some .local:=by first|exact .inl rfl|exact .inr rfl|assumption): PG X (.Name x pos) (tDG X.K (bN i)):=
 qmb (qrh hN hi hx hf) fun v σ H Q ⟨F0,H0,F, ρ,d, ρ',r,hr,hb,q⟩=>by
  cases hb;exact q _ (r.set i hr)
theorem q6a:PGs X [] (qjn X.K q0i):=qik qri fun vs σ H Q ⟨F0,H0,F, ρ,ds, ρ',r,hr,hb,q⟩=>by
 unfold q0i at hb
 split at hb
 ·rename_i z
  cases hb;have z':ds=[]:=by simpa using z
  subst z';exact⟨hr.nil_inv,q σ r⟩
 ·cases hb
theorem yf{b:FB}{bs:FBs}(h1:PG X e (tDG X.K b))(h2:PGs X es (qjn X.K bs))(hs:(assignEach (e :: es) X.env).map (·.2)=assign e X.env :: (assignEach es X.env).map (·.2):=by rfl): PGs X (e :: es) (qjn X.K (jy b bs)):=
 qik (qnw h1 h2 hs) fun vs σ H Q ⟨F0,H0,F, ρ,ds, ρ',r,hr,hb,q⟩=>by
  cases ds with
  | nil=>cases hb
  | cons d ds=>
   obtain⟨v,vr,rfl,h3,h4⟩:=hr.cons_inv;obtain⟨ρ1,h5,h6⟩:=g7.mp hb;exact⟨v,vr,rfl,F0,H0,F, ρ,d, ρ1,r,h3,h5,fun σ' r'=>⟨F0,H0,F, ρ1,ds, ρ',r',h4,h6,q⟩⟩
theorem q6b{k n:Nat}{bs:FBs}(hc:X.calm=true)(h:PGs X es (qjn X.K bs))(hn:(assignEach es X.env).length=n:=by rfl)(hst:(assignEach es X.env).findIdx? (·.1)=none:=by rfl): PG X (.Tuple es k pos) (tDG X.K (q0j n bs)):=
 qmb (qtv hc h hn hst) fun v σ H Q ⟨F0,H0,F, ρ,d, ρ',r,hr,hb,q⟩=>by
  cases d <;> simp only [q0j] at hb <;> first|(cases hb;done)|skip
  rename_i ds
  split at hb
  ·rename_i hl
   obtain⟨a,xs,rfl,h1,h2⟩:=rep_tup.mp hr;exact⟨a,xs,rfl,qt r.fh h1,by rw [<- h2.length];exact hl,F0,H0,F, ρ,ds, ρ',r,h2,hb,q⟩
  ·cases hb
def qaw(f:FE)(b:FB): FS:=fun ρ =>(f ρ).bind fun d=>(b d ρ).map fun ρ'=>(.nx, ρ')
theorem qrz{f:FE}{b:FB}{ts:Expr}(he:PE X e (tD X.K f))(hg:PG X ts (tDG X.K b))(hs:swapsWithSole [ts] e pos.line X.env=pure false:=by rfl)(hw:swappedStores [ts] e X.env=pure none:=by rfl)
  (h1:(assignEach [ts] X.env).map (·.2)=[assign ts X.env]:=by rfl):PS X (.Assign [ts] e pos) (tDS X.K (qaw f b)):=q0o (qtw he hg hs hw h1) fun D σ H ⟨F0,H0,F, ρ,fl, ρ',r,hf,q⟩=>by
 obtain⟨d,h2,h3⟩:=g7.mp hf;obtain⟨ρ1,h4,h5⟩:=gw.mp h3;cases h5;exact⟨F0,H0,F, ρ,d,r,h2,fun v F' H' g' r'=>⟨F0,H0,F', ρ,d, ρ',r.grow g',r',h4,fun σ' r2=>q σ' F' H' g'.ff r2⟩⟩
theorem qoi{K:Frag}{F:Hp}{a:Addr}{xs:List V}{ds:List D}(h:SqL K F a xs)(hd:RepL K F ds xs): ItD K F ds (Itl K a) where
 go:=fun i F' H s1 s2 hi=>⟨xs,xs[i]'(by rw [<- hd.length];exact hi),(s1.trans s2).seq h,by simp⟩
 yld:=fun i d F' H x H' s1 s2 hi ⟨e,y⟩=>by
  subst e;obtain⟨z,h1,h2⟩:=hd.get hi;have:=y xs ((s1.trans s2).seq h);rw [h1] at this;cases this;exact⟨F',.refl s2,h2.mono s1⟩
 stop:=fun i F' H s1 s2 hi=>⟨xs,(s1.trans s2).seq h,by rw [<- hd.length];exact hi⟩
theorem qs0{K:Frag}{F:Hp}{a:Addr}{xs:List V}{ds:List D}(h:SqT K F a xs)(hd:RepL K F ds xs): ItD K F ds (Itt K a) where
 go:=fun i F' H s1 s2 hi=>⟨xs,xs[i]'(by rw [<- hd.length];exact hi),qt (s1.trans s2) h,by simp⟩
 yld:=fun i d F' H x H' s1 s2 hi ⟨e,y⟩=>by
  subst e;obtain⟨z,h1,h2⟩:=hd.get hi;have:=y xs (qt (s1.trans s2) h);rw [h1] at this;cases this;exact⟨F',.refl s2,h2.mono s1⟩
 stop:=fun i F' H s1 s2 hi=>⟨xs,qt (s1.trans s2) h,by rw [<- hd.length];exact hi⟩
def z6(lo:Int)(n:Nat): List D:=(List.range n).map fun i:Nat=>.int (lo+i)
theorem qd6{K:Frag}{F:Hp}(lo:Int)(n:Nat): ItD K F (z6 lo n) (Itr lo n) where
 go:=fun i F' H s1 s2 hi=>by show i<n;simpa [z6] using hi
 yld:=fun i d F' H x H' s1 s2 hi ⟨e,y⟩=>by
  subst e y;simp only [z6,mj] at hi;cases q:(List.range n)[i]? with
  | none=>rw [q] at hi;cases hi
  | some j=>
   rw [q] at hi;cases hi;have:j=i:=by
    have h2:=nj.mp q;obtain⟨h3,h4⟩:=h2;rw [List.getElem_range] at h4;exact h4.symm
   subst this;exact⟨F',.refl s2,rep_int.mpr rfl⟩
 stop:=fun i F' H s1 s2 hi=>by show n<=i;simpa [z6] using hi
def qjo:D->Option (List D)
 | .tup ds=>some ds
 | .lst ds=>some ds
 | _=>none
def jm(f:FE): FA:=fun ρ =>(f ρ).bind qjo
theorem qx3{l:Expr}{tl:TE}(hl:PE X l tl): PI X tg l (fun σ H R=>tl σ H fun x H1=>(∃a,x=.ref a/\(∃xs,SqL X.K H1 a xs)/\R (Itl X.K a) H1)\/(∃a,x=.ref a/\(∃xs,SqT X.K H1 a xs)/\R (Itt X.K a) H1)):=by
 intro pins s σ H R I h;refine thn (hl pins s σ H _ I h) fun v s1 ⟨x,H1,I1,r1,q1⟩=>?_;rcases q1 with⟨a,e,⟨xs,hq⟩,q⟩|⟨a,e,⟨xs,hq⟩,q⟩
 ·subst e
  cases r1;obtain⟨its,rv,p,hz⟩:=I1.list hq;refine g33 p.isList ?_;refine⟨s1.heap.objs.size,[s1.heap.objs.size],_,_,H1,rfl,I1.kept (t':=s1.toks) fun b o e=>gb _ e,qlo a _,⟨_,gz _ rfl,rfl,rfl⟩,fun b hb=>?_,q⟩;have e:b=s1.heap.objs.size:=by simpa using hb
  subst e;exact I1.fpOk (gi _) (I1.hok.fresh (gi _))
 ·subst e
  cases r1;obtain⟨its,rv,p,hz⟩:=I1.tuple hq;refine g4g (show s1.heap.IsTuple a its.toArray from p) ?_;refine⟨s1.heap.objs.size,[s1.heap.objs.size],_,_,H1,rfl,I1.kept (t':=s1.toks) fun b o e=>gb _ e,qj9 a _,⟨_,gz _ rfl,rfl,rfl⟩,fun b hb=>?_,q⟩;have e:b=s1.heap.objs.size:=by simpa using hb
  subst e;exact I1.fpOk (gi _) (I1.hok.fresh (gi _))
theorem j9{f:FE}(h:PE X e (tD X.K f)): PI X tg e (tDI X.K (jm f)):=qav (qx3 h) fun σ H R ⟨F0,H0,F, ρ,ds,r,hf,q⟩=>by
 obtain⟨d,h1,h2⟩:=g7.mp hf;refine⟨F0,H0,F, ρ,d,r,h1,fun v F' H' g' r'=>?_⟩;cases d <;> simp only [qjo] at h2 <;> first|(cases h2;done)|skip
 ·cases h2
  obtain⟨a,xs,rfl,h3,h4⟩:=rep_tup.mp r';exact .inr ⟨a,rfl,⟨xs,qt g'.fh h3⟩,q _ F' H' g' (qs0 h3 h4)⟩
 ·cases h2
  obtain⟨a,xs,rfl,h3,h4⟩:=rep_lst.mp r';exact .inl ⟨a,rfl,⟨xs,g'.fh.seq h3⟩,q _ F' H' g' (qoi h3 h4)⟩
def iR1(fa:FA): FA:=fun ρ =>(fa ρ).bind fun ds=>match ds with
 | [.int j]=>if decide (-(2 ^ 62)<=j)&&decide (j<2 ^ 62) then some (z6 0 j.toNat) else none
 | _=>none
def iR2(fa:FA): FA:=fun ρ =>(fa ρ).bind fun ds=>match ds with
 | [.int i,.int j]=>if(decide (-(2 ^ 62)<=i)&&decide (i<2 ^ 62))&&(decide (-(2 ^ 62)<=j)&&decide (j<2 ^ 62)) then some (z6 i (j-i).toNat) else none
 | _=>none
theorem q1o{a:Expr}{fa:FA}{p:Pos}(hg:Gl X "range")(hm:X.mg "range" = none)(ha:PA X [a] (tDA X.K fa))(hs:starEach [a] X.env=[(false,eval a X.env)]:=by rfl): PI X tg (.Call (.Name "range" p) [a] [] pos) (tDI X.K (iR1 fa)):=
 qav (qlp hg hm ha hs) fun σ H R ⟨F0,H0,F, ρ,ds,r,hf,q⟩=>by
  obtain⟨es,h1,h2⟩:=g7.mp hf;refine⟨F0,H0,F, ρ,es,r,h1,fun vs F' H' g' r'=>?_⟩
  split at h2
  ·rename_i j
   split at h2
   ·rename_i z
    cases h2;obtain⟨x,t,rfl,h3,h4⟩:=r'.cons_inv;cases h4.nil_inv;obtain⟨z1,z2⟩:=q1n z;exact⟨j,by rw [rep_int.mp h3],z1,z2,q _ F' H' g' (qd6 0 _)⟩
   ·cases h2
  ·cases h2
theorem qmc{a b:Expr}{fa:FA}{p:Pos}(hg:Gl X "range")(hm:X.mg "range" = none)(ha:PA X [a,b] (tDA X.K fa))(hs:starEach [a,b] X.env=[(false,eval a X.env),(false,eval b X.env)]:=by rfl)(hs2:starEach [b] X.env=[(false,eval b X.env)]:=by rfl):
  PI X tg (.Call (.Name "range" p) [a,b] [] pos) (tDI X.K (iR2 fa)):=
 qav (qlq hg hm ha hs hs2) fun σ H R ⟨F0,H0,F, ρ,ds,r,hf,q⟩=>by
  obtain⟨es,h1,h2⟩:=g7.mp hf;refine⟨F0,H0,F, ρ,es,r,h1,fun vs F' H' g' r'=>?_⟩
  split at h2
  ·rename_i i j
   split at h2
   ·rename_i z
    cases h2;obtain⟨x,t,rfl,h3,h4⟩:=r'.cons_inv;obtain⟨x2,t2,rfl,h5,h6⟩:=h4.cons_inv;cases h6.nil_inv;rw [gm] at z;obtain⟨z1,z2⟩:=q1n z.1;obtain⟨z3,z4⟩:=q1n z.2;exact⟨i,j,by rw [rep_int.mp h3,rep_int.mp h5],⟨z1,z2,z3,z4⟩,q _ F' H' g' (qd6 _ _)⟩
   ·cases h2
  ·cases h2
def runFor(b:FB)(body:FS): List D->Rho->Option (Fl×Rho)
 | [], ρ =>some (.nx, ρ)
 | d :: ds, ρ =>(b d ρ).bind fun ρ1=>(body ρ1).bind fun r=>match r with
  | (.nx, ρ2)=>runFor b body ds ρ2
  | (.ct, ρ2)=>runFor b body ds ρ2
  | (.bk, ρ2)=>some (.nx, ρ2)
  | (.rt v, ρ2)=>some (.rt v, ρ2)
def q1t(it:FA)(b:FB)(body:FS): FS:=fun ρ =>(it ρ).bind fun ds=>runFor b body ds ρ
theorem q0s{iter:Expr}{body:List Stmt}{it:FA}{b:FB}{u:FS}(hp:PassesOwn (model X.prog X.w) X.A X.env X.xe)(hc:X.calm=true)(hi:PI X tg iter (tDI X.K it))(hg:PG X tg (tDG X.K b))(hb:PSs X body (tDS X.K u))
  (hs:∀x,foldedSetIterable iter X.env x=pure x:=by intro _;rfl):PS X (.For tg iter body [] pos) (tDS X.K (q1t it b u)):=q0o (qty hp hc hi hg hb hs) fun D σ H ⟨F0,H0,F, ρ,fl, ρ',r,hf,q⟩=>by
 obtain⟨ds,h1,h2⟩:=g7.mp hf;refine⟨F0,H0,F, ρ,ds,r,h1,fun J F1 H1 g1 itd=>?_⟩;refine⟨fun i m σ H=>m=ds.length-i/\i<=ds.length/\∃F' ρi,Same F1 F'/\RS X.K F0 H0 F' H σ ρi/\runFor b u (ds.drop i) ρi=some (fl, ρ'),⟨ds.length,by simp,t6 _,F1, ρ,.refl _,r.grow g1,by simpa using h2⟩,?_⟩
 rintro i m σ H ⟨rfl,hi,F', ρi,s1,r1,h3⟩
 by_cases hlt:i<ds.length
 ·have hd:ds.drop i=ds[i] :: ds.drop (i+1):=g2m hlt
  rw [hd] at h3;obtain⟨ρ1,h4,h5⟩:=g7.mp h3;obtain⟨⟨fl1, ρ2⟩,h6,h7⟩:=g7.mp h5;refine .inr ⟨itd.go i F' H s1 r1.fh hlt,fun σ' H'=>∃F',Same F1 F'/\RS X.K F0 H0 F' H' σ' ρ2/\runFor b u (ds.drop (i+1)) ρ2=some (fl, ρ'),fun σ' H' ⟨F',z1,z2,z3⟩=>⟨ds.length-(i+1),by omega,rfl,hlt,F', ρ2,z1,z2,z3⟩,fun x H' y=>?_⟩;obtain⟨F2,g2,r2⟩:=itd.yld i ds[i] F' H x H' s1 r1.fh (by simp [hlt]) y;refine⟨F0,H0,F2, ρi,ds[i], ρ1,r1.grow g2,r2,h4,fun σ' r3=>⟨F0,H0,F2, ρ1,fl1, ρ2,r3,h6,?_⟩⟩;cases fl1 with
  | nx=>exact fun σ2 F3 H3 s3 r4=>⟨F3,(s1.trans g2.ff).trans s3,r4,h7⟩
  | ct=>exact fun σ2 F3 H3 s3 r4=>⟨F3,(s1.trans g2.ff).trans s3,r4,h7⟩
  | bk=>cases h7;exact fun σ2 F3 H3 s3 r4=>q σ2 F3 H3 ((g1.ff.trans (s1.trans g2.ff)).trans s3) r4
  | rt d=>cases h7;exact q
 ·have e:i=ds.length:=by omega
  subst e;rw [g58] at h3;cases h3;exact .inl ⟨itd.stop _ F' H s1 r1.fh (gi _),q σ F' H (g1.ff.trans s1) r1⟩
def jk(t:FT)(body:FS): Nat->Rho->Option (Fl×Rho)
 | 0,_=>none
 | n+1, ρ =>(t ρ).bind fun c=>if c then(body ρ).bind fun r=>match r with
   | (.nx, ρ2)=>jk t body n ρ2
   | (.ct, ρ2)=>jk t body n ρ2
   | (.bk, ρ2)=>some (.nx, ρ2)
   | (.rt v, ρ2)=>some (.rt v, ρ2)
  else some (.nx, ρ)
theorem qa2{c:Expr}{body:List Stmt}{t:FT}{u:FS}(n:Nat)(hp:PassesOwn (model X.prog X.w) X.A X.env X.xe)(hc:PT X c (tDT X.K t))(hb:PSs X body (tDS X.K u)): PS X (.While c body [] pos) (tDS X.K (jk t u n)):=
 q0o (qny hp hc hb) fun D σ H ⟨F0,H0,F, ρ,fl, ρ',r,hf,q⟩=>by
  refine⟨fun m σ H=>∃F' ρi,Same F F'/\RS X.K F0 H0 F' H σ ρi/\jk t u m ρi=some (fl, ρ'),⟨n,F, ρ,.refl _,r,hf⟩,?_⟩
  rintro m σ H ⟨F', ρi,s1,r1,h1⟩
  cases m with
  | zero=>cases h1
  | succ m=>
   obtain⟨c,h2,h3⟩:=g7.mp h1;refine⟨F0,H0,F', ρi,c,r1,h2,fun F2 H2 g2=>?_⟩;cases c with
   | false=>rw [m6 mh] at h3 ⊢;cases h3;exact q σ F2 H2 (s1.trans g2.ff) (r1.grow g2)
   | true=>
    rw [gq rfl] at h3 ⊢;obtain⟨⟨fl1, ρ2⟩,h6,h7⟩:=g7.mp h3;refine⟨fun σ' H'=>∃F',Same F F'/\RS X.K F0 H0 F' H' σ' ρ2/\jk t u m ρ2=some (fl, ρ'),fun σ' H' ⟨F',z1,z2,z3⟩=>⟨m,p9 _,F', ρ2,z1,z2,z3⟩,F0,H0,F2, ρi,fl1, ρ2,r1.grow g2,h6,?_⟩;cases fl1 with
    | nx=>exact fun σ2 F3 H3 s3 r4=>⟨F3,(s1.trans g2.ff).trans s3,r4,h7⟩
    | ct=>exact fun σ2 F3 H3 s3 r4=>⟨F3,(s1.trans g2.ff).trans s3,r4,h7⟩
    | bk=>cases h7;exact fun σ2 F3 H3 s3 r4=>q σ2 F3 H3 ((s1.trans g2.ff).trans s3) r4
    | rt d=>cases h7;exact q
end
def quu:Option B->Option B
 | some (.fz d)=>some (.fz d)
 | _=>none
def kx(cap:List (Option Nat))(ρ : Rho): Rho:=cap.map fun o=>o.bind fun j=>quu (ρ[j]?).join
structure Sub(ρ ρ':Rho): Prop where
 len : ρ.length = ρ'.length
 sub:∀(i:Nat) (b:B), ρ[i]? = some (some b) -> ρ'[i]? = some (some b)
theorem RS.weak{K:Frag}{F0 H0 F H:Hp}{σ : St}{ρ ρ':Rho}(r:RS K F0 H0 F H σ ρ')(s:Sub ρ ρ'): RS K F0 H0 F H σ ρ where
 t0:=r.t0
 g:=r.g
 len:=by rw [s.len];exact r.len
 fz:=fun i d e=>r.fz i d (s.sub i _ e)
 ow:=fun i ds e=>r.ow i ds (s.sub i _ e)
 dj:=fun i j ds es a h e1 e2=>r.dj i j ds es a h (s.sub i _ e1) (s.sub j _ e2)
 od:=fun i kvs e=>let⟨a,bs,e1,e2,e3⟩:=r.od i kvs (s.sub i _ e); ⟨a,bs,e1,e2,fun j es b h=>e3 j es b (s.sub j _ h)⟩
 o1:=fun i j k1 k2 e1 e2=>r.o1 i j k1 k2 (s.sub i _ e1) (s.sub j _ e2)
def q2u(ρ : Rho): Prop:=∀(i:Nat) (b:B), ρ[i]? = some (some b)->∃d,b=.fz d
theorem q2i{ρ : Rho}(no:q2u ρ){i:Nat}{ds:List D}(h : ρ[i]? = some (some (.ow ds))): False:=let⟨_,e⟩:=no i _ h;nomatch e
theorem q2j{ρ : Rho}(no:q2u ρ){i:Nat}{ds}(h : ρ[i]? = some (some (.od ds))): False:=let⟨_,e⟩:=no i _ h;nomatch e
theorem yi(cap:List (Option Nat))(ρ : Rho): q2u (kx cap ρ):=fun i ds h=>by
 unfold kx at h;rw [mj] at h;cases q:cap[i]? with
 | none=>rw [q] at h;cases h
 | some o=>
  rw [q] at h;cases o with
  | none=>cases h
  | some j=>
   simp only [mw,g9,g0j] at h;generalize (ρ[j]?).join=z at h;cases z with
   | none=>cases h
   | some b=>cases b with
    | fz d=>cases h;exact⟨d,rfl⟩
    | ow _=>cases h
    | od _=>cases h
theorem qmd{K:Frag}{F0 H0 F H:Hp}{σ : St}{ρ : Rho}(cap:List (Option Nat))(r:RS K F0 H0 F H σ ρ): RS K F H F H (q7x cap σ) (kx cap ρ) where
 t0:=⟨r.tab,r.tabF⟩
 g:=.refl r.fh
 len:=by unfold q7x kx;rw [gh,gh]
 fz := fun i d h=>by
  unfold kx at h;rw [mj] at h;cases q:cap[i]? with
  | none=>rw [q] at h;cases h
  | some o=>
   rw [q] at h;cases o with
   | none=>cases h
   | some j=>
    simp only [mw,g9,g0j] at h;have e : ρ[j]? = some (some (.fz d)):=by
     cases z : ρ[j]? with
     | none=>rw [z] at h;cases h
     | some b=>
      rw [z] at h;cases b with
      | none=>cases h
      | some b=>cases b with
       | fz d'=>cases h;rfl
       | ow _=>cases h
       | od _=>cases h
    obtain⟨v,e1,e2⟩:=r.fz j d e;refine⟨v,?_,e2⟩;unfold q7x;rw [mj,q];simp only [mw,g9,e1,g2a]
 ow:=fun i ds h=>(q2i (yi cap ρ) h).elim
 dj:=fun i j ds es a _ h=>(q2i (yi cap ρ) h).elim
 od:=fun i ds h=>(q2j (yi cap ρ) h).elim
 o1:=fun i j ds es h=>(q2j (yi cap ρ) h).elim
theorem RS.other{K:Frag}{F0 H0 F H:Hp}{σ : St}{ρ : Rho}(r:RS K F0 H0 F H σ ρ)(no:q2u ρ){p:Addr}{o:HO}(h1:F p=none)(h2:H0 p=none)(h3:H p=none\/∃xs,H p=some (.lst xs)): RS K F0 H0 F (upd H p o) σ ρ where
 t0:=r.t0
 g :=⟨r.g.ff,⟨fun b u e=>by rw [z8 (fun z=>by subst z;rw [h2] at e;cases e)];exact r.g.hh.lst b u e,fun b u e=>by rw [z8 (fun z=>by subst z;rw [h2] at e;cases e)];exact r.g.hh.ext b u e,fun {b} e=>by
   by_cases z:b=p
   ·subst z;exact h2
   ·rw [z8 z] at e;exact r.g.hh.free e,fun t=>(r.g.hh.tb t).upd h3,fun b u e=>by rw [z8 (fun z=>by subst z;rw [h2] at e;cases e)];exact r.g.hh.dk b u e⟩,fun b u e=>by rw [z8 (fun z=>by subst z;rw [h1] at e;cases e)];exact r.g.fh b u e,r.g.nw⟩
 len:=r.len
 fz:=r.fz
 ow:=fun i ds h=>(q2i no h).elim
 dj:=fun i j ds es a _ h=>(q2i no h).elim
 od:=fun i ds h=>(q2j no h).elim
 o1:=fun i j ds es h=>(q2j no h).elim
theorem q86{F H F' H':Hp}{p:Addr}(g:Grow F H F' H')(h1:F p=none){o:HO}(h2:H p=some o): F' p=none:=by
 cases q:F' p with
 | none=>rfl
 | some u=>
  rcases g.nw p (by rw [q];simp) with z|z
  ·exact absurd h1 z
  ·rw [h2] at z;cases z
def z9(b:FB)(c:FT)(f:FE)(ρ : Rho): List D->Option (List D)
 | []=>some []
 | d :: ds=>(b d ρ).bind fun ρ1=>(c ρ1).bind fun t=>if t then(f ρ1).bind fun y=>(z9 b c f ρ ds).map fun ys=>y :: ys else z9 b c f ρ ds
def zr:FT:=fun _=>some true
def zp(it:FA)(cap:List (Option Nat))(b:FB)(c:FT)(f:FE): FA:=fun ρ =>(it ρ).bind fun ds=>if ds.length<=lim then z9 b c f (kx cap ρ) ds else none
def qax(b:FB)(cap:List (Option Nat)): Prop:=∀ ρ d ρ',b d (kx cap ρ)=some ρ'->Sub (kx cap ρ) ρ'/\q2u ρ'
section
variable{X:Cx}
theorem qoj{ifs:List Expr}{t t':TT}(h:q3r X ifs t)(i:∀ σ H Q,t' σ H Q->t σ H Q): q3r X ifs t':=fun pins s σ H Q I q=>h pins s σ H Q I (i σ H Q q)
theorem vh:q3r X [] (tDT X.K zr):=qoj qo8 fun σ H Q ⟨F0,H0,F, ρ,b,r,hf,q⟩=>by cases hf;exact q F H (.refl r.fh)
theorem q0t{c:Expr}{t:FT}(h:PT X c (tDT X.K t)): q3r X [c] (tDT X.K t):=qo9 h
theorem qme{K:Frag}{it:FA}{cap:List (Option Nat)}{b:FB}{c:FT}{f:FE}{σ : St}{H:Hp}{Q:VK}(fr:qax b cap)(h:tL K (zp it cap b c f) σ H Q): qjk (tDI K it) cap (tDG K b) (tDT K c) (tD K f) σ H Q:=by
 obtain⟨F0,H0,F, ρ,zs,r,hf,q⟩:=h;obtain⟨ds,h1,h2⟩:=g7.mp hf;have hlim:ds.length<=lim:=Decidable.byContradiction fun z=>by rw [m6 z] at h2;cases h2
 rw [gq hlim] at h2;refine⟨F0,H0,F, ρ,ds,r,h1,fun J F1 H1 g1 itd p hp=>?_⟩;have rc:=qmd cap (r.grow g1);have hF1:F1 p=none:=g1.fh.free hp;refine⟨fun i m σ H=>m=ds.length-i/\i<=ds.length/\∃F' xs ys us,Same F1 F'/\RS K F1 H1 F' H σ (kx cap ρ)/\H p=some (.lst xs)/\F' p=none/\RepL K F' ys xs/\z9 b c f (kx cap ρ) (ds.drop i)=some us/\ys++us=zs/\ys.length<=i,
  ⟨ds.length,by simp,t6 _,F1,[],[],zs,.refl _,rc.other (yi cap ρ) hF1 hp (.inl hp),zi,hF1,.nil,by simpa using h2,rfl,gi _⟩,?_⟩
 rintro i m σ' H' ⟨rfl,hi,F',xs,ys,us,s1,r1,hl,hn,ry,h3,h4,hyi⟩
 by_cases hlt:i<ds.length
 ·have hd:ds.drop i=ds[i] :: ds.drop (i+1):=g2m hlt
  rw [hd] at h3;obtain⟨ρ1,h5,h3⟩:=g7.mp h3;obtain⟨t,h6,h3⟩:=g7.mp h3;obtain⟨sb,no1⟩:=fr ρ _ _ h5;refine .inr ⟨itd.go i F' H' s1 r1.fh hlt,fun x H'' y=>?_⟩;obtain⟨F2,g2,r2⟩:=itd.yld i ds[i] F' H' x H'' s1 r1.fh (by simp [hlt]) y;refine⟨F1,H1,F2,kx cap ρ,ds[i], ρ1,r1.grow g2,r2,h5,fun σ2 r3=>⟨F1,H1,F2, ρ1,t,r3,h6,fun F3 H3 g3=>?_⟩⟩;have r4:=r3.grow g3;have hl2:=g2.hh.lst _ _ hl;have hn2:=q86 g2 hn hl;have hl3:=g3.hh.lst _ _ hl2;have hn3:=q86 g3 hn2 hl2;cases t with
  | false=>
   rw [m6 mh] at h3;exact qy2 ⟨ds.length-(i+1),by omega,rfl,hlt,F3,xs,ys,us,(s1.trans g2.ff).trans g3.ff,r4.weak sb,hl3,hn3,ry.mono (g2.ff.trans g3.ff),h3,h4,Nat.le_succ_of_le hyi⟩
  | true=>
   rw [gq rfl] at h3;obtain⟨yd,h7,h3⟩:=g7.mp h3;obtain⟨us',h8,h9⟩:=gw.mp h3;refine qy3 ⟨F1,H1,F3, ρ1,yd,r4,h7,fun v F4 H4 g4 r5=>?_⟩;have hl4:=g4.hh.lst _ _ hl3;have hn4:=q86 g4 hn3 hl3;have ss:Same F' F4:=(g2.ff.trans g3.ff).trans g4.ff;refine⟨xs,hl4,qd4 (by have:=ry.length;omega),ds.length-(i+1),by omega,rfl,hlt,F4,xs++[v],ys++[yd],us',(s1.trans ss),?_,zi,hn4,(ry.mono ss).append (.cons r5 .nil),h8,?_,?_⟩
   ·exact((r4.grow g4).weak sb).other (yi cap ρ) hn4 hp (.inr ⟨_,hl4⟩)
   ·rw [g0k,List.singleton_append,h9];exact h4
   ·rw [ng,g3l];omega
 ·have e:i=ds.length:=by omega
  subst e;rw [g58] at h3;cases h3;rw [g1u] at h4;subst h4;have gg:Grow F1 H1 F' H':=r1.g;exact .inl ⟨itd.stop _ F' H' s1 r1.fh (gi _),q p xs F' H' (g1.trans gg) hn (g1.hh.free hp) hl ry⟩
variable{N':List Str}{scope:Scope}{cap:List (Option Nat)}{tg iter elt:Expr}{ifs:List Expr}{it:FA}{b:FB}{c:FT}{f:FE}{pos:Pos}
theorem ja(hc:X.calm=true)(co:CapOk X N' scope cap)(fr:qax b cap)(hi:PI X tg iter (tDI X.K it))
  (hg:∀cl C s₀ H₀ fp,PG (xk X N' scope cl C s₀ H₀ fp) tg (tDG X.K b)) (hcs:∀cl C s₀ H₀ fp,q3r (xk X N' scope cl C s₀ H₀ fp) ifs (tDT X.K c)) (he:∀cl C s₀ H₀ fp,PE (xk X N' scope cl C s₀ H₀ fp) elt (tD X.K f))
  (hs:∀x,foldedSetIterable iter X.env x=pure x:=by intro _;rfl):PE X (.ListComp elt [⟨tg,iter,ifs,0⟩] scope pos) (tL X.K (zp it cap b c f)):=
 jo (qru hc co hi hg hcs he hs) fun σ H Q h=>qme fr h
theorem qc3{i:Nat}{x:Str}{px pe:Pos}(hc:X.calm=true)(hN:X.N.Nodup)(hx0:X.N[i]? = some x)(hx:X.env.scope.names.lookup x=some .local)(co:CapOk X N' scope cap)(fr:qax b cap)(hi:PI X tg iter (tDI X.K it))
  (hg:∀cl C s₀ H₀ fp,PG (xk X N' scope cl C s₀ H₀ fp) tg (tDG X.K b)) (hcs:∀cl C s₀ H₀ fp,q3r (xk X N' scope cl C s₀ H₀ fp) ifs (tDT X.K c)) (he:∀cl C s₀ H₀ fp,PE (xk X N' scope cl C s₀ H₀ fp) elt (tD X.K f))
  (hsw:swapsWith (.ListComp elt [⟨tg,iter,ifs,0⟩] scope pe) (some (.Name x px)) pos.line X.env=pure true:=by rfl)
  (hs:∀x,foldedSetIterable iter X.env x=pure x:=by intro _;rfl):PS X (.Assign [.Name x px] (.ListComp elt [⟨tg,iter,ifs,0⟩] scope pe) pos) (tDS X.K (q1s i (zp it cap b c f))):=
 q0o (qjl hc hN hx0 hx co hi hg hcs he hsw hs) fun D σ H h=>qme fr (qqx h)
end
theorem qes{cap:List (Option Nat)}{ρ : Rho}{i:Nat}(h:cap[i]? = some none): (kx cap ρ)[i]? = some none:=by
 unfold kx;rw [mj,h];rfl
theorem qil{ρ ρ':Rho}{i:Nat}{b:Option B}(s:Sub ρ ρ')(h : ρ[i]? = some none): Sub ρ (ρ'.set i b):=
 ⟨by rw [g14];exact s.len,fun j c e=>by
  by_cases q:j=i
  ·subst q;rw [h] at e;cases e
  ·rw [ma (n4 q)];exact s.sub j c e⟩
theorem qd7{ρ : Rho}{i:Nat}{d:D}(h:q2u ρ): q2u (ρ.set i (some (.fz d))):=fun j ds e=>by
 by_cases q:j=i
 ·subst q
  obtain⟨z,_⟩:=zl e;cases z;exact⟨d,rfl⟩
 ·rw [ma (n4 q)] at e;exact h j ds e
theorem Sub.refl(ρ : Rho): Sub ρ ρ :=⟨rfl,fun _ _ h=>h⟩
theorem zw{cap:List (Option Nat)}{i:Nat}(h:cap[i]? = some none): qax (bN i) cap:=fun ρ d ρ' e=>by
 cases e;exact⟨qil (.refl _) (qes h),qd7 (yi cap ρ)⟩
def qay(bs:FBs)(cap:List (Option Nat)): Prop:=∀ ρ ds ρ1 ρ',Sub (kx cap ρ) ρ1->q2u ρ1->bs ds ρ1=some ρ'->Sub (kx cap ρ) ρ'/\q2u ρ'
theorem q1u{cap:List (Option Nat)}: qay q0i cap:=fun ρ ds ρ1 ρ' s n e=>by
 unfold q0i at e
 split at e
 ·cases e;exact⟨s,n⟩
 ·cases e
theorem xi{cap:List (Option Nat)}{i:Nat}{bs:FBs}(h:cap[i]? = some none)(t:qay bs cap): qay (jy (bN i) bs) cap:=fun ρ ds ρ1 ρ' s n e=>by
 cases ds with
 | nil=>cases e
 | cons d ds=>exact t ρ ds _ ρ' (qil s (qes h)) (qd7 n) e
theorem q3d{cap:List (Option Nat)}{n:Nat}{bs:FBs}(t:qay bs cap): qax (q0j n bs) cap:=fun ρ d ρ' e=>by
 cases d <;> simp only [q0j] at e <;> first|(cases e;done)|skip
 split at e
 ·exact t ρ _ _ ρ' (.refl _) (yi cap ρ) e
 ·cases e
def quv (outer:List (Str×NameKind)) (N N':List Str) (scope:Scope) (cap:List (Option Nat)):Bool:=
 scope.names.all (fun y=> !(y.2 == .cell))&&(scope.names.all (fun y=> !(y.2 == .local) || (scope.names.lookup y.1==some .local))&&(scope.names.all (fun y=> !(y.2 == .free) || (outer.lookup y.1==some .cell) || (outer.lookup y.1==some .free)) &&
  (cap.length==N'.length&&(List.range cap.length).all fun i=>match(cap[i]?).join with
   | none=>true
   | some j=>match N'[i]? with
    | none=>false
    | some x=>N[j]? == some x&&scope.names.lookup x==some .free)))
theorem zu{X:Cx}{N':List Str}{scope:Scope}{cap:List (Option Nat)}(hk:scope.kind=.function)(h:quv X.env.scope.names X.N N' scope cap=true): CapOk X N' scope cap:=by
 unfold quv at h;simp only [gm,n6] at h;obtain⟨h1,h2,h3,h4,h5⟩:=h;refine⟨hk,fun y hy e=>?_,fun y hy e=>?_,fun y hy e=>?_,by simpa using h4,fun i j e=>?_⟩
 ·have:=h1 y hy;rw [e] at this;cases this
 ·have:=h2 y hy;rw [e] at this;simpa using this
 ·have:=h3 y hy
  rw [e] at this;simp only [beq_self_eq_true,uh,g4n,g0f,g30] at this;exact this
 ·have hi:i<cap.length:=(nj.mp e).1
  have:=h5 i (n9.mpr hi);rw [e] at this;simp only [g2a] at this
  split at this
  ·cases this
  ·rename_i x hx
   simp only [gm,g30] at this;exact⟨x,hx,this.1,this.2⟩
section
variable{X:Cx}{e:Expr}{es:List Expr}{pos:Pos}{f g:FE}{fa:FA}
inductive Ty where
 | int|bool|tuple|list|str|dict
def Ty.name:Ty->String
 | .int=>"int" | .bool=>"bool" | .tuple=>"tuple" | .list=>"list" | .str=>"str" | .dict=>"dict"
def zz:Ty->D->Bool
 | .int,.int _=>true
 | .int,.bl _=>true
 | .bool,.bl _=>true
 | .tuple,.tup _=>true
 | .list,.lst _=>true
 | .str,.str _=>true
 | .dict,.dct _ _=>true
 | .dict,.dtt _ _=>true
 | .dict,.dt2 _=>true
 | _,_=>false
theorem qok{prog:Program}{w:World}{A:Around}{E:Value->Shared->Prop}{s:Shared}{Q:Value->Shared->Prop}{K:Frag}{T:String}{b:Bool}(hk:K.In s.heap)(h:∀tk,Q (.bool b) {s with toks:=tk})(hT:PySem.W.kitOne K (.type "NoneType") (.type T)=some b):
  wpAny (model prog w) A (call (.builtin "isinstance") [.none,.type T]) Q E s:=g5m PySem.W.kitx_none hk True.intro hT (fun z=>nomatch z) h
theorem qol(T:Ty): jx X (.builtin "isinstance") (fun xs H Q=>∃x F d,xs=[x,.ty T.name]/\Same F H/\Rep X.K F d x/\Q (.bl (zz T d)) H):=by
 intro pins s σ H xs us Q I r h;obtain⟨x,F,d,rfl,fh,rd,q⟩:=h;obtain⟨u,w',rfl,rx,rt⟩:=r.two;obtain rfl:w'=Value.type T.name:=rt;have fin:∀ {b:Bool},Q (.bl b) H->EP X pins σ Q (.bool b) s:=fun q=>⟨.bl _,H,I,rfl,q⟩
 have fin1:∀ {b:Bool},Q (.bl b) H->EP X pins σ Q (.bool b) {s with toks:=s.toks+1}:=fun q=>⟨.bl _,H,I.tok _,rfl,q⟩
 cases d with
 | non=>
  cases rep_non.mp rd;cases rx;cases T <;> exact qok I.kIn (fun tk=>⟨.bl _,H,I.tok _,rfl,q⟩) (by rfl)
 | bl b=>
  cases rep_bl.mp rd;cases rx;cases T
  ·exact IsiPair.bool_int (fin q)
  ·exact IsiPair.bool_bool (fin q)
  ·exact IsiPair.bool_tuple (fin1 q)
  ·exact IsiPair.bool_list (fin1 q)
  ·exact IsiPair.bool_str (fin1 q)
  ·exact IsiPair.bool_dict (fin1 q)
 | int i=>
  cases rep_int.mp rd;obtain⟨t,rfl⟩:=rx;cases T
  ·exact IsiPair.int_int (fin q)
  ·exact IsiPair.int_bool (fin1 q)
  ·exact IsiPair.int_tuple (fin1 q)
  ·exact IsiPair.int_list (fin1 q)
  ·exact IsiPair.int_str (fin1 q)
  ·exact IsiPair.int_dict (fin1 q)
 | str z=>
  cases rep_str.mp rd;obtain⟨t,rfl⟩:=rx;cases T
  ·exact IsiPair.str_int (fin1 q)
  ·exact IsiPair.str_bool (fin1 q)
  ·exact IsiPair.str_tuple (fin1 q)
  ·exact IsiPair.str_list (fin1 q)
  ·exact IsiPair.str_str (fin q)
  ·exact IsiPair.str_dict (fin1 q)
 | tup ds=>
  obtain⟨a,ys,rfl,h1,h2⟩:=rep_tup.mp rd;cases rx;obtain⟨its,_,⟨o,ho,hc,_⟩,_⟩:=I.tuple (qt fh h1);cases T
  ·exact IsiPair.tuple_int ho hc (fin1 q)
  ·exact IsiPair.tuple_bool ho hc (fin1 q)
  ·exact IsiPair.tuple_tuple ho hc (fin q)
  ·exact IsiPair.tuple_list ho hc (fin1 q)
  ·exact IsiPair.tuple_str ho hc (fin1 q)
  ·exact IsiPair.tuple_dict ho hc (fin1 q)
 | lst ds=>
  obtain⟨a,ys,rfl,h1,h2⟩:=rep_lst.mp rd;cases rx;obtain⟨its,_,⟨o,n,ho,hc,_⟩,_⟩:=I.list (fh.seq h1);cases T
  ·exact IsiPair.list_int ho hc (fin1 q)
  ·exact IsiPair.list_bool ho hc (fin1 q)
  ·exact IsiPair.list_tuple ho hc (fin1 q)
  ·exact IsiPair.list_list ho hc (fin q)
  ·exact IsiPair.list_str ho hc (fin1 q)
  ·exact IsiPair.list_dict ho hc (fin1 q)
 | dct ks vs=>
  obtain⟨a,ys,rfl,h1,h2,h3⟩:=rep_dct.mp rd;cases rx;obtain⟨_,_,vs',_,o,es',ep,ho,hc,_⟩:=(show ObjOk X.prog X.w H s.heap a _ from I.hok a _ (fh _ _ h1))
  cases T
  ·exact g59 ho hc.1 (fin1 q)
  ·exact g4r ho hc.1 (fin1 q)
  ·exact g4h ho hc.1 (fin1 q)
  ·exact g4s ho hc.1 (fin1 q)
  ·exact g5a ho hc.1 (fin1 q)
  ·exact g4t ho hc.1 (fin q)
 | dtt ks vs=>
  obtain⟨a,xs',ys,ep,rfl,h1,_⟩:=rep_dtt.mp rd;cases rx;obtain⟨⟨o,es',ho,hc,_⟩,_,_⟩:=(show ObjOk X.prog X.w H s.heap a _ from I.hok a _ (fh _ _ h1))
  cases T
  ·exact g59 ho hc.1 (fin1 q)
  ·exact g4r ho hc.1 (fin1 q)
  ·exact g4h ho hc.1 (fin1 q)
  ·exact g4s ho hc.1 (fin1 q)
  ·exact g5a ho hc.1 (fin1 q)
  ·exact g4t ho hc.1 (fin q)
 | dt2 ks=>
  obtain⟨a,xs',ep,rfl,h1,_⟩:=rep_dt2.mp rd;cases rx;obtain⟨⟨o,es',ho,hc,_⟩,_,_⟩:=(show ObjOk X.prog X.w H s.heap a _ from I.hok a _ (fh _ _ h1))
  cases T
  ·exact g59 ho hc.1 (fin1 q)
  ·exact g4r ho hc.1 (fin1 q)
  ·exact g4h ho hc.1 (fin1 q)
  ·exact g4s ho hc.1 (fin1 q)
  ·exact g5a ho hc.1 (fin1 q)
  ·exact g4t ho hc.1 (fin q)
 | obj x=>
  obtain⟨a,dx,C,rfl,h1,_,c1,c2,c3,c4,c5,c6,c7⟩:=rep_obj.mp rd;cases rx;obtain⟨mA,O,_⟩:=qie I.hok (fh _ _ h1);obtain⟨od,J,_⟩:=O.look;cases T <;> exact g5m (PySem.W.kitx_own c1 c2 c3 c4 c5 c6) I.kIn J (c7 _ (by decide)) (fun z=>nomatch z) (fun tk=>⟨.bl _,H,I.tok _,rfl,q⟩)
 | exc x f=>
  obtain⟨a,C,rfl,⟨od,h1,_⟩,_,c1,c2⟩:=rep_exc.mp rd;cases rx;obtain⟨J,_,_⟩:=(show ObjOk X.prog X.w H s.heap a _ from I.hok a _ (fh _ _ h1))
  cases T <;> exact g5m (qoe c1) I.kIn J (c2 _ (by decide)) (fun z=>nomatch z) (fun tk=>⟨.bl _,H,I.tok _,rfl,q⟩)
def q0k(T:Ty)(f:FE): FE:=fun ρ =>(f ρ).map fun d=>.bl (zz T d)
theorem qom:bootBuiltins "isinstance" = some (.builtin "isinstance"):=by decide +kernel
theorem wa{x:Str}{p px:Pos}(T:Ty)(hg:Gl X "isinstance")(hm:X.mg "isinstance" = none)(hgT:Gl X x)(hmT:X.mg x=none)(hvT:bootBuiltins x=some (.type T.name))(ha:PE X e (tD X.K f))
  (hnT:x≠"__name__" :=by decide) (hdT:(x==("__debug__" : Str))=false:=by decide) (he2:starEach [e,.Name x px] X.env=(false,eval e X.env) :: starEach [.Name x px] X.env:=by rfl) :
  PE X (.Call (.Name "isinstance" p) [e,.Name x px] [] pos) (tD X.K (q0k T f)):=
 jo (q6p (qol T) hg hm qom (q1m ha (q1m (qrd (v:=.ty T.name) hgT hmT hvT rfl hnT hdT) q48) he2) (by decide) (by decide) he2 rfl) fun σ H Q ⟨F0,H0,F, ρ,d,r,hf,q⟩=>by
  obtain⟨d',h1,h2⟩:=gw.mp hf;subst h2;exact⟨F0,H0,F, ρ,d',r,h1,fun v F' H' g' r'=>⟨v,F',d',rfl,g'.fh,r',q _ F' H' g' (rep_bl.mpr rfl)⟩⟩
def zx:List D->Option (List Int)
 | []=>some []
 | .int i :: r=>(zx r).map fun is=>i :: is
 | _ :: _=>none
def q4d:List D->Option (List Bool)
 | []=>some []
 | .bl i :: r=>(q4d r).map fun is=>i :: is
 | _ :: _=>none
theorem qaz:∀ {ds:List D} {ns:List Int},zx ds=some ns->ds=ns.map D.int
 | [],ns,h=>by cases h;rfl
 | d :: r,ns,h=>by
  cases d <;> simp only [zx] at h <;> first|(cases h;done)|skip
  obtain⟨is,h1,h2⟩:=gw.mp h;subst h2;rw [qaz h1];rfl
omit [Lam] [Pin] in
theorem xb:∀(ns:List Int),zx (ns.map D.int)=some ns
 | []=>rfl
 | n :: r=>by simp only [gd,zx,xb r,mw]
theorem q5i:∀ {ds:List D} {bs:List Bool},q4d ds=some bs->ds=bs.map D.bl
 | [],ns,h=>by cases h;rfl
 | d :: r,ns,h=>by
  cases d <;> simp only [q4d] at h <;> first|(cases h;done)|skip
  obtain⟨is,h1,h2⟩:=gw.mp h;subst h2;rw [q5i h1];rfl
omit [Lam] [Pin] in
theorem q6w:∀(ns:List Bool),q4d (ns.map D.bl)=some ns
 | []=>rfl
 | n :: r=>by simp only [gd,q4d,q6w r,mw]
theorem RepL.bools{K:Frag}{H:Hp}: ∀ {bs:List Bool} {xs:List V},RepL K H (bs.map D.bl) xs->xs=bs.map V.bl
 | [],xs,h=>h.nil_inv
 | b :: bs,xs,h=>by
  obtain⟨x,r,rfl,h1,h2⟩:=h.cons_inv;rw [rep_bl.mp h1,RepL.bools h2];rfl
def o1L(z:List D->Option D): List D->Option D
 | [.lst ds]=>z ds
 | _=>none
theorem qa3{z:List D->Option D}{es:List D}{d:D}(h:o1L z es=some d): ∃ds,es=[.lst ds]/\z ds=some d:=by
 unfold o1L at h
 split at h
 ·exact⟨_,rfl,h⟩
 ·cases h
theorem rep1{K:Frag}{F:Hp}{d:D}{xs:List V}(h:RepL K F [d] xs): ∃x,xs=[x]/\Rep K F d x:=by
 obtain⟨x,r,rfl,h1,h2⟩:=h.cons_inv;cases h2.nil_inv;exact⟨x,rfl,h1⟩
abbrev q6x:List D->Option D:=o1L fun ds=>(zx ds).map fun ns=>.int ns.sum
abbrev qc4:List D->Option D:=o1L fun ds=>(q4d ds).map fun bs=>.bl (bs.all id)
abbrev qjp:List D->Option D:=o1L fun ds=>(q4d ds).map fun bs=>.bl (bs.any id)
theorem qb0(hc:X.calm=true): jx X (.builtin "sum") (rC X.K q6x):=by
 intro pins s σ H xs us Q I r h;obtain⟨F,ds,d,fh,rl,ho,q⟩:=h;obtain⟨es,rfl,h1⟩:=qa3 ho;obtain⟨ns,h2,h3⟩:=gw.mp h1;subst h3;cases qaz h2;obtain⟨x,rfl,rx⟩:=rep1 rl;obtain⟨u,rfl,ru⟩:=r.one;obtain⟨a,ys,rfl,k1,k2⟩:=rep_lst.mp rx;cases ru;cases RepL.ints.mp k2;obtain⟨its,rv,pl,_⟩:=I.list (fh.seq k1);have hi:=intsAre_of rv;obtain⟨zs,hz⟩:=hi.allInts.items;have hl:s.heap.IsList a (intItems zs):=hz ▸ pl.isList;refine sum_intListG (I.ok.hd hc) hl fun h' tk t' hk=>?_;have e1:ns=zs.toList.map (·.1):=by
  rw [<- nums_intItems, <- hz];exact(show numsOf its.toArray.toList=ns from hi.numsOf).symm
 have e2:preSum (numAt zs) zs.size=ns.sum:=by
  rw [preSum_eq,g0u (by simp),e1]
 rw [e2];exact⟨.int ns.sum,H,I.kept hk,⟨_,rfl⟩,q _ F H (.refl fh) (rep_int.mpr rfl)⟩
theorem q6y:∀ {bs:List Bool} {us:List Value},Vals (bs.map V.bl) us->us=bs.map Value.bool
 | [],us,h=>by cases h;rfl
 | b :: bs,us,h=>by
  rw [gd] at h;cases h with
  | cons r t=>
   cases(show _=Value.bool b from r);rw [q6y t];rfl
theorem quw(hc:X.calm=true): jx X (.builtin "all") (rC X.K qc4):=by
 intro pins s σ H xs us Q I r h;obtain⟨F,ds,d,fh,rl,ho,q⟩:=h;obtain⟨es,rfl,h1⟩:=qa3 ho;obtain⟨bs,h2,h3⟩:=gw.mp h1;subst h3;cases q5i h2;obtain⟨x,rfl,rx⟩:=rep1 rl;obtain⟨u,rfl,ru⟩:=r.one;obtain⟨a,ys,rfl,k1,k2⟩:=rep_lst.mp rx;cases ru;cases k2.bools;obtain⟨its,rv,pl,_⟩:=I.list (fh.seq k1);cases q6y rv;have hlt:a<s.heap.objs.size:=by obtain⟨_,e,_⟩:=pl.isList;exact m9 e
 refine call_all_walk (g33 pl.isList ?_);refine⟨s.heap.objs.size,[s.heap.objs.size,a],[s.heap.objs.size],(bs.map Value.bool).toArray.size,_,_,fun i=>(bs[i]?).getD true,rfl,Walks.list (A:=X.A.in1) (I.ok.hd hc) _ a (mf hlt) (bs.map Value.bool).toArray,
  ⟨⟨_,gz _ rfl,rfl,rfl⟩,pl.isList.push _⟩,fun i v s' Q' E' hP hQ=>?_,fun h' tk hk=>?_⟩
 ·have hP':(bs.map Value.bool)[i]? = some v:=by simpa using hP
  rw [mj] at hP';cases z:bs[i]? with
  | none=>rw [z] at hP';cases hP'
  | some b=>
   rw [z] at hP';cases hP';simp only [z,Option.getD_some] at hQ;exact g0i hQ
 ·have e:((List.range (bs.map Value.bool).toArray.size).all fun i=>(bs[i]?).getD true)=bs.all id:=by
   rw [gj,gh];exact LSm.range_all bs
  rw [e];exact⟨.bl _,H,I.kept (LSm.kept_iter hk),rfl,q _ F H (.refl fh) (rep_bl.mpr rfl)⟩
theorem qux(hc:X.calm=true): jx X (.builtin "any") (rC X.K qjp):=by
 intro pins s σ H xs us Q I r h;obtain⟨F,ds,d,fh,rl,ho,q⟩:=h;obtain⟨es,rfl,h1⟩:=qa3 ho;obtain⟨bs,h2,h3⟩:=gw.mp h1;subst h3;cases q5i h2;obtain⟨x,rfl,rx⟩:=rep1 rl;obtain⟨u,rfl,ru⟩:=r.one;obtain⟨a,ys,rfl,k1,k2⟩:=rep_lst.mp rx;cases ru;cases k2.bools;obtain⟨its,rv,pl,_⟩:=I.list (fh.seq k1);cases q6y rv;have hlt:a<s.heap.objs.size:=by obtain⟨_,e,_⟩:=pl.isList;exact m9 e
 refine call_any_walk (g33 pl.isList ?_);refine⟨s.heap.objs.size,[s.heap.objs.size,a],[s.heap.objs.size],(bs.map Value.bool).toArray.size,_,_,fun i=>(bs[i]?).getD false,rfl,Walks.list (A:=X.A.in1) (I.ok.hd hc) _ a (mf hlt) (bs.map Value.bool).toArray,
  ⟨⟨_,gz _ rfl,rfl,rfl⟩,pl.isList.push _⟩,fun i v s' Q' E' hP hQ=>?_,fun h' tk hk=>?_⟩
 ·have hP':(bs.map Value.bool)[i]? = some v:=by simpa using hP
  rw [mj] at hP';cases z:bs[i]? with
  | none=>rw [z] at hP';cases hP'
  | some b=>
   rw [z] at hP';cases hP';simp only [z,Option.getD_some] at hQ;exact g0i hQ
 ·have e:((List.range (bs.map Value.bool).toArray.size).any fun i=>(bs[i]?).getD false)=bs.any id:=by
   rw [gj,gh];exact LSm.range_any bs
  rw [e];exact⟨.bl _,H,I.kept (LSm.kept_iter hk),rfl,q _ F H (.refl fh) (rep_bl.mpr rfl)⟩
theorem boot_sum:bootBuiltins "sum" = some (.builtin "sum"):=by decide +kernel
theorem boot_all:bootBuiltins "all" = some (.builtin "all"):=by decide +kernel
theorem boot_any:bootBuiltins "any" = some (.builtin "any"):=by decide +kernel
theorem boot_max:bootBuiltins "max" = some (.builtin "max"):=by decide +kernel
theorem jt:bootBuiltins "len" = some (.builtin "len"):=by decide +kernel
theorem boot_tuple:bootBuiltins "tuple" = some (.type "tuple"):=by decide +kernel
theorem boot_list:bootBuiltins "list" = some (.type "list"):=by decide +kernel
theorem boot_int:bootBuiltins "int" = some (.type "int"):=by decide +kernel
theorem boot_bool:bootBuiltins "bool" = some (.type "bool"):=by decide +kernel
theorem boot_dict:bootBuiltins "dict" = some (.type "dict"):=by decide +kernel
def o2I(z:Int->Int->Int): List D->Option D
 | [.int i,.int j]=>some (.int (z i j))
 | _=>none
theorem qon{z:Int->Int->Int}{es:List D}{d:D}(h:o2I z es=some d): ∃i j,es=[.int i,.int j]/\d=.int (z i j):=by
 unfold o2I at h
 split at h
 ·cases h;exact⟨_,_,rfl,rfl⟩
 ·cases h
theorem qx4{K:Frag}{F:Hp}{i j:Int}{xs:List V}(h:RepL K F [.int i,.int j] xs): xs=[.int i,.int j]:=RepL.ints (ns:=[i,j]).mp h
abbrev oMax:=o2I fun i j=>if j>i then j else i
theorem quy(hc:X.calm=true): jx X (.builtin "max") (rC X.K oMax):=q52 (qlt hc) fun xs H Q ⟨F,ds,d,fh,rl,ho,q⟩=>by
 obtain⟨i,j,rfl,rfl⟩:=qon ho;exact⟨i,j,qx4 rl,q _ F H (.refl fh) (rep_int.mpr rfl)⟩
def ye:List D->Option D
 | [.tup ds]=>some (.int ds.length)
 | [.lst ds]=>some (.int ds.length)
 | [.str x]=>if x.length<=lim then some (.int x.length) else none
 | _=>none
theorem yj:jx X (.builtin "len") (rC X.K ye):=q52 qo2 fun xs H Q ⟨F,ds,d,fh,rl,ho,q⟩=>by
 unfold ye at ho
 split at ho
 ·cases ho
  obtain⟨x,rfl,rx⟩:=rep1 rl;obtain⟨a,ys,rfl,k1,k2⟩:=rep_tup.mp rx;exact⟨_,ys.length,rfl,.inr ⟨ys,qt fh k1,rfl⟩,by rw [<- k2.length];exact q _ F H (.refl fh) (rep_int.mpr rfl)⟩
 ·cases ho
  obtain⟨x,rfl,rx⟩:=rep1 rl;obtain⟨a,ys,rfl,k1,k2⟩:=rep_lst.mp rx;exact⟨_,ys.length,rfl,.inl ⟨ys,fh.seq k1,rfl⟩,by rw [<- k2.length];exact q _ F H (.refl fh) (rep_int.mpr rfl)⟩
 ·split at ho
  ·rename_i z
   cases ho;obtain⟨x,rfl,rx⟩:=rep1 rl;cases rep_str.mp rx;exact⟨_,_,rfl,⟨x8 z,rfl⟩,q _ F H (.refl fh) (rep_int.mpr rfl)⟩
  ·cases ho
 ·cases ho
def vi:List D->Option D
 | [.tup ds]=>some (.tup ds)
 | [.lst ds]=>some (.tup ds)
 | _=>none
theorem yt:jx X (.type "tuple") (rC X.K vi):=q52 qdv fun xs H Q ⟨F,ds,d,fh,rl,ho,q⟩=>by
 unfold vi at ho
 split at ho
 ·cases ho
  obtain⟨x,rfl,rx⟩:=rep1 rl;obtain⟨a,ys,rfl,k1,k2⟩:=rep_tup.mp rx;exact⟨a,ys,rfl,.inr ⟨qt fh k1,q _ F H (.refl fh) rx⟩⟩
 ·cases ho
  obtain⟨x,rfl,rx⟩:=rep1 rl;obtain⟨a,ys,rfl,k1,k2⟩:=rep_lst.mp rx;refine⟨a,ys,rfl,.inl ⟨fh.seq k1,fun l hl=>?_⟩⟩;have gn:Grow F H (upd F l (.tup ys)) (upd H l (.tup ys)):=Grow.new fh hl;exact q _ _ _ gn (rep_tup.mpr ⟨l,ys,rfl,SqT.of zi,k2.mono gn.ff⟩)
 ·cases ho
def qjq:List D->Option D
 | [.int i]=>some (.int i)
 | [.bl b]=>some (.int (if b then 1 else 0))
 | _=>none
theorem quz:jx X (.type "int") (rC X.K qjq):=q52 qlu fun xs H Q ⟨F,ds,d,fh,rl,ho,q⟩=>by
 unfold qjq at ho
 split at ho
 ·cases ho
  obtain⟨x,rfl,rx⟩:=rep1 rl;exact .inl ⟨_,by rw [rep_int.mp rx],q _ F H (.refl fh) (rep_int.mpr rfl)⟩
 ·cases ho
  obtain⟨x,rfl,rx⟩:=rep1 rl;exact .inr ⟨_,by rw [rep_bl.mp rx],q _ F H (.refl fh) (rep_int.mpr rfl)⟩
 ·cases ho
def rCL(K:Frag)(op:List D->Option (List D)): List V->Hp->VK->Prop:=fun xs H Q=>∃F ds es,Same F H/\RepL K F ds xs/\op ds=some es/\∀a ys F' H',Grow F H F' H'->F' a=none->H a=none->H' a=some (.lst ys)->RepL K F' es ys->Q (.ref a) H'
def q99(op:List D->Option (List D))(fa:FA): FA:=fun ρ =>(fa ρ).bind op
theorem qs1{K:Frag}{op:List D->Option (List D)}{σ : St}{H:Hp}{Q:VK}(h:tL K (q99 op fa) σ H Q): tDA K fa σ H fun vs H1=>rCL K op vs H1 Q:=by
 obtain⟨F0,H0,F, ρ,d,r,hf,q⟩:=h;obtain⟨ds,h1,h2⟩:=g7.mp hf;exact⟨F0,H0,F, ρ,ds,r,h1,fun vs F1 H1 g1 r1=>⟨F1,ds,d,g1.fh,r1,h2,fun a ys F2 H2 g2 k1 k2 k3 k4=>q a ys F2 H2 (g1.trans g2) k1 (g1.hh.free k2) k3 k4⟩⟩
theorem qoo{x:Str}{p:Pos}{id:String}{op:List D->Option (List D)}(hc:jx X (.builtin id) (rCL X.K op))(hg:Gl X x)(hm:X.mg x=none)(hv:bootBuiltins x=some (.builtin id))(ha:PA X (e :: es) (tDA X.K fa))
  (hn:x≠"__name__" :=by decide) (hdb:(x==("__debug__" : Str))=false:=by decide)
  (he:starEach (e :: es) X.env=(false,eval e X.env) :: starEach es X.env:=by rfl) (hpl:(backTo pos (starEach es X.env)).any (·.1)=false:=by rfl):PE X (.Call (.Name x p) (e :: es) [] pos) (tL X.K (q99 op fa)):=
 jo (q6p hc hg hm hv ha hn hdb he hpl) fun σ H Q h=>qs1 h
def qqz:List D->Option (List D)
 | [.tup ds]=>some ds
 | [.lst ds]=>some ds
 | _=>none
theorem qim{K:Frag}{H:Hp}{ds:List D}{xs:List V}{i:Int}{d:D}(h:RepL K H ds xs)(e:atI ds i=some d): ∃x,atI xs i=some x/\Rep K H d x:=by
 unfold atI at e ⊢;rw [<- h.length];cases q:ixN ds.length i with
 | none=>rw [q] at e;cases e
 | some j=>
  rw [q] at e;exact h.get e
def oIx:D->D->Option D
 | .tup ds,.int i=>atI ds i
 | .lst ds,.int i=>atI ds i
 | _,_=>none
theorem zf{a b:Expr}(ha:PE X a (tD X.K f))(hb:PE X b (tD X.K g))(hs:qc0 b:=by intro _ _;rfl): PE X (.Subscript a b pos) (tD X.K (eOp oIx f g)):=jo (qqu quh ha hb hs) fun σ H Q h=>by
 have h':=two h;obtain⟨F0,H0,F, ρ,d,r,hf,q⟩:=h';refine⟨F0,H0,F, ρ,d,r,hf,fun v F1 H1 g1 r1=>?_⟩;obtain⟨F0',H0',F', ρ',d',r',hf',q'⟩:=q v F1 H1 g1 r1;refine⟨F0',H0',F', ρ',d',r',hf',fun v2 F2 H2 g2 r2=>?_⟩;obtain⟨F3,d1,d2,d3,fh,k1,k2,k3,k4⟩:=q' v2 F2 H2 g2 r2;unfold oIx at k3
 split at k3
 ·obtain⟨p,ys,rfl,z1,z2⟩:=rep_tup.mp k1
  obtain⟨y,z3,z4⟩:=qim z2 k3;exact .inr (.inl ⟨p,ys,_,y,rfl,rep_int.mp k2,qt fh z1,z3,k4 y F3 H2 (.refl fh) z4⟩)
 ·obtain⟨p,ys,rfl,z1,z2⟩:=rep_lst.mp k1
  obtain⟨y,z3,z4⟩:=qim z2 k3;exact .inl ⟨p,ys,_,y,rfl,rep_int.mp k2,fh.seq z1,z3,k4 y F3 H2 (.refl fh) z4⟩
 ·cases k3
def eUn(o:D->Option D)(f:FE): FE:=fun ρ =>(f ρ).bind o
end
section
variable{prog:Program}{w:World}{A:Around}{E:Value->Shared->Prop}{s:Shared}
theorem qdw{t sl:Addr}{items:Array Value}{vl vu:Value}{lo hi:Option Int}{Q:Value->Shared->Prop}(ht:IsTup s.heap t items)(hs:s.heap.IsSliceOf sl vl vu .none)
  (pl:IsPart vl lo) (pu:IsPart vu hi) (w1:HT.sIx items.size 0 lo=0) (w2:HT.sIx items.size items.size hi=items.size) (h:Q (.ref t) s) :
  wpAny (model prog w) A (getItem (.ref t) (.ref sl)) Q E s:=by
 obtain⟨os,hos,hcs,hds⟩:=id hs;have hTs:s.TypeIs (.ref sl) "slice" :=⟨os,hos,hcs⟩
 unfold getItem
 try with_reducible refine nk ?_
 first|refine g0 (g8 ?_)|skip
 refine g0 (wpAny_sequenceKey ht.typeIs (by decide) (g0 (g07 (name:=Str.ofString "__getitem__") ht.typeIs tx
  (nz tx ht.typeIs entry_tuple_getitem ?_ (args_tuple_getitem _ _)))))
 show wpAny _ _ (Builtin.Tuple.tupleItemsOf (.ref t) >>= _) _ _ s;refine g0 (tupleItemsOf_ ht (g0 (g0y hTs ?_)));rw [gq (by decide)];refine g0 (HT.sliceApplied_gen hs pl pu ?_);rw [w1,w2];show wpAny _ _ (if(((0:Nat):Int)==0&&(1:Int)==1&&(items.size-0)==items.size)=true then _ else _) _ _ s;rw [gq (by simp)];refine g0 ?_;unfold Builtin.Tuple.tupleIsExact;refine g0 (g0y ht.typeIs (g8 ?_))
 first
  | rw [gq (by decide)]
  | skip
 first
  | exact g0 (g0b (g0 (g8 (g8 ⟨_,rfl,g8 h⟩))))
  | exact g0 (g0b (g8 ⟨_,rfl,g8 h⟩))
  | exact g0 (g0 (g0b (g8 (g8 ⟨_,rfl,g8 h⟩))))
end
section
variable{X:Cx}{e:Expr}{es:List Expr}{pos:Pos}{f g:FE}{fa:FA}
def qy7(K:Frag): V->Option Int->Option Int->Hp->VK->Prop:=fun x lo hi H Q=>∃a xs,x=.ref a/\SqT K H a xs/\HT.sIx xs.length 0 lo=0/\HT.sIx xs.length xs.length hi=xs.length/\Q (.ref a) H
theorem qop:SlR X (qy7 X.K):=by
 intro pins s σ H x v vl vu lo hi sl Q I rx hs pl pu h;obtain⟨a,xs,rfl,hx,w1,w2,q⟩:=h;cases rx;obtain⟨its,r,ht,hz⟩:=I.tuple hx;have hlen:its.toArray.size=xs.length:=by rw [gj];exact r.length.symm
 exact⟨"tuple",_,tx.lookup,ht.typeIs,qdw ht hs pl pu (by rw [hlen];exact w1) (by rw [hlen];exact w2) ⟨.ref a,H,I,rfl,q⟩⟩
def cutD(ds:List D)(lo hi:Option Int): List D:=(ds.drop (HT.sIx ds.length 0 lo)).take (HT.sIx ds.length ds.length hi-HT.sIx ds.length 0 lo)
def oSl:D->Option Int->Option Int->Option D
 | .tup ds,lo,hi=>some (.tup (cutD ds lo hi))
 | .lst ds,lo,hi=>some (.lst (cutD ds lo hi))
 | _,_,_=>none
abbrev FO:=Rho->Option (Option Int)
def oNo:FO:=fun _=>some none
def oAt(f:FE): FO:=fun ρ =>(f ρ).bind fun d=>match d with
 | .int i=>some (some i)
 | _=>none
def tDO(K:Frag)(f:FO): TO:=fun σ H Q=>∃F0 H0 F ρ i,RS K F0 H0 F H σ ρ /\ f ρ = some i/\∀F' H',Grow F H F' H'->Q i H'
theorem qmf{o:Option Expr}{t t':TO}(h:PO X o t)(i:∀ σ H Q,t' σ H Q->t σ H Q): PO X o t':=fun pins s σ H Q I q=>h pins s σ H Q I (i σ H Q q)
theorem q4e:PO X none (tDO X.K oNo):=qmf qrq fun σ H Q ⟨F0,H0,F, ρ,i,r,hf,q⟩=>by cases hf;exact q F H (.refl r.fh)
theorem q1i(h:PE X e (tD X.K f)): PO X (some e) (tDO X.K (oAt f)):=qmf (qrr h) fun σ H Q ⟨F0,H0,F, ρ,i,r,hf,q⟩=>by
 obtain⟨d,h1,h2⟩:=g7.mp hf;cases d <;> simp only at h2 <;> first|(cases h2;done)|skip
 cases h2;exact⟨F0,H0,F, ρ,_,r,h1,fun v F' H' g' r'=>⟨_,rep_int.mp r',q F' H' g'⟩⟩
def eSl(f:FE)(lo hi:FO): FE:=fun ρ =>(f ρ).bind fun d=>(lo ρ).bind fun l=>(hi ρ).bind fun h=>oSl d l h
theorem q2k{a:Expr}{lo hi:Option Expr}{fl fh:FO}{p2:Pos}(ha:PE X a (tD X.K f))(hl:PO X lo (tDO X.K fl))(hh:PO X hi (tDO X.K fh)): PE X (.Subscript a (.Slice lo hi none p2) pos) (tD X.K (eSl f fl fh)):=
 jo (qo6 (sl_list.or (sl_tup.or qop)) ha hl hh) fun σ H Q ⟨F0,H0,F, ρ,d,r,hf,q⟩=>by
  obtain⟨x,h1,hf⟩:=g7.mp hf;obtain⟨l,h2,hf⟩:=g7.mp hf;obtain⟨u,h3,h4⟩:=g7.mp hf;refine⟨F0,H0,F, ρ,x,r,h1,fun v F1 H1 g1 r1=>⟨F0,H0,F1, ρ,l,r.grow g1,h2,fun F2 H2 g2=>⟨F0,H0,F2, ρ,u,(r.grow g1).grow g2,h3,fun F3 H3 g3=>?_⟩⟩⟩;have gg:=g1.trans (g2.trans g3);have r3:Rep X.K F3 x v:=r1.mono (g2.ff.trans g3.ff);cases x with
  | tup ds=>
   cases h4;obtain⟨p,xs,rfl,k1,k2⟩:=rep_tup.mp r3;have hlen:=k2.length
   by_cases wh:HT.sIx xs.length 0 l=0/\HT.sIx xs.length xs.length u=xs.length
   ·refine .inr (.inr ⟨p,xs,rfl,qt g3.fh k1,wh.1,wh.2,q _ F3 H3 gg ?_⟩)
    have e:cutD ds l u=ds:=by
     unfold cutD;rw [hlen,wh.1,wh.2,g63,Nat.sub_zero, <- hlen,g5b]
    rw [e];exact r3
   ·refine .inr (.inl ⟨p,xs,rfl,qt g3.fh k1,wh,fun p' hp=>?_⟩)
    have gn:Grow F3 H3 (upd F3 p' (.tup (q3q xs l u))) (upd H3 p' (.tup (q3q xs l u))):=Grow.new g3.fh hp;refine q _ _ _ (gg.trans gn) (rep_tup.mpr ⟨p',_,rfl,SqT.of zi,?_⟩);unfold cutD q3q;rw [hlen];exact((k2.mono gn.ff).drop _).take _
  | lst ds=>
   cases h4;obtain⟨p,xs,rfl,k1,k2⟩:=rep_lst.mp r3;have hlen:=k2.length;refine .inl ⟨p,xs,rfl,g3.fh.seq k1,fun p' hp=>?_⟩;have gn:Grow F3 H3 (upd F3 p' (.lst (q3q xs l u))) (upd H3 p' (.lst (q3q xs l u))):=Grow.new g3.fh hp;refine q _ _ _ (gg.trans gn) (rep_lst.mpr ⟨p',_,rfl,SqL.of zi,?_⟩);unfold cutD q3q;rw [hlen];exact((k2.mono gn.ff).drop _).take _
  | _=>cases h4
def qa4:D->D->Option D
 | .tup xs,.tup ys=>if xs.length+ys.length<=lim then some (.tup (xs++ys)) else none
 | .lst xs,.lst ys=>if xs.length+ys.length<=lim then some (.lst (xs++ys)) else none
 | _,_=>none
theorem qv0:OpR X (binaryOp .Add) (rD X.K qa4):=by
 intro pins s σ H x y v u Q I rx ry h;obtain⟨F,d1,d2,d,fh,r1,r2,ho,q⟩:=h;unfold qa4 at ho
 split at ho
 ·rename_i ds es
  split at ho
  ·rename_i hl
   cases ho;obtain⟨a,xs,rfl,k1,k2⟩:=rep_tup.mp r1;obtain⟨b,ys,rfl,k3,k4⟩:=rep_tup.mp r2
   by_cases hd:ds=[]
   ·subst hd
    cases k2.nil_inv;cases rx;cases ry;obtain⟨i1,v1,⟨⟨c1,dd1,dt1,sl1⟩,o1,e1,n1,t1⟩,_⟩:=I.tuple (qt fh k1);obtain⟨i2,v2,⟨⟨c2,dd2,dt2,sl2⟩,o2,e2,n2,t2⟩,_⟩:=I.tuple (qt fh k3);simp only at e1 t1 e2 t2;subst e1 t1 e2 t2;cases v1;exact g56 ⟨_,o1,rfl⟩ ⟨_,o2,rfl⟩ g57 seq_tuple_add g38 g32 (g2q _ _)
     (tuple_addW0 a b #[] i2.toArray n1 n2 dd1 dd2 sl1 sl2 rfl) ⟨o1,o2,⟨.ref b,H,I,rfl,q _ F H (.refl fh) (by simpa using r2)⟩⟩
   ·refine qrs pins s σ H _ _ v u Q I rx ry ⟨a,b,xs,ys,rfl,rfl,qt fh k1,qt fh k3,fun z=>hd ?_,x8 (by rw [<- k2.length, <- k4.length];exact hl),fun z=>?_,fun z p hp=>?_⟩
    ·have:=k2.length;rw [z] at this;exact g20 this
    ·have e:es=[]:=by have:=k4.length;rw [z] at this;exact g20 this
     subst e;rw [g1u] at q;exact q _ F H (.refl fh) r1
    ·have gn:Grow F H (upd F p (.tup (xs++ys))) (upd H p (.tup (xs++ys))):=Grow.new fh hp
     exact q _ _ _ gn (rep_tup.mpr ⟨p,_,rfl,SqT.of zi,(k2.mono gn.ff).append (k4.mono gn.ff)⟩)
  ·cases ho
 ·rename_i ds es
  split at ho
  ·rename_i hl
   cases ho;obtain⟨a,xs,rfl,k1,k2⟩:=rep_lst.mp r1;obtain⟨b,ys,rfl,k3,k4⟩:=rep_lst.mp r2;cases rx;cases ry;obtain⟨i1,v1,⟨⟨c1,dd1,dt1,sl1⟩,n1,o1,e1,g1,t1⟩,_⟩:=I.list (fh.seq k1);obtain⟨i2,v2,⟨⟨c2,dd2,dt2,sl2⟩,n2,o2,e2,g2,t2⟩,_⟩:=I.list (fh.seq k3);simp only at e1 t1 e2 t2;subst e1 t1 e2 t2;have hz:xs.length+ys.length<=sizeLine:=x8 (by rw [<- k2.length, <- k4.length];exact hl);refine g56 ⟨_,o1,rfl⟩ ⟨_,o2,rfl⟩ noFill_list_add seq_list_add PySem.F.slot_list_add PySem.F.entry_list_add (PySem.F.args_list_add_2 _ _)
    (list_addW a b i1.toArray i2.toArray n1 n2 dd1 dd2 sl1 sl2 (by rw [gj,gj, <- v1.length, <- v2.length];exact hz)) ⟨o1,o2,?_⟩
   have ea:i1.toArray++i2.toArray=(i1++i2).toArray:=by simp
   rw [ea];have gn:Grow F H (upd F s.heap.objs.size (.lst (xs++ys))) (upd H s.heap.objs.size (.lst (xs++ys))):=Grow.new fh I.fresh;exact⟨.ref _,_,I.lnew (t':=s.toks) (v1.append v2) (by rw [ng];exact hz),rfl,q _ _ _ gn (rep_lst.mpr ⟨_,_,rfl,SqL.of zi,(k2.mono gn.ff).append (k4.mono gn.ff)⟩)⟩
  ·cases ho
 ·cases ho
abbrev zh:D->D->Option D:=fun x y=>(oAdd x y).or (qa4 x y)
theorem j3:OpR X (binaryOp .Add) (rD X.K zh):=q7z qun qv0
def flat(d:D): Bool:=(flD d).isSome
def eqF:D->D->Bool
 | .non,.non=>true
 | .bl a,.bl b=>a==b
 | .bl a,.int b=>(if a then 1 else 0)==b
 | .int a,.bl b=>a==(if b then 1 else 0)
 | .int a,.int b=>a==b
 | .str a,.str b=>a==b
 | _,_=>false
def inF(d:D)(ds:List D): Bool:=ds.any fun e=>eqF e d
theorem qe7{K:Frag}{H:Hp}{d e:D}{x y:V}(h1:flat d=true)(h2:flat e=true)(r1:Rep K H d x)(r2:Rep K H e y): eqV x y=eqF d e/\q1c x=true/\q1c y=true:=by
 cases d <;> first|(cases h1;done)|skip
 all_goals (cases e <;> first|(cases h2;done)|skip)
 all_goals (first|(cases rep_non.mp r1)|(cases rep_bl.mp r1)|(cases rep_int.mp r1)|(cases rep_str.mp r1))
 all_goals (first|(cases rep_non.mp r2)|(cases rep_bl.mp r2)|(cases rep_int.mp r2)|(cases rep_str.mp r2))
 all_goals exact⟨rfl,rfl,rfl⟩
theorem qjr{K:Frag}{H:Hp}{d:D}{x:V}(h1:flat d=true)(r1:Rep K H d x): ∀ {ds:List D} {xs:List V},ds.all flat=true->RepL K H ds xs->inV x xs=inF d ds/\q1c x=true/\xs.all q1c=true
 | [],xs,_,r=>by cases r.nil_inv;exact⟨rfl,(qe7 h1 h1 r1 r1).2.1,rfl⟩
 | e :: ds,xs,h2,r=>by
  obtain⟨y,ys,rfl,k1,k2⟩:=r.cons_inv;rw [g3c,gm] at h2;obtain⟨z1,z2,z3⟩:=qjr h1 r1 h2.2 k2;obtain⟨w1,w2,w3⟩:=qe7 h2.1 h1 k1 r1;refine⟨?_,z2,?_⟩
  ·show(eqV y x || inV x ys)=(eqF e d || inF d ds)
   rw [w1,z1]
  ·rw [g3c,w2,z3];rfl
def oIn(neg:Bool): D->D->Option D
 | d,.tup ds=>if flat d&&ds.all flat then some (.bl (if neg then !inF d ds else inF d ds)) else none
 | d,.lst ds=>if flat d&&ds.all flat then some (.bl (if neg then !inF d ds else inF d ds)) else none
 | _,_=>none
theorem qr0{K:Frag}{neg:Bool}{x y:V}{H:Hp}{Q:VK}(h:rD K (oIn neg) x y H Q): rIn K neg x y H Q:=by
 obtain⟨F,d1,d2,d,fh,r1,r2,ho,q⟩:=h;cases d2 <;> simp only [oIn] at ho <;> first|(cases ho;done)|skip
 ·split at ho
  ·rename_i hc
   cases ho;rw [gm] at hc;obtain⟨p,xs,rfl,k1,k2⟩:=rep_tup.mp r2;obtain⟨z1,z2,z3⟩:=qjr hc.1 r1 hc.2 k2;exact⟨p,xs,rfl,.inr (qt fh k1),z2,z3,by rw [z1];exact q _ F H (.refl fh) (rep_bl.mpr rfl)⟩
  ·cases ho
 ·split at ho
  ·rename_i hc
   cases ho;rw [gm] at hc;obtain⟨p,xs,rfl,k1,k2⟩:=rep_lst.mp r2;obtain⟨z1,z2,z3⟩:=qjr hc.1 r1 hc.2 k2;exact⟨p,xs,rfl,.inl (fh.seq k1),z2,z3,by rw [z1];exact q _ F H (.refl fh) (rep_bl.mpr rfl)⟩
  ·cases ho
theorem qx5:OpR X (compareOp .In) (rD X.K (oIn false)):=q2h qm0 fun x y H Q h=>qr0 h
theorem qoq:OpR X (compareOp .NotIn) (rD X.K (oIn true)):=q2h qen fun x y H Q h=>qr0 h
end
mutual
def eqD:D->D->Bool
 | .tup ds,.tup es=>eqL ds es
 | .lst ds,.lst es=>eqL ds es
 | d,e=>eqF d e
def eqL:List D->List D->Bool
 | [],[]=>true
 | d :: ds,e :: es=>eqD d e&&eqL ds es
 | _,_=>false
end
mutual
def okE:D->D->Bool
 | .tup ds,.tup es=>v8 ds es
 | .lst ds,.lst es=>v8 ds es
 | d,e=>flat d&&flat e
def v8:List D->List D->Bool
 | d :: ds,e :: es=>okE d e&&v8 ds es
 | _,_=>true
end
mutual
def vy:D->Nat
 | .tup ds=>jn ds+1
 | .lst ds=>jn ds+1
 | _=>0
def jn:List D->Nat
 | []=>0
 | d :: ds=>max (vy d) (jn ds)
end
def eqJ(ds es:List D)(j:Nat): Bool:=match ds[j]?,es[j]? with
 | some d,some e=>eqD d e
 | _,_=>true
theorem kj:∀(ds es:List D),((List.range (min ds.length es.length)).all (eqJ ds es)&&ds.length==es.length)=eqL ds es
 | [],[]=>by simp [eqL]
 | [],e :: es=>by simp [eqL]
 | d :: ds,[]=>by simp [eqL]
 | d :: ds,e :: es=>by
  have ih:=kj ds es;have e1:min (d :: ds).length (e :: es).length=min ds.length es.length+1:=by simp only [p5];lia
  rw [e1,g0v,g3c,g6e];have e2:(eqJ (d :: ds) (e :: es) ∘ Nat.succ)=eqJ ds es:=by funext j;simp [eqJ]
  have e3:eqJ (d :: ds) (e :: es) 0=eqD d e:=by simp [eqJ]
  have e4:((d :: ds).length==(e :: es).length)=(ds.length==es.length):=by simp
  rw [e2,e3,e4,Bool.and_assoc,ih];simp only [eqL]
theorem qet{d e:D}(h1:flat d=true)(h2:flat e=true): eqD d e=eqF d e:=by
 cases d <;> first|(cases h1;done)|skip
 all_goals (cases e <;> first|(cases h2;done)|skip)
 all_goals simp only [eqD]
section
variable{X:Cx}{pins:List (Addr×Obj)}{σ : St}{F H:Hp}{s:Shared}
theorem qmg{A:Around}{d e:D}{x y:V}{u v:Value}(h1:flat d=true)(h2:flat e=true)(r1:Rep X.K F d x)(r2:Rep X.K F e y)(q1:RelV x u)(q2:RelV y v): SeqAt.EqAt A s u v (eqD d e):=by
 obtain⟨z1,z2,z3⟩:=qe7 h1 h2 r1 r2;rw [qet h1 h2, <- z1];exact qly q1 q2 z2 z3
theorem qeu{d e:D}(h:okE d e=true): (∃ds es,d=.tup ds/\e=.tup es/\v8 ds es=true)\/(∃ds es,d=.lst ds/\e=.lst es/\v8 ds es=true)\/(flat d=true/\flat e=true):=by
 cases d <;> cases e <;> simp only [okE,gm] at h <;> first
  | exact .inl ⟨_,_,rfl,rfl,h⟩
  | exact .inr (.inl ⟨_,_,rfl,rfl,h⟩)
  | exact .inr (.inr h)
theorem qin(I:Inv X pins σ H s)(fh:Same F H): ∀ {d e:D} {x:V},okE d e=true->Rep X.K F d x->Rep X.K F e x->eqD d e=true:=by
 suffices hh:∀n,(∀d e x,sizeOf d<n->okE d e=true->Rep X.K F d x->Rep X.K F e x->eqD d e=true) from fun {d e x}=>hh (sizeOf d+1) d e x (p9 _)
 intro n
 induction n with
 | zero=>intro d e x h;exact absurd h (ni _)
 | succ n ih=>
  intro d e x hn ok r1 r2;have seq:∀(ds es:List D) (xs:List V),sizeOf ds<n->v8 ds es=true->RepL X.K F ds xs->RepL X.K F es xs->eqL ds es=true:=by
   intro ds
   induction ds with
   | nil=>
    intro es xs _ _ k1 k2;cases k1.nil_inv;cases es with
    | nil=>simp only [eqL]
    | cons e es=>obtain⟨_,_,z,_⟩:=k2.cons_inv;cases z
   | cons d ds ihd=>
    intro es xs hs ho k1 k2;obtain⟨x,r,rfl,a1,a2⟩:=k1.cons_inv;cases es with
    | nil=>cases k2.nil_inv
    | cons e es=>
     obtain⟨x',r',z,b1,b2⟩:=k2.cons_inv;cases z;simp only [v8,gm] at ho;have hs1:sizeOf d<n:=by simp only [g25] at hs;lia
     have hs2:sizeOf ds<n:=by simp only [g25] at hs;lia
     simp only [eqL,gm];exact⟨ih d e x hs1 ho.1 a1 b1,ihd es r hs2 ho.2 a2 b2⟩
  rcases qeu ok with⟨ds,es,rfl,rfl,ho⟩|⟨ds,es,rfl,rfl,ho⟩|⟨h1,h2⟩
  ·obtain⟨a,xs,rfl,k1,k2⟩:=rep_tup.mp r1
   obtain⟨b,ys,z,k3,k4⟩:=rep_tup.mp r2;cases z;cases I.tuple_inj (qt fh k1) (qt fh k3);simp only [eqD];exact seq ds es xs (by simp only [D.tup.sizeOf_spec] at hn;lia) ho k2 k4
  ·obtain⟨a,xs,rfl,k1,k2⟩:=rep_lst.mp r1
   obtain⟨b,ys,z,k3,k4⟩:=rep_lst.mp r2;cases z;cases I.list_inj (fh.seq k1) (fh.seq k3);simp only [eqD];exact seq ds es xs (by simp only [D.lst.sizeOf_spec] at hn;lia) ho k2 k4
  ·obtain⟨z1,_⟩:=qe7 h1 h2 r1 r2
   rw [qet h1 h2, <- z1];cases d <;> first|(cases h1;done)|skip
   ·cases rep_non.mp r1;rfl
   ·cases rep_bl.mp r1;simp [eqV]
   ·cases rep_int.mp r1;simp [eqV]
   ·cases rep_str.mp r1;simp [eqV]
theorem q87 (I:Inv X pins σ H s) (fh:Same F H):∀ {d e:D} {x y:V} {u v:Value} (A:Around),okE d e=true->A.units+vy d<cLine->Rep X.K F d x->Rep X.K F e y->RelV x u->RelV y v->SeqAt.EqAt A s u v (eqD d e):=by
 suffices hh:∀n,(∀d e x y u v (A:Around),sizeOf d<n->okE d e=true->A.units+vy d<cLine->Rep X.K F d x->Rep X.K F e y->RelV x u->RelV y v->SeqAt.EqAt A s u v (eqD d e)) from
  fun {d e x y u v} A=>hh (sizeOf d+1) d e x y u v A (p9 _)
 intro n
 induction n with
 | zero=>intro d e x y u v A h;exact absurd h (ni _)
 | succ n ih=>
  intro d e x y u v A hn ok hu r1 r2 q1 q2;have seq:∀(ds es:List D) (xs ys:List V) (us vs:List Value) (A:Around),sizeOf ds<n->v8 ds es=true->A.units+jn ds<cLine->RepL X.K F ds xs->RepL X.K F es ys->Vals xs us->Vals ys vs ->
    ∀j (h1:j<us.length) (h2:j<vs.length),SeqAt.EqAt A s us[j] vs[j] (eqJ ds es j):=by
   intro ds
   induction ds with
   | nil=>
    intro es xs ys us vs A _ _ _ k1 _ w1 _ j h1;cases k1.nil_inv;cases w1;exact absurd h1 (ni _)
   | cons d ds ihd=>
    intro es xs ys us vs A hs ho hu k1 k2 w1 w2 j h1 h2;obtain⟨x,r,rfl,a1,a2⟩:=k1.cons_inv;cases w1 with
    | cons p1 p2=>
     cases es with
     | nil=>cases k2.nil_inv;cases w2;exact absurd h2 (ni _)
     | cons e es=>
      obtain⟨y,r',rfl,b1,b2⟩:=k2.cons_inv;cases w2 with
      | cons p3 p4=>
       simp only [v8,gm] at ho;have hs1:sizeOf d<n:=by simp only [g25] at hs;lia
       have hs2:sizeOf ds<n:=by simp only [g25] at hs;lia
       simp only [jn] at hu;cases j with
       | zero=>
        have e0:eqJ (d :: ds) (e :: es) 0=eqD d e:=by simp [eqJ]
        rw [e0];exact ih d e x y _ _ A hs1 ho.1 (by lia) a1 b1 p1 p3
       | succ j=>
        have e0:eqJ (d :: ds) (e :: es) (j+1)=eqJ ds es j:=by simp [eqJ]
        rw [e0];exact ihd es r r' _ _ A hs2 ho.2 (by lia) a2 b2 p2 p4 j (by simpa using h1) (by simpa using h2)
  rcases qeu ok with⟨ds,es,rfl,rfl,ho⟩|⟨ds,es,rfl,rfl,ho⟩|⟨h1,h2⟩
  ·have rr:=qin I fh ok r1
   obtain⟨a,xs,rfl,k1,k2⟩:=rep_tup.mp r1;obtain⟨b,ys,rfl,k3,k4⟩:=rep_tup.mp r2;cases q1;cases q2
   by_cases hab:a=b
   ·subst hab
    rw [rr r2];exact g5l _
   ·obtain⟨i1,v1,t1,_⟩:=I.tuple (qt fh k1)
    obtain⟨i2,v2,t2,_⟩:=I.tuple (qt fh k3);simp only [vy] at hu;refine SeqAt.EqAt.of_refs hab ?_;have hq:=seq ds es xs ys i1 i2 A.in1 (by simp only [D.tup.sizeOf_spec] at hn;lia) ho (by show A.units+1+jn ds<cLine;lia) k2 k4 v1 v2;have:=SeqAt.RcAt.tuples (A:=A) (e:=eqJ ds es) (show s.heap.IsTuple a i1.toArray from t1) (show s.heap.IsTuple b i2.toArray from t2) (by lia) (fun j h1 h2=>by simpa using hq j (by simpa using h1) (by simpa using h2));simp only [gj, <- v1.length, <- v2.length, <- k2.length, <- k4.length,kj] at this
    simpa only [eqD] using this
  ·have rr:=qin I fh ok r1
   obtain⟨a,xs,rfl,k1,k2⟩:=rep_lst.mp r1;obtain⟨b,ys,rfl,k3,k4⟩:=rep_lst.mp r2;cases q1;cases q2
   by_cases hab:a=b
   ·subst hab
    rw [rr r2];exact g5l _
   ·obtain⟨i1,v1,t1,_⟩:=I.list (fh.seq k1)
    obtain⟨i2,v2,t2,_⟩:=I.list (fh.seq k3);simp only [vy] at hu;refine SeqAt.EqAt.of_refs hab ?_;have hq:=seq ds es xs ys i1 i2 A.in1 (by simp only [D.lst.sizeOf_spec] at hn;lia) ho (by show A.units+1+jn ds<cLine;lia) k2 k4 v1 v2;have hl1:i1.length=ds.length:=by rw [<- v1.length, <- k2.length]
    have hl2:i2.length=es.length:=by rw [<- v2.length, <- k4.length]
    simp only [eqD]
    by_cases hl:ds.length=es.length
    ·have:=SeqAt.RcAt.lists (A:=A) (e:=eqJ ds es) t1.isList t2.isList (by rw [gj,gj,hl1,hl2];exact hl) (by lia) (fun j h1 h2=>by simpa using hq j (by simpa using h1) (by simpa using h2))
     have e1:(List.range i1.toArray.size).all (eqJ ds es)=eqL ds es:=by
      rw [<- kj,gj,hl1, <- hl,g3u];simp
     rw [e1] at this;exact this
    ·have e1:eqL ds es=false:=by rw [<- kj];simp [hl]
     rw [e1];exact SeqAt.RcAt.lists_lengths t1.isList t2.isList (by rw [gj,gj,hl1,hl2];simpa using hl) (by lia)
  ·exact qmg h1 h2 r1 r2 q1 q2
def qev:D->D->Option D
 | .tup ds,.tup es=>if v8 ds es&&decide (jn ds<=60) then some (.bl (eqL ds es)) else none
 | .lst ds,.lst es=>if v8 ds es&&decide (jn ds<=60) then some (.bl (eqL ds es)) else none
 | _,_=>none
theorem qv1(hu:X.A.units+64<cLine): OpR X (compareOp .Eq) (rD X.K qev):=by
 intro pins s σ H x y v u Q I rx ry h;obtain⟨F,d1,d2,d,fh,r1,r2,ho,q⟩:=h;have part:∀ {ds es:List D} {xs ys:List V} {us vs:List Value},v8 ds es=true->jn ds<=60->RepL X.K F ds xs->RepL X.K F es ys->Vals xs us->Vals ys vs ->
   ∀j (h1:j<us.length) (h2:j<vs.length),SeqAt.EqAt X.A.in1 s us[j] vs[j] (eqJ ds es j):=by
  intro ds
  induction ds with
  | nil=>
   intro es xs ys us vs _ _ k1 _ w1 _ j h1;cases k1.nil_inv;cases w1;exact absurd h1 (ni _)
  | cons d ds ihd=>
   intro es xs ys us vs ho hd k1 k2 w1 w2 j h1 h2;obtain⟨x,r,rfl,a1,a2⟩:=k1.cons_inv;cases w1 with
   | cons p1 p2=>
    cases es with
    | nil=>cases k2.nil_inv;cases w2;exact absurd h2 (ni _)
    | cons e es=>
     obtain⟨y,r',rfl,b1,b2⟩:=k2.cons_inv;cases w2 with
     | cons p3 p4=>
      simp only [v8,gm] at ho;simp only [jn] at hd;cases j with
      | zero=>
       have e0:eqJ (d :: ds) (e :: es) 0=eqD d e:=by simp [eqJ]
       rw [e0];exact q87 I fh _ ho.1 (by show X.A.units+1+vy d<cLine;lia) a1 b1 p1 p3
      | succ j=>
       have e0:eqJ (d :: ds) (e :: es) (j+1)=eqJ ds es j:=by simp [eqJ]
       rw [e0];exact ihd ho.2 (by lia) a2 b2 p2 p4 j (by simpa using h1) (by simpa using h2)
 unfold qev at ho
 split at ho
 ·rename_i ds es
  split at ho
  ·rename_i hc
   cases ho;rw [gm] at hc;obtain⟨a,xs,rfl,k1,k2⟩:=rep_tup.mp r1;obtain⟨b,ys,rfl,k3,k4⟩:=rep_tup.mp r2;cases rx;cases ry;obtain⟨i1,v1,t1,_⟩:=I.tuple (qt fh k1);obtain⟨i2,v2,t2,_⟩:=I.tuple (qt fh k3);have hq:=part hc.1 (td hc.2) k2 k4 v1 v2;refine SeqAt.eq_tupleAt (e:=eqJ ds es) (show s.heap.IsTuple a i1.toArray from t1) (show s.heap.IsTuple b i2.toArray from t2) (by lia) (fun j h1 h2=>by simpa using hq j (by simpa using h1) (by simpa using h2)) ?_;simp only [gj, <- v1.length, <- v2.length, <- k2.length, <- k4.length,kj];exact⟨.bl _,H,I,rfl,q _ F H (.refl fh) (rep_bl.mpr rfl)⟩
  ·cases ho
 ·rename_i ds es
  split at ho
  ·rename_i hc
   cases ho;rw [gm] at hc;obtain⟨a,xs,rfl,k1,k2⟩:=rep_lst.mp r1;obtain⟨b,ys,rfl,k3,k4⟩:=rep_lst.mp r2;cases rx;cases ry;obtain⟨i1,v1,t1,_⟩:=I.list (fh.seq k1);obtain⟨i2,v2,t2,_⟩:=I.list (fh.seq k3);have hq:=part hc.1 (td hc.2) k2 k4 v1 v2;have hl1:i1.length=ds.length:=by rw [<- v1.length, <- k2.length]
   have hl2:i2.length=es.length:=by rw [<- v2.length, <- k4.length]
   by_cases hl:ds.length=es.length
   ·refine SeqAt.eq_listAt (e:=eqJ ds es) t1.isList t2.isList (by rw [gj,gj,hl1,hl2];exact hl) (by lia) (fun j h1 h2=>by simpa using hq j (by simpa using h1) (by simpa using h2)) ?_
    have e1:(List.range i1.toArray.size).all (eqJ ds es)=eqL ds es:=by
     rw [<- kj,gj,hl1, <- hl,g3u];simp
    rw [e1];exact⟨.bl _,H,I,rfl,q _ F H (.refl fh) (rep_bl.mpr rfl)⟩
   ·have e1:eqL ds es=false:=by rw [<- kj];simp [hl]
    rw [e1] at q;exact SeqAt.eq_list_lengthsAt t1.isList t2.isList (by rw [gj,gj,hl1,hl2];simpa using hl) (by lia) ⟨.bl _,H,I,rfl,q _ F H (.refl fh) (rep_bl.mpr rfl)⟩
  ·cases ho
 ·cases ho
abbrev oEq:D->D->Option D:=fun x y=>(qoh x y).or (qev x y)
theorem yz(hu:X.A.units+64<cLine): OpR X (compareOp .Eq) (rD X.K oEq):=q7z quq (qv1 hu)
end
def itN:Bool->String
 | true=>"list_iterator"
 | false=>"tuple_iterator"
def SI(b:Bool)(h:Heap)(it l:Addr)(k:Nat): Prop:=∃o,h.get? it=some o/\o.cls=.type (itN b)/\o.data=.fields #[.ref l,.int k 0]
theorem SI.keep{b:Bool}{h h':Heap}{it l:Addr}{k:Nat}(x:SI b h it l k)(e:∀o,h.get? it=some o->h'.get? it=some o): SI b h' it l k:=let⟨o,ho,r⟩:=x; ⟨o,e o ho,r⟩
section
variable{prog:Program}{w:World}{A:Around}{E:Value->Shared->Prop}{s:Shared}
end
section
variable{X:Cx}{pins:List (Addr×Obj)}{σ : St}{H:Hp}{s:Shared}{h':Heap}
end
section
variable{X:Cx}{pos:Pos}{elts:List Expr}{x1:Nat}{tp:Pos}
end
section
variable{X:Cx}{e:Expr}{es:List Expr}{kws:List Keyword}{pos:Pos}{f g:FE}{fa fk:FA}
theorem qmh{t t':TA}(h:PK X kws t)(i:∀ σ H Q,t' σ H Q->t σ H Q): PK X kws t':=fun pos pins s σ H Q I q=>h pos pins s σ H Q I (i σ H Q q)
theorem qv2:PK X [] (tDA X.K qf):=qmh qub fun σ H Q ⟨F0,H0,F, ρ,ds,r,hf,q⟩=>by
 cases hf;exact q [] F H (.refl r.fh) .nil
theorem qs2{nm:Option Str}{kpos:Pos}(ha:PE X e (tD X.K f))(hr:PK X kws (tDA X.K fa)): PK X (⟨nm,e,kpos⟩ :: kws) (tDA X.K (qc f fa)):=
 qmh (qro ha hr) fun σ H Q ⟨F0,H0,F, ρ,ds,r,hf,q⟩=>by
  obtain⟨d,h1,hf⟩:=g7.mp hf;obtain⟨ds',h2,h3⟩:=gw.mp hf;subst h3;refine⟨F0,H0,F, ρ,d,r,h1,fun v F1 H1 g1 r1=>⟨F0,H0,F1, ρ,ds',r.grow g1,h2,fun vs F2 H2 g2 r2=>?_⟩⟩;exact q _ F2 H2 (g1.trans g2) (.cons (r1.mono g2.ff) r2)
def qjs(n m:Nat)(fa fk:FA): FA:=fun ρ =>(fa ρ).bind fun ds=>(fk ρ).bind fun es=>if ds.length=n/\es.length=m then some (ds++es) else none
def q9a{α : Type}(n m:Nat)(us ws:List α): List α :=if us.length=n/\ws.length=m then us++ws else []
def KB(K:Frag)(fd:FuncData)(ps ks:List Str)(n m:Nat): Prop:=KBinds K fd ps ks (q9a n m) (q9a n m)
theorem qx6{K:Frag}{fd:FuncData}{ps ks:List Str}{n m:Nat}(hp:ps≠[])(h:∀(s:Shared) (us ws:List Value),K.In s.heap->us.length=n->ws.length=m->BindsTo s fd ⟨us,ks.zip ws⟩ (ps.zip (us++ws))): KB K fd ps ks n m:=by
 refine⟨fun s us ws hk hl=>?_,fun {vs us zs ws} a b=>?_⟩
 ·unfold q9a at hl ⊢
  split at hl
  ·rename_i z
   rw [gq z];exact h s us ws hk z.1 z.2
  ·exact absurd (g20 hl.symm) hp
 ·unfold q9a
  rw [a.length,b.length]
  split
  ·exact a.append b
  ·exact .nil
theorem qx7{K:Frag}{fd:FuncData}{ps:List Str}{dv:List Value}(n:Nat)(hn:n+dv.length=ps.length)(h:∀(s:Shared) (us:List Value),K.In s.heap->us.length=n->BindsTo s fd ⟨us,[]⟩ (ps.zip (us++dv))): Binds K fd ps dv:=
 fun s us hk hl=>h s us hk (by rw [ng] at hl;omega)
def qb1(ar:Nat)(op:List D->Option D): List D->Option D:=fun ds=>if ds.length=ar then op ds else none
theorem qor{k ar n m:Nat}{fn:Addr}{fd:FuncData}{ps ks:List Str}{op:List D->Option D}{x:Str}{p:Pos}(F:FnOk X.prog X.w X.K X.mg X.base CX0 k fn fd ps (spD X.K ar op))(hr:Room k X.A)(hg:Gl X x)(hm:X.mg x=some (.ref fn))(hk:PySem.W.keepIn X.K (.ref fn)=true)
  (hb:KB X.K fd ps ks n m) (ha:PA X (e :: es) (tDA X.K fa)) (hkw:PK X kws (tDA X.K fk)) (hall:(backToKw pos (keywordEach kws X.env)).all (·.1.isSome)=true:=by rfl) (hks:(backToKw pos (keywordEach kws X.env)).filterMap (·.1)=ks:=by rfl)
  (hdb:(x==("__debug__" : Str))=false:=by decide) (he:starEach (e :: es) X.env=(false,eval e X.env) :: starEach es X.env:=by rfl)
  (hpl:((backTo pos (starEach (e :: es) X.env)).any (·.1) || (backToKw pos (keywordEach kws X.env)).any (·.1.isNone))=false:=by rfl) :
  PE X (.Call (.Name x p) (e :: es) kws pos) (tD X.K (qi (qb1 ar op) (qjs n m fa fk))):=
 jo (qo4 F hr hg hm hk hb qji ha hkw hall hks hdb he hpl) fun σ H Q ⟨F0,H0,Fz, ρ,d,r,hf,q⟩=>by
  obtain⟨ds,h1,h2⟩:=g7.mp hf;obtain⟨ds1,h3,h4⟩:=g7.mp h1;obtain⟨ds2,h5,h6⟩:=g7.mp h4
  split at h6
  ·rename_i hc
   cases h6;unfold qb1 at h2
   split at h2
   ·rename_i hl
    refine⟨F0,H0,Fz, ρ,ds1,r,h3,fun vs F1 H1 g1 r1=>⟨F0,H0,F1, ρ,ds2,r.grow g1,h5,fun zs F2 H2 g2 r2=>?_⟩⟩;have ej:q9a n m vs zs=vs++zs:=gq ⟨by rw [<- r1.length];exact hc.1,by rw [<- r2.length];exact hc.2⟩;show spD X.K ar op (q9a n m vs zs) H2 Q E0;rw [ej];exact⟨F2,ds1++ds2,d,r.sameT (g1.trans g2),(r1.mono g2.ff).append r2,hl,h2,fun v F3 H3 g3 r3=>q v F3 H3 (g1.trans (g2.trans g3)) r3⟩
   ·cases h2
  ·cases h6
end
structure Cal(P:Program)(w:World)(K:Frag)(mg:Str->Option Value)(base:Heap)(x:Str)(k:Nat)(ps:List Str)(ar:Nat)(op:List D->Option D)(fn:Addr)(fd:FuncData): Prop where
 ok:FnOk P w K mg base CX0 k fn fd ps (spD K ar op)
 mg:mg x=some (.ref fn)
 kp:PySem.W.keepIn K (.ref fn)=true
section
variable{X:Cx}{e:Expr}{es:List Expr}{kws:List Keyword}{pos p:Pos}{fa fk:FA}{k ar k':Nat}{fn:Addr}{fd:FuncData}{ps ks:List Str}{op:List D->Option D}{x:Str}
theorem z0(C:Cal X.prog X.w X.K X.mg X.base x k ps ar op fn fd)(b:Binds X.K fd ps [])(hr:Room k' X.A)(hk:k<=k')(hg:Gl X x)(ha:PA X (e :: es) (tDA X.K fa))(hdb:(x==("__debug__" : Str))=false:=by decide)
  (he:starEach (e :: es) X.env=(false,eval e X.env) :: starEach es X.env:=by rfl) (hpl:(backTo pos (starEach es X.env)).any (·.1)=false:=by rfl):PE X (.Call (.Name x p) (e :: es) [] pos) (tD X.K (qi (qq ar [] op) fa)):=
 qij C.ok (hr.mono hk) hg C.mg C.kp b .nil (fun H=>.nil) ha hdb he hpl
theorem qio{dvs:List V}{dds:List D}{dv:List Value}(C:Cal X.prog X.w X.K X.mg X.base x k ps ar op fn fd)(b:Binds X.K fd ps dv)(hd:Vals dvs dv)(hdd:∀H,RepL X.K H dds dvs)(hr:Room k' X.A)(hk:k<=k')(hg:Gl X x)(ha:PA X (e :: es) (tDA X.K fa))(hdb:(x==("__debug__" : Str))=false:=by decide)
  (he:starEach (e :: es) X.env=(false,eval e X.env) :: starEach es X.env:=by rfl) (hpl:(backTo pos (starEach es X.env)).any (·.1)=false:=by rfl):PE X (.Call (.Name x p) (e :: es) [] pos) (tD X.K (qi (qq ar dds op) fa)):=
 qij C.ok (hr.mono hk) hg C.mg C.kp b hd hdd ha hdb he hpl
theorem qs3(C:Cal X.prog X.w X.K X.mg X.base x k ps ar op fn fd){n m:Nat}(b:KB X.K fd ps ks n m)(hr:Room k' X.A)(hk:k<=k')(hg:Gl X x)(ha:PA X (e :: es) (tDA X.K fa))(hkw:PK X kws (tDA X.K fk))(hall:(backToKw pos (keywordEach kws X.env)).all (·.1.isSome)=true:=by rfl)(hks:(backToKw pos (keywordEach kws X.env)).filterMap (·.1)=ks:=by rfl)
  (hdb:(x==("__debug__" : Str))=false:=by decide) (he:starEach (e :: es) X.env=(false,eval e X.env) :: starEach es X.env:=by rfl)
  (hpl:((backTo pos (starEach (e :: es) X.env)).any (·.1) || (backToKw pos (keywordEach kws X.env)).any (·.1.isNone))=false:=by rfl):PE X (.Call (.Name x p) (e :: es) kws pos) (tD X.K (qi (qb1 ar op) (qjs n m fa fk))):=
 qor C.ok (hr.mono hk) hg C.mg C.kp b ha hkw hall hks hdb he hpl
theorem qs4{i:Int}(hg:Gl X x)(hm:∃t,X.mg x=some (.int i t))(hdb:(x==("__debug__" : Str))=false:=by decide): PE X (.Name x p) (tD X.K (eC (.int i))):=by
 obtain⟨t,hm⟩:=hm;exact q6s (qrc hg hm (v:=.int i) ⟨t,rfl⟩ hdb) fun _=>rep_int.mpr rfl
def q5j:D->Option D
 | .int i=>some (.int (-i))
 | _=>none
theorem q88{f:FE}(ha:PE X e (tD X.K f)): PE X (.UnaryOp .USub e pos) (tD X.K (eUn q5j f)):=by
 intro pins s σ H Q I h;obtain⟨F0,H0,F, ρ,d,r,hf,q⟩:=h;obtain⟨d',h1,h2⟩:=g7.mp hf;cases d' <;> simp only [q5j] at h2 <;> first|(cases h2;done)|skip
 cases h2;refine UnaryOp_ (thn (ha pins s σ H (fun v H'=>∃F',Grow F H F' H'/\Rep X.K F' (.int _) v) I ⟨F0,H0,F, ρ,_,r,h1,fun v F' H' g' r'=>⟨F',g',r'⟩⟩) fun v s1 ⟨x,H1,I1,r1,F',g',r'⟩=>?_);cases rep_int.mp r';obtain⟨t,rfl⟩:=r1;exact neg_int ⟨.int _,H1,I1.tok _,⟨_,rfl⟩,q _ F' H1 g' (rep_int.mpr rfl)⟩
end
structure Fun2(K:Frag)(x qual:Str)(st:Stmt)(dV:Value)(f:Addr)(fd:FuncData): Prop where
 ex:∃(oc:Value) (od:Option Addr) (kV doc pm:Value) (an:Option Addr) (cdv ct:Value) (osl:Array (Option Value)),
  fd=PySem.W.fnOf x qual (vx st) (qw st) (qh st) dV kV doc pm an cdv ct/\K.lookup f=some ⟨oc,od,.func fd,osl⟩/\PySem.W.codeIn K cdv qual=true
 kp:PySem.W.keepIn K (.ref f)=true
section
variable{P:Program}{w:World}{K:Frag}{mg:Str->Option Value}{base:Heap}{x qual:Str}{st:Stmt}{dV:Value}{f:Addr}{fd:FuncData}{N ps:List Str}
theorem Fun2.ok{k:Nat}{u:FS}(F:Fun2 K x qual st dV f fd)(S:FnScope N ps (qh st))
  (hb:∀(cdv:Value) (A:Around) (outer:List Env) (s:Shared) (H:Hp) (E:XK),Room k (A.deeper (envOfC qual (qh st) s.heap.objs.size f cdv))->PSs (zy CX0 P w K mg base N qual (qh st) f cdv A outer s H E).nox (qw st) (tDS K u)) :
  FnOk P w K mg base CX0 (k+1) f fd ps (spD K ps.length (zj N.length u)):=by
 obtain⟨oc,od,kV,doc,pm,an,cdv,ct,osl,rfl,lk,hcd⟩:=F.ex;exact qqy lk hcd S fun A outer s H E hr=>hb cdv A outer s H E hr
theorem Fun2.okn{k n ar k1:Nat}{u:FS}(F:Fun2 K x qual st dV f fd)(S:FnScope N ps (qh st))(hn:N.length=n)(ha:ps.length=ar)(hk:k+1=k1)
  (hb:∀(cdv:Value) (A:Around) (outer:List Env) (s:Shared) (H:Hp) (E:XK),Room k (A.deeper (envOfC qual (qh st) s.heap.objs.size f cdv))->PSs (zy CX0 P w K mg base N qual (qh st) f cdv A outer s H E).nox (qw st) (tDS K u)) :
  FnOk P w K mg base CX0 k1 f fd ps (spD K ar (zj n u)):=by
 subst hn ha hk;exact F.ok S hb
theorem q9b{oc:Value}{od an:Option Addr}{osl:Array (Option Value)}{kV doc pm cdv ct:Value}(l:K.lookup f=some ⟨oc,od,.func (PySem.W.fnOf x qual (vx st) (qw st) (qh st) dV kV doc pm an cdv ct),osl⟩)
  (c:PySem.W.codeIn K cdv qual=true) (k:PySem.W.keepIn K (.ref f)=true):Fun2 K x qual st dV f (PySem.W.fnOf x qual (vx st) (qw st) (qh st) dV kV doc pm an cdv ct):=⟨⟨oc,od,kV,doc,pm,an,cdv,ct,osl,rfl,l,c⟩,k⟩
theorem Fun2.bindsTo(F:Fun2 K x qual st dV f fd){P:FuncData->Prop}(h:∀(kV doc pm:Value) (an:Option Addr) (cdv ct:Value),P (PySem.W.fnOf x qual (vx st) (qw st) (qh st) dV kV doc pm an cdv ct)): P fd:=by
 obtain⟨oc,od,kV,doc,pm,an,cdv,ct,osl,rfl,lk,hcd⟩:=F.ex;exact h kV doc pm an cdv ct
end
def qe8(K:Frag): Sp:=fun vs H Q _=>∃(a:Addr) (ns:List Int) (F:Hp),vs=[.ref a]/\SameT F H/\SqL K F a (ns.map V.int)/\ns.length<=63/\∀H',Q (.bl true) H'
theorem qv3{P:Program}{w:World}{K:Frag}{mg:Str->Option Value}{base:Heap}{k:Nat}{f:Addr}{fd:FuncData}{x:Str}{op:List D->Option D}(F:FnOk P w K mg base CX0 k f fd [x] (spD K 1 op))(h:∀ns:List Int,ns.length<=63->op [.lst (ns.map .int)]=some (.bl true)):
  FnOk P w K mg base CX0 k f fd [x] (qe8 K):=F.imp fun vs H Q E ⟨a,ns,Fz,e,fz,hS,hl,q⟩=>by
 subst e;exact⟨Fz,[.lst (ns.map .int)],.bl true,fz,.cons (rep_lst.mpr ⟨a,_,rfl,hS,RepL.ints.mpr rfl⟩) .nil,rfl,h ns hl,fun v F' H' g' r'=>by rw [rep_bl.mp r'];exact q H'⟩
section
variable{X:Cx}{pos:Pos}{f g:FE}{a b:Expr}
abbrev oLt':=oLt
theorem qew:OpR X (compareOp .Lt) (rD X.K oLt'):=qwy
end
section
variable{X:Cx}{pos:Pos}{f g k:FE}{a b c:Expr}
theorem qc5{pins:List (Addr×Obj)}{σ : St}{H:Hp}{s:Shared}(I:Inv X pins σ H s): sysModules<s.heap.objs.size:=
 g0z (by decide) (I.mod.glob.keeps I.bk).lt
def q9c:D->D->Bool
 | .non,.non=>true
 | .bl a,.bl b=>a==b
 | _,_=>false
def oIs(neg:Bool): D->D->Option D
 | x,.non=>some (.bl (if neg then !q9c x .non else q9c x .non))
 | x,.bl b=>some (.bl (if neg then !q9c x (.bl b) else q9c x (.bl b)))
 | _,_=>none
theorem qx8{M:Model}{A:Around}{E:Value->Shared->Prop}{s:Shared}{Q:Value->Shared->Prop}{v:Value}{c:Bool}(hv:∀id,v ≠ .builtin id)(h:Q (.bool (v == .bool c)) s): wpAny M A (compareOp .Is v (.bool c)) Q E s:=by
 cases v <;> first|exact g8 h|exact absurd rfl (hv _)
theorem qv4{K:Frag}{F:Hp}{d:D}{x:V}{v:Value}(r:Rep K F d x)(rv:RelV x v): ∀id,v ≠ .builtin id:=by
 intro id;cases d with
 | non=>cases rep_non.mp r;cases rv;intro z;cases z
 | bl b=>cases rep_bl.mp r;cases rv;intro z;cases z
 | int i=>cases rep_int.mp r;obtain⟨t,rfl⟩:=rv;intro z;cases z
 | str i=>cases rep_str.mp r;obtain⟨t,rfl⟩:=rv;intro z;cases z
 | tup ds=>obtain⟨p,xs,rfl,_⟩:=rep_tup.mp r;cases rv;intro z;cases z
 | lst ds=>obtain⟨p,xs,rfl,_⟩:=rep_lst.mp r;cases rv;intro z;cases z
 | dct ks vs=>obtain⟨p,xs,rfl,_⟩:=rep_dct.mp r;cases rv;intro z;cases z
 | dtt ks vs=>obtain⟨p,xs,ys,ep,rfl,_⟩:=rep_dtt.mp r;cases rv;intro z;cases z
 | dt2 ks=>obtain⟨p,xs,ep,rfl,_⟩:=rep_dt2.mp r;cases rv;intro z;cases z
 | obj C=>obtain⟨p,dx,_,rfl,_⟩:=rep_obj.mp r;cases rv;intro z;cases z
 | exc C _=>obtain⟨p,_,rfl,_⟩:=rep_exc.mp r;cases rv;intro z;cases z
theorem qos{K:Frag}{F:Hp}{d:D}{x:V}{v:Value}(r:Rep K F d x)(rv:RelV x v): (v==Value.none)=q9c d .non:=by
 cases d with
 | non=>cases rep_non.mp r;cases rv;rfl
 | bl b=>cases rep_bl.mp r;cases rv;rfl
 | int i=>cases rep_int.mp r;obtain⟨t,rfl⟩:=rv;rfl
 | str i=>cases rep_str.mp r;obtain⟨t,rfl⟩:=rv;rfl
 | tup ds=>obtain⟨p,xs,rfl,_⟩:=rep_tup.mp r;cases rv;rfl
 | lst ds=>obtain⟨p,xs,rfl,_⟩:=rep_lst.mp r;cases rv;rfl
 | dct ks vs=>obtain⟨p,xs,rfl,_⟩:=rep_dct.mp r;cases rv;rfl
 | dtt ks vs=>obtain⟨p,xs,ys,ep,rfl,_⟩:=rep_dtt.mp r;cases rv;rfl
 | dt2 ks=>obtain⟨p,xs,ep,rfl,_⟩:=rep_dt2.mp r;cases rv;rfl
 | obj C=>obtain⟨p,dx,_,rfl,_⟩:=rep_obj.mp r;cases rv;rfl
 | exc C _=>obtain⟨p,_,rfl,_⟩:=rep_exc.mp r;cases rv;rfl
theorem qs5{K:Frag}{F:Hp}{d:D}{x:V}{v:Value}{c:Bool}(r:Rep K F d x)(rv:RelV x v): (v==Value.bool c)=q9c d (.bl c):=by
 cases d with
 | non=>cases rep_non.mp r;cases rv;rfl
 | bl b=>cases rep_bl.mp r;cases rv;cases b <;> cases c <;> rfl
 | int i=>cases rep_int.mp r;obtain⟨t,rfl⟩:=rv;rfl
 | str i=>cases rep_str.mp r;obtain⟨t,rfl⟩:=rv;rfl
 | tup ds=>obtain⟨p,xs,rfl,_⟩:=rep_tup.mp r;cases rv;rfl
 | lst ds=>obtain⟨p,xs,rfl,_⟩:=rep_lst.mp r;cases rv;rfl
 | dct ks vs=>obtain⟨p,xs,rfl,_⟩:=rep_dct.mp r;cases rv;rfl
 | dtt ks vs=>obtain⟨p,xs,ys,ep,rfl,_⟩:=rep_dtt.mp r;cases rv;rfl
 | dt2 ks=>obtain⟨p,xs,ep,rfl,_⟩:=rep_dt2.mp r;cases rv;rfl
 | obj C=>obtain⟨p,dx,_,rfl,_⟩:=rep_obj.mp r;cases rv;rfl
 | exc C _=>obtain⟨p,_,rfl,_⟩:=rep_exc.mp r;cases rv;rfl
theorem qb2(_hc:X.calm=true): OpR X (compareOp .Is) (rD X.K (oIs false)):=fun pins s σ H x y v u Q I rx ry ⟨F,d1,d2,d,q1,q2,q3,q4,q5⟩=>by
 cases d2 <;> simp only [oIs] at q4 <;> first|(cases q4;done)|skip
 ·cases rep_non.mp q3
  cases ry;refine is_none_gen ⟨.bl _,H,I,rfl,?_⟩;rw [qos q2 rx];cases q4;exact q5 _ F H (.refl q1) (rep_bl.mpr rfl)
 ·cases rep_bl.mp q3
  cases ry;refine qx8 (qv4 q2 rx) ⟨.bl _,H,I,rfl,?_⟩;rw [qs5 q2 rx];cases q4;exact q5 _ F H (.refl q1) (rep_bl.mpr rfl)
end
theorem qc6:fillsNumberSlot (.type "tuple") "mul" = pure false:=
 PySem.fillsNumberSlot_seq (id:="tuple.__mul__") (r:=some (.builtin "tuple.__rmul__")) g2c.lookup (by decide +kernel) F.slot_tuple_rmul.lookup (by decide +kernel)
theorem qjt:seqRepeat? (.type "tuple")=pure (some (.builtin "tuple.__mul__")):=by
 unfold seqRepeat?;rw [PySem.seqSlot_of (T:="tuple") (name:="__mul__") g2c.lookup (by decide +kernel),PySem.seqSlot_of (T:="tuple") (name:="__rmul__") F.slot_tuple_rmul.lookup (by decide +kernel)]
 rfl
theorem qot(i:Int)(t:Tok)(l:Addr)(xs:Array Value)(n:Nat)(dd:Option Addr)(sl:Array (Option Value)):
  Meets (Builtin.«int.__rmul__» ⟨[.int i t,.ref l],[]⟩) (fun _ R s=>s.heap.get? l=some {cls:=.type "tuple",dict:=dd,data:=.seq xs n,slots:=sl}/\R (.ok (.ret Value.notImplemented)) s):=
 .of_wp fun prog w A R s h=>by
  obtain⟨hp,g,d,tk,os⟩:=s;obtain⟨hl,h⟩:=h
  wp_walk
  exact⟨_,rfl,h⟩
theorem qex(i:Int)(t:Tok)(l:Addr)(xs:Array Value)(n:Nat)(dd:Option Addr)(sl:Array (Option Value))(h0:¬(decide (i < -(2 ^ 63)) || decide (i>=2 ^ 63))=true)(h1:(xs.isEmpty || i==1)=true):
  Meets (Builtin.«tuple.__mul__» ⟨[.ref l,.int i t],[]⟩) (fun _ R s=>s.heap.get? l=some {cls:=.type "tuple",dict:=dd,data:=.seq xs n,slots:=sl}/\R (.ok (.ret (.ref l))) s):=
 .of_wp fun prog w A R s h=>by
  obtain⟨hp,g,d,tk,os⟩:=s;obtain⟨hl,h⟩:=h;have f1:=g5c;have f2:=g0g
  wp_walk using ui hl
  refine g3v (mi h0) ?_
  wp_walk using ui hl
  exact⟨_,rfl,h⟩
theorem qey(i:Int)(t:Tok)(l:Addr)(xs:Array Value)(n:Nat)(dd:Option Addr)(sl:Array (Option Value))(h0:¬(decide (i < -(2 ^ 63)) || decide (i>=2 ^ 63))=true)(h1:¬(xs.isEmpty || i==1)=true)(h2:(decide (i<=0) || xs.isEmpty)=true):
  Meets (Builtin.«tuple.__mul__» ⟨[.ref l,.int i t],[]⟩) (fun _ R s=>s.heap.get? l=some {cls:=.type "tuple",dict:=dd,data:=.seq xs n,slots:=sl}/\R (.ok (.ret (.ref s.heap.objs.size))) {s with heap:=s.heap.push {cls:=.type "tuple",data:=.seq #[]} }):=
 .of_wp fun prog w A R s h=>by
  obtain⟨hp,g,d,tk,os⟩:=s;obtain⟨hl,h⟩:=h;have f1:=g5c;have f2:=g0g
  wp_walk using ui hl
  refine g3v (mi h0) ?_
  wp_walk using ui hl
  exact⟨_,rfl,h⟩
theorem qez(i:Int)(t:Tok)(l:Addr)(xs:Array Value)(n:Nat)(dd:Option Addr)(sl:Array (Option Value))(h0:¬(decide (i < -(2 ^ 63)) || decide (i>=2 ^ 63))=true)(h1:¬(xs.isEmpty || i==1)=true)(h2:¬(decide (i<=0) || xs.isEmpty)=true)
  (h3:¬((xs.size:Int)*i>(2 ^ 63-1) / 8)) (h4:¬Builtin.Tuple.tupleTooMany ((xs.size:Int)*i)=true) (h5:((List.replicate i.toNat xs).foldl (· ++ ·) #[]).size<=sizeLine) :
  Meets (Builtin.«tuple.__mul__» ⟨[.ref l,.int i t],[]⟩) (fun _ R s=>s.heap.get? l=some {cls:=.type "tuple",dict:=dd,data:=.seq xs n,slots:=sl}/\R (.ok (.ret (.ref s.heap.objs.size))) {s with heap:=s.heap.push {cls:=.type "tuple",data:=.seq ((List.replicate i.toNat xs).foldl (· ++ ·) #[])} }):=
 .of_wp fun prog w A R s h=>by
  obtain⟨hp,g,d,tk,os⟩:=s;obtain⟨hl,h⟩:=h;have f1:=g5c;have f2:=g0g
  wp_walk using ui hl
  refine g3v (mi h0) ?_
  wp_walk using ui hl
  refine g3v (mi h3) ?_
  wp_walk using ui hl
  exact⟨_,rfl,h⟩
theorem qf0(xs:Array Value): ∀(n:Nat) (acc:Array Value),((List.replicate n xs).foldl (· ++ ·) acc).toList=acc.toList++(List.replicate n xs.toList).flatten
 | 0,acc=>by simp
 | n+1,acc=>by
  rw [g0o,List.foldl_cons,qf0 xs n (acc++xs),g0o,g22,Array.toList_append,g0k]
theorem qd8(xs:List Value)(n:Nat): (List.replicate n xs.toArray).foldl (· ++ ·) #[]=(List.replicate n xs).flatten.toArray:=by
 apply Array.toList_inj.mp;rw [qf0];simp
section
variable{prog:Program}{w:World}{A:Around}{E:Value->Shared->Prop}{s:Shared}
theorem qs6{t:Addr}{vs:List Value}{i:Int}{u:Tok}{Q:Value->Shared->Prop}(ht:IsTup s.heap t vs.toArray)(h0 : -(2 ^ 62)<i)(h1:i<2 ^ 62)(hz:vs.length*i.toNat<=1000000)
  (q1:(vs=[]\/i=1)->Q (.ref t) s) (q2:¬(vs=[]\/i=1)->Q (.ref s.heap.objs.size) {s with heap:=s.heap.push {cls:=.type "tuple",data:=.seq (List.replicate i.toNat vs).flatten.toArray} }) :
  wpAny (model prog w) A (binaryOp .Mult (.ref t) (.int i u)) Q E s:=by
 obtain⟨⟨cls,dd,data,sl⟩,ho,hc,n,hd⟩:=id ht;simp only at hc hd;subst hc hd;have ty:s.TypeIs (.ref t) "tuple" :=⟨_,ho,rfl⟩
 have b0:¬(decide (i < -(2 ^ 63)) || decide (i>=2 ^ 63))=true:=by
  simp only [g0f,n5,not_or]
  constructor <;> lia
 refine wpAny_binaryOp_repeat_ref (T:="tuple") (U:="int") (by decide) ty (fun s'=>typeIs_int s' i u) qc6 F.fills_int_mul F.slot_int_rmul qjt F.slot_int_index.lookup
  (g3s F.slot_int_rmul (typeIs_int s i u) F.entry_int_rmul (F.args_int_rmul_2 _ _) (qot i u t vs.toArray n dd sl) ⟨ho,rfl,ty,?_⟩)
 have em:vs.toArray.isEmpty=true↔vs=[]:=by simp
 by_cases c1:(vs.toArray.isEmpty || i==1)=true
 ·have c1':vs=[]\/i=1:=by simpa using c1
  exact g3s g2c ty g4u (g4i _ _) (qex i u t vs.toArray n dd sl b0 c1) ⟨ho,q1 c1'⟩
 ·have c1':¬(vs=[]\/i=1):=by simpa using c1
  have q:=q2 c1'
  by_cases c2:(decide (i<=0) || vs.toArray.isEmpty)=true
  ·have i0:i<=0:=by
    rcases g0f _ _ ▸ c2 with z|z
    ·exact td z
    ·exact absurd (.inl (em.mp z)) c1'
   have e:(List.replicate i.toNat vs).flatten.toArray = #[]:=by
    rw [show i.toNat=0 by lia];rfl
   rw [e] at q;exact g3s g2c ty g4u (g4i _ _) (qey i u t vs.toArray n dd sl b0 c1 c2) ⟨ho,q⟩
  ·have c2':0<i:=by
    have:¬i<=0:=fun z=>c2 (by rw [gv z];rfl);lia
   have ei:(vs.toArray.size:Int)*i=((vs.length*i.toNat:Nat):Int):=by
    rw [Int.natCast_mul,g1r (by lia),gj]
   have el:(List.replicate i.toNat vs).flatten.length=vs.length*i.toNat:=by
    rw [List.length_flatten,List.map_replicate,g5u,g6f]
   rw [<- qd8] at q;refine g3s g2c ty g4u (g4i _ _) (qez i u t vs.toArray n dd sl b0 c1 c2 ?_ ?_ ?_) ⟨ho,q⟩
   ·rw [ei];lia
   ·rw [ei]
    unfold Builtin.Tuple.tupleTooMany;have:sizeLine=16777216:=g1z;rw [this,n5];lia
   ·rw [qd8,gj,el]
    exact x8 hz
end
section
variable{X:Cx}
def qou:D->D->Option D
 | .tup xs,.int n=>if decide (-(2 ^ 62)<n)&&decide (n<2 ^ 62)&&decide (xs.length*n.toNat<=lim) then some (.tup (List.replicate n.toNat xs).flatten) else none
 | _,_=>none
theorem qf1{xs:List V}{us:List Value}(r:Vals xs us): ∀n:Nat,Vals (List.replicate n xs).flatten (List.replicate n us).flatten
 | 0=>.nil
 | n+1=>by rw [g0o,g0o,g22,g22];exact r.append (qf1 r n)
theorem qf2{K:Frag}{H:Hp}{ds:List D}{xs:List V}(r:RepL K H ds xs): ∀n:Nat,RepL K H (List.replicate n ds).flatten (List.replicate n xs).flatten
 | 0=>.nil
 | n+1=>by rw [g0o,g0o,g22,g22];exact r.append (qf2 r n)
theorem qv5:OpR X (binaryOp .Mult) (rD X.K qou):=fun pins s σ H x y v u Q I rx ry ⟨F,d1,d2,d,q1,q2,q3,q4,q5⟩=>by
 unfold qou at q4
 split at q4
 ·rename_i ds n
  split at q4
  ·rename_i hc
   cases q4;simp only [gm,n5] at hc;obtain⟨⟨c1,c2⟩,c3⟩:=hc;obtain⟨p,xs,rfl,z1,z2⟩:=rep_tup.mp q2;cases rep_int.mp q3;cases rx;obtain⟨t,rfl⟩:=ry;obtain⟨its,r1,p1,hz⟩:=I.tuple (qt q1 z1);have lx:=r1.length;have ld:=z2.length;refine qs6 p1 c1 c2 (by rw [<- lx, <- ld];exact c3) (fun hq=>?_) fun hq=>?_
   ·have e:(List.replicate n.toNat ds).flatten=ds:=by
     rcases hq with z|z
     ·have:ds=[]:=g5j.mp (by rw [ld,lx,z];rfl)
      subst this;simp
     ·subst z;simp [List.replicate]
    rw [e] at q5;exact⟨.ref p,H,I,rfl,q5 _ F H (.refl q1) q2⟩
   ·have hn:H s.heap.objs.size=none:=I.hok.fresh (gi _)
    have rr:=qf1 r1 n.toNat;have el:(List.replicate n.toNat xs).flatten.length=ds.length*n.toNat:=by
     rw [List.length_flatten,List.map_replicate,g5u,g6f,ld]
    refine⟨.ref s.heap.objs.size,_,I.laid (t':=s.toks) (o:=.tup (List.replicate n.toNat xs).flatten) (fun b ob q=>gb _ q) (gi _) ⟨by rw [el];exact x8 c3,_,rr,TupX.new _ _⟩,rfl,?_⟩;have gn:=Grow.new (o:=.tup (List.replicate n.toNat xs).flatten) q1 hn;exact q5 _ _ _ gn (rep_tup.mpr ⟨_,_,rfl,SqT.of zi,(qf2 z2 n.toNat).mono gn.ff⟩)
  ·cases q4
 ·cases q4
def zv:D->D->Option D:=fun x y=>(oMul x y).or (qou x y)
theorem jc:OpR X (binaryOp .Mult) (rD X.K zv):=q7z quo qv5
end
section
variable{prog:Program}{w:World}{A:Around}{E:Value->Shared->Prop}{s:Shared}
end
section
variable{X:Cx}{pos:Pos}{elts:List Expr}{x1:Nat}{tp:Pos}
end
section
variable{X:Cx}{st:Stmt}
def qb3:FS:=fun _=>none
theorem qa5:PS X st (tDS X.K qb3):=fun pins s σ H D I ⟨F0,H0,F, ρ,fl, ρ',r,hf,q⟩=>by cases hf
abbrev oBand:=oI (fun _ _=>true) fun i j=>Builtin.bitAnd i j
abbrev oBor:=oI (fun _ _=>true) fun i j=>Builtin.bitOr i j
theorem q45:OpR X (binaryOp .BitAnd) (rD X.K oBand):=qas qu7
theorem qmi:OpR X (binaryOp .BitOr) (rD X.K oBor):=qas qwl
theorem q89:∀ {l m:List Int},l.Perm m->l.Pairwise (· <= ·)->m.Pairwise (· <= ·)->l=m
 | [],m,p,_,_=>(p.nil_eq).symm ▸ rfl
 | x :: l,[],p,_,_=>by cases p.length_eq
 | x :: l,y :: m,p,.cons h1 h2,.cons k1 k2=>by
  have e:x=y:=by
   have hx:x∈y :: m:=p.mem_iff.mp gc;have hy:y∈x :: l:=p.mem_iff.mpr gc;rcases ml.mp hx with e|hx
   ·exact e
   ·rcases ml.mp hy with e|hy
    ·exact e.symm
    ·exact Int.le_antisymm (h1 y hy) (k1 x hx)
  subst e;rw [q89 (List.perm_cons _ |>.mp p) h2 k2]
theorem q38:∀ {us:List Value} {ns:List Int},IntsAre us ns->Vals (ns.map V.int) us
 | _,_,.nil=>.nil
 | _,_,.cons n t h=>.cons ⟨t,rfl⟩ (q38 h)
theorem boot_sorted:bootBuiltins "sorted" = some (.builtin "sorted"):=by decide +kernel
end
end DL
namespace Srt
end Srt
namespace DL
open PySem PySem.Spec PyProof.Rows L2 Srt PySem.W
variable[Lam][Pin]
set_option maxRecDepth 8000 in
omit [Lam] [Pin] in
theorem qov(l:Addr)(items:Array Value)(n:Nat)(b:Addr)(items2:Array Value)(n2:Nat)(sl:Array (Option Value))(hc0:¬(!items.isEmpty&&Builtin.List.listTooLong (items.size+items2.size))=true)(hc1:items.size<=sizeLine)(hs2:items.size+items2.size<=sizeLine+1):
  Meets (Builtin.«list.extend» ⟨[.ref l,.ref b],[]⟩) (fun _ R s=>s.heap.get? l=some {cls:=.type "list",dict:=none,data:=.seq items n,slots:= #[]}/\s.heap.get? b=some {cls:=.type "list",dict:=none,data:=.seq items2 n2,slots:=sl} /\
   R (.ok (.ret Value.none)) {s with heap:=s.heap.update l (Obj.mapSeq fun x=>x++items2),toks:=s.toks}):=
 .of_wp fun prog w A R s h=>by
  obtain⟨hp,g,d,tk,os⟩:=s;obtain⟨hl,hb,h⟩:=h;have hz':(items++items2).size<=sizeLine+1:=by rw [Array.size_append];exact hs2
  have f3:=sub_list_list
  wp_walk using(g5n hl rfl (hz:=hc1) (_hz':=hz')),g13 hl,g13 hb
  exact⟨_,rfl,h⟩
section
variable{X:Cx}
omit [Lam] [Pin] in
theorem qs7:MtM X "list.extend" (fun x vs H Q=>∃l b xs zs,x=.ref l/\vs=[.ref b]/\H l=some (.lst xs)/\SqL X.K H b zs/\xs.length+zs.length<=sizeLine/\Q .non (upd H l (.lst (xs++zs)))):=by
 intro pins s σ H x vs v us Q I rx rv h;obtain⟨l,b,xs,zs,rfl,rfl,hH,hB,hz,q⟩:=h;cases rx;obtain⟨u,rfl,ru⟩:=rv.one;cases ru;obtain⟨z,its,n,r,hl,e⟩:=I.lstM hH;obtain⟨its2,r2,⟨o,n2,e2,c1,c2,c3⟩,hl2⟩:=I.list hB;obtain⟨oc,od,oda,osl⟩:=o;dsimp only at c1 c2 c3;subst c1 c2 c3;have hl1:=r.length;have hl3:=r2.length;have hsz:its.toArray.size+its2.toArray.size<=sizeLine:=by rw [gj,gj];lia
 have hlong:¬(!its.toArray.isEmpty&&Builtin.List.listTooLong (its.toArray.size+its2.toArray.size))=true:=by
  rw [qo7 hsz,Bool.and_false];exact mh
 refine g3s F.slot_list_extend ⟨_,e,rfl⟩ F.entry_list_extend (F.args_list_extend_2 _ _)
  (qov l its.toArray n b its2.toArray n2 osl hlong (by rw [gj];lia) (by lia)) ⟨e,e2,?_⟩
 refine⟨.non,_,I.lset (its':=its++its2) hH e (by simp) (r.append r2) ?_,rfl,q⟩;rw [ng];lia
def qc7(i:Nat)(f:FE): FS:=fun ρ =>(q85 i ρ).bind fun ds=>(f ρ).bind fun d=>match d with
 | .lst es=>if ds.length+es.length<=lim then some (.nx, ρ.set i (some (.ow (ds++es)))) else none
 | _=>none
theorem qmj{i:Nat}{x:Str}{e:Expr}{f:FE}{px apos cpos pos:Pos}(hv:PE X (.Name x px) (qei i))(he:PE X e (tD X.K f))
  (hbase:attributeBase (.Name x px) "extend" X.env (eval (.Name x px) X.env)=eval (.Name x px) X.env:=by rfl)
  (hfew:((backTo cpos (starEach [e] X.env)).all (fun x=> !x.1)&&(backToKw cpos (keywordEach [] X.env)).all (fun x=>x.1.isSome)&&decide ([e].length+([]:List Keyword).length+(if([]:List Keyword).isEmpty then 0 else 1)<30))=true:=by rfl)
  (hline:(apos.endLine==cpos.line)=true:=by rfl) (hse:starEach [e] X.env=(false,eval e X.env) :: starEach [] X.env:=by rfl)
  (hs:swapsWith (.Call (.Attribute (.Name x px) "extend" apos) [e] [] cpos) none pos.line X.env=pure false:=by rfl):PS X (.Expr (.Call (.Attribute (.Name x px) "extend" apos) [e] [] cpos) pos) (tDS X.K (qc7 i f)):=
 q0o (qia (qqv g5i PySem.F.slot_list_extend PySem.F.type_list_extend qs7 hv (q1m he q48 hse) hbase hfew hline hse rfl) hs) fun D σ H ⟨F0,H0,F, ρ,fl, ρ',r,hf,q⟩=>by
  obtain⟨ds,h1,hf⟩:=g7.mp hf;obtain⟨d,h2,h3⟩:=g7.mp hf;have h1:=qd5 h1;cases d <;> simp only at h3 <;> first|(cases h3;done)|skip
  rename_i es
  split at h3
  ·rename_i hl
   cases h3;obtain⟨a,xs,e1,e2,e3,e4,e5⟩:=r.ow i ds h1;refine⟨.ref a,e1,.inl ⟨rfl,xs,SqL.of e2⟩,F0,H0,F, ρ,_,r,h2,fun v F' H' g' r'=>?_⟩;have r2:=r.grow g';obtain⟨b,zs,rfl,k1,k2⟩:=rep_lst.mp r';refine⟨a,b,xs,zs,rfl,rfl,g'.hh.lst _ _ e2,g'.fh.seq k1,mq (by rw [<- e5.length, <- k2.length];exact hl) (by decide),?_⟩;exact q _ F' _ g'.ff (r2.wrt h1 e1 ((e5.mono g'.ff).append k2))
  ·cases h3
end
end DL
namespace DL
open PySem PySem.Spec PyProof.Rows L2
variable[Lam][Pin]
section
variable{X:Cx}
abbrev oDivB:=oI (fun _ j=>decide (0<j)&&decide (j<1606938044258990275541962092341162602522202993782792835301376)) fun i j=>i / j
theorem qow:OpR X (binaryOp .FloorDiv) (rI (fun _ j=>0<j/\j<1606938044258990275541962092341162602522202993782792835301376) fun i j=>.int (i / j)):=opI fun i j _ _ _ _ _ hc q=>by
 have h1:(0:Int)<j:=hc.1;have h2:j<1606938044258990275541962092341162602522202993782792835301376:=hc.2;refine floordiv_int (by lia) (by rw [g2f i (by lia)];exact q) (.inl (PyProof.noPylong_of_log2 ?_));have h3:j.natAbs<2 ^ 200:=by lia
 exact gr ((Nat.log2_lt (by lia)).mpr h3) (by decide)
theorem q46:OpR X (binaryOp .FloorDiv) (rD X.K oDivB):=q6t qow fun i j h=>q1n h
end
end DL
namespace DL
open PySem PySem.Spec PyProof.Rows L2
section
variable{prog:Program}{w:World}{A:Around}{E:Value->Shared->Prop}
end
variable[Lam][Pin]
section
variable{X:Cx}{es:List Expr}{pos:Pos}
end
end DL
namespace DL
open PySem PySem.Spec PyProof.Rows L2
variable[Lam][Pin]
section
variable{X:Cx}{pins:List (Addr×Obj)}{σ : St}{F H:Hp}{s:Shared}
theorem qb4(I:Inv X pins σ H s)(fh:Same F H)(A:Around): ∀ {ds es:List D} {xs ys:List V} {us vs:List Value},v8 ds es=true->A.units+jn ds<cLine->RepL X.K F ds xs->RepL X.K F es ys->Vals xs us->Vals ys vs ->
   ∀j (h1:j<us.length) (h2:j<vs.length),SeqAt.EqAt A s us[j] vs[j] (eqJ ds es j)
 | [],es,xs,ys,us,vs,_,_,k1,_,w1,_,j,h1,_=>by
  cases k1.nil_inv;cases w1;exact absurd h1 (ni _)
 | d :: ds,es,xs,ys,us,vs,ho,hd,k1,k2,w1,w2,j,h1,h2=>by
  obtain⟨x,r,rfl,a1,a2⟩:=k1.cons_inv;cases w1 with
  | cons p1 p2=>
   cases es with
   | nil=>cases k2.nil_inv;cases w2;exact absurd h2 (ni _)
   | cons e es=>
    obtain⟨y,r',rfl,b1,b2⟩:=k2.cons_inv;cases w2 with
    | cons p3 p4=>
     simp only [v8,gm] at ho;simp only [jn] at hd;cases j with
     | zero=>
      have e0:eqJ (d :: ds) (e :: es) 0=eqD d e:=by simp [eqJ]
      rw [e0];exact q87 I fh A ho.1 (by lia) a1 b1 p1 p3
     | succ j=>
      have e0:eqJ (d :: ds) (e :: es) (j+1)=eqJ ds es j:=by simp [eqJ]
      rw [e0];exact qb4 I fh A ho.2 (by lia) a2 b2 p2 p4 j (by simpa using h1) (by simpa using h2)
def qf3:D->D->Option D
 | .tup ds,.tup es=>if v8 ds es&&decide (jn ds<=60) then some (.bl (!eqL ds es)) else none
 | _,_=>none
theorem qv6(hu:X.A.units+64<cLine): OpR X (compareOp .NotEq) (rD X.K qf3):=by
 intro pins s σ H x y v u Q I rx ry h;obtain⟨F,d1,d2,d,fh,r1,r2,ho,q⟩:=h;unfold qf3 at ho
 split at ho
 ·rename_i ds es
  split at ho
  ·rename_i hc
   cases ho;rw [gm] at hc;obtain⟨a,xs,rfl,k1,k2⟩:=rep_tup.mp r1;obtain⟨b,ys,rfl,k3,k4⟩:=rep_tup.mp r2;cases rx;cases ry;obtain⟨i1,v1,t1,_⟩:=I.tuple (qt fh k1);obtain⟨i2,v2,t2,_⟩:=I.tuple (qt fh k3);have hq:=qb4 I fh X.A.in1 hc.1 (by have:=td hc.2;show X.A.units+1+jn ds<cLine;lia) k2 k4 v1 v2;have:=SeqAt.RcNeAt.tuples (A:=X.A) (e:=eqJ ds es) (show s.heap.IsTuple a i1.toArray from t1) (show s.heap.IsTuple b i2.toArray from t2) (by lia) (fun j h1 h2=>by simpa using hq j (by simpa using h1) (by simpa using h2));simp only [gj, <- v1.length, <- v2.length, <- k2.length, <- k4.length,kj] at this;exact this X.prog X.w _ _ ⟨.bl _,H,I,rfl,q _ F H (.refl fh) (rep_bl.mpr rfl)⟩
  ·cases ho
 ·cases ho
abbrev q4f:D->D->Option D:=fun x y=>(q1r x y).or (qf3 x y)
theorem qf4(hu:X.A.units+64<cLine): OpR X (compareOp .NotEq) (rD X.K q4f):=q7z q3b (qv6 hu)
end
end DL
namespace Srt
end Srt
namespace DL
open PySem PySem.Spec PyProof.Rows L2 Srt PySem.W
variable[Lam][Pin]
structure ClsOk(K:Frag)(x:Str)(C:Addr): Prop where
 ns:PySem.W.nsIn K mainGlobals x=some (some (.ref C))
 makes:PySem.W.makesIn K C=true
 init:PySem.W.findIn K (.ref C) "__init__" = some (some (.builtin "object.__init__"))
 kp:PySem.W.keepIn K (.ref C)=true
 cls:Cls K C
 n:qof K C
structure CalM(P:Program)(w:World)(K:Frag)(mg:Str->Option Value)(base:Heap)(x m:Str)(C:Addr)(k:Nat)(ps:List Str)(ar:Nat)(op:List D->Option D)(fn:Addr)(fd:FuncData): Prop where
 ok:FnOk P w K mg base CX0 k fn fd ps (spD K ar op)
 me:Meth K C m fn
theorem qmk{K:Frag}{C:Addr}{T:String}(hm:PySem.W.kitMeta T=true)(h:PySem.W.subIn K (.ref C) (.type T)=some false): PySem.W.kitOne K (.ref C) (.type T)=some false:=by
 unfold PySem.W.kitOne PySem.W.kitCls;rw [m6 (fun z=>by have:=eq_of_beq z;cases this)];dsimp only;rw [gq hm];exact h
theorem qs8{K:Frag}{C:Addr}(h1:PySem.W.subIn K (.ref C) (.type "int")=some false)(h2:PySem.W.subIn K (.ref C) (.type "bool")=some false)(h3:PySem.W.subIn K (.ref C) (.type "tuple")=some false)
  (h4:PySem.W.subIn K (.ref C) (.type "list")=some false) (h5:PySem.W.subIn K (.ref C) (.type "str")=some false) (h6:PySem.W.subIn K (.ref C) (.type "dict")=some false) :
  ∀T:String,T∈["int","bool","tuple","list","str","dict"]->PySem.W.kitOne K (.ref C) (.type T)=some false:=by
 intro T hT;simp only [ml,g1j,g5d] at hT;rcases hT with rfl|rfl|rfl|rfl|rfl|rfl <;> exact qmk (by decide +kernel) (by assumption)
section
variable{X:Cx}{pins:List (Addr×Obj)}{σ : St}{F H:Hp}{s:Shared}
theorem qml{C:Addr}{Q:VK}(makes:PySem.W.makesIn X.K C=true)(init:PySem.W.findIn X.K (.ref C) "__init__" = some (some (.builtin "object.__init__")))(I:Inv X pins σ H s)
  (h:Q (.ref (s.heap.objs.size+1)) (upd (upd H s.heap.objs.size (.own (s.heap.objs.size+1))) (s.heap.objs.size+1) (.ins C s.heap.objs.size []))):wpAny (model X.prog X.w) X.A (call (.ref C) []) (EP X pins σ Q) X.xe s:=by
 have I2:=Inv.made (C:=C) I;have kin:=I.kIn;obtain⟨hh,g,d,t,os⟩:=s;have Y:=makes_of (M:=model X.prog X.w) kin makes;refine g31 (make_core Y (looks_findIn kin init) (fun self=>Looks.of_pure (oi_bind self)) (.inr ⟨rfl,rfl⟩) ?_);have hx:((hh.push emptyDict).push (instObj C hh.objs.size)).get? (hh.objs.size+1)=some (instObj C hh.objs.size):=by
  have:hh.objs.size+1=(hh.push emptyDict).objs.size:=(u6 _ _).symm;rw [this];exact gz _ rfl
 have t1:Looks (model X.prog X.w) ((hh.push emptyDict).push (instObj C hh.objs.size)) (typeOf (.ref (hh.objs.size+1))) (.ref C):=(Looks.ld hx).andThen .now;have t2:Looks (model X.prog X.w) ((hh.push emptyDict).push (instObj C hh.objs.size)) (isInstance (.ref (hh.objs.size+1)) (.type "object")) true:=t1.andThen (Y.top.keeps fun b o e=>gb _ (gb _ e));refine g2b oi_plain entry_oi (@check_slot (model X.prog X.w) _ _ _ "object.__init__" "object" "__init__" (.ref (hh.objs.size+1)) [] [] _ oi_kind oi_split t2 (oi_args (.ref (hh.objs.size+1))) ?_);rw [oi_run];exact g8 (And.intro rfl ⟨V.ref (hh.objs.size+1),_,I2,rfl,h⟩)
theorem qv7{x:Str}{C:Addr}{p pos:Pos}(O:ClsOk X.K x C)(hm:X.mg x=some (.ref C))(hg:Gl X x)(hdb:(x==("__debug__" : Str))=false:=by decide): PE X (.Call (.Name x p) [] [] pos) (tD X.K (eC (.obj x))):=by
 intro pins s σ H Q I h;obtain⟨F0,H0,F, ρ,d,r,hf,q⟩:=h;cases hf;refine g0x (q94 I hg hm ?_ hdb);refine PySem.W.callWith_K0 I.kIn O.kp (qml O.makes O.init I ?_);have n0:H s.heap.objs.size=none:=I.hok.fresh (gi _);have n1:H (s.heap.objs.size+1)=none:=I.hok.fresh (g0t _);have fh:=r.fh;have g1:Grow F H F (upd H s.heap.objs.size (.own (s.heap.objs.size+1))):=Grow.own fh n0;have n1':upd H s.heap.objs.size (.own (s.heap.objs.size+1)) (s.heap.objs.size+1)=none:=by rw [z8 (uw (p9 _))];exact n1
 have g2:=Grow.new (o:=.ins C s.heap.objs.size []) g1.fh n1';exact q _ _ _ (g1.trans g2) (rep_obj.mpr ⟨s.heap.objs.size+1,s.heap.objs.size,C,rfl,zi,O.ns,O.n⟩)
def isO(x:Str): D->Bool
 | .obj y=>x==y
 | _=>false
def qc8(x:Str)(ar:Nat)(op:List D->Option D)(g:FE)(fa:FA): FE:=fun ρ =>(g ρ).bind fun d=>(fa ρ).bind fun ds=>if isO x d then qq ar [] op (d :: ds) else none
theorem qmm{x m:Str}{C:Addr}{o e:Expr}{es:List Expr}{apos pos:Pos}{k k' ar:Nat}{fn:Addr}{fd:FuncData}{ps:List Str}{op:List D->Option D}{g:FE}{fa:FA}{pl:Sem Bool}(O:ClsOk X.K x C)
  (M:CalM X.prog X.w X.K X.mg X.base x m C k ps ar op fn fd) (b:Binds X.K fd ps []) (hr:Room k' X.A) (hk:k<=k') (ho:PE X o (tD X.K g)) (ha:PA X (e :: es) (tDA X.K fa))
  (hst:starEach (e :: es) X.env=(false,eval e X.env) :: starEach es X.env:=by rfl) (hpl:(backTo pos (starEach es X.env)).any (·.1)=false:=by rfl)
  (ht:eval (.Call (.Attribute o m apos) (e :: es) [] pos) X.env=(do
   let ov <- eval o X.env
   standAt apos.atName
   let(f,first) <- holding [ov] (getMethod ov m pl)
   callWith pos f first (backTo pos (starEach (e :: es) X.env)) (backToKw pos (keywordEach [] X.env))):=by rfl) :
  PE X (.Call (.Attribute o m apos) (e :: es) [] pos) (tD X.K (qc8 x ar op g fa)):=
 jo (qrn (pl:=pl) ho O.cls M.me M.ok (hr.mono hk) b .nil qji ha hst hpl ht) fun σ H Q ⟨F0,H0,F, ρ,d,r,hf,q⟩=>by
  obtain⟨d1,h1,hf⟩:=g7.mp hf;obtain⟨ds,h2,hf⟩:=g7.mp hf
  split at hf
  ·rename_i hi
   obtain rfl:d1=.obj x:=by
    cases d1 <;> simp only [isO] at hi <;> first|(cases hi;done)|skip
    rw [(by simpa using hi:x=_)]
   refine⟨F0,H0,F, ρ,.obj x,r,h1,fun v F1 H1 g1 r1=>?_⟩;obtain⟨a,dx,C',rfl,e1,e2,e3⟩:=rep_obj.mp r1;have hC:C'=C:=by
    have:=e2.symm.trans O.ns;cases this;rfl
   subst hC;refine⟨a,dx,[],rfl,g1.fh _ _ e1,rfl,F0,H0,F1, ρ,ds,r.grow g1,h2,fun vs F2 H2 g2 r2=>?_⟩;unfold qq at hf
   split at hf
   ·rename_i hl
    refine⟨F2,(.obj x :: ds)++[],d,r.sameT (g1.trans g2),(RepL.cons (r1.mono g2.ff) r2).append .nil,hl,hf,fun v F3 H3 g3 r3=>q v F3 H3 (g1.trans (g2.trans g3)) r3⟩
   ·cases hf
  ·cases hf
end
end DL
namespace Js
open PySem
theorem qju(A B:List Nat)(j:Nat)(hA:∀x∈A,x<j)(hB:∀x∈B,j<=x): ∀fuel lo hi,lo<=A.length->A.length<=hi->hi<=A.length+B.length->hi-lo<=fuel ->
  SetTable.below.go (A++B).toArray j fuel lo hi=A.length
 | 0,lo,hi,h1,h2,_,h3=>by unfold SetTable.below.go;lia
 | fuel+1,lo,hi,h1,h2,h4,h3=>by
  unfold SetTable.below.go
  by_cases c:lo<hi
  ·rw [gq c]
   show(if(A++B).toArray.getD ((lo+hi) / 2) j<j then _ else _)=_;have hm:(lo+hi) / 2<hi:=by lia
   have hm2:lo<=(lo+hi) / 2:=by lia
   by_cases d:(lo+hi) / 2<A.length
   ·have e:(A++B).toArray.getD ((lo+hi) / 2) j=A[(lo+hi) / 2]:=by
     simp [Array.getD,g5e d];lia
    rw [e,gq (hA _ (g1k d))];exact qju A B j hA hB fuel _ _ (by lia) h2 h4 (by lia)
   ·have hb:(lo+hi) / 2-A.length<B.length:=by lia
    have e:(A++B).toArray.getD ((lo+hi) / 2) j=B[(lo+hi) / 2-A.length]:=by
     have hlt:(lo+hi) / 2<A.length+B.length:=by lia
     simp [Array.getD,g51 (Nat.le_of_not_lt d),hlt]
    rw [e,m6 (g6a.mpr (hB _ (g1k hb)))];exact qju A B j hA hB fuel _ _ h1 (by lia) (by lia) (by lia)
  ·rw [m6 c];lia
theorem below_at{A B:List Nat}{j:Nat}(hA:∀x∈A,x<j)(hB:∀x∈B,j<=x): SetTable.below (A++B).toArray j=A.length:=by
 unfold SetTable.below;exact qju A B j hA hB _ 0 _ (t6 _) (by simp) (by simp) (by simp)
theorem cut(j:Nat): ∀l:List Nat,l.Pairwise (· < ·)->∃A B,l=A++B/\(∀x∈A,x<j)/\(∀x∈B,j<=x)
 | [],_=>⟨[],[],rfl,by simp,by simp⟩
 | x :: l,h=>by
  by_cases c:x<j
  ·obtain⟨A,B,e,a,b⟩:=cut j l (g0d.mp h).2
   exact⟨x :: A,B,by rw [e];rfl,by intro y hy;rcases ml.mp hy with rfl|hy;exact c;exact a y hy,b⟩
  ·exact⟨[],x :: l,rfl,by simp,by
    intro y hy;rcases ml.mp hy with rfl|hy
    ·lia
    ·have:=(g0d.mp h).1 y hy;lia⟩
theorem q9u{α : Type}(A B:List α)(x : α): SetTable.insertAt (A++B).toArray A.length x=(A++x :: B).toArray:=by
 unfold SetTable.insertAt;apply g6b;simp
theorem has_none(j:Nat): SetTable.has #[] j=false:=by unfold SetTable.has;simp
theorem qf5{t:SetTable}{l:List Nat}{j:Nat}(ep:t.place=l.toArray)(ed:t.dummies = #[])(hr:l.Pairwise (· < ·))(h:j∉l): t.slot j=.empty:=by
 obtain⟨A,B,rfl,hA,hB⟩:=cut j l hr;unfold SetTable.slot;rw [ep,ed,below_at hA hB,has_none];have:((A++B).toArray[A.length]? == some j)=false:=by
  cases B with
  | nil=>simp
  | cons b B=>
   have:b≠j:=fun e=>h (by simp [e]);simp [this]
 simp only [this];rfl
theorem qs9{t:SetTable}{l:List Nat}{j:Nat}(ep:t.place=l.toArray)(ed:t.dummies = #[])(hr:l.Pairwise (· < ·))(h:j∈l): ∃i,t.slot j=.live i:=by
 obtain⟨A,B,rfl,hA,hB⟩:=cut j l hr;unfold SetTable.slot;rw [ep,below_at hA hB];have:((A++B).toArray[A.length]? == some j)=true:=by
  rcases uj.mp h with h|h
  ·have:=hA j h;lia
  ·cases B with
   | nil=>simp at h
   | cons b B=>
    have hb:=hB b (gc ..);have:b=j:=by
     rcases ml.mp h with rfl|h
     ·rfl
     ·have:=(g0d.mp (g1g.mp hr).2.1).1 j h;lia
    simp [this]
 simp only [this, ↓reduceIte];exact⟨_,rfl⟩
def orb:Nat->Nat->Nat
 | 0,i=>i
 | d+1,i=>orb d ((i*5+1)%8)
theorem qsa:∀i<8,∀j<8,∃d<8,orb d i=j:=by decide
theorem qy8{t:SetTable}(hm:t.mask=7){i pt:Nat}(hp:pt<32)(hi:i<8): t.advance {j:=i,more:=0,i:=i,perturb:=pt,dummy:=none} = {j:=(i*5+1)%8,more:=0,i:=(i*5+1)%8,perturb:=0,dummy:=none}:=by
 have e0:pt / 32=0:=by lia
 have e1:SetTable.runEnd 7 ((i*5+1)%8)=(i*5+1)%8:=by unfold SetTable.runEnd;rw [m6 (by lia)]
 unfold SetTable.advance;rw [m6 (by simp),hm];unfold SetTable.leap;simp only [e0,g5f];show({j:=(i*5+1)%8,more:=SetTable.runEnd 7 ((i*5+1)%8)-(i*5+1)%8,i:=(i*5+1)%8,perturb:=0,dummy:=none}:SetTable.Probe)=_;rw [e1,Nat.sub_self]
theorem go7{t:SetTable}{l:List Nat}{h:Int}(ep:t.place=l.toArray)(ed:t.dummies = #[])(hr:l.Pairwise (· < ·))(hm:t.mask=7): ∀(k:Nat) (i pt:Nat),pt<32->i<8->(∃d<k,orb d i∉l) ->
  ∃j,SetTable.probe.go t (fun _=>h+1) h k {j:=i,more:=0,i:=i,perturb:=pt,dummy:=none}=some (.empty j none)/\j∉l/\j<8
 | 0,i,pt,_,_,⟨d,hd,_⟩=>by lia
 | k+1,i,pt,hp,hi,⟨d,hd,hn⟩=>by
  unfold SetTable.probe.go
  by_cases c:i∈l
  ·obtain⟨x,e⟩:=qs9 ep ed hr c
   have hne:(h+1==h)=false:=by simp;lia
   simp only [e,hne,m8, ↓reduceIte];rw [qy8 hm hp hi];refine go7 ep ed hr hm k _ 0 (by lia) (g3w _ (by lia)) ?_;cases d with
   | zero=>exact absurd c hn
   | succ d=>exact⟨d,by lia,hn⟩
  ·simp only [qf5 ep ed hr c]
   exact⟨i,rfl,c,hi⟩
theorem qa6{α : Type}[DecidableEq α]: ∀ {a l:List α},a.Nodup->a ⊆ l->a.length<=l.length
 | [],_,_,_=>by simp
 | x :: a,l,hn,hs=>by
  have hx:x∈l:=hs (gc ..);have h2:a ⊆ l.erase x:=fun y hy=>(List.mem_erase_of_ne (fun e:y=x=>(g09.mp hn).1 (e ▸ hy))).mpr (hs (gf _ hy));have:=qa6 (g09.mp hn).2 h2;rw [List.length_erase_of_mem hx] at this;have:0<l.length:=List.length_pos_of_mem hx;simp only [p5];lia
theorem qjv:∀(l:List Nat),(∀j<8,j∈l)->8<=l.length:=by
 intro l h;have:(List.range 8) ⊆ l:=fun j hj=>h j (n9.mp hj);have h2:=qa6 g2d this
 simpa using h2
theorem qx9{t:SetTable}{l:List Nat}{n:Nat}(ep:t.place=l.toArray)(ed:t.dummies = #[])(hr:l.Pairwise (· < ·))(hm:t.mask=7)(hl:l.length<8)(hn:n<12):
  ∃j,t.freeSlot (n:Int)=some (j,false)/\j∉l/\j<8:=by
 have hb:SetTable.bits (n:Int)=n:=by unfold SetTable.bits;lia
 have hi:n%8<8:=g3w _ (by lia);have hex:∃d<10*SetTable.turns t.mask,orb d (n%8)∉l:=by
  have:∃j,j<8/\j∉l:=g1h fun c=>by
   have:=qjv l (fun j hj=>g1h fun d=>c ⟨j,hj,d⟩);lia
  obtain⟨j,hj,hnj⟩:=this;obtain⟨d,hd,e⟩:=qsa _ hi j hj;refine⟨d,?_,by rw [e];exact hnj⟩;rw [hm];unfold SetTable.turns;lia
 have hst:t.probeStart (n:Int) = {j:=n%8,more:=0,i:=n%8,perturb:=n,dummy:=none}:=by
  unfold SetTable.probeStart;rw [hb,hm];have e1:SetTable.runEnd 7 (n%(7+1))=n%8:=by unfold SetTable.runEnd;rw [m6 (by lia)]
  simp only [e1];simp
 obtain⟨j,e,h1,h2⟩:=go7 (h:=(n:Int)) ep ed hr hm (10*SetTable.turns t.mask) (n%8) n (by lia) hi hex;refine⟨j,?_,h1,h2⟩;unfold SetTable.freeSlot SetTable.probe;rw [hst,e]
 rfl
theorem qv8{t:SetTable}{l:List Nat}{n:Nat}(ep:t.place=l.toArray)(ed:t.dummies = #[])(hr:l.Pairwise (· < ·))(hm:15<=t.mask)(hn:n<12)(hnl:n∉l):
  t.freeSlot (n:Int)=some (n,false):=by
 have hb:SetTable.bits (n:Int)=n:=by unfold SetTable.bits;lia
 have hmod:n%(t.mask+1)=n:=Nat.mod_eq_of_lt (by lia);unfold SetTable.freeSlot SetTable.probe SetTable.probeStart;rw [hb];simp only [hmod];have:10*SetTable.turns t.mask=(10*SetTable.turns t.mask-1)+1:=by unfold SetTable.turns;lia
 rw [this];unfold SetTable.probe.go;simp only [qf5 ep ed hr hnl]
 rfl
def el(p:Nat×Nat): Int×Value:=((p.1:Int),.int (p.1:Int) p.2)
structure Tb(t:SetTable)(ks:List (Nat×Nat)): Prop where
 dm:t.dummies = #[]
 pl:t.plain=true
 nd:(ks.map Prod.fst).Nodup
 lt:∀p∈ks,p.1<12
 sz:t.place.toList.length=ks.length
 rs:t.place.toList.Pairwise (· < ·)
 mz:(t.mask=7/\(∀p∈t.place.toList,p<8))\/((t.mask=15\/t.mask=31\/t.mask=63)/\t.place.toList=ks.map Prod.fst)
theorem Tb.n12{t:SetTable}{ks:List (Nat×Nat)}(T:Tb t ks): ks.length<=12:=by
 have:=qa6 (l:=List.range 12) T.nd (fun x hx=>by
  obtain⟨p,hp,rfl⟩:=md.mp hx;exact n9.mpr (T.lt p hp))
 simpa using this
theorem Tb.fits{t:SetTable}{ks:List (Nat×Nat)}(T:Tb t ks)(h:t.mask=7->ks.length<8): t.fits ks.length=true:=by
 have h1:t.place.size=ks.length:=by rw [<- T.sz];simp
 have h2:=T.n12;unfold SetTable.fits SetTable.fill;rw [T.dm,h1];have:ks.length<=t.mask:=by
  rcases T.mz with⟨e,_⟩|⟨e,_⟩
  ·have:=h e;lia
  ·lia
 simp [this]
theorem toArr(a:Array Nat): a=a.toList.toArray:=by simp
theorem qv9{A B:List Nat}{j:Nat}(h:(A++B).Pairwise (· < ·))(hA:∀x∈A,x<j)(hB:∀x∈B,j<=x)(hj:j∉A++B): (A++j :: B).Pairwise (· < ·):=by
 have hB':∀x∈B,j<x:=fun x hx=>by
  have:=hB x hx;have:x≠j:=fun e=>hj (by rw [<- e];exact n8 _ hx);lia
 obtain⟨a,b,c⟩:=g1g.mp h;refine g1g.mpr ⟨a,g0d.mpr ⟨hB',b⟩,fun x hx y hy=>?_⟩;rcases ml.mp hy with rfl|hy
 ·exact hA x hx
 ·exact c x hx y hy
theorem qox:∀ {l:List Nat},l.Pairwise (· < ·)->l.Nodup:=fun h=>List.Pairwise.imp (fun a=>mf a) h
theorem lay{t:SetTable}{ks:List (Nat×Nat)}(T:Tb t ks){n k:Nat}(hn:n<12)(hnk:n∉ks.map Prod.fst)(h7:t.mask=7->ks.length<7):
  ∃t' ks',layNew t (ks.map el).toArray (n:Int) (.int (n:Int) k)=((ks'.map el).toArray,t',false,false)/\Tb t' ks'/\ks'.Perm ((n,k) :: ks)/\t'.mask=t.mask/\t'.led=t.led/\t'.finger=t.finger/\t'.moves=t.moves:=by
 have key:∃j,t.freeSlot (n:Int)=some (j,false)/\j∉t.place.toList/\((t.mask=7/\j<8)\/((t.mask=15\/t.mask=31\/t.mask=63)/\j=n)):=by
  rcases T.mz with⟨e,_⟩|⟨e,ep⟩
  ·obtain⟨j,h1,h2,h3⟩:=qx9 (n:=n) (toArr t.place) T.dm T.rs e (by rw [T.sz];have:=h7 e;lia) hn
   exact⟨j,h1,h2,.inl ⟨e,h3⟩⟩
  ·exact⟨n,qv8 (toArr t.place) T.dm T.rs (by lia) hn (by rw [ep];exact hnk),by rw [ep];exact hnk,.inr ⟨e,rfl⟩⟩
 obtain⟨j,hf,hj,hm⟩:=key;obtain⟨A,B,eAB,hA,hB⟩:=cut j _ T.rs;have hp:t.place=(A++B).toArray:=by rw [<- eAB]
 have hbel:SetTable.below t.place j=A.length:=by rw [hp];exact below_at hA hB
 have hlen:A.length<=ks.length:=by have:=T.sz;rw [eAB,ng] at this;lia
 let ks':=ks.take A.length++(n,k) :: ks.drop A.length
 let t':SetTable:={t with place:=(A++j :: B).toArray,dummies:= #[]}
 have hput:t.put j=(t',A.length):=by
  unfold SetTable.put;simp only [hbel,T.dm,has_none,m8, ↓reduceIte];rw [hp,q9u]
 have hins:SetTable.insertAt (ks.map el).toArray A.length ((n:Int),Value.int (n:Int) k)=(ks'.map el).toArray:=by
  have e:ks.map el=(ks.take A.length).map el++(ks.drop A.length).map el:=by rw [<- ti,g15]
  have el1:((ks.take A.length).map el).length=A.length:=by simp [hlen]
  have:=q9u ((ks.take A.length).map el) ((ks.drop A.length).map el) ((n:Int),Value.int (n:Int) k);rw [el1] at this;rw [e,this];simp [ks',el]
 have hperm:ks'.Perm ((n,k) :: ks):=by
  have:=@List.perm_middle _ (n,k) (ks.take A.length) (ks.drop A.length);rwa [g15] at this
 have hrs:(A++j :: B).Pairwise (· < ·):=qv9 (by rw [<- eAB];exact T.rs) hA hB (by rw [<- eAB];exact hj);have T':Tb t' ks':=by
  refine⟨rfl,T.pl,?_,?_,?_,by simpa [t'] using hrs,?_⟩
  ·refine((hperm.map Prod.fst).nodup_iff).mpr ?_
   exact g09.mpr ⟨hnk,T.nd⟩
  ·intro p hp
   rcases ml.mp (hperm.mem_iff.mp hp) with rfl|h
   ·exact hn
   ·exact T.lt p h
  ·rw [hperm.length_eq]
   have:=T.sz;rw [eAB] at this;simp only [ng] at this;simp [t'];lia
  ·rcases hm with⟨e,hj8⟩|⟨e,rfl⟩
   ·refine .inl ⟨e,fun p hp=>?_⟩
    have hp':p∈A++j :: B:=by simpa [t'] using hp
    rcases T.mz with⟨_,hq⟩|⟨e',_⟩
    ·rw [eAB] at hq
     rcases uj.mp hp' with h|h
     ·exact hq p (g3p _ h)
     ·rcases ml.mp h with rfl|h
      ·exact hj8
      ·exact hq p (n8 _ h)
    ·lia
   ·refine .inr ⟨e,?_⟩
    rcases T.mz with⟨e',_⟩|⟨_,ep⟩
    ·lia
    ·have e1:A=(ks.map Prod.fst).take A.length:=by rw [<- ep,eAB];simp
     have e2:B=(ks.map Prod.fst).drop A.length:=by rw [<- ep,eAB];simp
     show(A++j :: B).toArray.toList=ks'.map Prod.fst;simp only [ks',ti,gd,g3d,g4o];rw [<- e1, <- e2]
 have h7':t'.mask=7->ks'.length<8:=fun e=>by rw [hperm.length_eq];have:=h7 e;simp;lia
 have hfit:t'.fits (ks'.map el).toArray.size=true:=by
  have:=T'.fits h7'
  simpa using this
 refine⟨t',ks',?_,T',hperm,rfl,rfl,rfl,rfl⟩;unfold layNew;simp only [hf,hput,hins];unfold SetTable.orStandIn;rw [gq hfit,hfit]
 rfl
theorem qoy{mask:Nat}{owner:Array (Option Nat)}{i pt f:Nat}(h:owner.getD i (some 0)=none): SetTable.layClean.free mask owner (f+1) i pt=some i:=by
 unfold SetTable.layClean.free;have hr:SetTable.runEnd mask i+1-i=(SetTable.runEnd mask i-i)+1:=by
  unfold SetTable.runEnd;split <;> lia
 rw [hr,g0v];have:(List.find? (fun k=>(owner.getD (i+k) (some 0)).isNone) (0 :: List.map Nat.succ (List.range (SetTable.runEnd mask i-i))))=some 0:=by
  rw [List.find?_cons];simp only [g5f,h,Option.isNone_none]
 rw [this];rfl
def Own(mask:Nat)(hs:List Nat)(c:Nat)(owner:Array (Option Nat)): Prop:=owner.size=mask+1/\∀j,j<=mask->∀k,owner[j]? = some (some k)↔(k<c/\hs[k]? = some j)
theorem qf6(mask:Nat)(hm:15<=mask)(hs:List Nat)(hnd:hs.Nodup)(hlt:∀x∈hs,x<12): ∀(r:List Nat) (c:Nat) (owner:Array (Option Nat)),hs.drop c=r->c<=hs.length->Own mask hs c owner ->
  ∃ ow,(r.map (Int.ofNat)).foldl (fun acc h=>do
    let(owner,k) <- acc
    let j <- SetTable.layClean.free mask owner (SetTable.turns mask) (SetTable.bits h%(mask+1)) (SetTable.bits h)
    pure (owner.setIfInBounds j (some k),k+1)) (some (owner,c))=some (ow,hs.length)/\Own mask hs hs.length ow
 | [],c,owner,hd,hc,ho=>by
  have:c=hs.length:=by have:=pk List.length hd;simp at this;lia
  subst this;exact⟨owner,rfl,ho⟩
 | x :: r,c,owner,hd,hc,ho=>by
  have hcl:c<hs.length:=by have:=pk List.length hd;simp at this;lia
  have hx:hs[c]? = some x:=by
   have:=pk (fun l=>l[0]?) hd
   simpa using this
  have hxm:x∈hs:=uo hx;have hx12:=hlt x hxm;have hb:SetTable.bits (Int.ofNat x)=x:=by unfold SetTable.bits;simp;lia
  have hmod:x%(mask+1)=x:=Nat.mod_eq_of_lt (by lia);have hnone:owner.getD x (some 0)=none:=by
   have hlt':x<owner.size:=by rw [ho.1];lia
   simp only [Array.getD,hlt', ↓reduceDIte,Array.getInternal_eq_getElem];cases e:owner[x] with
   | none=>rfl
   | some k=>
    have:owner[x]? = some (some k):=by rw [g52 hlt',e]
    obtain⟨h1,h2⟩:=(ho.2 x (by lia) k).mp this;have hkl:k<hs.length:=by lia
    rw [mm hkl] at h2;rw [mm hcl] at hx;have:=(g55 hnd).mp ((gu h2).trans (gu hx).symm);lia
  have hfree:SetTable.layClean.free mask owner (SetTable.turns mask) (SetTable.bits (Int.ofNat x)%(mask+1)) (SetTable.bits (Int.ofNat x))=some x:=by
   rw [hb,hmod];have:SetTable.turns mask=(mask+14)+1:=by unfold SetTable.turns;lia
   rw [this];exact qoy hnone
  rw [gd,List.foldl_cons];have hstep:(do
    let(owner,k) <- some (owner,c)
    let j <- SetTable.layClean.free mask owner (SetTable.turns mask) (SetTable.bits (Int.ofNat x)%(mask+1)) (SetTable.bits (Int.ofNat x))
    pure (owner.setIfInBounds j (some k),k+1):Option (Array (Option Nat)×Nat))=some (owner.setIfInBounds x (some c),c+1):=by
   show(SetTable.layClean.free mask owner (SetTable.turns mask) (SetTable.bits (Int.ofNat x)%(mask+1)) (SetTable.bits (Int.ofNat x))).bind _=_;rw [hfree];rfl
  refine qf6 mask hm hs hnd hlt r (c+1) (owner.setIfInBounds x (some c)) ?_ hcl ⟨by simp [ho.1],fun j hj k=>?_⟩ |> fun⟨ow,a,b⟩=>⟨ow,?_,b⟩
  ·rw [<- List.tail_drop,hd];rfl
  ·rw [Array.getElem?_setIfInBounds]
   have hxs:x<owner.size:=by rw [ho.1];lia
   by_cases e:x=j
   ·subst e
    rw [gq rfl,gq hxs]
    constructor
    ·intro h;have:c=k:=by simpa using h
     subst this;exact⟨by lia,hx⟩
    ·rintro⟨h1,h2⟩
     have hkl:k<hs.length:=by lia
     rw [mm hkl] at h2;rw [mm hcl] at hx;have:=(g55 hnd).mp ((gu h2).trans (gu hx).symm);rw [this]
   ·rw [m6 e,ho.2 j hj k]
    constructor
    ·rintro⟨h1,h2⟩;exact⟨by lia,h2⟩
    ·rintro⟨h1,h2⟩
     refine⟨?_,h2⟩;have:k≠c:=fun e2=>by subst e2;rw [hx] at h2;exact e (gu h2)
     lia
  ·rw [<- a];exact pk (fun z=>List.foldl _ z _) hstep
theorem qf7{mask:Nat}(hm:15<=mask){hs:List Nat}(hnd:hs.Nodup)(hlt:∀x∈hs,x<12): ∃ow,SetTable.layClean mask (hs.map Int.ofNat).toArray=some ow/\Own mask hs hs.length ow:=by
 obtain⟨ow,a,b⟩:=qf6 mask hm hs hnd hlt hs 0 (Array.replicate (mask+1) none) rfl (t6 _) ⟨by simp,fun j hj k=>by simp [Array.getElem?_replicate]⟩;refine⟨ow,?_,b⟩;unfold SetTable.layClean;rw [List.foldl_toArray',a]
 ·rfl
 ·simp
theorem qoz{mask:Nat}{hs:List Nat}(hnd:hs.Nodup)(hlt:∀x∈hs,x<=mask){ow:Array (Option Nat)}(ho:Own mask hs hs.length ow):
  let live:=(List.range (mask+1)).filterMap fun j=>(ow.getD j none).map (j, ·)
  (live.map Prod.fst).Pairwise (· < ·)/\(∀p∈live,hs[p.2]? = some p.1)/\(live.map Prod.snd).Perm (List.range hs.length):=by
 intro live;have hmem:∀p:Nat×Nat,p∈live↔hs[p.2]? = some p.1:=by
  intro p;obtain⟨j,k⟩:=p;simp only [live,g4d,n9,gw];have hg:∀j,j<=mask->(ow.getD j none=some k↔hs[k]? = some j):=fun j hj=>by
   have hlt':j<ow.size:=by rw [ho.1];lia
   have:ow.getD j none=some k↔ow[j]? = some (some k):=by
    simp [Array.getD,hlt']
   rw [this,ho.2 j hj k];exact⟨fun h=>h.2,fun h=>⟨(nj.mp h).1,h⟩⟩
  constructor
  ·rintro⟨j',hj',k',e,e2⟩
   injection e2 with e3 e4
   subst e3;subst e4;exact(hg _ (by lia)).mp e
  ·intro h
   have hj:=hlt j (uo h);exact⟨j,by lia,k,(hg j hj).mpr h,rfl⟩
 have hf:live.map Prod.fst=(List.range (mask+1)).filter (fun j=>(ow.getD j none).isSome):=by
  simp only [live];generalize List.range (mask+1)=l
  induction l with
  | nil=>rfl
  | cons a l ih=>
   rw [g0n,nt];cases e:ow.getD a none with
   | none=>simpa using ih
   | some k=>simpa using ih
 have hpw:(live.map Prod.fst).Pairwise (· < ·):=by
  rw [hf];exact u7 _ g39
 refine⟨hpw,fun p hp=>(hmem p).mp hp,?_⟩;have hn2:(live.map Prod.snd).Nodup:=by
  have h1:=qox hpw;refine mx.mpr ?_;have h1':=mx.mp h1;refine pd ?_ h1';intro p q hp hq hne e;have a:=(hmem p).mp hp;have b:=(hmem q).mp hq;rw [e,b] at a;exact hne (gu a).symm
 refine(g2g hn2 g2d).mpr fun k=>?_;rw [n9,md]
 constructor
 ·rintro⟨p,hp,rfl⟩
  exact(nj.mp ((hmem p).mp hp)).1
 ·intro hk
  exact⟨(hs[k],k),(hmem _).mpr (mm hk),rfl⟩
theorem range_all{α : Type}: ∀l:List α,(List.range l.length).filterMap (l[·]?)=l
 | []=>rfl
 | a :: l=>by
  rw [p5,g0v,g0n];simp only [g0m,g2r];have:((fun x=>(a :: l)[x]?) ∘ Nat.succ)=(l[·]?):=by funext i;simp
  rw [this,range_all l]
theorem qa7{mask f m:Nat}{led:Bool}(hm:mask=15\/mask=31\/mask=63){ks:List (Nat×Nat)}(hnd:(ks.map Prod.fst).Nodup)(hlt:∀p∈ks,p.1<12):
  ∃t order ks',SetTable.laid mask f m led true ((ks.map el).toArray.map (·.1))=some (t,order)/\order.filterMap ((ks.map el).toArray[·]?)=(ks'.map el).toArray/\ks'.Perm ks/\Tb t ks'/\t.mask=mask/\t.led=led /\
   coversAll order ks.length=true:=by
 have hlt':∀x∈ks.map Prod.fst,x<12:=fun x hx=>by obtain⟨p,hp,rfl⟩:=md.mp hx;exact hlt p hp
 obtain⟨ow,a,b⟩:=qf7 (mask:=mask) (by lia) hnd hlt';obtain⟨h1,h2,h3⟩:=qoz hnd (fun x hx=>by have:=hlt' x hx;lia) b;generalize hlv:((List.range (mask+1)).filterMap fun j=>(ow.getD j none).map (j, ·))=live at h1 h2 h3;have ehs:(ks.map el).toArray.map (·.1)=((ks.map Prod.fst).map Int.ofNat).toArray:=by
  simp [el,g4v]
 have h3':(live.map Prod.snd).Perm (List.range ks.length):=by simpa using h3
 let ks':=live.filterMap (fun p=>ks[p.2]?)
 have hk2:∀p∈live,∃q,ks[p.2]? = some q/\q.1=p.1:=fun p hp=>by
  have:=h2 p hp;rw [mj,gw] at this;exact this
 have hfst:ks'.map Prod.fst=live.map Prod.fst:=by
  simp only [ks'];clear h3 h3' h1 hlv h2
  induction live with
  | nil=>rfl
  | cons p l ih=>
   obtain⟨q,e,e2⟩:=hk2 p (gc ..);rw [g0n,e,gd,gd,e2,ih (fun r hr=>hk2 r (gf _ hr))]
 have hperm:ks'.Perm ks:=by
  have e1:ks'=(live.map Prod.snd).filterMap (ks[·]?):=by rw [g2r];rfl
  rw [e1];refine(List.Perm.filterMap _ h3').trans ?_;rw [range_all]
 refine⟨{mask:=mask,place:=(live.map (·.1)).toArray,dummies:= #[],finger:=f,led:=led,moves:=m,plain:=true},(live.map (·.2)).toArray,ks',?_,?_,hperm,?_,rfl,rfl,?_⟩
 ·unfold SetTable.laid
  rw [ehs,a];simp only [Option.bind_eq_bind,g9,hlv]
  rfl
 ·rw [List.filterMap_toArray]
  congr 1
  rw [g2r];have e3:((fun x=>(ks.map el).toArray[x]?) ∘ fun x:Nat×Nat=>x.2)=fun p=>(ks[p.2]?).map el:=by
   funext p;simp
  rw [e3];simp only [ks'];rw [List.map_filterMap]
 ·refine⟨rfl,rfl,?_,?_,?_,?_,.inr ⟨hm,?_⟩⟩
  ·exact((hperm.map Prod.fst).nodup_iff).mpr hnd
  ·exact fun p hp=>hlt p (hperm.mem_iff.mp hp)
  ·have:=pk List.length hfst
   simpa using this.symm
  ·simpa using h1
  ·simpa using hfst.symm
 ·unfold coversAll
  rw [List.isPerm_iff]
  simpa using h3'
theorem qb5{α : Type}: ∀(l:List α) {i:Nat} (hi:i<l.length),([l[i]]++l.eraseIdx i).Perm l
 | [],i,hi=>by simp at hi
 | a :: l,0,hi=>by simp
 | a :: l,i+1,hi=>by
  have:=qb5 l (i:=i) (by simpa using hi);simp only [g5v,List.eraseIdx_cons_succ,g1l,um] at this ⊢;exact(List.Perm.swap _ _ _).trans (List.Perm.cons _ this)
theorem qd9{α : Type}(nx:Nat->Nat): ∀(f k:Nat) (l:List α) (out:Array α),l.length<=f->((pickOrder.go nx f k l out).toList).Perm (out.toList++l)
 | 0,k,l,out,h=>by
  have:l=[]:=by cases l <;> simp_all
  subst this;simp [pickOrder.go]
 | f+1,k,[],out,h=>by simp [pickOrder.go]
 | f+1,k,a :: l,out,h=>by
  have hi:nx k%(a :: l).length<(a :: l).length:=g3w _ (by simp);unfold pickOrder.go;rw [mm hi];refine(qd9 nx f (k+1) _ _ (by rw [List.length_eraseIdx];simp only [hi,tf];simp at h ⊢;lia)).trans ?_;rw [Array.toList_push,g0k];exact List.Perm.append_left _ (qb5 _ hi)
theorem q6c{α : Type}(nx:Nat->Nat)(xs:Array α): ((pickOrder nx xs).toList).Perm xs.toList:=by
 unfold pickOrder;have:=qd9 nx xs.size 0 xs.toList #[] (by simp)
 simpa using this
theorem q5k{n:Nat}(h:8<=n)(h2:n<64): (SetTable.sizeAbove n=16/\n<16)\/(SetTable.sizeAbove n=32/\16<=n/\n<32)\/(SetTable.sizeAbove n=64/\32<=n):=by
 have:∀n<64,8<=n->((SetTable.sizeAbove n=16/\n<16)\/(SetTable.sizeAbove n=32/\16<=n/\n<32)\/(SetTable.sizeAbove n=64/\32<=n)):=by decide +kernel
 exact this n h2 h
abbrev byT(w:World): Bool:=w.params.followText "set-order"
structure SI(w:World)(h:Heap)(a:Addr)(t:SetTable)(ks:List (Nat×Nat)): Prop where
 ob:∃o ep,h.get? a=some o/\o.ExactSet/\o.data=.set (ks.map el).toArray ep t
 tb:Tb t ks
 ld:t.led = !byT w
section
variable{prog:Program}{w:World}{A:Around}{E:Value->Shared->Prop}{s:Shared}{a:Addr}{t:SetTable}{ks:List (Nat×Nat)}
theorem q6z{n:Nat}(h:n<12): (intKind prog w).hash (n:Int)=(n:Int):=by
 have:∀n<12,hashInt ((n:Nat):Int)=((n:Nat):Int):=by decide
 exact this n h
theorem elems(hl:∀p∈ks,p.1<12): ElemsOf (intKind prog w) (ks.map el):=by
 intro e he;obtain⟨p,hp,rfl⟩:=md.mp he;exact⟨⟨(p.1:Int),g3x _ _ _ _,(q6z (hl p hp)).symm⟩,rfl⟩
theorem q70(T:Tb t ks)(h7:t.mask=7->ks.length<8): t.fits (ks.map el).toArray.size=true:=by
 have:=T.fits h7;simpa using this
theorem qsb{n:Nat}(h:n∈ks.map Prod.fst): ∃j,List.findIdx? (fun e=>(intKind prog w).is (n:Int) e.2) (ks.map el)=some j:=by
 obtain⟨p,hp,rfl⟩:=md.mp h;cases e:List.findIdx? (fun e=>(intKind prog w).is (p.1:Int) e.2) (ks.map el) with
 | some j=>exact⟨j,rfl⟩
 | none=>
  have:=g53.mp e (el p) (tu hp);have h2:(intKind prog w).is (p.1:Int) (el p).2=true:=g3x _ _ _ _;rw [h2] at this;exact absurd this (by decide)
theorem qp0{n:Nat}(h:n∉ks.map Prod.fst): List.findIdx? (fun e=>(intKind prog w).is (n:Int) e.2) (ks.map el)=none:=by
 refine g53.mpr fun e he=>?_;obtain⟨p,hp,rfl⟩:=md.mp he;cases e:(intKind prog w).is (n:Int) (el p).2 with
 | false=>rfl
 | true=>
  have:=(intKind prog w).inj (el p).2 _ _ e (g3x _ _ (p.1:Int) p.2);have:n=p.1:=by lia
  exact absurd (tu hp) (this ▸ h)
def Step(t:SetTable)(ks:List (Nat×Nat))(p:Nat×Nat)(t':SetTable)(ks':List (Nat×Nat)): Prop:=
 Tb t' ks'/\t'.led=t.led/\if p.1∈ks.map Prod.fst then ks'=ks/\t'=t else
  ks'.Perm (p :: ks)/\t'.mask=(if(ks.length+1)*5>=t.mask*3 then SetTable.sizeAbove ((ks.length+1)*4)-1 else t.mask)
theorem qsc{h:Heap}{o:Obj}{es es':Array (Int×Value)}{ep:Nat}{t t':SetTable}(ho:h.get? a=some o)(hd:o.data=.set es ep t):
  (h.update a (Obj.putSet es' t')).get? a=some {o with data:=.set es' (ep+1) t'}:=by
 have:=g16 (Obj.putSet es' t') ho (by rw [putSet_of es' t' hd];rfl);rw [putSet_of es' t' hd] at this;exact this
theorem SI.put{h:Heap}{t':SetTable}{ks':List (Nat×Nat)}(S:SI w h a t ks)(T':Tb t' ks')(hl:t'.led=t.led): SI w (h.update a (Obj.putSet (ks'.map el).toArray t')) a t' ks':=by
 obtain⟨o,ep,ho,hx,hd⟩:=S.ob;exact⟨⟨_,_,qsc ho hd,hx,rfl⟩,T',by rw [hl];exact S.ld⟩
theorem size_le(T:Tb t ks): (ks.map el).toArray.size<=sizeLine:=by
 have:=T.n12;rw [g1z];simp;lia
theorem qmn{n k:Nat}{Q:Bool->Shared->Prop}(S:SI w s.heap a t ks)(hn:n<12)(h7:t.mask=7->ks.length<7)
  (h:∀h' t' ks',Heap.SameBut a s.heap h'->SI w h' a t' ks'->Step t ks (n,k) t' ks'->Q (!(decide (n∈ks.map Prod.fst))) {s with heap:=h'}) :
  wpAny (model prog w) A (setAddHashed a (.int (n:Int) k) (n:Int)) Q E s:=by
 obtain⟨o,ep,ho,hx,hd⟩:=id S.ob;have T:=S.tb;have hf:t.fits (ks.map el).toArray.size=true:=q70 T (fun e=>by have:=h7 e;lia);have hel:ElemsOf (intKind prog w) (ks.map el).toArray.toList:=by simpa using elems T.lt
 have hn12:=T.n12;unfold setAddHashed setAddHashedIn;refine nk (g0 (g34 ho hd hf ?_));dsimp only;rw [byScan_of (knd:=intKind prog w) rfl (by unfold scanBound;simp;lia) hel];simp only [↓reduceIte];unfold setAddByScan;refine g0 ?_;refine g0 (g0b ?_);have hsc:=@wpAny_setScan_of prog w Int _ (intKind prog w) A E s a o (ks.map el).toArray ep t (.int (n:Int) k) (n:Int) true;rw [q6z hn] at hsc;refine g0 (hsc (g3x _ _ _ _) ho hd hf hel ?_)
 by_cases hm:n∈ks.map Prod.fst
 ·obtain⟨j,hj⟩:=qsb (prog:=prog) (w:=w) hm
  have hj':List.findIdx? (fun e=>(intKind prog w).is (n:Int) e.2) (ks.map el).toArray.toList=some j:=by simpa using hj
  rw [hj'];dsimp only;refine g8 (g8 ?_);have e:s = {s with heap:=s.heap}:=by cases s;rfl
  have:=h s.heap t ks (g21 a s.heap) S ⟨T,rfl,by rw [gq hm];exact⟨rfl,rfl⟩⟩;rw [gv hm] at this;rw [e];exact this
 ·have hj':List.findIdx? (fun e=>(intKind prog w).is (n:Int) e.2) (ks.map el).toArray.toList=none:=by simpa using qp0 (prog:=prog) (w:=w) hm
  rw [hj'];dsimp only;obtain⟨t1,ks1,hL,T1,p1,m1,l1,f1,v1⟩:=lay T (k:=k) hn hm h7;rw [hL];dsimp only;have hgw:∀(b:Bool) {s₁:Shared} {Q':Unit->Shared->Prop},Q' () s₁->wpAny (model prog w) A (match b with|true=>rule "set.scan.the-table-gave-way" | false=>pure ()) Q' E s₁:=
   fun b s₁ Q' hq=>by cases b <;> first|exact g8 hq|exact g0b hq
  refine g0 (hgw false ?_);rw [T1.pl];simp only [↓reduceIte];rw [hashByValue_scannable 8 rfl];refine g0 (g8 ?_);simp only [plainKind, ↓reduceIte];have S1:SI w (s.heap.update a (Obj.putSet (ks1.map el).toArray t1)) a t1 ks1:=S.put T1 l1;have hsb1:=uf s.heap a (Obj.putSet (ks1.map el).toArray t1);have hlen:ks1.length=ks.length+1:=by rw [p1.length_eq];rfl
  have htf:t1.tooFull=decide ((ks.length+1)*5>=t.mask*3):=by
   unfold SetTable.tooFull SetTable.fill;have:t1.place.size=ks.length+1:=by rw [<- hlen, <- T1.sz];simp
   rw [T1.dm,this,m1];simp
  refine g0 (g23 ho hd ?_ (size_le T1))
  by_cases hfull:(ks.length+1)*5>=t.mask*3
  ·rw [htf,gv hfull]
   simp only [g1i,g2h, ↓reduceIte];have hn1:=T1.n12;have hg:SetTable.grown (ks1.map el).toArray.size=(ks.length+1)*4:=by
    unfold SetTable.grown;simp only [gj,gh,hlen];rw [m6 (by lia)]
   have hsa:SetTable.sizeAbove ((ks.length+1)*4)-1=15\/SetTable.sizeAbove ((ks.length+1)*4)-1=31\/SetTable.sizeAbove ((ks.length+1)*4)-1=63:=by
    have hm7:7<=t.mask:=by rcases T.mz with⟨e,_⟩|⟨e,_⟩ <;> lia
    rcases q5k (n:=(ks.length+1)*4) (by lia) (by lia) with h|h|h <;> lia
   obtain⟨t2,ord,ks2,e2,f2,p2,T2,m2,l2,c2⟩:=qa7 (f:=t1.finger) (m:=t1.movedTo (SetTable.sizeAbove ((ks.length+1)*4)-1)) (led:=t1.led) hsa T1.nd T1.lt;have hrl:t1.relaid ((ks1.map el).toArray.map (·.1)) (SetTable.grown (ks1.map el).toArray.size)=some (t2,ord):=by
    unfold SetTable.relaid;rw [hg,T1.pl];exact e2
   have hlen2:ks2.length=ks1.length:=p2.length_eq;have hra:relayAll t1 (ks1.map el).toArray (SetTable.grown (ks1.map el).toArray.size)=((ks2.map el).toArray,t2,false):=by
    unfold relayAll;rw [hrl];dsimp only;rw [f2];have hc:coversAll ord (ks1.map el).toArray.size=true:=by simpa using c2
    have hft:t2.fits (ks2.map el).toArray.size=true:=q70 T2 (fun e=>by lia);rw [hc,hft];rfl
   rw [hra];dsimp only;refine g0 (hgw false ?_);obtain⟨o1,ep1,ho1,hx1,hd1⟩:=id S1.ob;refine g0 (g23 ho1 hd1 ?_ (size_le T2));refine g8 ?_;dsimp only;refine g8 ?_;have:=h _ t2 ks2 (hsb1.trans (uf _ a _)) (S1.put T2 l2) ⟨T2,l2.trans l1,by
    rw [m6 hm,gq hfull];exact⟨p2.trans p1,m2⟩⟩
   rw [mi hm] at this;exact this
  ·rw [htf,mi hfull]
   simp only [g1i,g2i,m8, ↓reduceIte];refine g8 ?_;have:=h _ t1 ks1 hsb1 S1 ⟨T1,l1,by rw [m6 hm,m6 hfull];exact⟨p1,m1⟩⟩;rw [mi hm] at this;exact g8 this
end
theorem qa8{α β : Type}[DecidableEq α]{f : α -> β}: ∀ {l:List β} {ks:List α},l.Perm (ks.map f)->∃ls:List α,ls.Perm ks/\l=ls.map f
 | [],ks,h=>by
  have:ks=[]:=by simpa using h.symm
  exact⟨[],by rw [this],rfl⟩
 | x :: l,ks,h=>by
  have hx:x∈ks.map f:=h.mem_iff.mp (gc ..);obtain⟨p,hp,rfl⟩:=md.mp hx;have h1:=List.perm_cons_erase hp;have h2:(f p :: l).Perm (f p :: (ks.erase p).map f):=h.trans (h1.map f);obtain⟨ls,a,e⟩:=qa8 (List.Perm.cons_inv h2);exact⟨p :: ls,(List.Perm.cons _ a).trans h1.symm,by rw [e];rfl⟩
section
variable{prog:Program}{w:World}{A:Around}{E:Value->Shared->Prop}{s:Shared}{a b:Addr}{t u:SetTable}{ks ls:List (Nat×Nat)}
theorem SI.state{Q:(Array (Int×Value)×Nat×SetTable)->Shared->Prop}(S:SI w s.heap a t ks)(h7:t.mask=7->ks.length<8)
  (h:∀ep,(∃o,s.heap.get? a=some o/\o.ExactSet/\o.data=.set (ks.map el).toArray ep t)->Q ((ks.map el).toArray,ep,t) s):wpAny (model prog w) A (setState a) Q E s:=by
 obtain⟨o,ep,ho,hx,hd⟩:=S.ob;exact g34 ho hd (q70 S.tb h7) (h ep ⟨o,ho,hx,hd⟩)
theorem SI.keep{h h':Heap}(S:SI w h a t ks)(e:∀o,h.get? a=some o->h'.get? a=some o): SI w h' a t ks:=by
 obtain⟨o,ep,ho,r⟩:=S.ob;exact⟨⟨o,ep,e o ho,r⟩,S.tb,S.ld⟩
theorem qb6{es:Array (Int×Value)}{t':SetTable}{ord:Array Nat}{es':Array (Int×Value)}{α : Type}{F:Array (Int×Value)×SetTable->Sem α}{Q : α -> Shared->Prop}(e:ord.filterMap (es[·]?)=es')(hs:es'.size=es.size)
  (h:wpAny (model prog w) A (F (es',t')) Q E s) :
  wpAny (model prog w) A ((do
   let some (t,order):=some (t',ord)|unsupported "internal:set-table-without-room"
   let es':=order.filterMap (es[·]?)
   if es'.size != es.size then unsupported "internal:set-table-lost-an-element"
   pure (es',t):Sem (Array (Int×Value)×SetTable)) >>= F) Q E s:=by
 refine g0 ?_;dsimp only;rw [e];have:(es'.size != es.size)=false:=by simp [hs]
 rw [this];simp only [m8, ↓reduceIte];exact g8 h
theorem qp1{wanted:Nat}{Q:Unit->Shared->Prop}(S:SI w s.heap a t ks)(h7:t.mask=7->ks.length<8)(hw:8<=wanted)(hw2:wanted<64)
  (h:∀h' t' ks',Heap.SameBut a s.heap h'->SI w h' a t' ks'->t'.mask=SetTable.sizeAbove wanted-1->ks'.Perm ks->Q () {s with heap:=h'}) :
  wpAny (model prog w) A (setRelay a wanted) Q E s:=by
 unfold setRelay;refine g0 (S.state h7 fun ep ⟨o,ho,hx,hd⟩=>?_);dsimp only;have hc:=q5k hw hw2;have hsz:¬(SetTable.sizeAbove wanted>sizeLine):=by rw [g1z];lia
 rw [m6 hsz];obtain⟨t2,ord,ks2,e2,f2,p2,T2,m2,l2,c2⟩:=qa7 (f:=t.finger) (m:=t.movedTo (SetTable.sizeAbove wanted-1)) (led:=t.led) (mask:=SetTable.sizeAbove wanted-1) (by lia) S.tb.nd S.tb.lt;have hrl:t.relaid ((ks.map el).toArray.map (·.1)) wanted=some (t2,ord):=by
  unfold SetTable.relaid;rw [S.tb.pl];exact e2
 rw [hrl];refine qb6 f2 (by simp [p2.length_eq]) ?_;dsimp only;refine g23 ho hd ?_ (size_le T2);exact h _ t2 ks2 (uf _ a _) (S.put T2 l2) m2 p2
theorem wp_walk{Q:Array (Int×Value)->Shared->Prop}(S:SI w s.heap a t ks)(h7:t.mask=7->ks.length<8)
  (h:∀ls:List (Nat×Nat),ls.Perm ks->Q (ls.map el).toArray s):wpAny (model prog w) A (setWalk a) Q E s:=by
 unfold setWalk;refine g0 (S.state h7 fun ep _=>?_);dsimp only;unfold setsByText;refine g0 (g0 (t8 (g8 ?_)))
 by_cases hb:byT w=true
 ·refine pf (fun _=>?_) (fun c=>absurd hb c)
  refine g0 (t8 (g8 ?_));have hp:=q6c ((⟨(model prog w).prog,(model prog w).w.params⟩:Setting).params.setOrder a ep) (ks.map el).toArray;generalize pickOrder ((⟨(model prog w).prog,(model prog w).w.params⟩:Setting).params.setOrder a ep) (ks.map el).toArray=xs at hp;have hp':xs.toList.Perm (ks.map el):=by simpa using hp
  obtain⟨ls,hl,e⟩:=qa8 hp';have:=h ls hl;rw [<- e] at this;exact this
 ·refine pf (fun c=>absurd c hb) (fun _=>?_)
  refine pf (fun c=>?_) (fun _=>?_)
  ·have c':(!t.plain&&decide ((ks.map el).toArray.size>1))=true:=c
   rw [S.tb.pl] at c';simp at c'
  ·have hld:t.led=true:=by rw [S.ld];simpa using hb
   show wpAny _ _ ((do if !t.led&&(ks.map el).toArray.size>1 then unsupported "set:maker-not-led" : Sem Unit) >>= fun _=>pure (ks.map el).toArray) _ _ _;rw [hld];simp only [uh,g46,m8, ↓reduceIte];exact g0 (g8 (g8 (h ks (g64 _))))
end
section
variable{prog:Program}{w:World}{A:Around}{E:Value->Shared->Prop}{s:Shared}{a b:Addr}{t u:SetTable}{ks ls:List (Nat×Nat)}
theorem qmo{os:List Addr}{f:Option Addr}{Q:Array (Int×Value)->Shared->Prop}(S:SI w s.heap a t ks)(h7:t.mask=7->ks.length<8)
  (h:∀ls:List (Nat×Nat),ls.Perm ks->Q (ls.map el).toArray s):wpAny (model prog w) A (setWalkUnseen a os f) Q E s:=by
 unfold setWalkUnseen;refine g0 (S.state h7 fun ep _=>?_);dsimp only;refine g0 ?_;unfold setsByText;refine g0 (t8 (g8 ?_));dsimp only;refine pf (fun _=>?_) (fun c=>?_)
 ·exact wp_walk S h7 h
 ·refine absurd ?_ c
  have:t.led = !(model prog w).w.params.followText "set-order" :=S.ld;rw [this,S.tb.pl];cases(model prog w).w.params.followText "set-order" <;> simp
theorem qip{ep:Nat}{ob:Obj}{each:Sem Unit}(hab:a≠b)(hob:∀ {s':Shared} {Q:(Array (Int×Value)×Nat×SetTable)->Shared->Prop},s'.heap.get? b=some ob->Q ((ls.map el).toArray,ep,u) s'->wpAny (model prog w) A (setState b) Q E s')
  (hea:∀ {s':Shared} {Q:Unit->Shared->Prop},s'.heap.get? b=some ob->Q () s'->wpAny (model prog w) A each Q E s') :
  ∀(r:List (Nat×Nat)) (s:Shared) (t:SetTable) (ks:List (Nat×Nat)) (Q:Unit->Shared->Prop),(∀p∈r,p.1<12)->SI w s.heap a t ks->(ks.length+r.length)*5<t.mask*3->s.heap.get? b=some ob ->
  (∀h' t' ks',Heap.SameBut a s.heap h'->SI w h' a t' ks'->t'.mask=t.mask->(∀n,n∈ks'.map Prod.fst↔n∈ks.map Prod.fst\/n∈r.map Prod.fst)->ks'.length<=ks.length+r.length->Q () {s with heap:=h'}) ->
  wpAny (model prog w) A (forIn (r.map el) PUnit.unit fun(x:Int×Value) (_:PUnit)=>do
   let _ <- holding [x.2] (setAddHashed a x.2 x.1)
   each
   if(<- setState b).2.1 != ep then unsupported "set.changed-during-merge"
   pure (ForInStep.yield PUnit.unit)) Q E s
 | [],s,t,ks,Q,hr,S,hm,hb,h=>by
  simp only [g02,List.forIn_nil];refine g8 ?_;have:=h s.heap t ks (g21 _ _) S rfl (fun n=>by simp) (by simp);exact this
 | p :: r,s,t,ks,Q,hr,S,hm,hb,h=>by
  simp only [gd,g3t];have hp:=hr p (gc ..);have hml:(ks.length+1+r.length)*5<t.mask*3:=by simp only [p5] at hm;lia
  refine g0 ?_;refine g0 (nk (qmn (n:=p.1) (k:=p.2) S hp (fun e=>by lia) fun h' t' ks' hsb S' st=>?_));have hb':h'.get? b=some ob:=by rw [hsb.2 b (fun e=>hab e.symm)];exact hb
  obtain⟨T',l',c⟩:=st;have hlen:ks'.length<=ks.length+1/\t'.mask=t.mask/\(∀n,n∈ks'.map Prod.fst↔n∈ks.map Prod.fst\/n=p.1):=by
   split at c
   ·rename_i hin
    obtain⟨rfl,rfl⟩:=c;exact⟨by lia,rfl,fun n=>⟨.inl,fun h=>h.elim id (fun e=>e ▸ hin)⟩⟩
   ·obtain⟨c1,c2⟩:=c
    rw [m6 (by lia)] at c2;refine⟨by rw [c1.length_eq];simp,c2,fun n=>?_⟩;rw [(c1.map Prod.fst).mem_iff,gd,ml];exact Or.comm
  refine g0 (hea (s':={s with heap:=h'}) hb' ?_);refine g0 (hob (s':={s with heap:=h'}) hb' ?_);dsimp only;rw [m6 (by simp)];refine g8 ?_;refine qip hab hob hea r {s with heap:=h'} t' ks' Q (fun q hq=>hr q (gf _ hq)) S' (by rw [hlen.2.1];lia) hb' fun h2 t2 ks2 sb2 S2 m2 i2 l2=>?_;refine h h2 t2 ks2 (hsb.trans sb2) S2 (m2.trans hlen.2.1) (fun n=>?_) (by simp only [p5];lia);rw [i2 n,hlen.2.2 n,gd,ml,or_assoc]
theorem qsd{m:Nat}{Q:Unit->Shared->Prop}(S:SI w s.heap a t ks)(h7:t.mask=7->ks.length<8)(hm:m<=12)
  (h:∀h' t' ks',Heap.SameBut a s.heap h'->SI w h' a t' ks'->ks'.Perm ks->(ks.length+m)*5<t'.mask*3 ->
   ((ks.length+m)*5<t.mask*3/\t'.mask=t.mask\/t'.mask=SetTable.sizeAbove ((ks.length+m)*2)-1/\t.mask*3<=(ks.length+m)*5)->Q () {s with heap:=h'}) :
  wpAny (model prog w) A (setRoomFor a m) Q E s:=by
 unfold setRoomFor;refine g0 (S.state h7 fun ep _=>?_);dsimp only;have hsz:t.place.size=ks.length:=by rw [<- S.tb.sz];simp
 have hfl:t.fill=ks.length:=by unfold SetTable.fill;rw [S.tb.dm,hsz];simp
 have hn:=S.tb.n12;unfold SetTable.roomFor;rw [hfl,hsz];have hmk:=S.tb.mz
 by_cases c:(ks.length+m)*5>=t.mask*3
 ·rw [gq c]
  dsimp only;refine qp1 S h7 (by rcases hmk with⟨e,_⟩|⟨e,_⟩ <;> lia) (by lia) fun h' t' ks' sb S' m' p'=>?_;have hc:=q5k (n:=(ks.length+m)*2) (by rcases hmk with⟨e,_⟩|⟨e,_⟩ <;> lia) (by lia);exact h h' t' ks' sb S' p' (by lia) (.inr ⟨m',c⟩)
 ·rw [m6 c]
  dsimp only;refine g8 ?_;exact h s.heap t ks (g21 _ _) S (g64 _) (by lia) (.inl ⟨by lia,rfl⟩)
theorem qf8{each:Sem Unit}{Q:Unit->Shared->Prop}(hab:a≠b)(S:SI w s.heap a t ks)(hbm:ks=[]->t.mask=7)(h7:t.mask=7->ks.length<8)(U:SI w s.heap b u ls)(hu:ls.length<5->u.mask=7)(hu7:u.mask=7->ls.length<8)
  (hea:∀ {s':Shared} {Q:Unit->Shared->Prop},s'.heap.get? b=s.heap.get? b->Q () s'->wpAny (model prog w) A each Q E s')
  (h:∀h' t' ks',Heap.SameBut a s.heap h'->SI w h' a t' ks'->(t'.mask=7->ks'.length<8)->(∀n,n∈ks'.map Prod.fst↔n∈ks.map Prod.fst\/n∈ls.map Prod.fst)->(ks=[]->ks'=[]->t'.mask=7)->Q () {s with heap:=h'}) :
  wpAny (model prog w) A (setMerge a b each) Q E s:=by
 unfold setMerge;have hne:(a==b)=false:=by simpa using hab
 rw [hne];simp only [m8, ↓reduceIte];have hn:=S.tb.n12;have hnu:=U.tb.n12;refine g0 (U.state hu7 fun ep ⟨o,ho,hx,hd⟩=>?_);dsimp only
 by_cases he:ls=[]
 ·subst he
  have:((([]:List (Nat×Nat)).map el).toArray).isEmpty=true:=rfl;rw [gq this];refine g8 ?_;exact h s.heap t ks (g21 _ _) S h7 (fun n=>by simp) (fun e _=>hbm e)
 ·have:((ls.map el).toArray).isEmpty=false:=by cases ls <;> simp_all
  rw [this];simp only [m8, ↓reduceIte];have hsz:((ls.map el).toArray).size=ls.length:=by simp
  rw [hsz];refine g0 (qsd S h7 hnu fun h1 t1 ks1 sb1 S1 p1 r1 q1=>?_);have U1:SI w h1 b u ls:=U.keep fun o e=>by rw [sb1.2 b (fun e=>hab e.symm)];exact e
  have ho1:h1.get? b=some o:=by rw [sb1.2 b (fun e=>hab e.symm)];exact ho
  have hl1:ks1.length=ks.length:=p1.length_eq;have hpos:0<ls.length:=List.length_pos_iff.mpr he;refine g0 (SI.state (s:={s with heap:=h1}) S1 (fun e=>by lia) fun ep1 ⟨o1,ho1',hx1,hd1⟩=>?_);dsimp only;have hfl:t1.fill=ks.length:=by unfold SetTable.fill;rw [S1.tb.dm, <- hl1, <- S1.tb.sz];simp
  unfold SetTable.road;rw [hfl,U.tb.dm]
  by_cases hk:ks=[]
  ·subst hk
   have hk1:ks1=[]:=by simpa using hl1
   subst hk1;simp only [g5o,g35,m8, ↓reduceIte];have hld:(t1.led&&u.led) = !byT w:=by rw [S1.ld,U.ld];simp
   have hpl:(t1.plain&&u.plain)=true:=by rw [S1.tb.pl,U.tb.pl];rfl
   by_cases hmk:t1.mask=u.mask
   ·have hc:((t1.mask==u.mask)&&(#[]:Array Nat).isEmpty)=true:=by simp [hmk]
    rw [hc];simp only [↓reduceIte];refine g23 (s:={s with heap:=h1}) ho1' hd1 ?_ (size_le U.tb);rw [hld,hpl];have T':Tb {u with dummies:= #[],finger:=t1.finger,led:= !byT w,moves:=t1.moves,plain:=true} ls:=⟨rfl,rfl,U.tb.nd,U.tb.lt,U.tb.sz,U.tb.rs,U.tb.mz⟩
    refine h _ _ ls (sb1.trans (uf _ a _)) (S1.put T' (by rw [S1.ld])) hu7 (fun n=>by simp) (fun _ e=>absurd e he)
   ·have hc:((t1.mask==u.mask)&&(#[]:Array Nat).isEmpty)=false:=by simp [hmk]
    rw [hc];simp only [m8, ↓reduceIte];have ht7:=hbm rfl;have hm1:t1.mask=15\/t1.mask=31\/t1.mask=63:=by
     rcases S1.tb.mz with⟨e,_⟩|⟨e,_⟩
     ·exfalso
      have:ls.length<5:=by rw [e] at r1;simp at r1;lia
      exact hmk (e.trans (hu this).symm)
     ·exact e
    obtain⟨t2,ord,ks2,e2,f2,p2,T2,m2,l2,c2⟩:=qa7 (f:=t1.finger) (m:=t1.moves) (led:=t1.led&&u.led) (mask:=t1.mask) hm1 U.tb.nd U.tb.lt;rw [hpl,e2];refine qb6 f2 (by simp [p2.length_eq]) ?_;dsimp only;refine g23 (s:={s with heap:=h1}) ho1' hd1 ?_ (size_le T2);refine h _ t2 ks2 (sb1.trans (uf _ a _)) (S1.put T2 (by rw [l2,hld,S1.ld])) (fun e=>by lia) (fun n=>?_) (fun _ e=>?_)
    ·rw [(p2.map Prod.fst).mem_iff];simp
    ·rw [e] at p2;exact absurd (by simpa using p2.symm) he
  ·have hfn:(ks.length != 0)=true:=by simp [hk]
   rw [hfn];simp only [↓reduceIte];refine g0 (qmo (s:={s with heap:=h1}) U1 hu7 fun xs px=>?_);rw [<- g2s];have hxl:xs.length=ls.length:=px.length_eq;have key:=qip (prog:=prog) (w:=w) (A:=A) (E:=E) (ls:=ls) (u:=u) (ep:=ep) (ob:=o) (each:=each) hab (fun {s'} {Q'} e q=>g34 e hd (q70 U.tb hu7) q) (fun {s'} {Q'} e q=>hea (by rw [e,ho]) q)
    xs {s with heap:=h1} t1 ks1 (fun _ s'=>wpAny (model prog w) A (pure ()) Q E s') (fun p hp=>U.tb.lt p (px.mem_iff.mp hp)) S1 (by rw [hl1,hxl];exact r1) ho1 (fun h2 t2 ks2 sb2 S2 m2 i2 l2=>?_)
   ·exact g0 key
   ·refine g8 ?_
    refine h h2 t2 ks2 (sb1.trans sb2) S2 (fun e=>by lia) (fun n=>?_) (fun e=>absurd e hk);rw [i2 n,(p1.map Prod.fst).mem_iff,(px.map Prod.fst).mem_iff]
end
theorem qf9:entryFor table "set.__or__" = some Builtin.«frozenset.__or__» :=
 entryFor_alias (id':="frozenset.__or__") (by kernel_rfl) rfl (by decide +kernel) (by kernel_rfl)
theorem qiq:isSubtype (.type "set") (.type "set")=pure true:=by rw [g26];kernel_rfl
section
variable{prog:Program}{w:World}{A:Around}{E:Value->Shared->Prop}{s:Shared}{a b:Addr}{t u:SetTable}{ks ls:List (Nat×Nat)}
theorem SI.typeIs(S:SI w s.heap a t ks): s.TypeIs (.ref a) "set" :=let⟨o,_,ho,hc,_⟩:=S.ob; ⟨o,ho,hc.1⟩
def yk(w:World): Obj:={cls:=.type "set",dict:=none,data:=.set #[] 0 (.fresh 0 0 (!byT w))}
theorem qp2{led:Bool}: Tb (.fresh 0 0 led) []:=⟨rfl,rfl,by simp,by simp,by simp [SetTable.fresh],by simp [SetTable.fresh],.inl ⟨rfl,by simp [SetTable.fresh]⟩⟩
theorem qfa{h:Heap}(ho:h.get? a=some (yk w)): SI w h a (.fresh 0 0 (!byT w)) []:=⟨⟨_,0,ho,⟨rfl,rfl,rfl⟩,rfl⟩,qp2,rfl⟩
theorem qmp{Q:Value->Shared->Prop}(h:Q (.ref s.heap.objs.size) {s with heap:=s.heap.push (yk w)}): wpAny (model prog w) A (newSet (.type "set")) Q E s:=by
 unfold newSet setsByText;refine g0 (g0 (t8 (g8 ?_)));dsimp only;simp only [newObj];exact g0 (wpAny_alloc (g8 h))
theorem qfb(S:SI w s.heap a t ks){Q:Bool->Shared->Prop}(h:Q true s): wpAny (model prog w) A (Builtin.Frozenset.isAnySet (.ref a)) Q E s:=by
 unfold Builtin.Frozenset.isAnySet;show wpAny _ _ (isInstance (.ref a) (.type "set") >>= fun b=>_) _ _ _;refine g0 (g0q S.typeIs qiq ?_);exact g8 h
theorem qxa{Q:Value->Shared->Prop}(hab:a≠b)(S:SI w s.heap a t ks)(hs:ks.length<5->t.mask=7)(hs7:t.mask=7->ks.length<8)(U:SI w s.heap b u ls)(hu:ls.length<5->u.mask=7)(hu7:u.mask=7->ls.length<8)
  (h:∀h' t' ks',(∀c o,c<s.heap.objs.size->s.heap.get? c=some o->h'.get? c=some o)->SI w h' s.heap.objs.size t' ks'->(t'.mask=7->ks'.length<8)->(∀n,n∈ks'.map Prod.fst↔n∈ks.map Prod.fst\/n∈ls.map Prod.fst)->Q (.ref s.heap.objs.size) {s with heap:=h'}) :
  wpAny (model prog w) A (binaryOp .BitOr (.ref a) (.ref b)) Q E s:=by
 refine wpAny_binaryOp_same S.typeIs U.typeIs F.fills_set_or F.slot_set_or (nz F.slot_set_or S.typeIs qf9 ?_ (F.args_set_or_2 _ _));have hla:a<s.heap.objs.size:=let⟨o,_,ho,_⟩:=S.ob;m9 ho
 have hlb:b<s.heap.objs.size:=let⟨o,_,ho,_⟩:=U.ob;m9 ho
 show wpAny _ _ ((Builtin.Frozenset.slot1 "__or__" ⟨[.ref a,.ref b],[]⟩) >>= _) _ _ _;refine g0 (g8 ?_);dsimp only;refine g0 ?_;show wpAny _ _ (Builtin.Frozenset.isAnySet (.ref a) >>= _) _ _ _;refine g0 (qfb S ?_);refine qfb U ?_;simp only [uh,m8, ↓reduceIte];refine g0 (g8 ?_);refine g0 ?_;show wpAny _ _ (Builtin.Frozenset.copyOf a >>= _) _ _ _;refine g0 ?_;unfold Builtin.Frozenset.copyOf Builtin.Frozenset.baseOf;refine g0 (g0 (g0q S.typeIs qiq (g8 ?_)));simp only [↓reduceIte];refine g0 (qmp ?_);refine g0 (g8 ?_);have hget:(s.heap.push (yk w)).get? s.heap.objs.size=some (yk w):=gz _ rfl;have old:∀c o,s.heap.get? c=some o->(s.heap.push (yk w)).get? c=some o:=fun c o e=>gb _ e;refine g0 (qf8 (s:={s with heap:=s.heap.push (yk w)}) (uw hla) (qfa hget) (fun _=>rfl) (fun _=>by simp) (S.keep (old a)) hs hs7 (fun _ q=>g8 q) fun h1 t1 ks1 sb1 S1 z1 i1 g1=>?_);refine g8 ?_;have old1:∀c o,c<s.heap.objs.size->s.heap.get? c=some o->h1.get? c=some o:=fun c o hc e=>by
  rw [sb1.2 c (mf hc)];exact old c o e
 have hbne:((Value.ref b) != (Value.ref a))=true:=by simp [n4 hab]
 rw [gq hbne];have U1:SI w h1 b u ls:=U.keep fun o e=>old1 b o hlb e;refine g0 (g8 ?_);refine g0 (nk ?_);unfold Builtin.Frozenset.updateFrom;refine g0 (qfb (s:={s with heap:=h1}) U1 ?_);simp only [↓reduceIte];refine g0 (g8 ?_);unfold Builtin.Frozenset.merge;obtain⟨ob,ep,hob,hxb,hdb⟩:=id U1.ob;refine g0 (wpAny_setEpoch_of (s:={s with heap:=h1}) hob hdb (q70 U.tb hu7) ?_);refine qf8 (s:={s with heap:=h1}) (uw hlb) S1 (fun e=>g1 rfl e) z1 U1 hu hu7 (fun {s'} {Q'} e q=>?_) fun h2 t2 ks2 sb2 S2 z2 i2 g2=>?_
 ·unfold Builtin.Frozenset.unchanged
  have e':s'.heap.get? b=some ob:=e.trans hob;refine g0 (wpAny_setEpoch_of e' hdb (q70 U.tb hu7) ?_);rw [m6 (by simp)];exact g8 q
 ·refine g8 (g8 ⟨_,rfl,by simp,?_⟩)
  refine h h2 t2 ks2 (fun c o hc e=>?_) S2 z2 (fun n=>?_)
  ·rw [sb2.2 c (mf hc)];exact old1 c o hc e
  ·rw [i2 n,i1 n];simp
end
def MR(t:SetTable)(ks:List (Nat×Nat)): Prop:=(ks.length<5->t.mask=7)/\(5<=ks.length->t.mask=31)
theorem MR.step{t t':SetTable}{ks ks':List (Nat×Nat)}{p:Nat×Nat}(m:MR t ks)(st:Step t ks p t' ks'): MR t' ks':=by
 obtain⟨T',l',c⟩:=st
 split at c
 ·obtain⟨rfl,rfl⟩:=c;exact m
 ·obtain⟨c1,c2⟩:=c
  have hl:ks'.length=ks.length+1:=by rw [c1.length_eq];rfl
  have h12:=T'.n12
  by_cases h5:ks.length<4
  ·rw [m.1 (by lia),m6 (by lia)] at c2
   exact⟨fun _=>c2,fun h=>by lia⟩
  ·by_cases h6:ks.length=4
   ·rw [m.1 (by lia),h6] at c2
    have:t'.mask=31:=by rw [c2];decide
    exact⟨fun h=>by lia,fun _=>this⟩
   ·rw [m.2 (by lia),m6 (by lia)] at c2
    exact⟨fun h=>by lia,fun _=>c2⟩
theorem Step.mem{t t':SetTable}{ks ks':List (Nat×Nat)}{p:Nat×Nat}(st:Step t ks p t' ks')(n:Nat): n∈ks'.map Prod.fst↔n∈ks.map Prod.fst\/n=p.1:=by
 obtain⟨T',l',c⟩:=st
 split at c
 ·rename_i hin
  obtain⟨rfl,rfl⟩:=c;exact⟨.inl,fun h=>h.elim id (fun e=>e ▸ hin)⟩
 ·rw [(c.1.map Prod.fst).mem_iff,gd,ml]
  exact Or.comm
def iv(p:Nat×Nat): Value:=.int (p.1:Int) p.2
section
variable{prog:Program}{w:World}{A:Around}{R:Result->Shared->Prop}{I:Addr}{fp wr:List Addr}{G:Array GenState->Array GenState->Prop}{P:Nat->Value->Prop}{St:Nat->Shared->Prop}
theorem qp3(qs:List (Nat×Nat))(hq:∀p∈qs,p.1<12)(W:WalksS prog w A.in1 I fp wr G qs.length P St)(S:Addr)(hSf:S∉fp)
  (hval:∀i v,P i v->∃p,qs[i]? = some p/\v=iv p) :
  ∀(k i:Nat) (s:Shared) (t:SetTable) (ks:List (Nat×Nat)),qs.length-i=k->i<=qs.length->St i s ->
   SI w s.heap S t ks->MR t ks->(∀n,n∈ks.map Prod.fst↔n∈(qs.take i).map Prod.fst) ->
   (∀s' t' ks',Moved (S :: wr) G s s'->SI w s'.heap S t' ks'->MR t' ks'->(∀n,n∈ks'.map Prod.fst↔n∈qs.map Prod.fst)->R (.ok (.ret .none)) s') ->
   codeAny (model prog w) A (.builtin "set.update.loop" ⟨[.ref S,.ref I],[]⟩) R s:=by
 have hSw:S∉wr:=fun h=>hSf (W.sub _ h);have hsub:∀b∈wr,b∈S :: wr:=fun b hb=>gf _ hb;intro k
 induction k with
 | zero=>
  intro i s t ks hk hi hst hS hM hmem hR;have hin:i=qs.length:=by lia
  subst hin;refine uk g2t ?_;rw [u9 g10 _];show wpAny _ A.in1 (pyNext (.ref I) >>= _) _ _ s;refine g0 (W.done s _ _ hst fun s' hm=>?_);show wpAny _ A.in1 (ret Value.none) _ _ s';exact g8 (hR s' t ks (hm.mono hsub) (hS.keep fun o e=>hm.heap S _ hSw e) hM (by simpa using hmem))
 | succ k ih=>
  intro i s t ks hk hi hst hS hM hmem hR;have hlt:i<qs.length:=by lia
  refine uk g2t ?_;rw [u9 g10 _];show wpAny _ A.in1 (pyNext (.ref I) >>= _) _ _ s;refine g0 (W.item i s _ _ hlt hst fun v s' hP hst' hm=>?_);obtain⟨p,hp,rfl⟩:=hval i v hP;have hp12:=hq p (uo hp);have hS':SI w s'.heap S t ks:=hS.keep fun o e=>hm.heap S _ hSw e;show wpAny _ A.in1 (holding [iv p] (setAdd S (iv p)) >>= _) _ _ s';refine g0 (nk ?_);unfold setAdd;refine nk ?_;refine g0 ((intKind prog w).pyHash (k:=(p.1:Int)) (g3x _ _ _ _) ?_);rw [q6z hp12];refine qmn (s:={s' with toks:=s'.toks+1}) hS' hp12 (fun e=>g1h fun c=>by have:=hM.2 (by lia);lia) fun h' t' ks' hsb S2 st=>?_;refine g8 ⟨g1d g10 _,ih (i+1) _ t' ks' (by lia) hlt (W.frame _ s' _ _ hst' (g0t _) fun b hb o e=>?_) S2 (hM.step st) (fun n=>?_) fun s'' t'' ks'' hm'' hS'' hM'' hi''=>?_⟩
  ·rw [hsb.2 b (fun h:b=S=>hSf (by rw [<- h];exact hb))];exact e
  ·rw [st.mem n,hmem n]
   have:qs.take (i+1)=qs.take i++[p]:=by
    rw [g47,hp];rfl
   rw [this,ti,uj];simp
  ·refine hR s'' t'' ks'' (Moved.trans W.gtrans ((hm.mono hsub).then_heap (g0t _) fun b o hb e=>?_) hm'') hS'' hM'' hi''
   rw [hsb.2 b (fun h:b=S=>hb (by rw [h];exact gc))];exact e
end
theorem sub_tuple_set:isSubtype (.type "tuple") (.type "set")=pure false:=by rw [g26];kernel_rfl
theorem sub_tuple_frozenset:isSubtype (.type "tuple") (.type "frozenset")=pure false:=by rw [g26];kernel_rfl
section
variable{prog:Program}{w:World}{A:Around}{E:Value->Shared->Prop}{s:Shared}
theorem qmq(a:Value){Q₁:Value->Shared->Prop}(h:Q₁ (.ref s.heap.objs.size) {s with heap:=s.heap.push (yk w)}):
  codeAny (model prog w) A (.call (.builtin "set.__new__") ⟨[.type "set",a],[]⟩) (wants Q₁ E) s:=by
 refine codeAny_of_tree ?_;show wpAny _ A.in1 (do checkBuiltinCall "set.__new__" ⟨[.type "set",a],[]⟩;again (.builtin "set.__new__" ⟨[.type "set",a],[]⟩)) _ _ s;refine g0 (wpAny_of_eq (F.newCall_set_1 a) (g8 ⟨g1d F.plain_set_new _,uk F.entry_set_new ?_⟩));rw [u9 F.plain_set_new _];unfold Builtin.«set.__new__» Builtin.Frozenset.newClass;have hsub:=sub_set_self;obtain⟨hp,g,d,tk,os⟩:=s;dsimp only
 wp_walk
 refine t8 (g8 ?_);dsimp only;simp only [newObj];refine g0 (wpAny_alloc (g8 ?_));exact g8 h
set_option maxHeartbeats 3200000 in
theorem qc9{l:Addr}(qs:List (Nat×Nat))(hq:∀p∈qs,p.1<12){Q:Value->Shared->Prop}
  (hh:A.handled=none) (hl:s.heap.IsTuple l (qs.map iv).toArray)
  (h:∀(h':Heap) (tk:Nat) t ks,SI w h' s.heap.objs.size t ks->MR t ks->(∀n,n∈ks.map Prod.fst↔n∈qs.map Prod.fst)->s.toks<=tk ->
   (∀b o,b<s.heap.objs.size->s.heap.get? b=some o->h'.get? b=some o)->Q (.ref s.heap.objs.size) {s with heap:=h',toks:=tk}) :
  wpAny (model prog w) A (call (.type "set") [.ref l]) Q E s:=by
 obtain⟨c,tl,hmro⟩:=g1m.mro;have hmade:=g1m.made;have hsub:=g1m.sub;refine g31 (codeAny_of_tree ?_);show wpAny _ _ (callAny (.type "set") _) _ _ _;refine g8 ⟨Code.quiet_builtin _ (by decide +kernel),uk F.entry_type_call ?_⟩;rw [Around.under_plain (weight_type_call_type "set" [.ref l] []) rfl];have h1:=g1m.notType;have h2:=g1m.canCreate;have hct:=F.typeCall_set_1 (.ref l)
 repeat (any_goals (first|assumption|wp_step))
 refine g24 (qmq (.ref l) (E:=E) (Q₁:=fun obj s₁=>obj=.ref s.heap.objs.size/\s₁ = {s with heap:=s.heap.push (yk w)}) ⟨rfl,rfl⟩) fun r s₁ hr=>?_;cases r with
 | error e=>exact hr
 | ok fl=>
  cases fl with
  | ret obj=>
   obtain⟨rfl,rfl⟩:=hr;have hS:(s.heap.push (yk w)).get? s.heap.objs.size=some (yk w):=gz _ rfl;have hT:Shared.TypeIs {s with heap:=s.heap.push (yk w)} (.ref s.heap.objs.size) "set" :=⟨_,hS,rfl⟩
   have hli:=g1m.init.lookup;have hbi:=g1m.init.bind (.ref s.heap.objs.size)
   repeat (any_goals (first|assumption|wp_step))
   refine g24 (g2b (R:=wants (fun r s₂=>r=.none/\∃h' tk t ks,s₂ = {s with heap:=h',toks:=tk}/\SI w h' s.heap.objs.size t ks/\MR t ks/\(∀n,n∈ks.map Prod.fst↔n∈qs.map Prod.fst)/\s.toks<=tk /\
     (∀b o,b<s.heap.objs.size->s.heap.get? b=some o->h'.get? b=some o)) E) g1m.init.plain F.entry_set_init (check_set_init_1 hT ?_)) fun r₂ s₂ hr₂=>?_
   ·have hl1:(s.heap.push (yk w)).IsTuple l (qs.map iv).toArray:=hl.push _
    obtain⟨ol,hol,hcl,hdl⟩:=id hl1;have hsls:=sub_tuple_set;have hslf:=sub_tuple_frozenset;have hne:(Value.type "tuple" == Value.type "dict")=false:=by decide
    have hTl:Shared.TypeIs {s with heap:=s.heap.push (yk w)} (.ref l) "tuple" :=⟨_,hol,hcl⟩
    unfold Builtin.«set.__init__» noKeywords Builtin.Frozenset.updateFrom;generalize hPI:pyIter=PI
    wp_walk
    subst hPI;refine g4g hl1 ?_;refine g0 (wpAny_runValue ?_);have hlS:l<s.heap.objs.size:=let⟨_,h0,_⟩:=hl;m9 h0
    have hh3:A.in1.in1.in1.handled=none:=by simp [hh]
    have hneI:l≠(s.heap.push (yk w)).objs.size:=by
     rw [g0c];exact mf (g0l hlS)
    have hSf:s.heap.objs.size∉[(s.heap.push (yk w)).objs.size,l]:=by
     rw [g0c];simp only [ml,nv,g1j,g5d,not_or];exact⟨mf (p9 _),uw hlS⟩
    have hval:∀(i:Nat) (v:Value),(qs.map iv).toArray[i]? = some v->∃p,qs[i]? = some p/\v=iv p:=fun i v hv=>by
     simp only [List.getElem?_toArray,mj,gw] at hv;obtain⟨p,e1,e2⟩:=hv;exact⟨p,e1,e2.symm⟩
    have W:=(Walks.tuple (prog:=prog) (w:=w) hh3 (s.heap.push (yk w)).objs.size l hneI (qs.map iv).toArray).toS;have hsz:(qs.map iv).toArray.size=qs.length:=by simp
    rw [hsz] at W;refine qp3 qs hq W s.heap.objs.size hSf hval (qs.length-0) 0 _ (.fresh 0 0 (!byT w)) [] (by lia) (t6 _)
     ⟨⟨_,gz _ rfl,rfl,rfl⟩,(hl1.push _)⟩ (qfa (gb _ hS)) ⟨fun _=>rfl,fun h=>by simp at h⟩ (fun n=>by simp) fun s' t' ks' hm hS' hM' hi'=>?_
    obtain⟨h',g',d',tk',os'⟩:=s';have eg:g'=s.gens:=hm.gens;have ed:d'=s.drawn:=hm.drawn;have eo:os'=s.os:=hm.os;have etk:s.toks<=tk':=hm.toks;subst eg;subst ed;subst eo;show wpAny _ _ _ _ _ _;refine g8 ?_;show wpAny _ _ (ret Value.none) _ _ _;refine g8 ⟨rfl,h',tk',t',ks',rfl,hS',hM',hi',etk,fun b o hb e=>?_⟩;have hb1:b≠s.heap.objs.size:=mf hb;have hb2:b≠(s.heap.push (yk w)).objs.size:=by
     rw [g0c];exact mf (g0l hb)
    exact hm.heap b o (by simp only [ml,nv,g1j,g5d,not_or];exact⟨hb1,hb2⟩) (gb _ (gb _ e))
   ·cases r₂ with
    | error e=>exact hr₂
    | ok fl₂=>
     cases fl₂ with
     | ret r=>
      obtain⟨rfl,h',tk,t,ks,rfl,hS',hM',hi',htk',hk'⟩:=hr₂
      repeat (any_goals (first|assumption|wp_step))
      exact h _ _ _ _ hS' hM' hi' htk' hk'
     | _=>exact hr₂.elim
  | _=>exact hr.elim
end
theorem qfc:Manifest.owners.lookup (String.ofList ['r','o','t','a','r','e','t','i','_','t','e','s'].reverse)=some Manifest.sig_set_iterator:=by kernel_rfl
theorem slot_si_next:Slot "set_iterator" "__next__" "set_iterator.__next__" :=
 .of (owner:="set_iterator") (n:="__next__") (by rw [g1v,g0e];kernel_rfl) (by decide +kernel) (by decide +kernel) (by decide +kernel)
  (by first|exact .inl (by decide +kernel)|exact .inr (by decide +kernel)) (by rw [g26];kernel_rfl)
theorem q7r:entryFor table "set_iterator.__next__" = some Builtin.«set_iterator.__next__» :=entryFor_of_tree (by kernel_rfl)
theorem q8a(a:Value): argsOk "set_iterator.__next__" ⟨[a],[]⟩:=by
 unfold argsOk;rw [signature?_of (id:="set_iterator.__next__") (n:=['_','_','t','x','e','n','_','_']) (o:=['r','o','t','a','r','e','t','i','_','t','e','s']) (by kernel_rfl) qfc];kernel_rfl
theorem q8b:Slot "set_iterator" "__iter__" "set_iterator.__iter__" :=
 .of (owner:="set_iterator") (n:="__iter__") (by rw [g1v,g0e];kernel_rfl) (by decide +kernel) (by decide +kernel) (by decide +kernel)
  (by first|exact .inl (by decide +kernel)|exact .inr (by decide +kernel)) (by rw [g26];kernel_rfl)
theorem qdx:entryFor table "set_iterator.__iter__" = some Builtin.«dict_keyiterator.__iter__» :=
 entryFor_alias (id':="dict_keyiterator.__iter__") (by kernel_rfl) rfl (by decide +kernel) (by kernel_rfl)
theorem qfd(a:Value): argsOk "set_iterator.__iter__" ⟨[a],[]⟩:=by
 unfold argsOk;rw [signature?_of (id:="set_iterator.__iter__") (n:=['_','_','r','e','t','i','_','_']) (o:=['r','o','t','a','r','e','t','i','_','t','e','s']) (by kernel_rfl) qfc];kernel_rfl
theorem qca:entryFor table "set.__iter__" = some Builtin.«frozenset.__iter__» :=
 entryFor_alias (id':="frozenset.__iter__") (by kernel_rfl) rfl (by decide +kernel) (by kernel_rfl)
def SIt(h:Heap)(it a:Addr)(slot i n ep:Nat): Prop:=∃o,h.get? it=some o/\o.cls=.type "set_iterator" /\ o.data=.fields #[.int slot 0,.int i 0,.ref a,.int n 0,.int ep 0]
def Row(w:World)(a:Addr)(ep:Nat)(ks vals:List (Nat×Nat)): Prop:=
 (byT w=true->(vals.map el).toArray=pickOrder (w.params.setOrder a ep) (ks.map el).toArray)/\(byT w=false->vals=ks)
theorem qva(w:World)(a:Addr)(ep:Nat)(ks:List (Nat×Nat)): ∃vals,Row w a ep ks vals/\vals.Perm ks:=by
 cases hb:byT w
 ·exact⟨ks,⟨by simp [hb],fun _=>rfl⟩,g64 _⟩
 ·have hp:=q6c (w.params.setOrder a ep) (ks.map el).toArray
  generalize hx:pickOrder (w.params.setOrder a ep) (ks.map el).toArray=xs at hp;have hp':xs.toList.Perm (ks.map el):=by simpa using hp
  obtain⟨ls,hl,e⟩:=qa8 hp';refine⟨ls,⟨fun _=>?_,by simp [hb]⟩,hl⟩;rw [hx, <- e]
def SAt(w:World)(h:Heap)(a:Addr)(t:SetTable)(ks:List (Nat×Nat))(ep:Nat): Prop:=
 (∃o,h.get? a=some o/\o.ExactSet/\o.data=.set (ks.map el).toArray ep t)/\Tb t ks/\t.led=(!byT w)/\(t.mask=7->ks.length<8)
def Far(w:World)(t:SetTable)(slot i:Nat): Prop:=byT w=false->(∀x∈t.place.toList.take i,x<slot)/\(∀x∈t.place.toList.drop i,slot<=x)
section
variable{prog:Program}{w:World}{A:Around}{E:Value->Shared->Prop}{s:Shared}{a it:Addr}{t:SetTable}{ks vals:List (Nat×Nat)}{ep slot i:Nat}
theorem SAt.typeIs(S:SAt w s.heap a t ks ep): s.TypeIs (.ref a) "set" :=let⟨⟨o,ho,hc,_⟩,_⟩:=S; ⟨o,ho,hc.1⟩
theorem SIt.typeIs{n:Nat}(S:SIt s.heap it a slot i n ep): s.TypeIs (.ref it) "set_iterator" :=let⟨o,ho,hc,_⟩:=S; ⟨o,ho,hc⟩
theorem SAt.state{Q:(Array (Int×Value)×Nat×SetTable)->Shared->Prop}(S:SAt w s.heap a t ks ep)(h:Q ((ks.map el).toArray,ep,t) s): wpAny (model prog w) A (setState a) Q E s:=by
 obtain⟨⟨o,ho,hc,hd⟩,T,l,h7⟩:=S;exact g34 ho hd (q70 T h7) h
theorem SAt.keep{h h':Heap}(S:SAt w h a t ks ep)(e:∀o,h.get? a=some o->h'.get? a=some o): SAt w h' a t ks ep:=by
 obtain⟨⟨o,ho,r⟩,q⟩:=S;exact⟨⟨o,e o ho,r⟩,q⟩
theorem qp4{Q:Value->Shared->Prop}(S:SAt w s.heap a t ks ep)(h:Q (.ref s.heap.objs.size) {s with heap:=s.heap.push {cls:=.type "set_iterator",data:=.fields #[.int 0 0,.int 0 0,.ref a,.int ks.length 0,.int ep 0]} }):
  wpAny (model prog w) A (pyIter (.ref a)) Q E s:=by
 refine g4w S.typeIs F.slot_set_iter (nz F.slot_set_iter S.typeIs qca ?_ (F.args_set_iter_1 _));unfold Builtin.«frozenset.__iter__»;refine g0 (m:=Builtin.Frozenset.slot0 "__iter__" _) (g8 ?_);refine g0 ?_;unfold Builtin.Frozenset.sizeOf setEntries;refine g0 (g0 (S.state (g8 (g8 ?_))));refine g0 ?_;unfold setDrawn setsByText;refine g0 (S.state ?_);dsimp only;refine g0 (g0 (t8 (g8 (g8 ?_))));refine pf (fun c=>?_) (fun _=>?_)
 ·have c':(!byT w&&(!t.plain&&decide ((ks.map el).toArray.size>1)))=true:=c
  rw [S.2.1.pl] at c';simp at c'
 refine g0 (g8 ?_);refine g0 ?_;unfold setEpoch;refine g0 (S.state (g8 ?_));have hsz:(ks.map el).toArray.size=ks.length:=by simp
 rw [hsz];refine g0 (ug (g8 ⟨_,rfl,"set_iterator",_,⟨_,gz _ rfl,rfl⟩,slot_si_next.lookup,?_⟩));exact h
theorem qb7{h:Heap}{o:Obj}{vs:Array Value}{x:Value}{j:Nat}(ho:h.get? it=some o)(hd:o.data=.fields vs):
  ∃o',(h.update it (Obj.mapFields (·.setIfInBounds j x))).get? it=some o'/\o'.cls=o.cls/\o'.data=.fields (vs.setIfInBounds j x):=
 ⟨_,g16 _ ho (Obj.isFreed_of_fields (Obj.data_mapFields hd _)),Obj.cls_mapFields ..,Obj.data_mapFields hd _⟩
theorem next_item{Q:Option Value->Shared->Prop}{p:Nat×Nat}(I:SIt s.heap it a slot i ks.length ep)(S:SAt w s.heap a t ks ep)(R:Row w a ep ks vals)(F:Far w t slot i)(hp:vals[i]? = some p)
  (h:∀h' slot',SIt h' it a slot' (i+1) ks.length ep->Far w t slot' (i+1)->Heap.SameBut it s.heap h'->Q (some (.int (p.1:Int) p.2)) {s with heap:=h'}) :
  wpAny (model prog w) A (pyNext (.ref it)) Q E s:=by
 obtain⟨o,ho,hc,hd⟩:=id I;unfold pyNext;refine g0 (g1c (g07 (name:=Str.ofString "__next__") I.typeIs slot_si_next
  (nz slot_si_next I.typeIs q7r ?_ (q8a _))))
 unfold Builtin.«set_iterator.__next__»;refine g0 (m:=slotArgs "__next__" 0 _) (g8 ?_);dsimp only;refine g0 (g48 ho hd ?_);dsimp only;unfold setEntries;refine g0 (g0 (S.state (g8 ?_)));have hsz:(((ks.map el).toArray.size:Int) != (ks.length:Int))=false:=by simp
 dsimp only;rw [hsz];simp only [m8, ↓reduceIte,my];have key:∃slot',Far w t slot' (i+1)/\∀ {Q':Option (Value×Nat)->Shared->Prop} {E':Value->Shared->Prop},Q' (some (.int (p.1:Int) p.2,slot')) s->wpAny (model prog w) A.in1 (setNext a slot i ep) Q' E' s:=by
  cases hb:byT w
  ·have hv:vals=ks:=R.2 hb
   rw [hv] at hp;obtain⟨f1,f2⟩:=F hb;have hpl:t.place=(t.place.toList.take i++t.place.toList.drop i).toArray:=by simp
   have hi:i<ks.length:=(nj.mp hp).1;have hi':i<t.place.toList.length:=by rw [S.2.1.sz];exact hi
   have hbel:SetTable.below t.place slot=i:=by
    rw [hpl,below_at f1 f2];simp at hi' ⊢;lia
   have hpj:t.place[i]? = some (t.place.toList[i]):=by rw [<- g27];exact mm hi'
   have hei:(ks.map el).toArray[i]? = some (el p):=by simp [hp]
   have hdr:t.place.toList.drop i=t.place.toList[i] :: t.place.toList.drop (i+1):=g2m hi';have htk:t.place.toList.take (i+1)=t.place.toList.take i++[t.place.toList[i]]:=by
    rw [g47,mm hi'];rfl
   have hrs:=S.2.1.rs;rw [<- g15 i t.place.toList,hdr] at hrs;obtain⟨r1,r2,r3⟩:=g1g.mp hrs;refine⟨t.place.toList[i]+1,fun _=>⟨fun x hx=>?_,fun x hx=>?_⟩,fun {Q'} {E'} q=>?_⟩
   ·rw [htk] at hx
    rcases uj.mp hx with h|h
    ·have:=r3 x h _ (gc ..);lia
    ·have:=nv.mp h;lia
   ·have:=(g0d.mp r2).1 x hx;lia
   ·unfold setNext setsByText
    refine g0 (S.state ?_);dsimp only;refine g0 (g0 (t8 (g8 ?_)));refine pf (fun c=>?_) (fun _=>?_)
    ·have c':byT w=true:=c
     rw [hb] at c';exact absurd c' (by decide)
    refine pf (fun c=>?_) (fun _=>?_)
    ·have c':(!t.plain&&decide ((ks.map el).toArray.size>1))=true:=c
     rw [S.2.1.pl] at c';simp at c'
    have hld:t.led=true:=by rw [S.2.2.1,hb];rfl
    show wpAny _ _ ((do if !t.led && !(ks.map el).toArray.isEmpty then unsupported "set:maker-not-led" : Sem Unit) >>= fun _=>_) _ _ _;rw [hld];simp only [uh,g46,m8, ↓reduceIte];refine g0 (g8 (g8 ?_));rw [hbel,hei,hpj];exact q
  ·have hv:=R.1 hb
   refine⟨slot,fun c=>?_,fun {Q'} {E'} q=>?_⟩
   ·rw [hb] at c;exact absurd c (by decide)
   ·unfold setNext setsByText
    refine g0 (S.state ?_);dsimp only;refine g0 (g0 (t8 (g8 ?_)));refine pf (fun _=>?_) (fun c=>absurd hb c);rw [m6 (by simp)];refine g0 ?_;unfold setWalk setsByText;refine g0 (S.state ?_);dsimp only;refine g0 (g0 (t8 (g8 ?_)));refine pf (fun _=>?_) (fun c=>absurd hb c);refine g0 (t8 (g8 (g8 ?_)));have:(pickOrder (w.params.setOrder a ep) (ks.map el).toArray)[i]? = some (el p):=by rw [<- hv];simp [hp]
    show Q' (((pickOrder (w.params.setOrder a ep) (ks.map el).toArray)[i]?).map fun e=>(e.2,slot)) s;rw [this];exact q
 obtain⟨slot',F',kn⟩:=key;refine g0 (kn ?_);dsimp only;refine g0 (wpAny_setField ho hd (by simp) ?_);obtain⟨o1,ho1,hc1,hd1⟩:=qb7 (x:=rawInt slot') (j:=0) ho hd;refine g0 (wpAny_setField (s:={s with heap:=s.heap.update it (Obj.mapFields (·.setIfInBounds 0 (rawInt slot')))}) ho1 hd1 (by simp) (g8 ⟨_,rfl,g8 (h _ slot' ?_ F' ((uf ..).trans (uf ..)))⟩));obtain⟨o2,ho2,hc2,hd2⟩:=qb7 (x:=rawInt (i+1)) (j:=1) ho1 hd1;exact⟨o2,ho2,hc2.trans (hc1.trans hc),by rw [hd2];simp [rawInt]⟩
theorem next_end{Q:Option Value->Shared->Prop}(hh:A.handled=none)(hi:i=ks.length)(I:SIt s.heap it a slot i ks.length ep)(S:SAt w s.heap a t ks ep)(R:Row w a ep ks vals)(hvl:vals.length=ks.length)(F:Far w t slot i)
  (h:∀h',Heap.ExtBut it s.heap h'->Q none {s with heap:=h'}) :
  wpAny (model prog w) A (pyNext (.ref it)) Q E s:=by
 obtain⟨o,ho,hc,hd⟩:=id I;unfold pyNext;refine g0 (g1c (g07 (name:=Str.ofString "__next__") I.typeIs slot_si_next
  (nz slot_si_next I.typeIs q7r ?_ (q8a _))))
 unfold Builtin.«set_iterator.__next__»;refine g0 (m:=slotArgs "__next__" 0 _) (g8 ?_);dsimp only;refine g0 (g48 ho hd ?_);dsimp only;unfold setEntries;refine g0 (g0 (S.state (g8 ?_)));have hsz:(((ks.map el).toArray.size:Int) != (ks.length:Int))=false:=by simp
 dsimp only;rw [hsz];simp only [m8, ↓reduceIte,my];have key:∀ {Q':Option (Value×Nat)->Shared->Prop} {E':Value->Shared->Prop},Q' none s->wpAny (model prog w) A.in1 (setNext a slot i ep) Q' E' s:=by
  intro Q' E' q;unfold setNext setsByText;refine g0 (S.state ?_);dsimp only;refine g0 (g0 (t8 (g8 ?_)));cases hb:byT w
  ·refine pf (fun c=>?_) (fun _=>?_)
   ·have c':byT w=true:=c
    rw [hb] at c';exact absurd c' (by decide)
   refine pf (fun c=>?_) (fun _=>?_)
   ·have c':(!t.plain&&decide ((ks.map el).toArray.size>1))=true:=c
    rw [S.2.1.pl] at c';simp at c'
   have hld:t.led=true:=by rw [S.2.2.1,hb];rfl
   show wpAny _ _ ((do if !t.led && !(ks.map el).toArray.isEmpty then unsupported "set:maker-not-led" : Sem Unit) >>= fun _=>_) _ _ _;rw [hld];simp only [uh,g46,m8, ↓reduceIte];refine g0 (g8 (g8 ?_));obtain⟨f1,f2⟩:=F hb;have hpl:t.place=(t.place.toList.take i++t.place.toList.drop i).toArray:=by simp
   have hbel:SetTable.below t.place slot=i:=by
    rw [hpl,below_at f1 f2];have:=S.2.1.sz;simp at this ⊢;lia
   have hei:(ks.map el).toArray[i]? = none:=by simp [hi]
   rw [hbel,hei];exact q
  ·refine pf (fun _=>?_) (fun c=>absurd hb c)
   rw [m6 (by simp)];refine g0 ?_;unfold setWalk setsByText;refine g0 (S.state ?_);dsimp only;refine g0 (g0 (t8 (g8 ?_)));refine pf (fun _=>?_) (fun c=>absurd hb c);refine g0 (t8 (g8 (g8 ?_)));have:(pickOrder (w.params.setOrder a ep) (ks.map el).toArray)[i]? = none:=by rw [<- R.1 hb];simp [hi,hvl]
   show Q' (((pickOrder (w.params.setOrder a ep) (ks.map el).toArray)[i]?).map fun e=>(e.2,slot)) s;rw [this];exact q
 refine g0 (key ?_);dsimp only;refine g0 (wpAny_setField ho hd (by simp) ?_);show wpAny _ _ (newExc (.type "StopIteration") [] >>= _) _ _ _;refine g0 ?_;simp only [newExc,newTuple];refine g0 (ug ?_ (by size_fits));refine g0 (m:=firstArgMember _ _) (wpAny_of_eq (a:=Value.none) (by first|rfl|(simp only [firstArgMember];rfl)) ?_);refine ug ?_ (by size_fits);simp only [raiseNew];refine g0 (wpAny_handled ?_)
 first|rw [show A.in1.handled=none from hh]|rw [hh]
 refine g0 (g8 (wpAny_throw ?_));refine g0 (g0q (T:="StopIteration") (b:=true) ⟨_,gz _ rfl,rfl⟩ isSubtype_stop ?_);exact g8 (h _ (((uf ..).extBut.push _).push _))
theorem qmr(hh:A.handled=none)(hne:a≠it)(R:Row w a ep ks vals)(hvl:vals.length=ks.length):
  Walks prog w A it [it,a] [it] ks.length (fun i v=>∃p,vals[i]? = some p/\v=.int (p.1:Int) p.2) (fun i h=>∃slot,SIt h it a slot i ks.length ep/\SAt w h a t ks ep/\Far w t slot i) where
 sub:=fun b hb=>by simp at hb;simp [hb]
 frame:=fun i h h' st hk=>by
  obtain⟨slot,⟨o,ho,r⟩,S,F⟩:=st;exact⟨slot,⟨o,hk it (by simp) o ho,r⟩,S.keep (fun o e=>hk a (by simp) o e),F⟩
 item:=fun i s Q E hi st hQ=>by
  obtain⟨slot,I,S,F⟩:=st;have hi':i<vals.length:=by lia
  refine next_item I S R F (mm hi') fun h' slot' I' F' sb=>?_;exact hQ _ h' s.toks ⟨_,mm hi',rfl⟩ ⟨slot',I',S.keep (fun o e=>sb.extBut a o hne e),F'⟩ fun b o hb e=>sb.extBut b o (fun h=>hb (by simp [h])) e
 done:=fun s Q E st hQ=>by
  obtain⟨slot,I,S,F⟩:=st;exact next_end hh rfl I S R hvl F fun h' he=>hQ h' s.toks fun b o hb e=>he b o (fun h=>hb (by simp [h])) e
 self:=fun i s Q E st hQ=>by
  obtain⟨slot,I,S,F⟩:=st;refine g4w I.typeIs q8b (nz q8b I.typeIs qdx ?_ (qfd _));show wpAny _ _ (ret (.ref it)) _ _ s;exact g8 ⟨_,rfl,"set_iterator",_,I.typeIs,slot_si_next.lookup,hQ⟩
end
end Js
namespace Js
open PySem PyProof.Rows
section
variable{prog:Program}{w:World}{A:Around}{E:Value->Shared->Prop}{s:Shared}{a:Addr}{t:SetTable}{ks vals:List (Nat×Nat)}{ep:Nat}
theorem qp5{Q:Bool->Shared->Prop}(hT:s.TypeIs (.ref a) "set")(h:Q false s): wpAny (model prog w) A (Builtin.List.listLengthHint (.ref a)) Q E s:=by
 unfold Builtin.List.listLengthHint;refine g0 (g2n hT F.slot_set_len.lookup ?_);generalize hid:("set.__len__" : String)=id0;dsimp only;rw [show splitId id0=some ("set","__len__") from by subst hid;decide +kernel];subst hid;dsimp only;refine g0 (g0q (T:="set") (b:=true) hT (by rw [g26];kernel_rfl) ?_);refine pf (fun hab=>absurd hab (by decide)) (fun _=>?_);refine pf (fun _=>?_) (fun hab=>absurd (by decide +kernel) hab);refine g0 (g0y hT ?_);exact g8 h
def iv'(p:Nat×Nat): Value:=.int (p.1:Int) p.2
theorem qp6{vals:List (Nat×Nat)}{n:Nat}{acc:Array Value}(hn:vals.length=n)(h:ItemsOf (fun i v=>∃p,vals[i]? = some p/\v=.int (p.1:Int) p.2) acc n): acc.toList=vals.map iv':=by
 apply List.ext_getElem?;intro i
 by_cases hi:i<n
 ·have h1:i<acc.size:=by rw [h.1];exact hi
  have e:acc[i]? = some acc[i]:=g52 h1;obtain⟨p,hp,hv⟩:=h.2 i _ e;rw [g27,e,mj,hp,hv];rfl
 ·rw [g27,Array.getElem?_eq_none (by rw [h.1];omega),mj,g65 (by omega)];rfl
theorem qhh{Q:List Value->Shared->Prop}(hh:A.handled=none)(S:SAt w s.heap a t ks ep)
  (h:∀(s':Shared) (vals:List (Nat×Nat)),vals.Perm ks->(∀b o,b<s.heap.objs.size->s.heap.get? b=some o->s'.heap.get? b=some o)->s.heap.objs.size<=s'.heap.objs.size->s'.gens=s.gens->s'.drawn=s.drawn->s'.os=s.os->s.toks<=s'.toks->Q (vals.map iv') s') :
  wpAny (model prog w) A (collect (.ref a)) Q E s:=by
 have hla:a<s.heap.objs.size:=let⟨⟨o,ho,_⟩,_⟩:=S;m9 ho
 unfold collect;refine g0 (wpAny_runValue (uk F.entry_proto_collect ?_));rw [u9 F.plain_proto_collect _];show wpAny _ A.in1 (newList [] >>= fun l=>again (.builtin "list.__iadd__" ⟨[l,.ref a],[]⟩)) _ _ s;refine g0 (ug ?_);refine g8 ⟨g1d F.plain_list_iadd _,uk F.entry_list_iadd ?_⟩;rw [u9 F.plain_list_iadd _]
 let lo:Obj:={cls:=.type "list",data:=.seq ([]:List Value).toArray}
 have S1:SAt w (s.heap.push lo) a t ks ep:=S.keep fun o e=>gb _ e;show wpAny _ A.in1 (Builtin.List.listExtendWith (.ref s.heap.objs.size) (.ref a) (.ref s.heap.objs.size)) _ _ _;unfold Builtin.List.listExtendWith;refine g0 (g0y S1.typeIs ?_);have h1:Builtin.List.listSameRef (.ref s.heap.objs.size) (.ref a)=false:=by simp [Builtin.List.listSameRef];exact uw hla
 have h2:(Value.type "set" == Value.type "list")=false:=by decide
 have h3:(Value.type "set" == Value.type "tuple")=false:=by decide
 simp only [h1,h2,h3,Bool.or_false,m8,p8]
 let io:Obj:={cls:=.type "set_iterator",data:=.fields #[.int 0 0,.int 0 0,.ref a,.int ks.length 0,.int ep 0]}
 refine g0 (qp4 (s:={s with heap:=s.heap.push lo}) S1 ?_);have hsz1:(s.heap.push lo).objs.size=s.heap.objs.size+1:=g0c ..;have S2:SAt w ((s.heap.push lo).push io) a t ks ep:=S1.keep fun o e=>gb _ e;refine g0 (nk (qp5 (s:={s with heap:=(s.heap.push lo).push io}) S2.typeIs ?_));refine pf (fun _=>?_) (fun hab=>absurd (by decide +kernel) hab);refine g0 (g0b ?_);have hL1:((s.heap.push lo).push io).get? s.heap.objs.size=some lo:=gb _ (gz _ rfl);refine g0 ?_;show wpAny _ A.in1 (updateSeq s.heap.objs.size (·.push .none) >>= fun _=>updateSeq s.heap.objs.size (·.pop)) _ _ _;refine g0 (g5n (s:={s with heap:=(s.heap.push lo).push io}) hL1 rfl ?_);have hL2:=g16 (Obj.mapSeq (·.push Value.none)) hL1 rfl;refine g5n hL2 rfl ?_;have hL3:=g16 (Obj.mapSeq (·.pop)) hL2 rfl
 let h3':=(((s.heap.push lo).push io).update s.heap.objs.size (Obj.mapSeq (·.push Value.none))).update s.heap.objs.size (Obj.mapSeq (·.pop))
 have oth:∀b o,b≠s.heap.objs.size->((s.heap.push lo).push io).get? b=some o->h3'.get? b=some o:=
  fun b o hb e=>(g0s _ _ (n4 hb)).trans ((g0s _ _ (n4 hb)).trans e)
 obtain⟨vals,hR,hvp⟩:=qva w a ep ks;have hvl:vals.length=ks.length:=hvp.length_eq;have W:=(qmr (prog:=prog) (w:=w) (A:=A.in1) (it:=(s.heap.push lo).objs.size) (t:=t) (vals:=vals) (by simpa using hh) (by rw [hsz1];exact mf (g0l hla)) hR hvl).toS;have hIt:SIt h3' (s.heap.push lo).objs.size a 0 0 ks.length ep:=⟨io,oth _ _ (by rw [hsz1];exact Nat.succ_ne_self _) (gz _ rfl),rfl,rfl⟩
 have hn12:=S.2.1.n12;refine g8 ⟨g1d F.plain_extend_loop _,codeAny_extend_loopS W (by rw [g1z];omega) s.heap.objs.size (by rw [hsz1];simp only [ml,g1j,g5d,not_or];exact⟨mf (p9 _),uw hla⟩) _ ks.length 0 _ _ _ rfl (t6 _)
  ⟨0,hIt,S2.keep fun o e=>oth a o (mf hla) e,fun _=>⟨by simp,by simp⟩⟩ hL3 (ItemsOf.nil _) fun s' acc' c' hm hS' hacc=>?_⟩
 show wpAny _ A (load s.heap.objs.size >>= _) _ _ s';refine g0 (wpAny_load hS' ?_);refine g8 ?_;rw [qp6 hvl hacc];refine h s' vals hvp (fun b o hb e=>hm.heap b o (by rw [hsz1];simp only [ml,g1j,g5d,not_or];exact⟨mf hb,mf (g0l hb)⟩) (oth b o (mf hb) (gb _ (gb _ e)))) (g0w (m9 hS')) hm.gens hm.drawn hm.os hm.toks
theorem qjw{Q:Value->Shared->Prop}(hh:A.handled=none)(S:SAt w s.heap a t ks ep)
  (h:∀(h':Heap) (tk:Nat) (c:Addr) (out:List Value) (ns':List Int) (e:Nat),IntsAre out ns'->ns'.Perm (ks.map fun p=>(p.1:Int))->ns'.Pairwise (· <= ·)->(∀b o,b<s.heap.objs.size->s.heap.get? b=some o->h'.get? b=some o) ->
   s.heap.objs.size<=c->h'.get? c=some (seqObj "list" out.toArray e)->s.toks<=tk->Q (.ref c) {s with heap:=h',toks:=tk}) :
  wpAny (model prog w) A (call (.builtin "sorted") [.ref a]) Q E s:=by
 refine Calls.call_function_entry kind_sorted plain_sorted entry_sorted (args_sorted1 _) ?_;unfold Builtin.«sorted»;refine g0 (m:=checkCount "sorted" 1 1 _) (g8 ?_);have hn12:=S.2.1.n12;refine g0 (qhh (A:=A.in1) (by simpa using hh) S fun s1 vals hp hk hz hg hd ho ht=>?_);have hvl:vals.length=ks.length:=hp.length_eq;refine g0 (g3e ?_);have hoL:(s1.heap.push (seqObj "list" (vals.map iv').toArray 0)).get? s1.heap.objs.size=some (seqObj "list" (vals.map iv').toArray 0):=gz _ rfl;have hI:IntsAre (vals.map iv') (vals.map fun p=>(p.1:Int)):=by
  clear hoL hvl hp
  induction vals with
  | nil=>exact .nil
  | cons p l ih=>exact .cons _ _ ih
 refine g0 (nk (nz slot_list_sort ⟨_,hoL,rfl⟩ entry_list_sort (list_sort_tree (s:={s1 with heap:=s1.heap.push (seqObj "list" (vals.map iv').toArray 0)}) hoL hI (by simp;omega) fun out ns' a1 a2 a3=>⟨_,rfl,?_⟩) (args_list_sort _)));refine g8 ⟨_,rfl,?_⟩;obtain⟨h1,g1,d1,t1,o1⟩:=s1;dsimp only at hk hz hg hd ho ht hoL;subst hg;subst hd;subst ho;have hz1:(h1.push (seqObj "list" (vals.map iv').toArray 0)).objs.size=h1.objs.size+1:=g0c ..;have e1:=g17 hoL (fun _=> #[]);have e2:=gb (seqObj "tuple" (vals.map iv').toArray 0) e1;have e3:=gb (seqObj "list" #[] 0) e2;have e4:=g17 e3 (fun _=>out);refine h (sortedHeap (h1.push (seqObj "list" (vals.map iv').toArray 0)) h1.objs.size (vals.map iv') out) t1 h1.objs.size out.toList ns' _ a1 (a2.trans (hp.map _)) a3 (fun b ob hb e=>?_) hz (by unfold sortedHeap;simpa using e4) ht;have nb:b≠h1.objs.size:=mf (gr hb hz);unfold sortedHeap;refine(g0s _ _ (n4 nb)).trans ?_;refine gb _ (gb _ ?_);refine(g0s _ _ (n4 nb)).trans ?_;exact gb _ (hk b ob hb e)
end
end Js
namespace DL
open PySem PySem.Spec PyProof.Rows L2
variable[Lam][Pin]
def q5l:List D->Option (List Nat)
 | []=>some []
 | .int i :: r=>if 0<=i/\i<12 then(q5l r).map (i.toNat :: ·) else none
 | _ :: _=>none
def qjx:D->D->Option (List D)
 | .tup ds,.tup es=>(q5l ds).bind fun a=>(q5l es).bind fun b=>some (((List.range 12).filter fun n=>decide (n∈a\/n∈b)).map fun n=>D.int (n:Nat))
 | _,_=>none
def qjy(f g:FE): FA:=fun ρ =>(f ρ).bind fun x=>(g ρ).bind fun y=>qjx x y
def q71(w:World)(a:Addr)(ns:List Nat): HO:=.ext fun h=>∃t ks,Js.SI w h a t ks/\Js.MR t ks/\∀n,n∈ks.map Prod.fst↔n∈ns
def qjz(w:World)(a:Addr)(ns:List Nat): HO:=.ext fun h=>∃t ks,Js.SI w h a t ks/\(t.mask=7->ks.length<8)/\∀n,n∈ks.map Prod.fst↔n∈ns
def qy9(K:Frag)(w:World): List V->Hp->VK->Prop:=fun xs H Q=>∃F ds ns,Same F H/\RepL K F [.tup ds] xs/\q5l ds=some ns/\∀a,H a=none->Q (.ref a) (upd H a (q71 w a ns))
def rOr(w:World): R2:=fun x y H Q=>∃a b ns ms,x=.ref a/\y=.ref b/\a≠b/\H a=some (q71 w a ns)/\H b=some (q71 w b ms)/\∀c,H c=none->Q (.ref c) (upd H c (qjz w c (ns++ms)))
def qxb(w:World): List V->Hp->VK->Prop:=fun xs H Q=>∃a ns,xs=[.ref a]/\H a=some (qjz w a ns)/\∀c,H c=none->Q (.ref c) (upd H c (.lst (((List.range 12).filter fun n=>decide (n∈ns)).map fun n=>V.int (n:Nat))))
omit [Lam] [Pin] in
theorem qda{K:Frag}{F:Hp}: ∀ {ds:List D} {ys:List V} {its:List Value} {ns:List Nat},q5l ds=some ns->RepL K F ds ys->Vals ys its->∃qs:List (Nat×Nat),its=qs.map Js.iv/\(∀p∈qs,p.1<12)/\qs.map Prod.fst=ns
 | [],ys,its,ns,h,k,r=>by
  cases h;cases k.nil_inv;cases r;exact⟨[],rfl,by simp,rfl⟩
 | .int i :: ds,ys,its,ns,h,k,r=>by
  unfold q5l at h
  split at h
  ·rename_i hi
   obtain⟨ms,h1,rfl⟩:=gw.mp h;obtain⟨x,ys',rfl,a1,a2⟩:=k.cons_inv;cases rep_int.mp a1;cases r with
   | cons b1 b2=>
    obtain⟨qs,e1,e2,e3⟩:=qda h1 a2 b2;obtain⟨tk,rfl⟩:=b1;refine⟨(i.toNat,tk) :: qs,?_,?_,by simp [e3]⟩
    ·rw [e1,gd]
     congr 1
     show _=Value.int ((i.toNat:Nat):Int) tk;rw [g1r hi.1]
    ·intro p hp
     rcases ml.mp hp with rfl|hp
     ·show i.toNat<12
      lia
     ·exact e2 p hp
  ·cases h
 | .non :: _,_,_,_,h,_,_=>by cases h
 | .bl _ :: _,_,_,_,h,_,_=>by cases h
 | .str _ :: _,_,_,_,h,_,_=>by cases h
 | .tup _ :: _,_,_,_,h,_,_=>by cases h
 | .lst _ :: _,_,_,_,h,_,_=>by cases h
 | .dct _ _ :: _,_,_,_,h,_,_=>by cases h
 | .dtt _ _ :: _,_,_,_,h,_,_=>by cases h
 | .dt2 _ :: _,_,_,_,h,_,_=>by cases h
 | .obj _ :: _,_,_,_,h,_,_=>by cases h
 | .exc _ _ :: _,_,_,_,h,_,_=>by cases h
section
variable{X:Cx}
theorem qms(hc:X.calm=true): jx X (.type "set") (qy9 X.K X.w):=fun pins s σ H xs us Q I rv ⟨F,ds,ns,fh,rl,hn,q⟩=>by
 obtain⟨x,rfl,rx⟩:=rep1 rl;obtain⟨a,ys,rfl,k1,k2⟩:=rep_tup.mp rx;obtain⟨u,rfl,ru⟩:=vals1 rv;cases ru;obtain⟨its,r1,p1,hz⟩:=I.tuple (qt fh k1);obtain⟨qs,rfl,hq,rfl⟩:=qda hn k2 r1;refine Js.qc9 qs hq (I.ok.hd hc) p1 fun h' tk t ks S M m ht old=>?_;have hnn:H s.heap.objs.size=none:=I.hok.fresh (gi _);obtain⟨o,ep,ho,hx,hd⟩:=id S.ob;refine⟨.ref _,_,I.laid (t':=tk) (a:=s.heap.objs.size) (o:=q71 X.w s.heap.objs.size (qs.map Prod.fst)) (fun b ob qb=>old b ob (m9 qb) qb) (gi _) ⟨⟨t,ks,S,M,m⟩,⟨o,ho⟩,fun h1 h2 ⟨t,ks,S,M,m⟩ e=>⟨t,ks,S.keep e,M,m⟩⟩,rfl,q _ hnn⟩
theorem qvb:OpR X (binaryOp .BitOr) (rOr X.w):=fun pins s σ H x y v u Q I rx ry ⟨a,b,ns,ms,e1,e2,hab,ha,hb,q⟩=>by
 subst e1;subst e2;cases rx;cases ry;obtain⟨⟨t,ks,S,M,m⟩,_,_⟩:=I.hok a _ ha;obtain⟨⟨t',ks',S',M',m'⟩,_,_⟩:=I.hok b _ hb;have m7:∀ {t:SetTable} {ks:List (Nat×Nat)},Js.MR t ks->t.mask=7->ks.length<8:=fun M e=>g1h fun c=>by
  have:=M.2 (by lia);lia
 refine Js.qxa hab S M.1 (m7 M) S' M'.1 (m7 M') fun h2 t2 ks2 old S2 h72 m2=>?_;have hnn:H s.heap.objs.size=none:=I.hok.fresh (gi _);obtain⟨o,ep,ho,hx,hd⟩:=id S2.ob;refine⟨.ref _,_,I.laid (t':=s.toks) (a:=s.heap.objs.size) (o:=qjz X.w s.heap.objs.size (ns++ms)) (fun c ob qb=>old c ob (m9 qb) qb) (gi _) ⟨⟨t2,ks2,S2,h72,fun n=>?_⟩,⟨o,ho⟩,fun h1 h2 ⟨t,ks,S,M,m⟩ e=>⟨t,ks,S.keep e,M,m⟩⟩,rfl,q _ hnn⟩;rw [m2 n,m n,m' n,uj]
theorem qse(hc:X.calm=true): jx X (.builtin "sorted") (qxb X.w):=fun pins s σ H xs us Q I rv ⟨a,ns,e1,ha,q⟩=>by
 subst e1;obtain⟨u,rfl,ru⟩:=vals1 rv;cases ru;obtain⟨⟨t,ks,S,h7,m⟩,_,_⟩:=I.hok a _ ha;obtain⟨o,ep,ho,hx,hd⟩:=id S.ob;refine Js.qjw (I.ok.hd hc) ⟨⟨o,ho,hx,hd⟩,S.tb,S.ld,h7⟩ fun h' tk c out ns' e hI hp hs old hc' hget ht=>?_;have hnn:H c=none:=I.hok.fresh hc';have hL:ns'=((List.range 12).filter fun n=>decide (n∈ns)).map fun n:Nat=>(n:Int):=by
  refine q89 (hp.trans ?_) hs ?_
  ·have:(ks.map Prod.fst).Perm ((List.range 12).filter fun n=>decide (n∈ns)):=by
    refine(g2g S.tb.nd (u7 _ g2d)).mpr fun n=>?_;rw [mn,n9,ny, <- m n];refine⟨fun h=>⟨?_,h⟩,fun h=>h.2⟩;obtain⟨p,hp,rfl⟩:=md.mp h;exact S.tb.lt p hp
   have h2:=this.map fun n:Nat=>(n:Int)
   rw [mv] at h2;exact h2
  ·rw [mx]
   refine List.Pairwise.imp (fun {a b} h=>?_) (u7 _ (g39 (n:=12)));lia
 subst hL;have vo:=q38 hI;rw [mv] at vo;refine⟨.ref c,_,I.laid (t':=tk) (a:=c) (o:=.lst (((List.range 12).filter fun n=>decide (n∈ns)).map fun n=>V.int (n:Nat))) (fun b ob qb=>old b ob (m9 qb) qb) hc' ⟨?_,out,e,vo,hget⟩,rfl,q _ hnn⟩;rw [gh];exact mq (nh _ _) (x8 (by simp;decide))
theorem qsf{a b:Expr}{f g:FE}{p p1 p2 q1 q2 q3 pos:Pos}(hc:X.calm=true)(hgs:Gl X "sorted")(hms:X.mg "sorted" = none)(hgt:Gl X "set")(hmt:X.mg "set" = none)(ha:PE X a (tD X.K f))(hb:PE X b (tD X.K g))
  (s1:starEach [a] X.env=(false,eval a X.env) :: starEach [] X.env:=by rfl) (s2:starEach [b] X.env=(false,eval b X.env) :: starEach [] X.env:=by rfl)
  (s3:starEach [.BinOp (.Call (.Name "set" p1) [a] [] q1) .BitOr (.Call (.Name "set" p2) [b] [] q2) q3] X.env=(false,eval (.BinOp (.Call (.Name "set" p1) [a] [] q1) .BitOr (.Call (.Name "set" p2) [b] [] q2) q3) X.env) :: starEach [] X.env:=by rfl)
  (h1:∀pos,(backTo pos (starEach [] X.env)).any (·.1)=false:=by intro _;rfl) :
  PE X (.Call (.Name "sorted" p) [.BinOp (.Call (.Name "set" p1) [a] [] q1) .BitOr (.Call (.Name "set" p2) [b] [] q2) q3] [] pos) (tL X.K (qjy f g)):=by
 refine jo (q6p (qse hc) hgs hms boot_sorted (q1m (qqs qvb (q7w (qms hc) hgt hmt (T:="set") (by rfl) (q1m ha q48 s1) (he:=s1) (hpl:=h1 _)) (q7w (qms hc) hgt hmt (T:="set") (by rfl) (q1m hb q48 s2) (he:=s2) (hpl:=h1 _))) q48 s3) (he:=s3) (hpl:=h1 _)) fun σ H Q ⟨F0,H0,F, ρ,ds,r,hf,q⟩=>?_;obtain⟨x,hx,hf⟩:=g7.mp hf;obtain⟨y,hy,hj⟩:=g7.mp hf;unfold qjx at hj
 split at hj
 ·rename_i xs ys
  obtain⟨ns,hn,hj⟩:=g7.mp hj;obtain⟨ms,hm,hj⟩:=g7.mp hj;cases hj;refine⟨F0,H0,F, ρ,.tup xs,r,hx,fun v F1 H1 g1 r1=>?_⟩;refine⟨F1,xs,ns,g1.fh,.cons r1 .nil,hn,fun c1 hc1=>?_⟩;have g2:Grow F1 H1 F1 (upd H1 c1 (q71 X.w c1 ns)):=Grow.own g1.fh hc1;refine⟨F0,H0,F1, ρ,.tup ys,r.grow (g1.trans g2),hy,fun u F3 H3 g3 r3=>?_⟩;refine⟨F3,ys,ms,g3.fh,.cons r3 .nil,hm,fun c2 hc2=>?_⟩;have g4:Grow F3 H3 F3 (upd H3 c2 (q71 X.w c2 ms)):=Grow.own g3.fh hc2;have e1:H3 c1=some (q71 X.w c1 ns):=g3.hh.ext _ _ zi;have hne:c1≠c2:=xw e1 hc2;refine⟨c1,c2,ns,ms,rfl,rfl,hne,by rw [z8 hne];exact e1,zi,fun c3 hc3=>?_⟩;have g5:Grow F3 (upd H3 c2 (q71 X.w c2 ms)) F3 (upd (upd H3 c2 (q71 X.w c2 ms)) c3 (qjz X.w c3 (ns++ms))):=Grow.own g4.fh hc3;refine⟨c3,ns++ms,rfl,zi,fun c4 hc4=>?_⟩;have g6:=Grow.own (o:=.lst (((List.range 12).filter fun n=>decide (n∈ns++ms)).map fun n=>V.int (n:Nat))) g5.fh hc4;have gg:=g1.trans (g2.trans (g3.trans (g4.trans (g5.trans g6))));refine q c4 _ F3 _ gg (g5.fh.free hc4) ((g1.trans (g2.trans (g3.trans (g4.trans g5)))).hh.free hc4) zi ?_
  ·have e:((List.range 12).filter fun n=>decide (n∈ns++ms))=(List.range 12).filter fun n=>decide (n∈ns\/n∈ms):=by
    congr 1;funext n;simp [uj]
   rw [e];have:=(RepL.ints (K:=X.K) (H:=F3) (ns:=((List.range 12).filter fun n=>decide (n∈ns\/n∈ms)).map fun n:Nat=>(n:Int)) (xs:=((List.range 12).filter fun n=>decide (n∈ns\/n∈ms)).map fun n=>V.int (n:Nat))).mpr (by rw [mv];rfl);rw [mv] at this;exact this
 ·cases hj
end
end DL
namespace Js
open PySem
open Sem (wp)
theorem qfe:typeLookup (.type "list") "keys" = pure none:=by rw [g1v,g0e];kernel_rfl
theorem qb8:typeLookup (.type "list") "__getattr__" = pure none:=by rw [g1v,g0e];kernel_rfl
section
variable{prog:Program}{w:World}{A:Around}{E:Value->Shared->Prop}{s:Shared}{a:Addr}
theorem qmt{xs:Array Value}{n:Nat}{u:Tok}{Q:Value->Shared->Prop}{sl:Array (Option Value)}(hx:s.heap.get? a=some {cls:=.type "list",dict:=none,data:=.seq xs n,slots:=sl})(hh:A.handled=none)
  (h:∀h' tk e,Heap.NewAttrErr s.heap h' e (.ref a) "keys" -> E (.ref e) {s with heap:=h',toks:=tk}) :
  wpAny (model prog w) A (call (.builtin "list.__getattribute__") [.ref a,.str "keys" u]) Q E s:=by
 refine nz g2u ⟨_,hx,rfl⟩ F.entry_list_ga ?_ (F.args_list_getattribute_2 _ _);obtain⟨hp,g,d,tk,os⟩:=s;have hT:(⟨hp,g,d,tk,os⟩:Shared).TypeIs (.ref a) "list" :=⟨_,hx,rfl⟩
 have f4:=qfe;unfold Builtin.«object.__getattribute__»
 repeat (any_goals (first|assumption|wp_step))
 exact wpAny_raiseAttrError (by simpa using hh) (fun h' tk e x=>h h' tk e x) (attrMsg_fits (by decide +kernel) (by size_fits))
theorem qmu{xs:Array Value}{n:Nat}{Q:Option Value->Shared->Prop}{sl:Array (Option Value)}(hx:s.heap.get? a=some {cls:=.type "list",dict:=none,data:=.seq xs n,slots:=sl})(hh:A.handled=none)
  (h:∀h' tk,(∀b o,s.heap.get? b=some o->h'.get? b=some o)->Q none {s with heap:=h',toks:=tk}) :
  wpAny (model prog w) A (getAttr? (.ref a) "keys") Q E s:=by
 obtain⟨hp,g,d,tk,os⟩:=s;have hT:(⟨hp,g,d,tk,os⟩:Shared).TypeIs (.ref a) "list" :=⟨_,hx,rfl⟩
 have f1:=sub_AttributeError;have f3:=g2u.lookup;have f4:=g2u.bind (.ref a);have f5:=qb8;unfold getAttr? getAttrBy? getAttrBy
 repeat (any_goals (first|assumption|((with_reducible show wpAny _ _ (call (Value.builtin "list.__getattribute__") _ _) _ _ _);refine qmt hx (by first|exact hh|simpa using hh) fun h' tk' e x=>?_)|wp_step))
 obtain⟨t',u',he⟩:=x.there
 repeat (any_goals (first|assumption|wp_step))
 exact h _ _ x.keeps
end
end Js
namespace Js
open PySem
theorem q53:entryFor table "dict.update.loop" = some Builtin.«dict.update.loop» :=entryFor_of_tree (by kernel_rfl)
theorem kl:plainId "dict.update.loop" = true:=by decide +kernel
abbrev TK(prog:Program)(w:World):=tupleKind (intKind prog w)
structure Prs{prog:Program}{w:World}{KT:Type}[DecidableEq KT](knd:HeapKind prog w KT)(h:Heap)(vs:List Value)(ps:List (KT×Addr×Value)): Prop where
 len:vs.length=ps.length
 pair:∀(i:Nat) (p:KT×Addr×Value),ps[i]? = some p->∃q,vs[i]? = some (.ref q)/\h.IsTuple q #[.ref p.2.1,p.2.2]
 key:∀p∈ps,knd.is h p.1 p.2.1
theorem q2l{prog:Program}{w:World}{h h':Heap}{k:List Int}{a:Addr}(x:(TK prog w).is h k a)(e:∀o,h.get? a=some o->h'.get? a=some o): (TK prog w).is h' k a:=by
 obtain⟨o,items,n,ho,r⟩:=x;exact⟨o,items,n,e o ho,r⟩
section
variable{prog:Program}{w:World}{A:Around}{R:Result->Shared->Prop}{KT:Type}[DecidableEq KT]{knd:HeapKind prog w KT}
structure Stays(knd:HeapKind prog w KT): Prop where
 keep:∀ {h h':Heap} {k:KT} {a:Addr},knd.is h k a->(∀b o,h.get? b=some o->h'.get? b=some o)->knd.is h' k a
 room:∀A:Around,A.units+8<cLine->knd.room A
theorem qmv{vs:List Value}{ps:List (KT×Addr×Value)}{N I S L:Addr}(Y:Stays knd)(hu:A.units+9<cLine)(hh:A.in1.handled=none)(hSN:N<=S)(hIN:N<=I)(hLN:L<N)(hSI:S≠I)(h0:Heap)(hN:∀b o,h0.get? b=some o->b<N)(P0:Prs knd h0 vs ps)(hl0:h0.IsList L vs.toArray)(hnd:(ps.map (·.1)).Nodup)(hz:ps.length<=sizeLine):
  ∀(k i:Nat) (s:Shared) (j:Int) (tj:Tok),ps.length-i=k->i<=ps.length->s.heap.IsListIter I L i->(∀b o,h0.get? b=some o->s.heap.get? b=some o)->s.heap.DictOfH knd S (ps.take i) ->
   (∀s',s'.gens=s.gens->s'.drawn=s.drawn->s'.os=s.os->s.toks<=s'.toks->(∀b o,h0.get? b=some o->s'.heap.get? b=some o)->s'.heap.DictOfH knd S ps->R (.ok (.ret .none)) s') ->
   codeAny (model prog w) A (.builtin "dict.update.loop" ⟨[.ref S,.ref I,.int j tj,.none],[]⟩) R s:=by
 intro k
 induction k with
 | zero=>
  intro i s j tj hk hi hit hkeep hd hR;have hin:i=ps.length:=by lia
  subst hin;refine uk q53 ?_;rw [u9 kl _];have hls:s.heap.IsList L vs.toArray:=let⟨o,ho,r⟩:=hl0; ⟨o,hkeep L o ho,r⟩
  show wpAny _ A.in1 (pyNext (.ref I) >>= _) _ _ s;refine g0 (wpAny_pyNext_list_end hh hit hls (by simp [P0.len]) fun h' he=>?_);show wpAny _ A.in1 (Builtin.Dict.addKeywords S [] >>= _) _ _ _;refine g0 (g8 (g8 ?_));rw [g0u (gi _)] at hd;refine hR _ rfl rfl rfl (gi _) (fun b o e=>he b o (mf (gr (hN b o e) hIN)) (hkeep b o e)) ?_;obtain⟨o,es,ep,ho,hc,hdd,hes,his,hn⟩:=hd;exact⟨o,es,ep,he S o hSI ho,hc,hdd,hes,fun x hx=>Y.keep (P0.key x hx) fun b o' e=>he b o' (mf (gr (hN b o' e) hIN)) (hkeep b o' e),hn⟩
 | succ k ih=>
  intro i s j tj hk hi hit hkeep hd hR;have hlt:i<ps.length:=by lia
  have hp:ps[i]? = some ps[i]:=mm hlt;obtain⟨q,hq,hqt⟩:=P0.pair i _ hp;have hkey:=P0.key _ (g1k hlt);generalize ps[i]=p at hp hq hqt hkey;refine uk q53 ?_;rw [u9 kl _];have hls:s.heap.IsList L vs.toArray:=let⟨o,ho,r⟩:=hl0; ⟨o,hkeep L o ho,r⟩
  show wpAny _ A.in1 (pyNext (.ref I) >>= _) _ _ s;refine g0 (wpAny_pyNext_list_item hit hls (x:=.ref q) (by simpa using hq) fun h' hit' hs'=>?_);have keep1:∀b o,h0.get? b=some o->h'.get? b=some o:=fun b o e=>hs'.extBut b o (mf (gr (hN b o e) hIN)) (hkeep b o e);have hqt1:h'.IsTuple q #[.ref p.2.1,p.2.2]:=let⟨o,ho,r⟩:=hqt; ⟨o,keep1 q o ho,r⟩
  have hkey1:knd.is h' p.1 p.2.1:=Y.keep hkey fun b o e=>keep1 b o e;have hd1:h'.DictOfH knd S (ps.take i):=by
   obtain⟨o,es,ep,ho,hc,hdd,hes,his,hn⟩:=hd;exact⟨o,es,ep,hs'.extBut S o hSI ho,hc,hdd,hes,fun x hx=>Y.keep (P0.key x (List.mem_of_mem_take hx)) fun b o' e=>keep1 b o' e,hn⟩
  dsimp only;refine g0 (nk ?_);refine g0 (wpAny_tryCatch ?_);unfold Builtin.Dict.pairItems;obtain⟨oq,hoq,hcq,nq,hdq⟩:=hqt1;refine g0 (g0y (s:={s with heap:=h'}) (T:="tuple") ⟨oq,hoq,hcq⟩ ?_);rw [gq (by decide)];refine g0 (g49 (s:={s with heap:=h'}) hoq hdq (g8 ?_));dsimp only [Option.getD_some];refine nk ?_;have hnone:atKey (ps.take i) p.1=none:=by
   refine g4x fun jj pp e=>?_;have hjj:jj<i:=by
    have:=(nj.mp e).1;rw [pq] at this;lia
   have e':ps[jj]? = some (p.1,pp):=by rw [g2p hjj] at e;exact e
   have:=idxH_unique hnd e' (show ps[i]? = some (p.1,p.2) from hp);lia
  refine wpAny_dictSet_heap (s:={s with heap:=h'}) (Y.room A.in1 (by show A.units+1+8<cLine;lia)) hkey1 hd1 (fun h2 hd2 hs2=>?_) (by rw [pq];lia);rw [storedH_new hnone,show ps.take i++[(p.1,p.2.1,p.2.2)]=ps.take (i+1) by rw [g47,hp];rfl] at hd2;have ne2:∀b o,h0.get? b=some o->b≠S:=fun b o e=>mf (gr (hN b o e) hSN);refine g8 ⟨g1d kl _,ih (i+1) _ _ _ (by lia) hlt ?_ (fun b o e=>?_) hd2 fun s' a1 a2 a3 a4 a5 a6=>?_⟩
  ·obtain⟨o,ho,r⟩:=hit'
   exact⟨o,hs2.extBut I o (n4 hSI) ho,r⟩
  ·exact hs2.extBut b o (ne2 b o e) (keep1 b o e)
  ·exact hR s' a1 a2 a3 (mq (g1n _ _) a4) a5 a6
end
section
variable{prog:Program}{w:World}{A:Around}{E:Value->Shared->Prop}{s:Shared}{KT:Type}[DecidableEq KT]{knd:HeapKind prog w KT}
theorem q54{L:Addr}{vs:List Value}{n0:Nat}{ps:List (KT×Addr×Value)}{Q:Value->Shared->Prop}(Y:Stays knd)(hu:A.units+16<cLine)(hh:A.handled=none){sl:Array (Option Value)}(hL:s.heap.get? L=some {cls:=.type "list",dict:=none,data:=.seq vs.toArray n0,slots:=sl})(P0:Prs knd s.heap vs ps)(hnd:(ps.map (·.1)).Nodup)(hz:ps.length<=sizeLine)
  (h:∀h' tk,(∀b o,s.heap.get? b=some o->h'.get? b=some o)->h'.DictOfH knd s.heap.objs.size ps->Q (.ref s.heap.objs.size) {s with heap:=h',toks:=tk}) :
  wpAny (model prog w) A (call (.type "dict") [.ref L]) Q E s:=by
 refine callType_codes (Q₁:=fun obj s₁=>obj=.ref s.heap.objs.size/\s₁ = {s with heap:=s.heap.push {cls:=.type "dict",data:=.dict #[]} }) F.kt_called_dict (F.kt_typeCall_dict_1 _) F.entry_dict_init (kt_code_dict_new _ ⟨rfl,rfl⟩) ?_
 rintro obj s₁ ⟨rfl,rfl⟩
 let dO:Obj:={cls:=.type "dict",data:=.dict #[]}
 have hnew:(s.heap.push dO).DictOfH knd s.heap.objs.size []:=Heap.DictOfH.new s.heap;have hTd:Shared.TypeIs {s with heap:=s.heap.push dO} (.ref s.heap.objs.size) "dict" :=⟨dO,gz _ rfl,rfl⟩
 have hL1:(s.heap.push dO).get? L=some {cls:=.type "list",dict:=none,data:=.seq vs.toArray n0,slots:=sl}:=gb _ hL;refine⟨hTd,F.args_dict_init_2 _ _,?_⟩;unfold Builtin.«dict.__init__»;refine g0 ?_;unfold Builtin.Dict.selfAndRest;refine g0 (g3m hTd ?_);show wpAny _ _ (pure (s.heap.objs.size,[Value.ref L])) _ _ _;refine g8 ?_;show wpAny _ _ (Builtin.Dict.updateFrom "dict.__init__" s.heap.objs.size (.ref L) [] .none) _ _ _;unfold Builtin.Dict.updateFrom;refine g0 (g0y (T:="list") ⟨_,hL1,rfl⟩ ?_);rw [gq (by decide)];refine g0 (qmu (s:={s with heap:=s.heap.push dO}) hL1 (by simpa using hh) fun h1 tk1 k1=>?_);rw [gq (by rfl)];refine g0 (g0b ?_);have hL2:h1.IsList L vs.toArray:=⟨_,k1 _ _ hL1,rfl,n0,rfl⟩
 refine g0 (g33 (s:={s with heap:=h1,toks:=tk1}) hL2 ?_)
 let iO:Obj:={cls:=.type "list_iterator",data:=.fields #[.ref L,.int 0 0]}
 have hz1:s.heap.objs.size+1<=h1.objs.size:=m9 (k1 _ _ (gz s.heap (o:=dO) rfl));have hLs:L<s.heap.objs.size:=m9 hL;have keep:∀b o,s.heap.get? b=some o->(h1.push iO).get? b=some o:=fun b o e=>gb _ (k1 b o (gb _ e));have hd0:(h1.push iO).DictOfH knd s.heap.objs.size []:=by
  obtain⟨o,es,ep,ho,hc,hdd,hes,his,hn⟩:=hnew;exact⟨o,es,ep,gb _ (k1 _ _ ho),hc,hdd,hes,fun x hx=>(nomatch hx),hn⟩
 refine g8 ⟨g1d kl _,qmv (A:=A.in1) (knd:=knd) (N:=s.heap.objs.size) (I:=h1.objs.size) (S:=s.heap.objs.size) (L:=L) (vs:=vs) (ps:=ps) Y (by show A.units+1+9<cLine;lia) (by simpa using hh) (gi _) (Nat.le_of_succ_le hz1) hLs (mf hz1) s.heap (fun b o e=>m9 e) P0 ⟨_,hL,rfl,n0,rfl⟩ hnd hz
  ps.length 0 _ _ _ rfl (t6 _) ⟨iO,gz _ rfl,rfl,rfl⟩ keep hd0 fun s' a1 a2 a3 a4 a5 a6=>?_⟩
 obtain⟨h',g',d',tk',os'⟩:=s';dsimp only at a1 a2 a3 a4 a5 a6;subst a1;subst a2;subst a3;exact⟨rfl,h h' tk' a5 a6⟩
end
theorem qp7(prog:Program)(w:World): Stays (TK prog w):=⟨fun x e=>q2l x fun o z=>e _ o z,fun A h=>show A.units<cLine by lia⟩
end Js
namespace DL
open PySem PySem.Spec PyProof.Rows L2
variable[Lam][Pin]
def q4g:List D->Option (List (List Int)×List D)
 | []=>some ([],[])
 | .tup [.tup kd,v] :: r=>(zx kd).bind fun k=>(q4g r).map fun p=>(k :: p.1,v :: p.2)
 | _ :: _=>none
def qe9:List D->Option D
 | [.lst ds]=>(q4g ds).bind fun p=>if p.1.Nodup/\ds.length<=lim then some (.dtt p.1 p.2) else none
 | _=>none
def qcb:D->D->Option D
 | .tup kd,.dtt ks _=>(zx kd).map fun k=>.bl (decide (k∈ks))
 | _,_=>none
omit [Lam] [Pin] in
theorem ints_rep{K:Frag}{F:Hp}: ∀ {kd:List D} {xs:List V} {k:List Int},zx kd=some k->RepL K F kd xs->xs=k.map V.int
 | [],xs,k,h,r=>by cases h;exact r.nil_inv
 | .int i :: kd,xs,k,h,r=>by
  obtain⟨k',h1,rfl⟩:=gw.mp h;obtain⟨x,ys,rfl,a1,a2⟩:=r.cons_inv;rw [rep_int.mp a1,ints_rep h1 a2];rfl
 | .non :: _,_,_,h,_=>by cases h
 | .bl _ :: _,_,_,h,_=>by cases h
 | .str _ :: _,_,_,h,_=>by cases h
 | .tup _ :: _,_,_,h,_=>by cases h
 | .lst _ :: _,_,_,h,_=>by cases h
 | .dct _ _ :: _,_,_,h,_=>by cases h
 | .dtt _ _ :: _,_,_,h,_=>by cases h
 | .dt2 _ :: _,_,_,h,_=>by cases h
 | .obj _ :: _,_,_,h,_=>by cases h
 | .exc _ _ :: _,_,_,h,_=>by cases h
omit [Lam] [Pin] in
theorem items_int{P:Program}{w:World}: ∀ {k:List Int} {us:List Value},Vals (k.map V.int) us->ItemsAre (intKind P w) k us
 | [],_,r=>by cases r;exact .nil
 | i :: k,_,r=>by
  cases r with
  | cons h t=>
   obtain⟨tk,rfl⟩:=h;exact .cons (g3x _ _ _ _) (items_int t)
section
variable{X:Cx}{pins:List (Addr×Obj)}{σ : St}{H F:Hp}{s:Shared}
omit [Lam] [Pin] in
theorem wz(I:Inv X pins σ H s)(fh:Same F H){k:List Int}{a:Addr}(h:SqT X.K F a (k.map V.int)): (Js.TK X.prog X.w).is s.heap k a:=by
 obtain⟨its,r,⟨o,ho,hc,n,hd⟩,_⟩:=I.tuple (qt fh h);exact⟨o,its.toArray,n,ho,hc,hd,by simpa using items_int r⟩
omit [Lam] [Pin] in
theorem qff (I:Inv X pins σ H s) (fh:Same F H):∀ {ds:List D} {ys:List V} {its:List Value} {ks:List (List Int)} {vs:List D},q4g ds=some (ks,vs)->RepL X.K F ds ys->Vals ys its ->
  ∃(ps:List (List Int×Addr×Value)) (ws:List V),Js.Prs (Js.TK X.prog X.w) s.heap its ps/\ps.map (·.1)=ks/\(∀p∈ps,SqT X.K F p.2.1 (p.1.map V.int))/\Vals ws (ps.map fun p=>p.2.2)/\RepL X.K F vs ws
 | [],ys,its,ks,vs,h,k,r=>by
  cases h;cases k.nil_inv;cases r;exact⟨[],[],⟨rfl,fun i p e=>by simp at e,fun p hp=>(nomatch hp)⟩,rfl,fun p hp=>(nomatch hp),.nil,.nil⟩
 | d :: ds,ys,its,ks,vs,h,k,r=>by
  unfold q4g at h
  split at h
  ·cases ‹_ :: _=[]›
  ·rename_i kd v r' e
   injection e with e1 e2
   subst e1;subst e2;obtain⟨kk,h1,h2⟩:=g7.mp h;obtain⟨p,h3,h4⟩:=gw.mp h2;cases h4;obtain⟨x,ys',rfl,a1,a2⟩:=k.cons_inv;obtain⟨q,qs,rfl,b1,b2⟩:=rep_tup.mp a1;obtain⟨x1,z1,rfl,c1,c2⟩:=b2.cons_inv;obtain⟨x2,z2,rfl,d1,d2⟩:=c2.cons_inv;cases d2.nil_inv;obtain⟨ka,kxs,rfl,k1,k2⟩:=rep_tup.mp c1;rw [ints_rep h1 k2] at k1;cases r with
   | cons r1 r2=>
    cases r1;obtain⟨uu,hu,⟨oq,hoq,hcq,nq,hdq⟩,_⟩:=I.tuple (qt fh b1);cases hu with
    | cons u1 u2=>
     cases u1;cases u2 with
     | cons u3 u4=>
      cases u4;rename_i uv;obtain⟨ps,ws,P,e1,e2,e3,e4⟩:=qff I fh h3 a2 r2;refine⟨(kk,ka,uv) :: ps,x2 :: ws,⟨by simp [P.len],fun i p e=>?_,fun p hp=>?_⟩,by simp [e1],fun p hp=>?_,.cons u3 e3,.cons d1 e4⟩
      ·cases i with
       | zero=>
        simp only [g0m,g0j] at e;subst e;exact⟨q,rfl,oq,hoq,hcq,nq,hdq⟩
       | succ i=>exact P.pair i p (by simpa using e)
      ·rcases ml.mp hp with rfl|hp
       ·exact wz I fh k1
       ·exact P.key p hp
      ·rcases ml.mp hp with rfl|hp
       ·exact k1
       ·exact e2 p hp
  ·cases h
end
section
variable{X:Cx}
theorem qsg(hc:X.calm=true)(hu:X.A.units+64<cLine): jx X (.type "dict") (rC X.K qe9):=fun pins s σ H xs us Q I rv ⟨F,ds,d,fh,rl,ho,q⟩=>by
 unfold qe9 at ho
 split at ho
 ·rename_i ds'
  obtain⟨⟨ks,vs⟩,h1,h2⟩:=g7.mp ho
  split at h2
  ·rename_i hok
   cases h2;obtain⟨x,rfl,rx⟩:=rep1 rl;obtain⟨a,ys,rfl,k1,k2⟩:=rep_lst.mp rx;obtain⟨u,rfl,ru⟩:=vals1 rv;cases ru;obtain⟨its,r1,⟨o,n,e1,e2,e3,e4⟩,hz⟩:=I.list (fh.seq k1);obtain⟨oc,od,oda,osl⟩:=o;dsimp only at e2 e3 e4;subst e2;subst e3;subst e4;obtain⟨ps,ws,P,p1,p2,p3,p4⟩:=qff I fh h1 k2 r1;have hl:ps.length<=lim:=by
    rw [<- P.len, <- r1.length, <- k2.length];exact hok.2
   refine Js.q54 (Js.qp7 _ _) (by lia) (I.ok.hd hc) e1 P (by rw [p1];exact hok.1) (x8 hl) fun h' tk old hd=>?_;have hnn:H s.heap.objs.size=none:=I.hok.fresh (gi _);obtain⟨o,es,ep,g1,g2,g3,g4,_,g5⟩:=hd;have de:DE s.heap.objs.size ps ep h':=⟨o,es,g1,g2,g3,g4⟩
   refine⟨.ref _,_,I.laid (t':=tk) (a:=s.heap.objs.size) (o:=.ext (DE s.heap.objs.size ps ep)) old (gi _) ⟨de,⟨o,g1⟩,fun h1 h2 ⟨o,es,z,r⟩ e=>⟨o,es,e o z,r⟩⟩,rfl,?_⟩;have g:=Grow.new (o:=.ext (DE s.heap.objs.size ps ep)) fh hnn;refine q _ _ _ g (rep_dtt.mpr ⟨_,ps,ws,ep,rfl,zi,p1,hok.1,x8 hl,g2k.mpr (uw (qc5 I)),fun x hx=>qt g.ff (p2 x hx),p3,p4.mono g.ff⟩)
  ·cases h2
 ·cases ho
theorem qvc(hu:X.A.units+64<cLine): OpR X (compareOp .In) (rD X.K qcb):=fun pins s σ H x y v u Q I rx ry ⟨F,d1,d2,d,fh,r1,r2,ho,q⟩=>by
 unfold qcb at ho
 split at ho
 ·rename_i kd ks vs
  obtain⟨k,h1,rfl⟩:=gw.mp ho;obtain⟨b,kxs,rfl,k1,k2⟩:=rep_tup.mp r1;obtain⟨a,xs,ys,ep,rfl,e1,e2,e3,e4,e5,e6,e7,e8⟩:=rep_dtt.mp r2;cases rx;cases ry;rw [ints_rep h1 k2] at k1;obtain⟨⟨o,es,g1,g2,g3,g4⟩,_,_⟩:=(show ObjOk X.prog X.w H s.heap a _ from I.hok a _ (fh _ _ e1))
  have dd:s.heap.DictOfH (Js.TK X.prog X.w) a xs:=⟨o,es,ep,g1,g2,g3,g4,fun x hx=>wz I fh (e6 x hx),by rw [e2];exact e3⟩
  refine wpAny_in_heap (g2v (by lia)) (wz I fh k1) e5 dd ?_;have:(atKey xs k).isSome=decide (k∈ks):=by
   rw [<- e2,p6,n5]
   constructor
   ·intro h
    obtain⟨p,hp⟩:=g01.mp h;obtain⟨z,hz,rfl⟩:=gw.mp hp;have:=List.find?_some hz;exact md.mpr ⟨z,g54 hz,by simpa using this⟩
   ·intro h
    obtain⟨z,hz,rfl⟩:=md.mp h;obtain⟨i,hi⟩:=g66.mp hz;rw [g5g (by rw [e2];exact e3) (show xs[i]? = some (z.1,z.2) from hi)]
    rfl
  rw [this];exact⟨.bl _,H,I.tok _,rfl,q _ F H (.refl fh) (rep_bl.mpr rfl)⟩
 ·cases ho
end
section
variable{X:Cx}{pos:Pos}
def q55:D->D->Option D
 | .dtt ks vs,.tup kd=>(zx kd).bind fun k=>if k∈ks then vs[ks.idxOf k]? else none
 | _,_=>none
theorem qvd(hu:X.A.units+64<cLine): IxR X (rD X.K q55):=by
 intro value slice pins s σ H x y v u Q I rx ry ⟨F,d1,d2,d,fh,r1,r2,ho,q⟩ hs;unfold q55 at ho
 split at ho
 ·rename_i ks vs kd
  obtain⟨k,h1,ho⟩:=g7.mp ho
  split at ho
  ·rename_i hk
   obtain⟨b,kxs,rfl,k1,k2⟩:=rep_tup.mp r2;obtain⟨a,xs,ys,ep,rfl,e1,e2,e3,e4,e5,e6,e7,e8⟩:=rep_dtt.mp r1;cases rx;cases ry;rw [ints_rep h1 k2] at k1;obtain⟨⟨o,es,g1,g2,g3,g4⟩,_,_⟩:=(show ObjOk X.prog X.w H s.heap a _ from I.hok a _ (fh _ _ e1))
   have dd:s.heap.DictOfH (Js.TK X.prog X.w) a xs:=⟨o,es,ep,g1,g2,g3,g4,fun x hx=>wz I fh (e6 x hx),by rw [e2];exact e3⟩
   obtain⟨w,ew,rw'⟩:=e8.get ho;obtain⟨uu,eu,ruu⟩:=e7.get ew;rw [mj] at eu;obtain⟨z,hz,rfl⟩:=gw.mp eu;have hzk:z.1=k:=by
    have h2:(xs.map (·.1))[ks.idxOf k]? = some z.1:=by rw [mj,hz];rfl
    rw [e2,mm (g29 hk),g4j] at h2;exact(gu h2).symm
   refine tail_any (ops:=[.ref a,.ref b]) (T:="dict") ⟨o,g1,g2.1⟩ PySem.F.slot_dict_getitem.lookup ?_ hs;refine wpAny_getItem_heap (g2v (by lia)) (wz I fh k1) dd (p:=z.2) ?_ ⟨w,H,I.tok _,ruu,q w F H (.refl fh) rw'⟩;rw [<- hzk];exact g5g (by rw [e2];exact e3) (show xs[ks.idxOf k]? = some (z.1,z.2) from hz)
  ·cases ho
 ·cases ho
theorem qb9{a b:Expr}{f g:FE}(hu:X.A.units+64<cLine)(ha:PE X a (tD X.K f))(hb:PE X b (tD X.K g))(hs:qc0 b:=by intro _ _;rfl): PE X (.Subscript a b pos) (tD X.K (eOp q55 f g)):=jo (qqu (qvd hu) ha hb hs) fun σ H Q h=>two h
end
end DL
namespace Js
open PySem PyProof.Rows
section
variable{prog:Program}{w:World}{A:Around}{E:Value->Shared->Prop}{s:Shared}
theorem qcc{it d:Addr}{i ep:Nat}{od:Obj}{es:Array DictEntry}{Q:Option Value->Shared->Prop}(hit:s.heap.IsKeyIter it d i es.size ep)(hod:s.heap.get? d=some od)(hdd:od.data=.dict es ep)(hlt:i<es.size)
  (hQ:∀h',h'.IsKeyIter it d (i+1) es.size ep->Heap.SameBut it s.heap h'->Q (some (es[i]'hlt).key) {s with heap:=h'}):wpAny (model prog w) A (pyNext (.ref it)) Q E s:=by
 obtain⟨o,ho,hc,hd⟩:=id hit;unfold pyNext;refine g0 (g1c (g07 hit.typeIs g04 (nz g04 hit.typeIs g42 ?_ (g3y _))));unfold Builtin.«dict_keyiterator.__next__»
 wp_delta
 wp_walk using g00 hit.typeIs,g0h hit.typeIs,g48 ho hd,g4y hod hdd,g5p hod hdd,g18 hit.typeIs
 rw [m6 (by omega:¬((i:Int)<0)),show((i:Int)).toNat=i from by simp,g11 es i hlt];dsimp only;have hit':(s.heap.update it (Obj.mapFields fun x_1=>x_1.setIfInBounds (0+1) (rawInt ((i:Int)+1)))).IsKeyIter it d (i+1) es.size ep:=by
  obtain⟨c1,c2,c3,c4⟩:=o;dsimp only at hc hd;subst hc hd;exact⟨_,g16 _ ho rfl,rfl,rfl⟩
 have T':Shared.TypeIs {s with heap:=s.heap.update it (Obj.mapFields fun x_1=>x_1.setIfInBounds (0+1) (rawInt ((i:Int)+1)))} (.ref it) "dict_keyiterator" :=hit'.typeIs
 wp_walk using g00 hit.typeIs,g0h hit.typeIs,g18 hit.typeIs
 rw [hd];dsimp only;rw [show(if Builtin.Dict_items.ownsTuple "dict_keyiterator" = true then 2 else 0)=0 from by decide +kernel];rw [gq (by simp)];rw [m6 (show ¬(List.any _ _=true) from by decide +kernel)];refine wpAny_update ho ?_
 wp_walk using g00 T',g0h T',g18 T'
 exact⟨_,rfl,g8 (hQ _ hit' ⟨nu ..,fun b hb=>t7 _ _ _ _ hb⟩)⟩
theorem qdy{it d:Addr}{ep:Nat}{od:Obj}{es:Array DictEntry}{Q:Option Value->Shared->Prop}(hh:A.handled=none)(hit:s.heap.IsKeyIter it d es.size es.size ep)(hod:s.heap.get? d=some od)(hdd:od.data=.dict es ep)
  (hQ:∀h',Heap.ExtBut it s.heap h'->Q none {s with heap:=h'}):wpAny (model prog w) A (pyNext (.ref it)) Q E s:=by
 obtain⟨o,ho,hc,hd⟩:=id hit;unfold pyNext;refine g0 (g1c (g07 hit.typeIs g04 (nz g04 hit.typeIs g42 ?_ (g3y _))));unfold Builtin.«dict_keyiterator.__next__»
 wp_delta
 wp_walk using g00 hit.typeIs,g0h hit.typeIs,g48 ho hd,g4y hod hdd,g5p hod hdd,g18 hit.typeIs
 rw [m6 (by omega:¬((es.size:Int)<0)),show((es.size:Int)).toNat=es.size from by simp,Array.getElem?_size];dsimp only
 wp_walk using g00 hit.typeIs,g0h hit.typeIs,g18 hit.typeIs
 rw [hd];dsimp only;rw [show(if Builtin.Dict_items.ownsTuple "dict_keyiterator" = true then 2 else 0)=0 from by decide +kernel];rw [gq (by simp)];refine wpAny_update ho ?_;have hA1:A.in1.handled=none:=hh
 wp_walk using ug,wpAny_handled hA1
 ·dsimp only
  unfold raiseNew
  wp_walk using wpAny_handled hA1,wpAny_throw
  refine wpAny_of_eq isSubtype_stop (g8 ?_);exact(hQ _ (((uf _ _ _).extBut.push _).push _))
 ·exact sizeOk_excFields _ _ _ _ _ _ _ _
 ·show(0:Nat)<=_
  exact t6 _
theorem qmw{d:Addr}{ep:Nat}{od:Obj}{es:Array DictEntry}{Q:Value->Shared->Prop}(hs:(d==sysModules)=false)(hod:s.heap.get? d=some od)(hx:od.ExactDict)(hdd:od.data=.dict es ep)
  (hQ:Q (.ref s.heap.objs.size) {s with heap:=s.heap.push {cls:=.type "dict_keyiterator",data:=.fields #[.ref d,.int 0 0,.int (es.size:Int) 0,.int (ep:Int) 0]} }):wpAny (model prog w) A (pyIter (.ref d)) Q E s:=by
 have hT:s.TypeIs (.ref d) "dict" :=⟨od,hod,hx.1⟩
 refine g4w hT F.slot_dict_iter (nz F.slot_dict_iter hT F.entry_dict_iter ?_ (F.args_dict_iter_1 _));unfold Builtin.«dict.__iter__»
 wp_walk using g3m hT,g4y hod hdd,g5p hod hdd
 exact⟨_,rfl,"dict_keyiterator",_,⟨_,gz _ rfl,rfl⟩,g04.lookup,hQ⟩
end
end Js
namespace DL
open PySem PySem.Spec PyProof.Rows L2
variable[Lam][Pin]
abbrev DX:=List (List Int×Addr×Value)
def Itd(a:Addr)(xs:DX)(ep:Nat): It:=
 ⟨fun i H=>H a=some (.ext (DE a xs ep))/\i<xs.length,fun i H v H'=>H'=H/\∃x,xs[i]? = some x/\v=.ref x.2.1,fun i H=>H a=some (.ext (DE a xs ep))/\xs.length<=i⟩
theorem qmx{P:Program}{w:World}{K:Frag}{tg:Expr}(a it:Addr)(xs:DX)(ep:Nat): Turn P w K tg (Itd a xs ep) [it] it (fun i h=>i<=xs.length/\h.IsKeyIter it a i xs.length ep) where
 mem:=by simp
 obj:=fun i h st b hb=>by
  have e:b=it:=by simpa using hb
  subst e;obtain⟨_,o,e,c,d⟩:=st;exact⟨o,e,fun v z=>by rw [d] at z;cases z⟩
 keep:=fun i h h' st k=>⟨st.1,st.2.at fun o e=>k it (by simp) o e⟩
 item:=by
  intro X hP hw hK hc i pins s σ H E I hf st hg;subst hP hw hK;obtain⟨hq,hi⟩:=hg;obtain⟨⟨o,es,g1,g2,g3,g4⟩,_,_⟩:=(show ObjOk X.prog X.w H s.heap a _ from I.hok a _ hq)
  have hsz:es.size=xs.length:=by rw [<- ue,g4,gh]
  obtain⟨f0,f1,f2,f3,f4,f5⟩:=hf it (by simp);have st2:=st.2;rw [<- hsz] at st2;have hi':i<es.size:=by rw [hsz];exact hi
  refine Js.qcc st2 g1 g3 hi' fun h' st' sb=>?_;have I1:Inv X pins σ H {s with heap:=h'}:=I.turned (t':=s.toks) (fun b o hb e=>(sb.2 b hb).trans e) f0 f1 f3 f4 f5;obtain⟨o',e,c,d⟩:=id st';have hx:xs[i]? = some xs[i]:=mm hi;have hk:(es[i]'hi').key=.ref xs[i].2.1:=by
   have h2:es.toList[i]? = some (qum xs[i]):=by rw [g4,mj,hx];rfl
   rw [g27,g11 es i hi'] at h2;rw [gu h2];rfl
  rw [hsz] at st';exact⟨_,rfl,qe5 (s:={s with heap:=h'}) e c d (by decide) ⟨.ref xs[i].2.1,H,I1,by rw [hk];rfl,⟨rfl,_,hx,rfl⟩,⟨hi,st'⟩,fun b hb=>(hf b hb).1⟩⟩
 done:=by
  intro X hP hw hK hc i pins s σ H E I hf st hg;subst hP hw hK;obtain⟨hq,hi⟩:=hg;obtain⟨⟨o,es,g1,g2,g3,g4⟩,_,_⟩:=(show ObjOk X.prog X.w H s.heap a _ from I.hok a _ hq)
  have hsz:es.size=xs.length:=by rw [<- ue,g4,gh]
  obtain⟨f0,f1,f2,f3,f4,f5⟩:=hf it (by simp);have st2:=st.2;rw [show i=xs.length from Nat.le_antisymm st.1 hi, <- hsz] at st2;exact Js.qdy (I.ok.hd hc) st2 g1 g3 fun h' eb=>⟨rfl,I.turned (t':=s.toks) (fun b o hb e=>eb b o hb e) f0 f1 f3 f4 f5⟩
 self:=fun _ _ _ _ _ st h=>wpAny_pyIter_keyiter st.2 h
abbrev q9d(ks:List (List Int)): List D:=ks.map fun k=>.tup (k.map .int)
theorem qp8{K:Frag}{F:Hp}{a:Addr}{xs:DX}{ep:Nat}{ks:List (List Int)}(h:F a=some (.ext (DE a xs ep)))(e2:xs.map (·.1)=ks)(e6:∀x∈xs,SqT K F x.2.1 (x.1.map V.int)): ItD K F (q9d ks) (Itd a xs ep) where
 go:=fun i F' H s1 s2 hi=>⟨s2 _ _ (s1 _ _ h),by rw [<- e2] at hi;simpa using hi⟩
 yld:=fun i d F' H x H' s1 s2 hi ⟨e,y,hy,hx⟩=>by
  subst e hx e2;rw [mj,mj,hy] at hi;cases hi;exact⟨F',.refl s2,rep_tup.mpr ⟨_,_,rfl,qt s1 (e6 y (uo hy)),RepL.ints.mpr rfl⟩⟩
 stop:=fun i F' H s1 s2 hi=>⟨s2 _ _ (s1 _ _ h),by rw [<- e2] at hi;simpa using hi⟩
section
variable{X:Cx}{pos:Pos}{tg e:Expr}
theorem qsh{l:Expr}{tl:TE}(hl:PE X l tl): PI X tg l (fun σ H R=>tl σ H fun x H1=>∃a xs ep,x=.ref a/\H1 a=some (.ext (DE a xs ep))/\(a==sysModules)=false/\R (Itd a xs ep) H1):=by
 intro pins s σ H R I h;refine thn (hl pins s σ H _ I h) fun v s1 ⟨x,H1,I1,r1,q1⟩=>?_;obtain⟨a,xs,ep,e,hq,hm,q⟩:=q1;subst e;cases r1;obtain⟨⟨o,es,g1,g2,g3,g4⟩,_,_⟩:=(show ObjOk X.prog X.w H1 s1.heap a _ from I1.hok a _ hq)
 have hsz:es.size=xs.length:=by rw [<- ue,g4,gh]
 refine Js.qmw hm g1 g2 g3 ?_;refine⟨s1.heap.objs.size,[s1.heap.objs.size],_,_,H1,rfl,I1.kept (t':=s1.toks) fun b o e=>gb _ e,qmx a _ xs ep,⟨t6 _,_,gz _ rfl,rfl,by rw [hsz];rfl⟩,fun b hb=>?_,q⟩;have e:b=s1.heap.objs.size:=by simpa using hb
 subst e;exact I1.fpOk (gi _) (I1.hok.fresh (gi _))
def qk0(f:FE): FA:=fun ρ =>(f ρ).bind fun d=>match d with
 | .dtt ks _=>some (q9d ks)
 | _=>none
theorem qmy{f:FE}(h:PE X e (tD X.K f)): PI X tg e (tDI X.K (qk0 f)):=qav (qsh h) fun σ H R ⟨F0,H0,F, ρ,ds,r,hf,q⟩=>by
 obtain⟨d,h1,h2⟩:=g7.mp hf;refine⟨F0,H0,F, ρ,d,r,h1,fun v F' H' g' r'=>?_⟩
 split at h2
 ·cases h2
  obtain⟨a,xs,ys,ep,rfl,e1,e2,e3,e4,e5,e6,e7,e8⟩:=rep_dtt.mp r';exact⟨a,xs,ep,rfl,g'.fh _ _ e1,e5,q _ F' H' g' (qp8 e1 e2 e6)⟩
 ·cases h2
end
def q9e:D->List D->Option D
 | .dtt ks vs,[.tup kd]=>(zx kd).bind fun k=>if k∈ks then vs[ks.idxOf k]? else some .non
 | .dtt ks vs,[.tup kd,d0]=>(zx kd).bind fun k=>if k∈ks then vs[ks.idxOf k]? else some d0
 | _,_=>none
def qk1(f:FE)(fa:FA): FE:=fun ρ =>(f ρ).bind fun d=>(fa ρ).bind fun xs=>q9e d xs
section
variable{X:Cx}
theorem qir{K:Frag}{F:Hp}{ks:List (List Int)}{vs:List D}{xs:DX}{ys:List V}{k:List Int}(e2:xs.map (·.1)=ks)(e3:ks.Nodup)(e7:Vals ys (xs.map fun p=>p.2.2))(e8:RepL K F vs ys){d0 d:D}{v0:V}{u0:Value}(r0:Rep K F d0 v0)(q0:RelV v0 u0)
  (h:(if k∈ks then vs[ks.idxOf k]? else some d0)=some d):∃v,Rep K F d v/\RelV v (((atKey xs k).map (·.2)).getD u0):=by
 split at h
 ·rename_i hk
  obtain⟨w,ew,rw'⟩:=e8.get h;obtain⟨uu,eu,ruu⟩:=e7.get ew;rw [mj] at eu;obtain⟨z,hz,rfl⟩:=gw.mp eu;have hzk:z.1=k:=by
   have h2:(xs.map (·.1))[ks.idxOf k]? = some z.1:=by rw [mj,hz];rfl
   rw [e2,mm (g29 hk),g4j] at h2;exact(gu h2).symm
  have ha:atKey xs k=some z.2:=by
   rw [<- hzk];exact g5g (by rw [e2];exact e3) (show xs[ks.idxOf k]? = some (z.1,z.2) from hz)
  exact⟨w,rw',by rw [ha];exact ruu⟩
 ·rename_i hk
  cases h;have ha:atKey xs k=none:=g4x fun i p e=>hk (by rw [<- e2];exact md.mpr ⟨_,uo e,rfl⟩);exact⟨v0,r0,by rw [ha];exact q0⟩
theorem qve(hu:X.A.units+64<cLine): MtR X "dict.get" (fun x xs H Q=>∃F d ds r,Same F H/\Rep X.K F d x/\RepL X.K F ds xs/\q9e d ds=some r/\∀v,Rep X.K F r v->Q v H):=by
 intro pins s σ H x vs v us Q I rx rv h;obtain⟨F,d,ds,r,fh,r1,r2,ho,q⟩:=h;unfold q9e at ho
 split at ho
 ·rename_i ks ws kd
  obtain⟨k,h1,ho⟩:=g7.mp ho;obtain⟨x1,rfl,rx1⟩:=rep1 r2;obtain⟨u1,rfl,ru1⟩:=vals1 rv;obtain⟨b,kxs,rfl,k1,k2⟩:=rep_tup.mp rx1;obtain⟨a,xs,ys,ep,rfl,e1,e2,e3,e4,e5,e6,e7,e8⟩:=rep_dtt.mp r1;cases rx;cases ru1;rw [ints_rep h1 k2] at k1;obtain⟨⟨o,es,g1,g2,g3,g4⟩,_,_⟩:=(show ObjOk X.prog X.w H s.heap a _ from I.hok a _ (fh _ _ e1))
  have dd:s.heap.DictOfH (Js.TK X.prog X.w) a xs:=⟨o,es,ep,g1,g2,g3,g4,fun x hx=>wz I fh (e6 x hx),by rw [e2];exact e3⟩
  obtain⟨v,rv,qv⟩:=qir e2 e3 e7 e8 (d0:=.non) (v0:=.non) (u0:=.none) (rep_non.mpr rfl) rfl ho;refine call_meetsIn g3n dd.typeIs g5w (PySem.F.args_dict_get_2 _ _) (meetsH_dict_get (Js.TK X.prog X.w) a b e5) ⟨g2v (by lia),k,xs,wz I fh k1,dd,?_⟩;exact⟨v,H,I.tok _,qv,q v rv⟩
 ·rename_i ks ws kd d0
  obtain⟨k,h1,ho⟩:=g7.mp ho;obtain⟨x1,t1,rfl,rx1,r3⟩:=r2.cons_inv;obtain⟨x2,rfl,rx2⟩:=rep1 r3;obtain⟨u1,u2,rfl,ru1,ru2⟩:=rv.two;obtain⟨b,kxs,rfl,k1,k2⟩:=rep_tup.mp rx1;obtain⟨a,xs,ys,ep,rfl,e1,e2,e3,e4,e5,e6,e7,e8⟩:=rep_dtt.mp r1;cases rx;cases ru1;rw [ints_rep h1 k2] at k1;obtain⟨⟨o,es,g1,g2,g3,g4⟩,_,_⟩:=(show ObjOk X.prog X.w H s.heap a _ from I.hok a _ (fh _ _ e1))
  have dd:s.heap.DictOfH (Js.TK X.prog X.w) a xs:=⟨o,es,ep,g1,g2,g3,g4,fun x hx=>wz I fh (e6 x hx),by rw [e2];exact e3⟩
  obtain⟨v,rv,qv⟩:=qir e2 e3 e7 e8 rx2 ru2 ho;refine call_meetsIn g3n dd.typeIs g5w (PySem.F.args_dict_get_3 _ _ _) (meetsH_dict_get_default (Js.TK X.prog X.w) a b e5 u2) ⟨g2v (by lia),k,xs,wz I fh k1,dd,?_⟩;exact⟨v,H,I.tok _,qv,q v rv⟩
 ·cases ho
theorem qvf{o e:Expr}{es:List Expr}{f:FE}{fa:FA}{apos cpos:Pos}(hu:X.A.units+64<cLine)(ho:PE X o (tD X.K f))(ha:PA X (e :: es) (tDA X.K fa))
  (hbase:attributeBase o "get" X.env (eval o X.env)=eval o X.env:=by rfl)
  (hfew:((backTo cpos (starEach (e :: es) X.env)).all (fun x=> !x.1)&&(backToKw cpos (keywordEach [] X.env)).all (fun x=>x.1.isSome)
   && decide ((e :: es).length+([]:List Keyword).length+(if([]:List Keyword).isEmpty then 0 else 1)<30))=true:=by rfl)
  (hline:(apos.endLine==cpos.line)=true:=by rfl) (hs:starEach (e :: es) X.env=(false,eval e X.env) :: starEach es X.env:=by rfl) (hplain:(backTo cpos (starEach es X.env)).any (·.1)=false:=by rfl) :
  PE X (.Call (.Attribute o "get" apos) (e :: es) [] cpos) (tD X.K (qk1 f fa)):=by
 intro pins s σ H Q I ⟨F0,H0,F, ρ,d,r,hf,q⟩;obtain⟨d1,h1,hf⟩:=g7.mp hf;obtain⟨ds,h2,h3⟩:=g7.mp hf;refine wpAny_Call_method_late hbase hfew hline rfl (thn (ho pins s σ H (fun v H1=>∃F1,Grow F H F1 H1/\Rep X.K F1 d1 v) I ⟨F0,H0,F, ρ,d1,r,h1,fun v F1 H1 g1 r1=>⟨F1,g1,r1⟩⟩) fun v s1 ⟨x,H1,I1,rx,F1,g1,r1⟩=>?_);obtain⟨ks,vs,rfl⟩:∃ks vs,d1=.dtt ks vs:=by cases d1 <;> first|exact⟨_,_,rfl⟩|(simp [q9e] at h3)
 obtain⟨a,xs,ys,ep,rfl,e1,e2,e3,e4,e5,e6,e7,e8⟩:=rep_dtt.mp r1;cases rx;obtain⟨⟨ob,es',k1,k2,k3,k4⟩,_,_⟩:=(show ObjOk X.prog X.w H1 s1.heap a _ from I1.hok a _ (g1.fh _ _ e1))
 refine⟨"dict","dict.get",PySem.F.plainAttrs_dict,g3n,PySem.F.type_dict_get,⟨ob,k1,k2.1⟩,fun b e=>by cases e;exact⟨ob,k1,k2.2.1⟩,?_⟩;have hA:=ha cpos pins s1 σ H1 (fun vs H2=>∃F2,Grow F1 H1 F2 H2/\RepL X.K F2 ds vs) I1 ⟨F0,H0,F1, ρ,ds,r.grow g1,h2,fun vs F2 H2 g2 r2=>⟨F2,g2,r2⟩⟩;rw [hs] at hA ⊢;refine Calls.callWith_builtin (by show(false || (backTo cpos (starEach es X.env)).any (·.1))=false;rw [hplain] <;> rfl) (Calls.evalArgs_plain ?_);exact thn hA fun us s2 ⟨ws,H2,I2,rw',F2,g2,r2⟩=>qve hu pins s2 σ H2 (.ref a) ws (.ref a) us Q I2 rfl rw' ⟨F2,.dtt ks vs,ds,d,g2.fh,r1.mono g2.ff,r2,h3,fun v rv=>q v F2 H2 (g1.trans g2) rv⟩
end
section
variable{X:Cx}{e:Expr}{pos:Pos}{f:FE}
end
end DL
namespace Rv
open PySem PyProof.Rows
section
variable{prog:Program}{w:World}{A:Around}{E:Value->Shared->Prop}{s:Shared}{I:Addr}{fp wr:List Addr}{G:Array GenState->Array GenState->Prop}{n:Nat}{P:Nat->Value->Prop}{St:Nat->Shared->Prop}
end
end Rv
namespace DL
open PySem PySem.Spec PyProof.Rows L2
variable[Lam][Pin]
section
variable{X:Cx}{pos:Pos}{tg:Expr}
end
end DL
namespace Rv
open PySem PyProof.Rows
section
variable{prog:Program}{w:World}{A:Around}{s:Shared}{R:Result->Shared->Prop}
variable{I:Addr}{fp wr:List Addr}{G:Array GenState->Array GenState->Prop}{n:Nat}{P:Nat->Value->Prop}{St:Nat->Shared->Prop}
end
section
variable{prog:Program}{w:World}{A:Around}{E:Value->Shared->Prop}{s:Shared}
variable{I:Addr}{fp wr:List Addr}{G:Array GenState->Array GenState->Prop}{n:Nat}{P:Nat->Value->Prop}{St:Nat->Shared->Prop}
end
end Rv
namespace Js
open PySem
open Sem (wp)
theorem qhi:typeLookup (.type "tuple") "keys" = pure none:=by rw [g1v,g0e];kernel_rfl
theorem qcd:typeLookup (.type "tuple") "__getattr__" = pure none:=by rw [g1v,g0e];kernel_rfl
section
variable{prog:Program}{w:World}{A:Around}{E:Value->Shared->Prop}{s:Shared}{a:Addr}
theorem qk2{xs:Array Value}{n:Nat}{u:Tok}{Q:Value->Shared->Prop}{sl:Array (Option Value)}(hx:s.heap.get? a=some {cls:=.type "tuple",dict:=none,data:=.seq xs n,slots:=sl})(hh:A.handled=none)
  (h:∀h' tk e,Heap.NewAttrErr s.heap h' e (.ref a) "keys" -> E (.ref e) {s with heap:=h',toks:=tk}) :
  wpAny (model prog w) A (call (.builtin "tuple.__getattribute__") [.ref a,.str "keys" u]) Q E s:=by
 refine nz g2o ⟨_,hx,rfl⟩ F.entry_tuple_ga ?_ (F.args_tuple_getattribute_2 _ _);obtain⟨hp,g,d,tk,os⟩:=s;have hT:(⟨hp,g,d,tk,os⟩:Shared).TypeIs (.ref a) "tuple" :=⟨_,hx,rfl⟩
 have f4:=qhi;unfold Builtin.«object.__getattribute__»
 repeat (any_goals (first|assumption|wp_step))
 exact wpAny_raiseAttrError (by simpa using hh) (fun h' tk e x=>h h' tk e x) (attrMsg_fits (by decide +kernel) (by size_fits))
theorem qk3{xs:Array Value}{n:Nat}{Q:Option Value->Shared->Prop}{sl:Array (Option Value)}(hx:s.heap.get? a=some {cls:=.type "tuple",dict:=none,data:=.seq xs n,slots:=sl})(hh:A.handled=none)
  (h:∀h' tk,(∀b o,s.heap.get? b=some o->h'.get? b=some o)->Q none {s with heap:=h',toks:=tk}) :
  wpAny (model prog w) A (getAttr? (.ref a) "keys") Q E s:=by
 obtain⟨hp,g,d,tk,os⟩:=s;have hT:(⟨hp,g,d,tk,os⟩:Shared).TypeIs (.ref a) "tuple" :=⟨_,hx,rfl⟩
 have f1:=sub_AttributeError;have f3:=g2o.lookup;have f4:=g2o.bind (.ref a);have f5:=qcd;unfold getAttr? getAttrBy? getAttrBy
 repeat (any_goals (first|assumption|((with_reducible show wpAny _ _ (call (Value.builtin "tuple.__getattribute__") _ _) _ _ _);refine qk2 hx (by first|exact hh|simpa using hh) fun h' tk' e x=>?_)|wp_step))
 obtain⟨t',u',he⟩:=x.there
 repeat (any_goals (first|assumption|wp_step))
 exact h _ _ x.keeps
end
section
variable{prog:Program}{w:World}{A:Around}{R:Result->Shared->Prop}
theorem qk4{vs:List Value}{ps:List (List Int×Addr×Value)}{N I S L:Addr}(hu:A.units+1<cLine)(hh:A.in1.handled=none)(hSN:N<=S)(hIN:N<=I)(hLN:L<N)(hSI:S≠I)(h0:Heap)(hN:∀b o,h0.get? b=some o->b<N)(P0:Prs (TK prog w) h0 vs ps)(hl0:h0.IsTuple L vs.toArray)(hnd:(ps.map (·.1)).Nodup)(hz:ps.length<=sizeLine):
  ∀(k i:Nat) (s:Shared) (j:Int) (tj:Tok),ps.length-i=k->i<=ps.length->s.heap.IsTupleIter I L i->(∀b o,h0.get? b=some o->s.heap.get? b=some o)->s.heap.DictOfH (TK prog w) S (ps.take i) ->
   (∀s',s'.gens=s.gens->s'.drawn=s.drawn->s'.os=s.os->s.toks<=s'.toks->(∀b o,h0.get? b=some o->s'.heap.get? b=some o)->s'.heap.DictOfH (TK prog w) S ps->R (.ok (.ret .none)) s') ->
   codeAny (model prog w) A (.builtin "dict.update.loop" ⟨[.ref S,.ref I,.int j tj,.none],[]⟩) R s:=by
 intro k
 induction k with
 | zero=>
  intro i s j tj hk hi hit hkeep hd hR;have hin:i=ps.length:=by lia
  subst hin;refine uk q53 ?_;rw [u9 kl _];have hls:s.heap.IsTuple L vs.toArray:=let⟨o,ho,r⟩:=hl0; ⟨o,hkeep L o ho,r⟩
  show wpAny _ A.in1 (pyNext (.ref I) >>= _) _ _ s;refine g0 (wpAny_pyNext_tuple_end hh hit hls (by simp [P0.len]) fun h' he=>?_);show wpAny _ A.in1 (Builtin.Dict.addKeywords S [] >>= _) _ _ _;refine g0 (g8 (g8 ?_));rw [g0u (gi _)] at hd;refine hR _ rfl rfl rfl (gi _) (fun b o e=>he b o (mf (gr (hN b o e) hIN)) (hkeep b o e)) ?_;obtain⟨o,es,ep,ho,hc,hdd,hes,his,hn⟩:=hd;exact⟨o,es,ep,he S o hSI ho,hc,hdd,hes,fun x hx=>q2l (P0.key x hx) fun o' e=>he _ o' (mf (gr (hN _ o' e) hIN)) (hkeep _ o' e),hn⟩
 | succ k ih=>
  intro i s j tj hk hi hit hkeep hd hR;have hlt:i<ps.length:=by lia
  have hp:ps[i]? = some ps[i]:=mm hlt;obtain⟨q,hq,hqt⟩:=P0.pair i _ hp;have hkey:=P0.key _ (g1k hlt);generalize ps[i]=p at hp hq hqt hkey;refine uk q53 ?_;rw [u9 kl _];have hls:s.heap.IsTuple L vs.toArray:=let⟨o,ho,r⟩:=hl0; ⟨o,hkeep L o ho,r⟩
  show wpAny _ A.in1 (pyNext (.ref I) >>= _) _ _ s;refine g0 (wpAny_pyNext_tuple_item hit hls (x:=.ref q) (by simpa using hq) fun h' hit' hs'=>?_);have keep1:∀b o,h0.get? b=some o->h'.get? b=some o:=fun b o e=>hs'.extBut b o (mf (gr (hN b o e) hIN)) (hkeep b o e);have hqt1:h'.IsTuple q #[.ref p.2.1,p.2.2]:=let⟨o,ho,r⟩:=hqt; ⟨o,keep1 q o ho,r⟩
  have hkey1:(TK prog w).is h' p.1 p.2.1:=q2l hkey fun o e=>keep1 _ o e;have hd1:h'.DictOfH (TK prog w) S (ps.take i):=by
   obtain⟨o,es,ep,ho,hc,hdd,hes,his,hn⟩:=hd;exact⟨o,es,ep,hs'.extBut S o hSI ho,hc,hdd,hes,fun x hx=>q2l (P0.key x (List.mem_of_mem_take hx)) fun o' e=>keep1 _ o' e,hn⟩
  dsimp only;refine g0 (nk ?_);refine g0 (wpAny_tryCatch ?_);unfold Builtin.Dict.pairItems;obtain⟨oq,hoq,hcq,nq,hdq⟩:=hqt1;refine g0 (g0y (s:={s with heap:=h'}) (T:="tuple") ⟨oq,hoq,hcq⟩ ?_);rw [gq (by decide)];refine g0 (g49 (s:={s with heap:=h'}) hoq hdq (g8 ?_));dsimp only [Option.getD_some];refine nk ?_;have hnone:atKey (ps.take i) p.1=none:=by
   refine g4x fun jj pp e=>?_;have hjj:jj<i:=by
    have:=(nj.mp e).1;rw [pq] at this;lia
   have e':ps[jj]? = some (p.1,pp):=by rw [g2p hjj] at e;exact e
   have:=idxH_unique hnd e' (show ps[i]? = some (p.1,p.2) from hp);lia
  refine wpAny_dictSet_heap (s:={s with heap:=h'}) (show(TK prog w).room A.in1 from hu) hkey1 hd1 (fun h2 hd2 hs2=>?_) (by rw [pq];lia);rw [storedH_new hnone,show ps.take i++[(p.1,p.2.1,p.2.2)]=ps.take (i+1) by rw [g47,hp];rfl] at hd2;have ne2:∀b o,h0.get? b=some o->b≠S:=fun b o e=>mf (gr (hN b o e) hSN);refine g8 ⟨g1d kl _,ih (i+1) _ _ _ (by lia) hlt ?_ (fun b o e=>?_) hd2 fun s' a1 a2 a3 a4 a5 a6=>?_⟩
  ·obtain⟨o,ho,r⟩:=hit'
   exact⟨o,hs2.extBut I o (n4 hSI) ho,r⟩
  ·exact hs2.extBut b o (ne2 b o e) (keep1 b o e)
  ·exact hR s' a1 a2 a3 (mq (g1n _ _) a4) a5 a6
end
section
variable{prog:Program}{w:World}{A:Around}{E:Value->Shared->Prop}{s:Shared}
theorem qa9{L:Addr}{vs:List Value}{n0:Nat}{ps:List (List Int×Addr×Value)}{Q:Value->Shared->Prop}(hu:A.units+4<cLine)(hh:A.handled=none){sl:Array (Option Value)}(hL:s.heap.get? L=some {cls:=.type "tuple",dict:=none,data:=.seq vs.toArray n0,slots:=sl})(P0:Prs (TK prog w) s.heap vs ps)(hnd:(ps.map (·.1)).Nodup)(hz:ps.length<=sizeLine)
  (h:∀h' tk,(∀b o,s.heap.get? b=some o->h'.get? b=some o)->h'.DictOfH (TK prog w) s.heap.objs.size ps->Q (.ref s.heap.objs.size) {s with heap:=h',toks:=tk}) :
  wpAny (model prog w) A (call (.type "dict") [.ref L]) Q E s:=by
 refine callType_codes (Q₁:=fun obj s₁=>obj=.ref s.heap.objs.size/\s₁ = {s with heap:=s.heap.push {cls:=.type "dict",data:=.dict #[]} }) F.kt_called_dict (F.kt_typeCall_dict_1 _) F.entry_dict_init (kt_code_dict_new _ ⟨rfl,rfl⟩) ?_
 rintro obj s₁ ⟨rfl,rfl⟩
 let dO:Obj:={cls:=.type "dict",data:=.dict #[]}
 have hnew:(s.heap.push dO).DictOfH (TK prog w) s.heap.objs.size []:=Heap.DictOfH.new s.heap;have hTd:Shared.TypeIs {s with heap:=s.heap.push dO} (.ref s.heap.objs.size) "dict" :=⟨dO,gz _ rfl,rfl⟩
 have hL1:(s.heap.push dO).get? L=some {cls:=.type "tuple",dict:=none,data:=.seq vs.toArray n0,slots:=sl}:=gb _ hL;refine⟨hTd,F.args_dict_init_2 _ _,?_⟩;unfold Builtin.«dict.__init__»;refine g0 ?_;unfold Builtin.Dict.selfAndRest;refine g0 (g3m hTd ?_);show wpAny _ _ (pure (s.heap.objs.size,[Value.ref L])) _ _ _;refine g8 ?_;show wpAny _ _ (Builtin.Dict.updateFrom "dict.__init__" s.heap.objs.size (.ref L) [] .none) _ _ _;unfold Builtin.Dict.updateFrom;refine g0 (g0y (T:="tuple") ⟨_,hL1,rfl⟩ ?_);rw [gq (by decide)];refine g0 (qk3 (s:={s with heap:=s.heap.push dO}) hL1 (by simpa using hh) fun h1 tk1 k1=>?_);rw [gq (by rfl)];refine g0 (g0b ?_);have hL2:h1.IsTuple L vs.toArray:=⟨_,k1 _ _ hL1,rfl,n0,rfl⟩
 refine g0 (g4g (s:={s with heap:=h1,toks:=tk1}) hL2 ?_)
 let iO:Obj:={cls:=.type "tuple_iterator",data:=.fields #[.ref L,.int 0 0]}
 have hz1:s.heap.objs.size+1<=h1.objs.size:=m9 (k1 _ _ (gz s.heap (o:=dO) rfl));have hLs:L<s.heap.objs.size:=m9 hL;have keep:∀b o,s.heap.get? b=some o->(h1.push iO).get? b=some o:=fun b o e=>gb _ (k1 b o (gb _ e));have hd0:(h1.push iO).DictOfH (TK prog w) s.heap.objs.size []:=by
  obtain⟨o,es,ep,ho,hc,hdd,hes,his,hn⟩:=hnew;exact⟨o,es,ep,gb _ (k1 _ _ ho),hc,hdd,hes,fun x hx=>(nomatch hx),hn⟩
 refine g8 ⟨g1d kl _,qk4 (A:=A.in1) (N:=s.heap.objs.size) (I:=h1.objs.size) (S:=s.heap.objs.size) (L:=L) (vs:=vs) (ps:=ps) (by show A.units+1+1<cLine;lia) (by simpa using hh) (gi _) (Nat.le_of_succ_le hz1) hLs (mf hz1) s.heap (fun b o e=>m9 e) P0 ⟨_,hL,rfl,n0,rfl⟩ hnd hz
  ps.length 0 _ _ _ rfl (t6 _) ⟨iO,gz _ rfl,rfl,rfl⟩ keep hd0 fun s' a1 a2 a3 a4 a5 a6=>?_⟩
 obtain⟨h',g',d',tk',os'⟩:=s';dsimp only at a1 a2 a3 a4 a5 a6;subst a1;subst a2;subst a3;exact⟨rfl,h h' tk' a5 a6⟩
end
end Js
namespace DL
open PySem PySem.Spec PyProof.Rows L2
variable[Lam][Pin]
section
variable{X:Cx}{pos:Pos}
def qba:List D->Option D
 | [.tup ds]=>(q4g ds).bind fun p=>if p.1.Nodup/\ds.length<=lim then some (.dtt p.1 p.2) else none
 | _=>none
theorem qp9(hc:X.calm=true)(hu:X.A.units+64<cLine): jx X (.type "dict") (rC X.K qba):=fun pins s σ H xs us Q I rv ⟨F,ds,d,fh,rl,ho,q⟩=>by
 unfold qba at ho
 split at ho
 ·rename_i ds'
  obtain⟨⟨ks,vs⟩,h1,h2⟩:=g7.mp ho
  split at h2
  ·rename_i hok
   cases h2;obtain⟨x,rfl,rx⟩:=rep1 rl;obtain⟨a,ys,rfl,k1,k2⟩:=rep_tup.mp rx;obtain⟨u,rfl,ru⟩:=vals1 rv;cases ru;obtain⟨its,r1,⟨o,e1,e2,e3,n,e4⟩,hz⟩:=I.tupleX (qt fh k1);obtain⟨oc,od,oda,osl⟩:=o;dsimp only at e2 e3 e4;subst e2;subst e3;subst e4;obtain⟨ps,ws,P,p1,p2,p3,p4⟩:=qff I fh h1 k2 r1;have hl:ps.length<=lim:=by
    rw [<- P.len, <- r1.length, <- k2.length];exact hok.2
   refine Js.qa9 (by lia) (I.ok.hd hc) e1 P (by rw [p1];exact hok.1) (x8 hl) fun h' tk old hd=>?_;have hnn:H s.heap.objs.size=none:=I.hok.fresh (gi _);obtain⟨o,es,ep,g1,g2,g3,g4,_,g5⟩:=hd;have de:DE s.heap.objs.size ps ep h':=⟨o,es,g1,g2,g3,g4⟩
   refine⟨.ref _,_,I.laid (t':=tk) (a:=s.heap.objs.size) (o:=.ext (DE s.heap.objs.size ps ep)) old (gi _) ⟨de,⟨o,g1⟩,fun h1 h2 ⟨o,es,z,r⟩ e=>⟨o,es,e o z,r⟩⟩,rfl,?_⟩;have g:=Grow.new (o:=.ext (DE s.heap.objs.size ps ep)) fh hnn;refine q _ _ _ g (rep_dtt.mpr ⟨_,ps,ws,ep,rfl,zi,p1,hok.1,x8 hl,g2k.mpr (uw (qc5 I)),fun x hx=>qt g.ff (p2 x hx),p3,p4.mono g.ff⟩)
  ·cases h2
 ·cases ho
end
section
variable{X:Cx}{pos:Pos}
end
section
variable{K:Frag}{F0 H0 F H F' H':Hp}{σ : St}{ρ : Rho}
structure GD(K:Frag)(F H:Hp)(a:Addr)(ks:List (List Int))(vs:List D): Prop where
 ex:∃xs ys ep,H a=some (.ext (DE a xs ep))/\xs.map (·.1)=ks/\(∀x∈xs,SqT K F x.2.1 (x.1.map V.int))/\Vals ys (xs.map fun x=>x.2.2)/\RepL K F vs ys
 f:F a=none
end
section
variable{X:Cx}{pos:Pos}
end
section
variable{X:Cx}{pos:Pos}
end
end DL
namespace DL
open PySem PyProof.Rows L2
def rkD:D->Nat
 | .int _=>0
 | .tup _=>1
 | _=>2
mutual
def v9:D->D->Ordering
 | .int i,.int j=>if i<j then .lt else if j<i then .gt else .eq
 | .tup ds,.tup es=>vm ds es
 | d,e=>if rkD d<rkD e then .lt else if rkD e<rkD d then .gt else .eq
def vm:List D->List D->Ordering
 | [],[]=>.eq
 | [],_ :: _=>.lt
 | _ :: _,[]=>.gt
 | d :: ds,e :: es=>match v9 d e with
  | .eq=>vm ds es
  | o=>o
end
def ltT(d e:D): Bool:=(v9 d e).isLT
def vn(ds es:List D): Bool:=(vm ds es).isLT
mutual
/-- ints, and tuples of such -/
def kD:D->Bool
 | .int _=>true
 | .tup ds=>kDL ds
 | _=>false
def kDL:List D->Bool
 | []=>true
 | d :: ds=>kD d&&kDL ds
end
mutual
/-- where Python compares these two, it meets only ints with ints, tuples with tuples -/
def shD:D->D->Bool
 | .int _,.int _=>true
 | .tup ds,.tup es=>shL ds es
 | _,_=>false
def shL:List D->List D->Bool
 | d :: ds,e :: es=>shD d e&&shL ds es
 | _,_=>true
end
def qce(k:D×D): List (D×D)->List (D×D)
 | []=>[k]
 | y :: r=>if ltT y.1 k.1=true then y :: qce k r else k :: y :: r
def q09:List (D×D)->List (D×D)
 | []=>[]
 | x :: r=>qce x (q09 r)
theorem swap3{a b:Nat}: (if a<b then Ordering.lt else if b<a then .gt else .eq).swap=if b<a then .lt else if a<b then .gt else .eq:=by
 by_cases h:a<b
 ·rw [gq h,m6 (by omega),gq h];rfl
 ·by_cases k:b<a
  ·rw [m6 h,gq k,gq k];rfl
  ·rw [m6 h,m6 k,m6 k,m6 h];rfl
theorem swap4{a b:Int}: (if a<b then Ordering.lt else if b<a then .gt else .eq).swap=if b<a then .lt else if a<b then .gt else .eq:=by
 by_cases h:a<b
 ·rw [gq h,m6 (by omega),gq h];rfl
 ·by_cases k:b<a
  ·rw [m6 h,gq k,gq k];rfl
  ·rw [m6 h,m6 k,m6 k,m6 h];rfl
theorem qfg:∀n,(∀d e:D,sizeOf d<n->v9 e d=(v9 d e).swap)/\(∀ds es:List D,sizeOf ds<n->vm es ds=(vm ds es).swap):=by
 intro n
 induction n with
 | zero=>exact⟨fun d e h=>absurd h (ni _),fun d e h=>absurd h (ni _)⟩
 | succ n ih=>
  refine⟨fun d e hn=>?_,fun ds es hn=>?_⟩
  ·cases d <;> cases e <;> simp only [v9] <;> first
    | exact swap3.symm
    | exact swap4.symm
    | exact ih.2 _ _ (by simp at hn;omega)
  ·cases ds with
   | nil=>cases es <;> simp only [vm] <;> rfl
   | cons d ds=>
    cases es with
    | nil=>simp only [vm];rfl
    | cons e es=>
     simp only [vm];rw [ih.1 d e (by simp at hn;omega),ih.2 ds es (by simp at hn;omega)];cases v9 d e <;> rfl
theorem cmp_swap(d e:D): v9 e d=(v9 d e).swap:=(qfg (sizeOf d+1)).1 d e (p9 _)
theorem q00(d e:D)(ds es:List D): vn (d :: ds) (e :: es)=(ltT d e || (!ltT e d&&vn ds es)):=by
 unfold vn ltT;rw [cmp_swap d e,vm];cases v9 d e <;> rfl
theorem q2m(ds:List D): vn ds []=false:=by cases ds <;> simp only [vn,vm] <;> rfl
theorem km(e:D)(es:List D): vn [] (e :: es)=true:=by simp only [vn,vm];rfl
theorem lt3{a b:Nat}: (if a<b then Ordering.lt else if b<a then .gt else .eq).isLT=decide (a<b):=by
 by_cases h:a<b
 ·simp [h]
 ·by_cases k:b<a <;> simp [h,k]
theorem lt4{a b:Int}: (if a<b then Ordering.lt else if b<a then .gt else .eq).isLT=decide (a<b):=by
 by_cases h:a<b
 ·simp [h]
 ·by_cases k:b<a <;> simp [h,k]
theorem k8(ds es:List D): ltT (.tup ds) (.tup es)=vn ds es:=by unfold ltT;simp only [v9];rfl
theorem xr(i j:Int): ltT (.int i) (.int j)=decide (i<j):=by unfold ltT;simp only [v9];exact lt4
theorem qfh{d e:D}(h:ltT d e=true): ltT e d=false:=by
 unfold ltT at h ⊢;rw [cmp_swap d e];cases q:v9 d e <;> rw [q] at h <;> first|rfl|(cases h;done)
theorem q1v(d e:D): (∃i j,d=.int i/\e=.int j)\/(∃ds es,d=.tup ds/\e=.tup es)\/ltT d e=decide (rkD d<rkD e):=by
 cases d <;> cases e <;> first
  | (left;exact⟨_,_,rfl,rfl⟩)
  | (right;left;exact⟨_,_,rfl,rfl⟩)
  | (right;right;simp only [ltT,v9];exact lt3)
theorem qk5:∀n,(∀d e f:D,sizeOf d+sizeOf e+sizeOf f<n->ltT e d=false->ltT f e=false->ltT f d=false)/\(∀ds es fs:List D,sizeOf ds+sizeOf es+sizeOf fs<n->vn es ds=false->vn fs es=false->vn fs ds=false):=by
 intro n
 induction n with
 | zero=>exact⟨fun d e f h=>absurd h (ni _),fun d e f h=>absurd h (ni _)⟩
 | succ n ih=>
  refine⟨fun d e f hn h k=>?_,fun ds es fs hn h k=>?_⟩
  ·rcases q1v e d with⟨i,j,rfl,rfl⟩|⟨es,ds,rfl,rfl⟩|g1
   ·rcases q1v f (.int i) with⟨i',j',rfl,z⟩|⟨es,ds,rfl,z⟩|g2
    ·cases z
     simp only [xr,p7] at h k ⊢;omega
    ·cases z
    ·rcases q1v f (.int j) with⟨i',j',rfl,z⟩|⟨es,ds,rfl,z⟩|g3
     ·rw [xr,p7] at k
      simp only [xr,p7] at h ⊢;omega
     ·cases z
     ·rw [g3];simp [rkD]
   ·rcases q1v f (.tup es) with⟨i',j',rfl,z⟩|⟨fs,es',rfl,z⟩|g2
    ·cases z
    ·cases z
     simp only [k8] at h k ⊢;exact ih.2 _ _ _ (by simp at hn;omega) h k
    ·rcases q1v f (.tup ds) with⟨i',j',rfl,z⟩|⟨fs,es',rfl,z⟩|g3
     ·cases z
     ·cases z
      simp only [k8] at h k ⊢;exact ih.2 _ _ _ (by simp at hn;omega) h k
     ·rw [g2] at k;rw [g3];exact k
   ·rcases q1v f e with⟨i,j,rfl,rfl⟩|⟨es,ds,rfl,rfl⟩|g2
    ·rcases q1v (.int i) d with⟨i',j',z,rfl⟩|⟨fs,es',z,rfl⟩|g3
     ·cases z
      rw [xr,p7] at h;simp only [xr,p7] at k ⊢;omega
     ·cases z
     ·rw [g1] at h;rw [g3];exact h
    ·rcases q1v (.tup es) d with⟨i',j',z,rfl⟩|⟨fs,es',z,rfl⟩|g3
     ·cases z
     ·cases z
      simp only [k8] at h k ⊢;exact ih.2 _ _ _ (by simp at hn;omega) h k
     ·rw [g1] at h;rw [g3];exact h
    ·rcases q1v f d with⟨i,j,rfl,rfl⟩|⟨es,ds,rfl,rfl⟩|g3
     ·rw [g1] at h;rw [g2] at k
      cases e <;> simp [rkD] at h k
      rename_i m;have h':ltT (.int m) (.int j)=false:=by rw [g1];simp [rkD]
      have k':ltT (.int i) (.int m)=false:=by rw [g2];simp [rkD]
      simp only [xr,p7] at h' k' ⊢;omega
     ·rw [g1] at h;rw [g2] at k
      cases e <;> simp [rkD] at h k
      rename_i ms;have h':ltT (.tup ms) (.tup ds)=false:=by rw [g1];simp [rkD]
      have k':ltT (.tup es) (.tup ms)=false:=by rw [g2];simp [rkD]
      simp only [k8] at h' k' ⊢;exact ih.2 _ _ _ (by simp at hn;omega) h' k'
     ·rw [g1] at h;rw [g2] at k;rw [g3]
      simp only [p7] at h k ⊢;omega
  ·cases fs with
   | nil=>
    cases es with
    | nil=>exact h
    | cons e es=>rw [km] at k;cases k
   | cons f fs=>
    cases ds with
    | nil=>rw [q2m]
    | cons d ds=>
     cases es with
     | nil=>rw [km] at h;cases h
     | cons e es=>
      rw [q00] at h k ⊢;have z1:sizeOf d+sizeOf e+sizeOf f<n:=by simp at hn;omega
      have z2:sizeOf ds+sizeOf es+sizeOf fs<n:=by simp at hn;omega
      have z3:sizeOf e+sizeOf f+sizeOf d<n:=by simp at hn;omega
      have z4:sizeOf f+sizeOf d+sizeOf e<n:=by simp at hn;omega
      simp only [Bool.or_eq_false_iff,g67,Bool.not_eq_false'] at h k ⊢;obtain⟨h1,h2⟩:=h;obtain⟨k1,k2⟩:=k;refine⟨ih.1 d e f z1 h1 k1,?_⟩;rcases h2 with h2|h2
      ·left
       cases q:ltT d f
       ·-- f <= d and e <= f give e <= d
        have:=ih.1 e f d z3 k1 q;rw [this] at h2;cases h2
       ·rfl
      ·rcases k2 with k2|k2
       ·left
        cases q:ltT d f
        ·have:=ih.1 f d e z4 q h1
         rw [this] at k2;cases k2
        ·rfl
       ·right
        exact ih.2 ds es fs z2 h2 k2
theorem qfi{d e f:D}(h:ltT e d=false)(k:ltT f e=false): ltT f d=false:=(qk5 (sizeOf d+sizeOf e+sizeOf f+1)).1 d e f (p9 _) h k
theorem qmz:∀n,(∀d e:D,sizeOf d<n->kD d=true->kD e=true->ltT d e=false->ltT e d=false->d=e)/\(∀ds es:List D,sizeOf ds<n->kDL ds=true->kDL es=true->vn ds es=false->vn es ds=false->ds=es):=by
 intro n
 induction n with
 | zero=>exact⟨fun d e h=>absurd h (ni _),fun d e h=>absurd h (ni _)⟩
 | succ n ih=>
  refine⟨fun d e hn kd ke h k=>?_,fun ds es hn kd ke h k=>?_⟩
  ·cases d <;> simp only [kD] at kd <;> first|(cases kd;done)|skip
   all_goals (cases e <;> simp only [kD] at ke <;> first|(cases ke;done)|skip)
   ·simp only [xr,p7] at h k
    congr 1;omega
   ·simp [ltT,v9,rkD] at h
   ·simp [ltT,v9,rkD] at k
   ·simp only [k8] at h k
    rw [ih.2 _ _ (by simp at hn;omega) kd ke h k]
  ·cases ds with
   | nil=>
    cases es with
    | nil=>rfl
    | cons e es=>rw [km] at h;cases h
   | cons d ds=>
    cases es with
    | nil=>rw [km] at k;cases k
    | cons e es=>
     rw [q00] at h k;simp only [kDL,gm] at kd ke;simp only [Bool.or_eq_false_iff,g67,Bool.not_eq_false'] at h k;have hd:sizeOf d<n:=by simp at hn;omega
     have hds:sizeOf ds<n:=by simp at hn;omega
     have e1:=ih.1 d e hd kd.1 ke.1 h.1 k.1;have e2:=ih.2 ds es hds kd.2 ke.2 (h.2.resolve_left (by rw [k.1];simp)) (k.2.resolve_left (by rw [h.1];simp));rw [e1,e2]
theorem lt_eq{d e:D}(kd:kD d=true)(ke:kD e=true)(h:ltT d e=false)(k:ltT e d=false): d=e:=(qmz (sizeOf d+1)).1 d e (p9 _) kd ke h k
theorem q8c(x:D×D): ∀l,(qce x l).Perm (x :: l)
 | []=>.refl _
 | y :: r=>by
  unfold qce
  split
  ·exact((q8c x r).cons y).trans (.swap x y r)
  ·exact .refl _
theorem q1w:∀l,(q09 l).Perm l
 | []=>.refl _
 | x :: r=>(q8c x _).trans ((q1w r).cons x)
def leT(x y:D×D): Prop:=ltT y.1 x.1=false
theorem qdb(x:D×D): ∀ {l:List (D×D)},l.Pairwise leT->(qce x l).Pairwise leT
 | [],_=>.cons (fun _ h=>by cases h) .nil
 | y :: r,.cons h1 h2=>by
  unfold qce
  split
  ·rename_i hxy
   refine .cons (fun z hz=>?_) (qdb x h2);rcases ml.mp ((q8c x r).mem_iff.mp hz) with rfl|hz
   ·exact qfh hxy
   ·exact h1 z hz
  ·rename_i hxy
   have hxy':ltT y.1 x.1=false:=by simpa using hxy
   refine .cons (fun z hz=>?_) (.cons h1 h2);rcases ml.mp hz with rfl|hz
   ·exact hxy'
   ·exact qfi hxy' (h1 z hz)
theorem q72:∀l,(q09 l).Pairwise leT
 | []=>.nil
 | x :: r=>qdb x (q72 r)
theorem qfj:∀ {l m:List (D×D)},l.Perm m->l.Pairwise leT->m.Pairwise leT->(∀x∈l,∀y∈l,ltT x.1 y.1=false->ltT y.1 x.1=false->x=y)->l=m
 | [],m,p,_,_,_=>(p.nil_eq).symm ▸ rfl
 | x :: l,[],p,_,_,_=>by cases p.length_eq
 | x :: l,y :: m,p,.cons h1 h2,.cons k1 k2,hu=>by
  have e:x=y:=by
   have hx:x∈y :: m:=p.mem_iff.mp gc;have hy:y∈x :: l:=p.mem_iff.mpr gc;rcases ml.mp hx with e|hx
   ·exact e
   ·rcases ml.mp hy with e|hy'
    ·exact e.symm
    ·exact hu x gc y hy (k1 x hx) (h1 y hy')
  subst e;rw [qfj (List.perm_cons _ |>.mp p) h2 k2 (fun a ha b hb=>hu a (gf _ ha) b (gf _ hb))]
theorem qfk{l m:List (D×D)}(p:m.Perm l)(h:m.Pairwise leT)(hu:∀x∈l,∀y∈l,ltT x.1 y.1=false->ltT y.1 x.1=false->x=y): m=q09 l:=
 qfj (p.trans (q1w l).symm) h (q72 l) (fun x hx y hy=>hu x (p.mem_iff.mp hx) y (p.mem_iff.mp hy))
end DL
namespace Srt
open PySem PyProof.Rows
structure Cmp(prog:Program)(w:World)(A:Around)(s:Shared)(κ : SortKind)(G:Value->Prop)(lt:Value->Value->Bool): Prop where
 ask:∀x y,G x->G y->∀Q:Bool->Shared->Prop,Q (lt x y) s->wpAny (model prog w) A (keyLt' κ x y) Q (fun _ _=>False) s
 asy:∀x y,lt x y=true->lt y x=false
 tra:∀x y z,lt y x=false->lt z y=false->lt z x=false
section
variable{prog:Program}{w:World}{A:Around}{E:Value->Shared->Prop}{s:Shared}{κ : SortKind}{G:Value->Prop}{lt:Value->Value->Bool}
def kz(p:Option Keyed): Value:=match p with|some p=>p.1|none=>.none
theorem qsi{C:Cmp prog w A s κ G lt}{st:SortSt}{x y:Keyed}{Q:Option Bool->SortSt->Prop}(hk:kindOf st = κ)(gx:G x.1)(gy:G y.1)(h:Q (some (lt x.1 y.1)) st):
  wpS (model prog w) A E s (lt' x y) Q st:=by
 rw [lt'_eq];refine ph (wpS_get ?_);rw [hk];exact ph (wpS_lift (g1c (t5 (C.ask _ _ gx gy (fun b s'=>s'=s/\b=lt x.1 y.1) ⟨rfl,rfl⟩) (fun b s' h'=>by
  obtain⟨rfl,rfl⟩:=h';exact⟨rfl,uq h⟩) fun _ _ e=>e.elim)))
theorem qfl{st:SortSt}{xs:Array Keyed}{i:Nat}{Q:Keyed->SortSt->Prop}(hi:i<xs.size)(h:Q xs[i] st): wpS (model prog w) A E s (elem' xs i) Q st:=by
 rw [elem'_eq,g11 xs i hi];exact uq h
end
def le(lt:Value->Value->Bool)(p q:Keyed): Prop:=lt q.1 p.1=false
structure MI(lt:Value->Value->Bool)(la lb o:List Keyed)(ia ib:Nat): Prop where
 perm:o.Perm (la.take ia++lb.take ib)
 ord:o.Pairwise (le lt)
 ua:∀p∈o,∀q∈la.drop ia,le lt p q
 ub:∀p∈o,∀q∈lb.drop ib,le lt p q
section
variable{lt:Value->Value->Bool}{la lb o:List Keyed}{ia ib:Nat}
end
theorem bc{α β : Type}{m:StateT SortSt Sem α}{f g : α -> StateT SortSt Sem β}(h:∀x,f x=g x): m >>= f=m >>= g:=by rw [funext h]
theorem bc2{α β : Type}{m n:StateT SortSt Sem α}{f g : α -> StateT SortSt Sem β}(hm:m=n)(h:∀x,f x=g x): m >>= f=n >>= g:=by rw [hm,funext h]
theorem fc{β : Type}{r:Std.Legacy.Range}{b : β}{f g:Nat -> β -> StateT SortSt Sem (ForInStep β)}(h:∀x u,f x u=g x u): forIn r b f=forIn r b g:=by
 rw [show f=g from funext fun x=>funext fun u=>h x u]
abbrev TI:=Option (Array Keyed)×Array Keyed×Nat×Nat×Nat×Nat
abbrev TG:=Option (Array Keyed)×Array Keyed×Nat×Nat×Nat×Nat×Nat
abbrev TO:=Option (Array Keyed)×Array Keyed×Nat×Nat×Nat
section
variable(a b:Array Keyed)
end
def Eg(st st':SortSt): Prop:=kindOf st'=kindOf st/\arrOf st'=arrOf st/\pendingOf st'=pendingOf st/\failedOf st'=failedOf st
theorem Eg.trans{a b c:SortSt}(h:Eg a b)(k:Eg b c): Eg a c:=⟨k.1.trans h.1,k.2.1.trans h.2.1,k.2.2.1.trans h.2.2.1,k.2.2.2.trans h.2.2.2⟩
section
variable{prog:Program}{w:World}{A:Around}{E:Value->Shared->Prop}{s:Shared}{κ : SortKind}{G:Value->Prop}{lt:Value->Value->Bool}
variable{a b:Array Keyed}
theorem qxc{l:List Keyed}(C:Cmp prog w A s κ G lt)(hr:∀x:Keyed,lt x.1 x.1=false)(sl:l.Pairwise (le lt)){i j:Nat}(hij:i<=j)(hj:j<l.length): le lt (l[i]'(by lia)) l[j]:=by
 rcases Nat.lt_or_ge i j with h|h
 ·exact ud.mp sl i j (by lia) hj h
 ·have:i=j:=by lia
  subst this;exact hr _
theorem Cmp.irr(C:Cmp prog w A s κ G lt)(x:Value): lt x x=false:=by
 cases e:lt x x
 ·rfl
 ·have:=C.asy _ _ e;rw [e] at this;cases this
end
structure MJ(lt:Value->Value->Bool)(la lb o:List Keyed)(ia ib:Nat): Prop where
 perm:o.Perm (la.drop ia++lb.drop ib)
 ord:o.Pairwise (fun p q=>le lt q p)
 ua:∀p∈o,∀q∈la.take ia,le lt q p
 ub:∀p∈o,∀q∈lb.take ib,le lt q p
section
variable{lt:Value->Value->Bool}{la lb o:List Keyed}{ia ib:Nat}
end
section
variable(a b:Array Keyed)
end
section
variable{prog:Program}{w:World}{A:Around}{E:Value->Shared->Prop}{s:Shared}{κ : SortKind}{G:Value->Prop}{lt:Value->Value->Bool}{a b:Array Keyed}
end
def Kz(xs:Array Keyed)(i:Nat): Value:=kz xs[i]?
theorem q4h{xs ys:Array Keyed}{i j:Nat}(h:xs[i]? = ys[j]?): Kz xs i=Kz ys j:=by unfold Kz;rw [h]
theorem qbb{xs:Array Keyed}{i:Nat}(h:i<xs.size): Kz xs i=xs[i].1:=by unfold Kz;rw [g11 xs i h];rfl
def Asc(lt:Value->Value->Bool)(xs:Array Keyed)(lo hi:Nat): Prop:=∀i j,lo<=i->i<=j->j<hi->lt (Kz xs j) (Kz xs i)=false
def Des(lt:Value->Value->Bool)(xs:Array Keyed)(lo hi:Nat): Prop:=∀i j,lo<=i->i<=j->j<hi->lt (Kz xs i) (Kz xs j)=false
def Nz(N:Keyed->Nat)(xs:Array Keyed)(i:Nat): Nat:=(xs[i]?).elim 0 N
theorem q4i{N:Keyed->Nat}{xs ys:Array Keyed}{i j:Nat}(h:xs[i]? = ys[j]?): Nz N xs i=Nz N ys j:=by unfold Nz;rw [h]
theorem qea{N:Keyed->Nat}{xs:Array Keyed}{i:Nat}(h:i<xs.size): Nz N xs i=N xs[i]:=by unfold Nz;rw [g11 xs i h];rfl
def Ran(lt:Value->Value->Bool)(N:Keyed->Nat)(xs:Array Keyed)(lo hi:Nat): Prop:=∀i j,lo<=i->i<=j->j<hi->lt (Kz xs i) (Kz xs j)=false->Nz N xs i<=Nz N xs j
def Nar(lt:Value->Value->Bool)(N:Keyed->Nat)(xs:Array Keyed)(lo hi:Nat): Prop:=∀i j,lo<=i->i<=j->j<hi->lt (Kz xs j) (Kz xs i)=false->Nz N xs j<=Nz N xs i
structure Mon(N:Keyed->Nat)(xs:Array Keyed)(x:Nat): Prop where
 low:∀i j,i<x->x<=j->j<xs.size->Nz N xs i<=Nz N xs j
 up:∀i j,x<=i->i<=j->j<xs.size->Nz N xs i<=Nz N xs j
theorem Mon.next{N:Keyed->Nat}{xs:Array Keyed}{x:Nat}(m:Mon N xs x): Mon N xs (x+1):=
 ⟨fun i j h1 h2 h3=>if h:i<x then m.low i j h (by lia) h3 else m.up i j (by lia) (by lia) h3,fun i j h1 h2 h3=>m.up i j (by lia) h2 h3⟩
structure Blk(lt:Value->Value->Bool)(N:Keyed->Nat)(xs:Array Keyed)(lo b hi:Nat): Prop where
 nar:Nar lt N xs lo b
 sm:∀i j,lo<=i->i<b->b<=j->j<hi->lt (Kz xs j) (Kz xs i)=true
 run:∀i j,b<=i->i<=j->j<hi->Nz N xs i<=Nz N xs j
def Eqv(lt:Value->Value->Bool)(x y:Value): Prop:=lt x y=false/\lt y x=false
structure Tr(lo hi:Nat)(st st':SortSt): Prop where
 kind:kindOf st'=kindOf st
 pend:pendingOf st'=pendingOf st
 fail:failedOf st'=failedOf st
 perm:(arrOf st').Perm (arrOf st)
 out:∀k,(k<lo\/hi<=k)->(arrOf st')[k]? = (arrOf st)[k]?
theorem Tr.rfl'(lo hi:Nat)(st:SortSt): Tr lo hi st st:=⟨rfl,rfl,rfl,.refl _,fun _ _=>rfl⟩
theorem Tr.trans{lo hi:Nat}{a b c:SortSt}(h:Tr lo hi a b)(k:Tr lo hi b c): Tr lo hi a c:=⟨k.kind.trans h.kind,k.pend.trans h.pend,k.fail.trans h.fail,k.perm.trans h.perm,fun i hi=>(k.out i hi).trans (h.out i hi)⟩
theorem Tr.size{lo hi:Nat}{a b:SortSt}(h:Tr lo hi a b): (arrOf b).size=(arrOf a).size:=h.perm.size_eq
def Gs(G:Value->Prop)(st:SortSt): Prop:=∀p∈(arrOf st).toList,G p.1
theorem Tr.gs{G:Value->Prop}{lo hi:Nat}{a b:SortSt}(h:Tr lo hi a b)(g:Gs G a): Gs G b:=fun p hp=>g p ((g1e.mp h.perm).mem_iff.mp hp)
theorem Tr.mir{lo hi i j:Nat}{st:SortSt}(h1:lo<=i)(h2:j<=hi)(h3:j<=(arrOf st).size): Tr lo hi st (setArr st (mirror (arrOf st) i j ((j-i) / 2))):=
 ⟨rfl,rfl,rfl,mirror_perm _ _ _ _,fun k hk=>by show(mirror (arrOf st) i j ((j-i) / 2))[k]? = _;rw [g43 h3,m6 (by lia)]⟩
theorem q4j{xs:Array Keyed}{i j:Nat}(hj:j<=xs.size)(k:Nat): Kz (mirror xs i j ((j-i) / 2)) k=if i<=k/\k<j then Kz xs (i+j-1-k) else Kz xs k:=by
 have e:=g43 (i:=i) hj k
 split
 ·rename_i h;rw [gq h] at e;exact q4h e
 ·rename_i h;rw [m6 h] at e;exact q4h e
theorem q0u{N:Keyed->Nat}{xs:Array Keyed}{i j:Nat}(hj:j<=xs.size)(k:Nat): Nz N (mirror xs i j ((j-i) / 2)) k=if i<=k/\k<j then Nz N xs (i+j-1-k) else Nz N xs k:=by
 have e:=g43 (i:=i) hj k
 split
 ·rename_i h;rw [gq h] at e;exact q4i e
 ·rename_i h;rw [m6 h] at e;exact q4i e
theorem Mon.mir{N:Keyed->Nat}{xs:Array Keyed}{i j x:Nat}(m:Mon N xs x)(hx:j<=x)(hj:j<=xs.size): Mon N (mirror xs i j ((j-i) / 2)) x:=by
 have hz:(mirror xs i j ((j-i) / 2)).size=xs.size:=(mirror_perm _ _ _ _).size_eq;refine⟨fun a b h1 h2 h3=>?_,fun a b h1 h2 h3=>?_⟩
 ·rw [hz] at h3
  rw [q0u hj,q0u hj,m6 (c:=i<=b/\b<j) (by lia)]
  split
  ·exact m.low _ _ (by lia) h2 h3
  ·exact m.low _ _ h1 h2 h3
 ·rw [hz] at h3
  rw [q0u hj,q0u hj,m6 (by lia),m6 (by lia)];exact m.up a b h1 h2 h3
theorem Blk.one{lt:Value->Value->Bool}{N:Keyed->Nat}{xs:Array Keyed}{lo b:Nat}(h:Blk lt N xs lo b (b+1)): Nar lt N xs lo (b+1):=fun i j h1 h2 h3 h4=>by
 by_cases hj:j<b
 ·exact h.nar i j h1 h2 hj h4
 ·by_cases hi:i<b
  ·rw [h.sm i j h1 hi (by lia) h3] at h4;cases h4
  ·rw [show i=j by lia];exact gi _
theorem Blk.mir{lt:Value->Value->Bool}{N:Keyed->Nat}{xs:Array Keyed}{lo b x:Nat}(h:Blk lt N xs lo b x)(hx:x<=xs.size): Nar lt N (mirror xs b x ((x-b) / 2)) lo x:=fun i j h1 h2 h3 h4=>by
 rw [q4j hx,q4j hx] at h4;rw [q0u hx,q0u hx]
 by_cases hj:j<b
 ·rw [m6 (by lia),m6 (by lia)] at h4 ⊢
  exact h.nar i j h1 h2 hj h4
 ·rw [gq (c:=b<=j/\j<x) (by lia)] at h4 ⊢
  by_cases hi:i<b
  ·rw [m6 (by lia)] at h4
   rw [h.sm i _ h1 hi (by lia) (by lia)] at h4;cases h4
  ·rw [gq (by lia)] at h4 ⊢
   exact h.run _ _ (by lia) (by lia) (by lia)
abbrev ASt:=Option (Option Nat)×Nat
abbrev DSt:=Option (Option Nat)×Nat×Nat
noncomputable def asL(lo b nr:Nat): StateT SortSt Sem ASt:=
 forIn [b:nr] ((none,b):ASt) fun _ t=>do
  match <- ltAt' (lo+t.2) (lo+t.2-1) with
  | some sm=>if sm=true then pure (.done (none,t.2)) else pure (.yield (none,t.2+1))
  | _=>pure (.done (some none,t.2))
noncomputable def ta3(lo n nr:Nat): StateT SortSt Sem (Option Nat):=do
 reverseSlice' lo (lo+n)
 let t <- asL lo n nr
 match t.1 with
 | some r=>pure r
 | none=>pure (some t.2)
noncomputable def deL(lo n nr:Nat): StateT SortSt Sem DSt:=
 forIn [n:nr] ((none,n,0):DSt) fun _ t=>do
  match <- ltAt' (lo+t.2.1) (lo+t.2.1-1) with
  | some sm=>
   if sm=true then
    if t.2.2>0 then do
     reverseSlice' (lo+t.2.1-(t.2.2+1)) (lo+t.2.1)
     pure (.yield (none,t.2.1+1,0))
    else pure (.yield (none,t.2.1+1,0))
   else do
    match <- ltAt' (lo+t.2.1-1) (lo+t.2.1) with
    | some la=>if la=true then pure (.done (none,t.2.1,t.2.2)) else pure (.yield (none,t.2.1+1,t.2.2+1))
    | _=>pure (.done (some none,t.2.1,t.2.2))
  | _=>pure (.done (some none,t.2.1,t.2.2))
noncomputable def deP(lo n nr:Nat): StateT SortSt Sem (Option Nat):=do
 rule "list.sort.descending-run"
 let t <- deL lo (n+1) nr
 match t.1 with
 | some r=>pure r
 | none=>
  if t.2.2>0 then do
   reverseSlice' (lo+t.2.1-(t.2.2+1)) (lo+t.2.1)
   ta3 lo t.2.1 nr
  else ta3 lo t.2.1 nr
theorem qvg(lo nr:Nat): countRun' lo nr=(do
  let t <- asL lo 1 nr
  match t.1 with
  | some r=>pure r
  | none=>
   if(t.2==nr)=true then pure (some t.2)
   else if t.2>1 then do
    match <- ltAt' lo (lo+t.2-1) with
    | some ro=>if ro=true then pure (some t.2) else do
      reverseSlice' lo (lo+t.2)
      deP lo t.2 nr
    | _=>pure none
   else deP lo t.2 nr):=by
 rw [countRun'_eq];dsimp only;refine bc2 rfl fun t=>?_;obtain⟨r,n⟩:=t;cases r with
 | some r=>rfl
 | none=>
  dsimp only;refine g2w rfl (fun _=>rfl) fun _=>g2w rfl (fun _=>bc fun x=>?_) fun _=>?_
  ·cases x with
   | none=>rfl
   | some ro=>
    dsimp only;refine g2w rfl (fun _=>rfl) fun _=>bc fun _=>?_;unfold deP;refine bc fun _=>bc2 rfl fun t=>?_;obtain⟨r2,n2,q2⟩:=t;cases r2 with
    | some r2=>rfl
    | none=>
     dsimp only;refine g2w rfl (fun _=>bc fun _=>?_) fun _=>?_
     ·unfold ta3
      refine bc fun _=>bc2 rfl fun t=>?_;obtain⟨r3,n3⟩:=t;cases r3 <;> rfl
     ·unfold ta3
      refine bc fun _=>bc2 rfl fun t=>?_;obtain⟨r3,n3⟩:=t;cases r3 <;> rfl
  ·unfold deP
   refine bc fun _=>bc2 rfl fun t=>?_;obtain⟨r2,n2,q2⟩:=t;cases r2 with
   | some r2=>rfl
   | none=>
    dsimp only;refine g2w rfl (fun _=>bc fun _=>?_) fun _=>?_
    ·unfold ta3
     refine bc fun _=>bc2 rfl fun t=>?_;obtain⟨r3,n3⟩:=t;cases r3 <;> rfl
    ·unfold ta3
     refine bc fun _=>bc2 rfl fun t=>?_;obtain⟨r3,n3⟩:=t;cases r3 <;> rfl
section
variable{prog:Program}{w:World}{A:Around}{E:Value->Shared->Prop}{s:Shared}{κ : SortKind}{G:Value->Prop}{lt:Value->Value->Bool}{N:Keyed->Nat}
theorem Eqv.symm{x y:Value}(h:Eqv lt x y): Eqv lt y x:=⟨h.2,h.1⟩
theorem Eqv.trans(C:Cmp prog w A s κ G lt){x y z:Value}(h:Eqv lt x y)(k:Eqv lt y z): Eqv lt x z:=⟨C.tra z y x k.1 h.1,C.tra x y z h.2 k.2⟩
theorem qbc(C:Cmp prog w A s κ G lt){x x' y y':Value}(hx:Eqv lt x x')(hy:Eqv lt y y')(h:lt y' x'=false): lt y x=false:=
 C.tra x x' y hx.2 (C.tra x' y' y h hy.1)
theorem wpS_ltK{st:SortSt}(C:Cmp prog w A s κ G lt){i j:Nat}{Q:Option Bool->SortSt->Prop}(hk:kindOf st = κ)(g:Gs G st)(hi:i<(arrOf st).size)(hj:j<(arrOf st).size)
  (h:Q (some (lt (Kz (arrOf st) i) (Kz (arrOf st) j))) st):wpS (model prog w) A E s (ltAt' i j) Q st:=by
 rw [ltAt'_eq];refine ph (wpS_get ?_);show wpS _ _ _ _ (do let x <- elem' (arrOf st) i;let y <- elem' (arrOf st) j;lt' x y) Q st;rw [qbb hi,qbb hj] at h;exact ph (qfl hi (ph (qfl hj (qsi (C:=C) hk (g _ (by simp)) (g _ (by simp)) h))))
theorem q9f{st:SortSt}{i j:Nat}{Q:Unit->SortSt->Prop}(h:Q () (setArr st (mirror (arrOf st) i j ((j-i) / 2)))): wpS (model prog w) A E s (reverseSlice' i j) Q st:=by
 rw [reverseSlice'_eq];exact wpS_modify h
theorem qpa(C:Cmp prog w A s κ G lt){xs:Array Keyed}{lo x:Nat}(h:Asc lt xs lo (lo+x))(h1:1<=x)(hl:lt (Kz xs (lo+x)) (Kz xs (lo+x-1))=false): Asc lt xs lo (lo+(x+1)):=by
 intro i j h2 h3 h4
 by_cases hj:j<lo+x
 ·exact h i j h2 h3 hj
 ·have:j=lo+x:=by lia
  subst this
  by_cases hi:i=lo+x
  ·subst hi;exact C.irr _
  ·exact C.tra _ _ _ (h i (lo+x-1) h2 (by lia) (by lia)) hl
theorem q73(C:Cmp prog w A s κ G lt){xs:Array Keyed}{lo x:Nat}(h:Des lt xs lo (lo+x))(h1:1<=x)(hl:lt (Kz xs (lo+x-1)) (Kz xs (lo+x))=false): Des lt xs lo (lo+(x+1)):=by
 intro i j h2 h3 h4
 by_cases hj:j<lo+x
 ·exact h i j h2 h3 hj
 ·have:j=lo+x:=by lia
  subst this
  by_cases hi:i=lo+x
  ·subst hi;exact C.irr _
  ·exact C.tra _ _ _ hl (h i (lo+x-1) h2 (by lia) (by lia))
theorem qpb{xs:Array Keyed}{lo x:Nat}(h:Ran lt N xs lo (lo+x))(m:Mon N xs (lo+x))(hx:lo+x<xs.size): Ran lt N xs lo (lo+(x+1)):=fun i j h2 h3 h4 h5=>by
 by_cases hj:j<lo+x
 ·exact h i j h2 h3 hj h5
 ·by_cases hi:i=j
  ·rw [hi];exact gi _
  ·exact m.low i j (by lia) (by lia) (by lia)
theorem qis(C:Cmp prog w A s κ G lt){st:SortSt}{lo b nr:Nat}{Q:ASt->SortSt->Prop}(hk:kindOf st = κ)(g:Gs G st)(hz:lo+nr<=(arrOf st).size)(h1:1<=b)(h2:b<=nr)(hs:Asc lt (arrOf st) lo (lo+b))(hr:Ran lt N (arrOf st) lo (lo+b))(hm:Mon N (arrOf st) (lo+b))
  (h:∀n,b<=n->n<=nr->Asc lt (arrOf st) lo (lo+n)->Ran lt N (arrOf st) lo (lo+n)->Mon N (arrOf st) (lo+n)->(n=nr\/lt (Kz (arrOf st) (lo+n)) (Kz (arrOf st) (lo+n-1))=true)->Q (none,n) st):wpS (model prog w) A E s (asL lo b nr) Q st:=by
 unfold asL;refine g2x (I:=fun x c st'=>st'=st/\c=(none,x)/\Asc lt (arrOf st) lo (lo+x)/\Ran lt N (arrOf st) lo (lo+x)/\Mon N (arrOf st) (lo+x)) ?_ ?_ ⟨rfl,rfl,hs,hr,hm⟩
 ·rintro x c st' hx1 hx2 ⟨rfl,rfl,hs',hr',hm'⟩
  dsimp only;refine ph (wpS_ltK C hk g (by lia) (by lia) ?_);dsimp only;cases e:lt (Kz (arrOf st') (lo+x)) (Kz (arrOf st') (lo+x-1))
  ·simp only [m8,p8]
   exact uq ⟨rfl,rfl,qpa C hs' (by lia) e,qpb hr' hm' (by lia),hm'.next⟩
  ·simp only [tf]
   exact uq (h x hx1 (by lia) hs' hr' hm' (.inr e))
 ·rintro c st' ⟨rfl,rfl,hs',hr',hm'⟩
  rw [show max b nr=nr by lia] at hs' hr' hm' ⊢;exact h nr h2 (gi _) hs' hr' hm' (.inl rfl)
theorem qit(C:Cmp prog w A s κ G lt){st:SortSt}{lo n nr:Nat}{Q:Option Nat->SortSt->Prop}(hk:kindOf st = κ)(g:Gs G st)(hz:lo+nr<=(arrOf st).size)(h1:1<=n)(h2:n<=nr)(hs:Des lt (arrOf st) lo (lo+n))(hr:Nar lt N (arrOf st) lo (lo+n))(hm:Mon N (arrOf st) (lo+n))
  (h:∀m st',Tr lo (lo+nr) st st'->1<=m->m<=nr->Asc lt (arrOf st') lo (lo+m)->Ran lt N (arrOf st') lo (lo+m)->Mon N (arrOf st') (lo+m)->Q (some m) st'):wpS (model prog w) A E s (ta3 lo n nr) Q st:=by
 unfold ta3;have hz':lo+n<=(arrOf st).size:=by lia
 refine ph (q9f ?_);have tr:Tr lo (lo+nr) st (setArr st (mirror (arrOf st) lo (lo+n) ((lo+n-lo) / 2))):=Tr.mir (gi _) (by lia) hz';refine ph (qis C (tr.kind.trans hk) (tr.gs g) (by rw [tr.size];exact hz) h1 h2 ?_ ?_ (hm.mir (gi _) hz') fun m m1 m2 m3 m4 m5 _=>uq (h m _ tr (by lia) m2 m3 m4 m5))
 ·intro i j i1 i2 i3
  show lt (Kz (mirror (arrOf st) lo (lo+n) ((lo+n-lo) / 2)) j) (Kz (mirror (arrOf st) lo (lo+n) ((lo+n-lo) / 2)) i)=false;rw [q4j hz',q4j hz',gq (by lia),gq (by lia)];exact hs _ _ (by lia) (by lia) (by lia)
 ·intro i j i1 i2 i3 i4
  have i4:lt (Kz (mirror (arrOf st) lo (lo+n) ((lo+n-lo) / 2)) i) (Kz (mirror (arrOf st) lo (lo+n) ((lo+n-lo) / 2)) j)=false:=i4;show Nz N (mirror (arrOf st) lo (lo+n) ((lo+n-lo) / 2)) i<=Nz N (mirror (arrOf st) lo (lo+n) ((lo+n-lo) / 2)) j;rw [q4j hz',q4j hz',gq (by lia),gq (by lia)] at i4;rw [q0u hz',q0u hz',gq (by lia),gq (by lia)];exact hr _ _ (by lia) (by lia) (by lia) i4
theorem qcf(C:Cmp prog w A s κ G lt){xs:Array Keyed}{i j:Nat}(hj:j<=xs.size)(he:∀k,i<=k->k<j->Eqv lt (Kz xs k) (Kz xs (j-1)))(k:Nat): Eqv lt (Kz (mirror xs i j ((j-i) / 2)) k) (Kz xs k):=by
 rw [q4j hj]
 split
 ·exact Eqv.trans C (he _ (by lia) (by lia)) (he k (by lia) (by lia)).symm
 ·exact⟨C.irr _,C.irr _⟩
theorem qvh(C:Cmp prog w A s κ G lt){xs:Array Keyed}{lo b x:Nat}(h:Blk lt N xs lo b x)(m:Mon N xs x)(hb:b<x)(hx:x<xs.size)(e:lt (Kz xs (x-1)) (Kz xs x)=false): Blk lt N xs lo b (x+1) where
 nar:=h.nar
 sm :=fun i j h1 h2 h3 h4=>by
  by_cases hj:j<x
  ·exact h.sm i j h1 h2 h3 hj
  ·rw [show j=x by lia]
   cases e2:lt (Kz xs x) (Kz xs i)
   ·have:=C.tra _ _ _ e2 e
    rw [h.sm i (x-1) h1 h2 (by lia) (by lia)] at this;cases this
   ·rfl
 run:=fun i j h1 h2 h3=>by
  by_cases hj:j<x
  ·exact h.run i j h1 h2 hj
  ·by_cases hi:i=j
   ·rw [hi];exact gi _
   ·exact m.low i j (by lia) (by lia) (by lia)
theorem qcg(C:Cmp prog w A s κ G lt){xs:Array Keyed}{lo x:Nat}(hn:Nar lt N xs lo x)(ds:Des lt xs lo x)(e:lt (Kz xs x) (Kz xs (x-1))=true): Blk lt N xs lo x (x+1) where
 nar:=hn
 sm:=fun i j h1 h2 h3 h4=>by
  rw [show j=x by lia];cases e2:lt (Kz xs x) (Kz xs i)
  ·have:=C.tra _ _ _ (ds i (x-1) h1 (by lia) (by lia)) e2
   rw [e] at this;cases this
  ·rfl
 run:=fun i j h1 h2 h3=>by rw [show i=j by lia];exact gi _
theorem qn0(C:Cmp prog w A s κ G lt){x x' y y':Value}(hx:Eqv lt x x')(hy:Eqv lt y y')(h:lt y' x'=true): lt y x=true:=by
 cases e:lt y x
 ·rw [qbc C hx.symm hy.symm e] at h;cases h
 ·rfl
theorem qsj(C:Cmp prog w A s κ G lt){st:SortSt}{lo n nr:Nat}{Q:DSt->SortSt->Prop}(hk:kindOf st = κ)(g:Gs G st)(hz:lo+nr<=(arrOf st).size)(h1:1<=n)(h2:n<=nr)(hs:Des lt (arrOf st) lo (lo+n))(hb:Blk lt N (arrOf st) lo (lo+n-1) (lo+n))(hm:Mon N (arrOf st) (lo+n))
  (h:∀m q st',Tr lo (lo+nr) st st'->n<=m->m<=nr->Des lt (arrOf st') lo (lo+m)->q+1<=m->(∀i,lo+m-(q+1)<=i->i<lo+m->Eqv lt (Kz (arrOf st') i) (Kz (arrOf st') (lo+m-1)))->Blk lt N (arrOf st') lo (lo+m-(q+1)) (lo+m)->Mon N (arrOf st') (lo+m)->Q (none,m,q) st') :
  wpS (model prog w) A E s (deL lo n nr) Q st:=by
 unfold deL;refine g2x (I:=fun x c st'=>∃q,c=(none,x,q)/\Tr lo (lo+nr) st st'/\Des lt (arrOf st') lo (lo+x)/\q+1<=x /\
   (∀i,lo+x-(q+1)<=i->i<lo+x->Eqv lt (Kz (arrOf st') i) (Kz (arrOf st') (lo+x-1)))/\Blk lt N (arrOf st') lo (lo+x-(q+1)) (lo+x)/\Mon N (arrOf st') (lo+x)) ?_ ?_
  ⟨0,rfl,Tr.rfl' _ _ _,hs,by lia,fun i i1 i2=>by rw [show i=lo+n-1 by lia];exact⟨C.irr _,C.irr _⟩,hb,hm⟩
 ·rintro x c st' hx1 hx2 ⟨q,rfl,tr,ds,hq,he,hb',hm'⟩
  dsimp only;have hz':lo+x<=(arrOf st').size:=by rw [tr.size];lia
  have hk':=tr.kind.trans hk;have g':=tr.gs g;refine ph (wpS_ltK C hk' g' (by rw [tr.size];lia) (by rw [tr.size];lia) ?_);dsimp only;cases e:lt (Kz (arrOf st') (lo+x)) (Kz (arrOf st') (lo+x-1))
  ·simp only [m8,p8]
   refine ph (wpS_ltK C hk' g' (by rw [tr.size];lia) (by rw [tr.size];lia) ?_);dsimp only;cases e2:lt (Kz (arrOf st') (lo+x-1)) (Kz (arrOf st') (lo+x))
   ·simp only [m8,p8]
    refine uq ⟨q+1,rfl,tr,q73 C ds (by lia) e2,by lia,fun i i1 i2=>?_,by rw [show lo+(x+1)-(q+1+1)=lo+x-(q+1) by lia];exact qvh C hb' hm' (by lia) (by rw [tr.size];lia) e2,hm'.next⟩;rw [show lo+(x+1)-1=lo+x by lia]
    by_cases hi:i=lo+x
    ·subst hi;exact⟨C.irr _,C.irr _⟩
    ·exact Eqv.trans C (he i (by lia) (by lia)) ⟨e2,e⟩
   ·simp only [tf]
    exact uq (h x q st' tr hx1 (by lia) ds hq he hb' hm')
  ·simp only [tf]
   have step:∀st'',Tr lo (lo+nr) st st''->(∀k,Eqv lt (Kz (arrOf st'') k) (Kz (arrOf st') k))->Nar lt N (arrOf st'') lo (lo+x)->Mon N (arrOf st'') (lo+x)->∃q',((none,x+1,0):DSt)=(none,x+1,q')/\Tr lo (lo+nr) st st''/\Des lt (arrOf st'') lo (lo+(x+1))/\q'+1<=x+1 /\
     (∀i,lo+(x+1)-(q'+1)<=i->i<lo+(x+1)->Eqv lt (Kz (arrOf st'') i) (Kz (arrOf st'') (lo+(x+1)-1)))/\Blk lt N (arrOf st'') lo (lo+(x+1)-(q'+1)) (lo+(x+1))/\Mon N (arrOf st'') (lo+(x+1)):=by
    intro st'' tr2 hev hn2 hm2;have dm:=q73 C ds (by lia) (C.asy _ _ e);have dm2:Des lt (arrOf st'') lo (lo+(x+1)):=fun i j i1 i2 i3=>qbc C (hev j) (hev i) (dm i j i1 i2 i3);exact⟨0,rfl,tr2,dm2,by lia,fun i i1 i2=>by rw [show i=lo+(x+1)-1 by lia];exact⟨C.irr _,C.irr _⟩,qcg C hn2 (fun i j i1 i2 i3=>dm2 i j i1 i2 (by lia)) (qn0 C (hev _) (hev _) e),hm2.next⟩
   split
   ·refine ph (q9f (uq (step _ (tr.trans (Tr.mir (by lia) (by lia) hz')) (qcf C hz' ?_) (hb'.mir hz') (hm'.mir (gi _) hz'))))
    exact he
   ·refine uq (step _ tr (fun k=>⟨C.irr _,C.irr _⟩) ?_ hm')
    have hb2:Blk lt N (arrOf st') lo (lo+x-1) (lo+x-1+1):=by
     rw [show lo+x-1+1=lo+x by lia];rw [show lo+x-(q+1)=lo+x-1 by lia] at hb';exact hb'
    have:=hb2.one;rwa [show lo+x-1+1=lo+x by lia] at this
 ·rintro c st' ⟨q,rfl,tr,ds,hq,he,hb',hm'⟩
  rw [show max n nr=nr by lia] at ds hq he hb' hm' ⊢;exact h nr q st' tr h2 (gi _) ds hq he hb' hm'
theorem qiu(C:Cmp prog w A s κ G lt){st:SortSt}{lo n nr:Nat}{Q:Option Nat->SortSt->Prop}(hk:kindOf st = κ)(g:Gs G st)(hz:lo+nr<=(arrOf st).size)(h2:n+1<=nr)(hs:Des lt (arrOf st) lo (lo+(n+1)))(hb:Blk lt N (arrOf st) lo (lo+n) (lo+n+1))(hm:Mon N (arrOf st) (lo+(n+1)))
  (h:∀m st',Tr lo (lo+nr) st st'->1<=m->m<=nr->Asc lt (arrOf st') lo (lo+m)->Ran lt N (arrOf st') lo (lo+m)->Mon N (arrOf st') (lo+m)->Q (some m) st'):wpS (model prog w) A E s (deP lo n nr) Q st:=by
 unfold deP;refine ph (wpS_lift (g0b ⟨rfl,?_⟩));refine ph (qsj (N:=N) C hk g hz (by lia) h2 hs hb hm fun m q st' tr m1 m2 ds hq he hb' hm'=>?_);dsimp only;have hz':lo+m<=(arrOf st').size:=by rw [tr.size];lia
 split
 ·have tr2:Tr lo (lo+nr) st' (setArr st' (mirror (arrOf st') (lo+m-(q+1)) (lo+m) ((lo+m-(lo+m-(q+1))) / 2))):=Tr.mir (by lia) (by lia) hz'
  refine ph (q9f (qit C (tr2.kind.trans (tr.kind.trans hk)) (tr2.gs (tr.gs g)) (by rw [tr2.size,tr.size];exact hz) (by lia) m2 ?_ (hb'.mir hz') (hm'.mir (gi _) hz') fun k st'' tr3=>h k st'' (tr.trans (tr2.trans tr3))));intro i j i1 i2 i3;have ev:=qcf C hz' he;exact qbc C (ev j) (ev i) (ds i j i1 i2 i3)
 ·have hb2:Blk lt N (arrOf st') lo (lo+m-1) (lo+m-1+1):=by
   rw [show lo+m-1+1=lo+m by lia];rw [show lo+m-(q+1)=lo+m-1 by lia] at hb';exact hb'
  have nr':=hb2.one;rw [show lo+m-1+1=lo+m by lia] at nr';exact qit C (tr.kind.trans hk) (tr.gs g) (by rw [tr.size];exact hz) (by lia) m2 ds nr' hm' fun k st'' tr3=>h k st'' (tr.trans tr3)
theorem qsk(C:Cmp prog w A s κ G lt){st:SortSt}{lo nr:Nat}{Q:Option Nat->SortSt->Prop}(hk:kindOf st = κ)(g:Gs G st)(hz:lo+nr<=(arrOf st).size)(h1:1<=nr)(hm:Mon N (arrOf st) lo)
  (h:∀m st',Tr lo (lo+nr) st st'->1<=m->m<=nr->Asc lt (arrOf st') lo (lo+m)->Ran lt N (arrOf st') lo (lo+m)->Mon N (arrOf st') (lo+m)->Q (some m) st'):wpS (model prog w) A E s (countRun' lo nr) Q st:=by
 rw [qvg];refine ph (qis C hk g hz (gi _) h1 (fun i j i1 i2 i3=>by rw [show i=j by lia];exact C.irr _) (fun i j i1 i2 i3 _=>by rw [show i=j by lia];exact gi _) hm.next fun n n1 n2 as ra hmn hor=>?_);dsimp only
 split
 ·exact uq (h n st (Tr.rfl' _ _ _) n1 n2 as ra hmn)
 ·rename_i hne
  have hne':n≠nr:=by simpa using hne
  have hl:=hor.resolve_left hne'
  split
  ·refine ph (wpS_ltK C hk g (by lia) (by lia) ?_)
   dsimp only;cases e:lt (Kz (arrOf st) lo) (Kz (arrOf st) (lo+n-1))
   ·simp only [m8,p8]
    have hz':lo+n<=(arrOf st).size:=by lia
    have tr:Tr lo (lo+nr) st (setArr st (mirror (arrOf st) lo (lo+n) ((lo+n-lo) / 2))):=Tr.mir (gi _) (by lia) hz';have all:∀k,lo<=k->k<lo+n->Eqv lt (Kz (arrOf st) k) (Kz (arrOf st) (lo+n-1)):=fun k k1 k2=>
     ⟨C.tra _ _ _ (as k (lo+n-1) k1 (by lia) (by lia) |> fun z=>by exact C.tra _ _ _ e (as lo k (gi _) k1 k2)) (C.irr _),as k (lo+n-1) k1 (by lia) (by lia)⟩
    have ev:=qcf C hz' all;have ds:Des lt (arrOf st) lo (lo+(n+1)):=by
     refine q73 C (fun i j i1 i2 i3=>?_) (by lia) (C.asy _ _ hl);exact(Eqv.trans C (all i i1 (by lia)) (all j (by lia) i3).symm).1
    have ds2:Des lt (mirror (arrOf st) lo (lo+n) ((lo+n-lo) / 2)) lo (lo+(n+1)):=fun i j i1 i2 i3=>qbc C (ev j) (ev i) (ds i j i1 i2 i3);have na:Nar lt N (mirror (arrOf st) lo (lo+n) ((lo+n-lo) / 2)) lo (lo+n):=fun i j i1 i2 i3 _=>by
     rw [q0u hz',q0u hz',gq (by lia),gq (by lia)];exact ra _ _ (by lia) (by lia) (by lia) (Eqv.trans C (all _ (by lia) (by lia)) (all _ (by lia) (by lia)).symm).1
    exact ph (q9f (qiu C (tr.kind.trans hk) (tr.gs g) (by rw [tr.size];exact hz) (by lia) ds2 (qcg C na (fun i j i1 i2 i3=>ds2 i j i1 i2 (by lia)) (qn0 C (ev _) (ev _) hl)) (hmn.mir (gi _) hz').next fun m st' tr2=>h m st' (tr.trans tr2)))
   ·simp only [tf]
    exact uq (h n st (Tr.rfl' _ _ _) n1 n2 as ra hmn)
  ·have:n=1:=by lia
   subst this;refine qiu C hk g hz (by lia) ?_ (qcg C (fun i j i1 i2 i3 _=>by rw [show i=j by lia];exact gi _) (fun i j i1 i2 i3=>by rw [show i=j by lia];exact C.irr _) hl) hmn.next h;exact q73 C (fun i j i1 i2 i3=>by rw [show i=j by lia];exact C.irr _) (gi _) (C.asy _ _ hl)
end
theorem qbd{xs:Array Keyed}{src d:Nat}(hs:src<xs.size)(hd:d<=src)(k:Nat): Kz (bubble xs src d) k=if k=src-d then Kz xs src else if src-d<k/\k<=src then Kz xs (k-1) else Kz xs k:=by
 have e:=getElem?_bubble hs d hd k
 split
 ·rename_i h;rw [gq h] at e;exact q4h e
 ·rename_i h;rw [m6 h] at e
  split
  ·rename_i h2;rw [gq h2] at e;exact q4h e
  ·rename_i h2;rw [m6 h2] at e;exact q4h e
theorem q6d{N:Keyed->Nat}{xs:Array Keyed}{src d:Nat}(hs:src<xs.size)(hd:d<=src)(k:Nat): Nz N (bubble xs src d) k=if k=src-d then Nz N xs src else if src-d<k/\k<=src then Nz N xs (k-1) else Nz N xs k:=by
 have e:=getElem?_bubble hs d hd k
 split
 ·rename_i h;rw [gq h] at e;exact q4i e
 ·rename_i h;rw [m6 h] at e
  split
  ·rename_i h2;rw [gq h2] at e;exact q4i e
  ·rename_i h2;rw [m6 h2] at e;exact q4i e
theorem Mon.bub{N:Keyed->Nat}{xs:Array Keyed}{src d:Nat}(m:Mon N xs src)(hs:src<xs.size)(hd:d<=src): Mon N (bubble xs src d) (src+1):=by
 have hz:(bubble xs src d).size=xs.size:=(bubble_perm _ _ _).size_eq;refine⟨fun i j h1 h2 h3=>?_,fun i j h1 h2 h3=>?_⟩
 ·rw [hz] at h3
  rw [q6d hs hd,q6d hs hd,m6 (c:=j=src-d) (by lia),m6 (c:=src-d<j/\j<=src) (by lia)]
  repeat' split
  all_goals first
   | exact m.up _ _ (by lia) (by lia) h3
   | exact m.low _ _ (by lia) (by lia) h3
 ·rw [hz] at h3
  rw [q6d hs hd,q6d hs hd,m6 (by lia),m6 (by lia),m6 (by lia),m6 (by lia)];exact m.up i j (by lia) h2 h3
theorem Tr.bub{lo hi src d:Nat}{st:SortSt}(h1:lo<=src-d)(h2:src<hi)(h3:src<(arrOf st).size)(hd:d<=src): Tr lo hi st (setArr st (bubble (arrOf st) src d)):=
 ⟨rfl,rfl,rfl,bubble_perm _ _ _,fun k hk=>by show(bubble (arrOf st) src d)[k]? = _;rw [getElem?_bubble h3 d hd,m6 (by lia),m6 (by lia)]⟩
section
variable{prog:Program}{w:World}{A:Around}{E:Value->Shared->Prop}{s:Shared}{κ : SortKind}{G:Value->Prop}{lt:Value->Value->Bool}{N:Keyed->Nat}
theorem qsl(C:Cmp prog w A s κ G lt){st:SortSt}{lo n ok:Nat}{Q:Bool->SortSt->Prop}(hk:kindOf st = κ)(g:Gs G st)(hz:lo+n<=(arrOf st).size)(hok:ok<=n)(hs:Asc lt (arrOf st) lo (lo+ok))(hr:Ran lt N (arrOf st) lo (lo+ok))(hm:Mon N (arrOf st) (lo+ok))(hn:1<=ok)
  (h:∀st',Tr lo (lo+n) st st'->Asc lt (arrOf st') lo (lo+n)->Ran lt N (arrOf st') lo (lo+n)->Q true st'):wpS (model prog w) A E s (binarySort' lo n ok) Q st:=by
 rw [binarySort'_eq];refine ph (wpS_mono (g2x (I:=fun k c st'=>c=(none,())/\Tr lo (lo+n) st st'/\Asc lt (arrOf st') lo (lo+min k n)/\Ran lt N (arrOf st') lo (lo+min k n)/\Mon N (arrOf st') (lo+min k n))
  (Q:=fun c st'=>c=(none,())/\Tr lo (lo+n) st st'/\Asc lt (arrOf st') lo (lo+n)/\Ran lt N (arrOf st') lo (lo+n)) ?_ ?_ ?_) ?_)
 ·rintro k c st' hk1 hk2 ⟨rfl,tr,as,ra,mo⟩
  rw [show min k n=k by lia] at as ra mo;have hk':=tr.kind.trans hk;have g':=tr.gs g;have hz':lo+n<=(arrOf st').size:=by rw [tr.size];exact hz
  refine ph (wpS_mono (g2x (I:=fun x c st''=>st''=st'/\∃l r,c=(none,l,r)/\l<=r/\r<=k/\r-l<=k-x /\
    (∀i,i<l->lt (Kz (arrOf st') (lo+k)) (Kz (arrOf st') (lo+i))=false)/\(∀i,r<=i->i<k->lt (Kz (arrOf st') (lo+k)) (Kz (arrOf st') (lo+i))=true))
   (Q:=fun c st''=>st''=st'/\∃l r,c=(none,l,r)/\l<=k /\
    (∀i,i<l->lt (Kz (arrOf st') (lo+k)) (Kz (arrOf st') (lo+i))=false)/\(∀i,l<=i->i<k->lt (Kz (arrOf st') (lo+k)) (Kz (arrOf st') (lo+i))=true)) ?_ ?_ ?_) ?_)
  ·rintro x c st'' _ hx ⟨rfl,l,r,rfl,h1,h2,h3,h4,h5⟩
   dsimp only
   by_cases hge:l>=r
   ·rw [gq hge]
    have:l=r:=by lia
    subst this;exact uq ⟨rfl,l,l,rfl,h2,h4,h5⟩
   ·rw [m6 hge]
    refine ph (wpS_ltK C hk' g' (by lia) (by lia) ?_);dsimp only;cases e:lt (Kz (arrOf st'') (lo+k)) (Kz (arrOf st'') (lo+(l+r) / 2))
    ·simp only [m8,p8]
     refine uq ⟨rfl,(l+r) / 2+1,r,rfl,by lia,by lia,by lia,fun i i1=>?_,h5⟩;exact C.tra _ _ _ (as (lo+i) (lo+(l+r) / 2) (by lia) (by lia) (by lia)) e
    ·simp only [tf]
     refine uq ⟨rfl,l,(l+r) / 2,rfl,by lia,by lia,by lia,h4,fun i i1 i2=>?_⟩;cases e2:lt (Kz (arrOf st'') (lo+k)) (Kz (arrOf st'') (lo+i))
     ·have:=C.tra _ _ _ (as (lo+(l+r) / 2) (lo+i) (by lia) (by lia) (by lia)) e2
      rw [this] at e;cases e
     ·rfl
  ·rintro c st'' ⟨rfl,l,r,rfl,h1,h2,h3,h4,h5⟩
   have:l=r:=by lia
   subst this;exact⟨rfl,l,l,rfl,h2,h4,h5⟩
  ·exact⟨rfl,0,k,rfl,by lia,by lia,by lia,fun i hi=>by lia,fun i i1 i2=>by lia⟩
  ·rintro c st'' ⟨rfl,l,r,rfl,h2,h4,h5⟩
   show wpS _ _ _ _ (do moveDown' (lo+k) (lo+l);pure (ForInStep.yield (none,()))) _ _;rw [moveDown'_eq];have hks:lo+k<(arrOf st'').size:=by lia
   refine ph (wpS_modify (uq ⟨rfl,tr.trans (Tr.bub (by lia) (by lia) hks (by lia)),?_⟩));rw [show min (k+1) n=k+1 by lia];have ra2:Ran lt N (bubble (arrOf st'') (lo+k) (lo+k-(lo+l))) lo (lo+(k+1)):=by
    intro i j i1 i2 i3 i4;rw [qbd hks (by lia),qbd hks (by lia),show lo+k-(lo+k-(lo+l))=lo+l by lia] at i4;rw [q6d hks (by lia),q6d hks (by lia),show lo+k-(lo+k-(lo+l))=lo+l by lia]
    by_cases a1:i=j
    ·subst a1;exact gi _
    by_cases a2:j<lo+l
    ·rw [m6 (by lia),m6 (by lia),m6 (by lia),m6 (by lia)] at i4 ⊢
     exact ra i j i1 i2 (by lia) i4
    by_cases a3:j=lo+l
    ·rw [m6 (c:=i=lo+l) (by lia),m6 (by lia),gq a3]
     exact mo.low _ _ (by lia) (gi _) hks
    rw [m6 (c:=j=lo+l) a3,gq (c:=lo+l<j/\j<=lo+k) (by lia)] at i4 ⊢
    by_cases a4:i=lo+l
    ·rw [gq a4] at i4
     have:=h5 (j-1-lo) (by lia) (by lia);rw [show lo+(j-1-lo)=j-1 by lia,i4] at this;cases this
    rw [m6 (c:=i=lo+l) a4] at i4 ⊢
    by_cases a5:i<lo+l
    ·rw [m6 (by lia)] at i4 ⊢
     exact ra _ _ i1 (by lia) (by lia) i4
    ·rw [gq (by lia)] at i4 ⊢
     exact ra _ _ (by lia) (by lia) (by lia) i4
   refine⟨?_,ra2,mo.bub hks (by lia)⟩;intro i j i1 i2 i3;show lt (Kz (bubble (arrOf st'') (lo+k) (lo+k-(lo+l))) j) (Kz (bubble (arrOf st'') (lo+k) (lo+k-(lo+l))) i)=false;rw [qbd hks (by lia),qbd hks (by lia),show lo+k-(lo+k-(lo+l))=lo+l by lia];have q4:∀i,lo<=i->i<lo+l->lt (Kz (arrOf st'') (lo+k)) (Kz (arrOf st'') i)=false:=fun i a b=>by
    have:=h4 (i-lo) (by lia);rwa [show lo+(i-lo)=i by lia] at this
   have q5:∀i,lo+l<=i->i<lo+k->lt (Kz (arrOf st'') i) (Kz (arrOf st'') (lo+k))=false:=fun i a b=>by
    have:=C.asy _ _ (h5 (i-lo) (by lia) (by lia));rwa [show lo+(i-lo)=i by lia] at this
   repeat' split
   all_goals first
    | (exfalso;lia)
    | exact C.irr _
    | exact q4 _ (by lia) (by lia)
    | exact q5 _ (by lia) (by lia)
    | exact as _ _ (by lia) (by lia) (by lia)
 ·rintro c st' ⟨hc,tr,as,ra,mo⟩
  rw [show min (max (max ok 1) n) n=n by lia] at as ra;exact⟨hc,tr,as,ra⟩
 ·rw [show min (max ok 1) n=ok by lia]
  exact⟨rfl,Tr.rfl' _ _ _,hs,hr,hm⟩
 ·rintro c st' ⟨rfl,tr,as,ra⟩
  exact uq (h st' tr as ra)
end
section
variable{prog:Program}{w:World}{A:Around}{E:Value->Shared->Prop}{s:Shared}{κ : SortKind}{G:Value->Prop}{lt:Value->Value->Bool}
theorem qsm(C:Cmp prog w A s κ G lt){xs:Array Keyed}{T X R:List Keyed}{lo hi:Nat}(h:xs.toList=T++X++R)(h1:lo=T.length)(h2:hi=lo+X.length): Asc lt xs lo hi↔X.Pairwise (le lt):=by
 have hz:xs.size=T.length+X.length+R.length:=by rw [<- ue,h];simp;lia
 have at_:∀i,(hi:i<X.length)->Kz xs (lo+i)=(X[i]).1:=by
  intro i hi;have hl:lo+i<xs.size:=by lia
  rw [qbb hl, <- Array.getElem_toList]
  congr 1
  simp only [h];rw [g5e (by simp;lia),g51 (by lia)]
  congr 1;lia
 constructor
 ·intro as
  rw [ud];intro i j hi hj hij;have:=as (lo+i) (lo+j) (by lia) (by lia) (by lia);rw [at_ i hi,at_ j hj] at this;exact this
 ·intro pw i j i1 i2 i3
  have e1:=at_ (i-lo) (by lia);have e2:=at_ (j-lo) (by lia);rw [show lo+(i-lo)=i by lia] at e1;rw [show lo+(j-lo)=j by lia] at e2;rw [e1,e2];exact qxc C (fun x=>C.irr _) pw (by lia) (by lia)
theorem cut(l:List Keyed)(a b:Nat)(h1:a<=b)(h2:b<=l.length): l=l.take a++(l.drop a).take (b-a)++l.drop b:=by
 rw [g0k];have e:(l.drop a).take (b-a)++l.drop b=l.drop a:=by
  have:=g15 (b-a) (l.drop a);rw [List.drop_drop,show a+(b-a)=b by lia] at this;exact this
 rw [e,g15]
end
abbrev OU:=Option Unit×Unit
abbrev ON:=Option Unit×Nat
noncomputable def srM(sz pw:Nat): StateT SortSt Sem OU:=
 forIn [0:sz] ((none,()):OU) fun _ _=>do
  let z <- get
  match if(pendingOf z).size>1 then(pendingOf z)[(pendingOf z).size-2]? else none with
  | some (_,_,ol)=>
   if ol<=pw then pure (.done (none,())) else do
    let y <- mergeAt' ((pendingOf z).size-2)
    if(!y)=true then pure (.done (some (),())) else pure (.yield (none,()))
  | _=>pure (.done (none,()))
noncomputable def srP(lo n:Nat): StateT SortSt Sem (ForInStep ON):=do
 modify fun z=>setPending z ((pendingOf z).push (lo,n,0))
 pure (.yield (none,lo+n))
noncomputable def srK(sz lo n:Nat): StateT SortSt Sem (ForInStep ON):=do
 let z <- get
 match(pendingOf z).back? with
 | some (s1,n1,_)=>do
  let t <- srM sz (power' sz (2*s1+n1) (2*s1+n1+n1+n) sz)
  match t.1 with
  | some r=>pure (.done (some r,lo))
  | none=>do
   modify fun z=>setPending z ((pendingOf z).modify ((pendingOf z).size-1) fun x=>(x.1,x.2.1,power' sz (2*s1+n1) (2*s1+n1+n1+n) sz))
   srP lo n
 | _=>srP lo n
noncomputable def srL(sz:Nat)(t:ON): StateT SortSt Sem (ForInStep ON):=
 if t.2>=sz then pure (.done (none,t.2))
 else do
  match <- countRun' t.2 (sz-t.2) with
  | some fo=>
   if fo<minRun' sz sz 0 then do
    rule "list.sort.binary-insertion"
    let y <- binarySort' t.2 (min (sz-t.2) (minRun' sz sz 0)) fo
    if(!y)=true then pure (.done (some (),t.2)) else srK sz t.2 (min (sz-t.2) (minRun' sz sz 0))
   else srK sz t.2 fo
  | _=>pure (.done (some (),t.2))
def srI(z:SortSt): Nat:=if Option.any (fun x=>decide (x<(pendingOf z)[(pendingOf z).size-2+1]?.elim 0 fun x=>x.2.1)) (if(pendingOf z).size-2>0 then Option.map (fun x=>x.2.1) (pendingOf z)[(pendingOf z).size-2-1]? else none)=true then(pendingOf z).size-2-1 else(pendingOf z).size-2
noncomputable def srE(sz:Nat): StateT SortSt Sem OU:=
 forIn [0:sz] ((none,()):OU) fun _ _=>do
  let z <- get
  if(pendingOf z).size<=1 then pure (.done (none,())) else do
   let y <- mergeAt' (srI z)
   if(!y)=true then pure (.done (some (),())) else pure (.yield (none,()))
theorem qsn:sortRuns'=(do
  let z <- get
  let t <- forIn [0:(arrOf z).size] ((none,0):ON) fun _=>srL (arrOf z).size
  match t.1 with
  | some r=>pure r
  | none=>do
   let u <- srE (arrOf z).size
   match u.1 with
   | some r=>pure r
   | none=>pure ()):=by
 rw [sortRuns'_eq];dsimp only;refine bc fun z=>bc2 (fc fun _ t=>?_) fun t=>?_
 ·unfold srL
  refine g2w rfl (fun _=>rfl) fun _=>bc fun x=>?_;have kk:∀n (m:StateT SortSt Sem (ForInStep ON)),m=srK (arrOf z).size t.2 n->m=srK (arrOf z).size t.2 n:=fun _ _ h=>h;cases x with
  | none=>rfl
  | some fo=>
   dsimp only;refine g2w rfl (fun _=>bc fun _=>bc fun y=>g2w rfl (fun _=>rfl) fun _=>?_) fun _=>?_
   all_goals
    unfold srK;refine bc fun z2=>?_;cases(pendingOf z2).back? with
    | none=>rfl
    | some q=>
     obtain⟨s1,n1,p1⟩:=q;dsimp only;refine bc2 rfl fun t2=>?_;obtain⟨r2,u2⟩:=t2;cases r2 <;> rfl
 ·obtain⟨r,n⟩:=t
  cases r with
  | some r=>rfl
  | none=>
   dsimp only;refine bc2 rfl fun u=>?_;obtain⟨r2,u2⟩:=u;cases r2 <;> rfl
section
variable{prog:Program}{w:World}{A:Around}{E:Value->Shared->Prop}{s:Shared}{κ : SortKind}{G:Value->Prop}{lt:Value->Value->Bool}{a₀:Array Keyed}{N:Keyed->Nat}
theorem qfm:∀n,n<64->minRun' n n 0=n:=by decide
structure SJ(κ : SortKind)(a₀:Array Keyed)(st:SortSt): Prop where
 kind:kindOf st = κ
 fail:failedOf st=none
 perm:(arrOf st).Perm a₀
theorem SJ.gs{st:SortSt}(h:SJ κ a₀ st)(g:∀p∈a₀.toList,G p.1): Gs G st:=fun p hp=>g p ((g1e.mp h.perm).mem_iff.mp hp)
theorem SJ.size{st:SortSt}(h:SJ κ a₀ st): (arrOf st).size=a₀.size:=h.perm.size_eq
theorem SJ.tr{lo hi:Nat}{st st':SortSt}(h:SJ κ a₀ st)(t:Tr lo hi st st'): SJ κ a₀ st':=⟨t.kind.trans h.kind,t.fail.trans h.fail,t.perm.trans h.perm⟩
theorem qiv{n sz:Nat}{st:SortSt}{Q:ForInStep ON->SortSt->Prop}(h:SJ κ a₀ st)(hp:pendingOf st = #[])
  (hq:∀st',SJ κ a₀ st'->arrOf st'=arrOf st->(pendingOf st').size=1->Q (.yield (none,0+n)) st'):wpS (model prog w) A E s (srK sz 0 n) Q st:=by
 unfold srK;refine ph (wpS_get ?_);rw [hp];show wpS (model prog w) A E s (srP 0 n) Q st;unfold srP;refine ph (wpS_modify (uq (hq _ ⟨h.kind,h.fail,h.perm⟩ rfl ?_)));show((pendingOf st).push (0,n,0)).size=1;rw [hp];rfl
theorem qfn(h64:a₀.size<64)(C:Cmp prog w A s κ G lt)(g:∀p∈a₀.toList,G p.1){st:SortSt}{Q:Unit->SortSt->Prop}(hk:kindOf st = κ)(hf:failedOf st=none)(ha:arrOf st=a₀)(hp:pendingOf st = #[])(hN:a₀.toList.Pairwise fun p q=>N p<=N q)
  (hq:∀st',failedOf st'=none->(arrOf st').Perm a₀->(arrOf st').toList.Pairwise (le lt)->(arrOf st').toList.Pairwise (fun p q=>lt p.1 q.1=false->N p<=N q)->Q () st'):wpS (model prog w) A E s sortRuns' Q st:=by
 have h0:SJ κ a₀ st:=⟨hk,hf,by rw [ha]⟩
 have m0:Mon N (arrOf st) 0:=⟨fun i j h=>by lia,fun i j h1 h2 h3=>by
  rw [ha] at h3 ⊢
  by_cases e:i=j
  ·rw [e];exact gi _
  ·rw [qea (by lia),qea h3]
   have:=ud.mp hN i j (by simpa using(by lia:i<a₀.size)) (by simpa using h3) (by lia)
   simpa using this⟩
 rw [qsn];refine ph (wpS_get ?_);rw [ha];refine ph (wpS_mono (g2x (I:=fun x c st'=>SJ κ a₀ st'/\((x=0/\c=(none,0)/\pendingOf st' = #[]/\Mon N (arrOf st') 0)\/(c=(none,a₀.size)/\(Asc lt (arrOf st') 0 a₀.size/\Ran lt N (arrOf st') 0 a₀.size)/\(pendingOf st').size=1)))
  (Q:=fun c st'=>SJ κ a₀ st'/\c=(none,a₀.size)/\(Asc lt (arrOf st') 0 a₀.size/\Ran lt N (arrOf st') 0 a₀.size)/\(pendingOf st').size<=1) ?_ ?_ ⟨h0,.inl ⟨rfl,rfl,hp,m0⟩⟩) ?_)
 ·rintro x c st' _ hx ⟨hs,⟨rfl,rfl,hp',mo⟩|⟨rfl,as,hp'⟩⟩
  ·unfold srL
   dsimp only;rw [m6 (by lia),qfm _ h64];have hz:=hs.size;refine ph (qsk C hs.kind (hs.gs g) (by lia) (by lia) mo fun m st2 tr m1 m2 as ra mo2=>?_);have hs2:=hs.tr tr;have hz2:=hs2.size;have hp2:pendingOf st2 = #[]:=tr.pend.trans hp';dsimp only
   split
   ·refine ph (wpS_lift (g0b ⟨rfl,?_⟩))
    refine ph (qsl C hs2.kind (hs2.gs g) (by lia) (by lia) as ra mo2 m1 fun st3 tr3 as3 ra3=>?_);simp only [uh,m8,p8];have en:min (a₀.size-0) a₀.size=a₀.size:=by lia
    rw [en] at as3 ra3 ⊢;refine qiv (hs2.tr tr3) (tr3.pend.trans hp2) fun st4 hs4 ea hp4=>⟨hs4,.inr ⟨by rw [g28],by rw [ea];rw [g28] at as3 ra3;exact⟨as3,ra3⟩,hp4⟩⟩
   ·have em:m=a₀.size:=by lia
    rw [em] at as ra ⊢;refine qiv hs2 hp2 fun st4 hs4 ea hp4=>⟨hs4,.inr ⟨by rw [g28],by rw [ea];rw [g28] at as ra;exact⟨as,ra⟩,hp4⟩⟩
  ·unfold srL
   dsimp only;rw [gq (by lia)];exact uq ⟨hs,rfl,as,by lia⟩
 ·rintro c st' ⟨hs,⟨e,rfl,hp',_⟩|⟨rfl,as,hp'⟩⟩
  ·have e0:a₀.size=0:=by lia
   rw [e0];exact⟨hs,rfl,⟨fun i j _ _ hj=>by lia,fun i j _ _ hj=>by lia⟩,by rw [hp'];simp⟩
  ·exact⟨hs,rfl,as,by lia⟩
 ·rintro c st' ⟨hs,rfl,as,hp'⟩
  dsimp only;have fin:Q () st':=by
   have hz:=hs.size;refine hq st' hs.fail hs.perm ((qsm C (T:=[]) (X:=(arrOf st').toList) (R:=[]) (by simp) rfl (by simp;lia)).mp as.1) (ud.mpr fun i j hi hj hij e=>?_);have hi':i<(arrOf st').size:=by simpa using hi
   have hj':j<(arrOf st').size:=by simpa using hj
   have:=as.2 i j (t6 _) (by lia) (by lia) (by rw [qbb hi',qbb hj'];simpa using e);rw [qea hi',qea hj'] at this
   simpa using this
  unfold srE;refine ph (wpS_mono (g2x (I:=fun x c st2=>c=(none,())/\st2=st') (Q:=fun c st2=>c=(none,())/\st2=st') ?_ ?_ ⟨rfl,rfl⟩) ?_)
  ·rintro x c st2 _ hx ⟨rfl,rfl⟩
   refine ph (wpS_get ?_);rw [gq hp'];exact uq ⟨rfl,rfl⟩
  ·rintro c st2 ⟨rfl,rfl⟩
   exact⟨rfl,rfl⟩
  ·rintro c st2 ⟨rfl,rfl⟩
   exact uq fin
end
end Srt
namespace Srt
open PySem PySem.SeqAt PySem.AutoSeq1 PySem.MeetsSeq PySem.MeetsSeq2 PySem.MeetsSeq3 PySem.SeqRoads2
def LtAt(A:Around)(s:Shared)(y x:Value)(b:Bool): Prop:=∀(prog:Program) (w:World) (E:Value->Shared->Prop) (Q:Value->Shared->Prop),Q (.bool b) s->wpAny (model prog w) A (richCompare .Lt y x) Q E s
inductive LexAt(A:Around)(s:Shared)(f:Bool): List (Value×Value)->Bool->Prop
 | nil:LexAt A s f [] f
 | eq {x y r b}:EqAt A s x y true->LexAt A s f r b->LexAt A s f ((x,y) :: r) b
 | ne {x y r b}:EqAt A s x y false->LtAt A s x y b->LexAt A s f ((x,y) :: r) b
theorem qvi(l b:Addr)(is js:Array Value)(n n2:Nat)(dd dd2:Option Addr)(sl sl2:Array (Option Value)):
  Meets (Builtin.«tuple.__lt__» ⟨[.ref l,.ref b],[]⟩)
   (fun A R s=>s.heap.get? l=some {cls:=.type "tuple",dict:=dd,data:=.seq is n,slots:=sl}/\s.heap.get? b=some {cls:=.type "tuple",dict:=dd2,data:=.seq js n2,slots:=sl2} /\
    ∃c,LexAt A.in1 s (decide (is.size<js.size)) (is.toList.zip js.toList) c/\R (.ok (.ret (.bool c))) s):=
 .of_wp fun prog w A R s h=>by
  obtain⟨hp,g,d,tk,os⟩:=s;obtain⟨hl,hb,c,hc,h⟩:=h;have f2:=g0g
  wp_walk using g13 hl,g13 hb,g1o _ (fun rest b s'=>b.1=none/\s'=⟨hp,g,d,tk,os⟩/\LexAt A.in1 ⟨hp,g,d,tk,os⟩ (decide (is.size<js.size)) rest c) _
  case turn=>
   rintro⟨y,x⟩ rest b s' ⟨hb',rfl,hx⟩
   cases hx with
   | eq e r=>
    refine g0 (e prog w _ _ ?_)
    wp_walk
    exact⟨rfl,rfl,r⟩
   | ne e k=>
    refine g0 (e prog w _ _ ?_);have k':∀ {E:Value->Shared->Prop} {Q:Value->Shared->Prop},Q (.bool c) ⟨hp,g,d,tk,os⟩->wpAny (model prog w) A.in1 (richCompare .Lt y x) Q E ⟨hp,g,d,tk,os⟩:=fun h=>k prog w _ _ h
    wp_walk using k'
    exact⟨_,rfl,h⟩
  case fin=>
   rintro⟨b1,b2⟩ s' ⟨hb',rfl,hx⟩
   simp only at hb';subst hb';cases hx
   wp_walk
   exact⟨_,rfl,by simpa [Builtin.Tuple.tupleCompareSizes] using h⟩
  case h=>
   exact⟨rfl,rfl,hc⟩
theorem LtAt.tuples{A:Around}{s:Shared}{l b:Addr}{is js:Array Value}{c:Bool}(hl:s.heap.IsTuple l is)(hb:s.heap.IsTuple b js)(hu:A.units<cLine)
  (he:LexAt A.in1 s (decide (is.size<js.size)) (is.toList.zip js.toList) c):LtAt A s (.ref l) (.ref b) c:=fun prog w E Q h=>by
 obtain⟨⟨cls,dd,data,sl⟩,ho,hc,n,hd⟩:=id hl;obtain⟨⟨cls2,dd2,data2,sl2⟩,ho2,hc2,n2,hd2⟩:=id hb;simp only at hc hd hc2 hd2;subst hc hd hc2 hd2;exact richCompare_meets_room (op:=.Lt) ⟨_,ho,rfl⟩ ⟨_,ho2,rfl⟩ F.slot_tuple_lt F.entry_tuple_lt (F.args_tuple_lt_2 _ _) (qvi l b is js n n2 dd dd2 sl sl2)
  ⟨ho,ho2,c,he,show Value.bool c≠Value.notImplemented/\Q (.bool c) s from⟨(fun x=>nomatch x),h⟩⟩ hu
end Srt
namespace Srt
open PySem PyProof.Rows
def xt(h:Heap)(a:Addr)(vs:List Value): Heap:=((h.update a (Obj.mapSeq fun _=> #[])).push (seqObj "tuple" vs.toArray 0)).push (seqObj "list" #[] 0)
section
variable{prog:Program}{w:World}{A:Around}{E:Value->Shared->Prop}{s:Shared}{κ : SortKind}{G:Value->Prop}{lt:Value->Value->Bool}
theorem qn1{a:Addr}{vs:List Value}{n:Nat}{P:PySem.Fin->Shared->Prop}(ho:s.heap.get? a=some (seqObj "list" vs.toArray n))(hz:vs.length<=sizeLine)(h64:vs.length<64)
  (hkind:2<=vs.length->∀Q:SortKind->Shared->Prop,Q κ {s with heap:=xt s.heap a vs}->wpAny (model prog w) A (keyKind' vs.toArray) Q E {s with heap:=xt s.heap a vs})
  (C:2<=vs.length->Cmp prog w A {s with heap:=xt s.heap a vs} κ G lt) (g:∀v∈vs,G v)
  (h:∀out:List Value,out.Perm vs->out.Pairwise (fun x y=>lt y x=false)->P (.done (.ret .none)) {s with heap:=sortedHeap s.heap a vs out.toArray}) :
  wpAny (model prog w) A (Builtin.«list.sort» ⟨[.ref a],[]⟩) P E s:=by
 rw [list_sort_plain];have ha:a<s.heap.objs.size:=m9 ho;refine g0 (listItems_at ho rfl ?_);refine g0 (g1t ho rfl ?_ (by simpa using hz) (by simp));obtain⟨e1,ho1⟩:∃e1,(s.heap.update a (Obj.mapSeq fun _=> #[])).get? a=some (seqObj "list" #[] e1):=⟨_,g17 ho (fun _=> #[])⟩
 refine g0 (g4b ho1 rfl ?_);refine g0 (wpAny_newTuple ?_);refine g0 (g3e ?_);refine nk ?_;have ho6:(xt s.heap a vs).get? a=some (seqObj "list" #[] e1):=by
  unfold xt;rw [pj _ _ _ (by rw [u6,nu];exact mf (g0l ha)),pj _ _ _ (by rw [nu];exact mf ha)];exact ho1
 show wpAny (model prog w) A _ P E {s with heap:=xt s.heap a vs};dsimp only;have hsz:vs.toArray.size=vs.length:=by simp
 by_cases h2:vs.toArray.size<2
 ·rw [gq h2,gq h2]
  refine g0 (g8 ?_);rw [StateT.run_pure];refine g0 (g8 ?_);dsimp only;refine g0 (g4b ho6 rfl ?_);have ez:(Array.map (fun x:Keyed=>x.2) (vs.toArray.zip vs.toArray))=vs.toArray:=by
   apply g6b;simp [g3i]
  refine g0 (g1t ho6 rfl ?_ (by simp) (by show(Array.map (fun x:Keyed=>x.2) (vs.toArray.zip vs.toArray)).size<=_;rw [ez,hsz];lia));simp only [g35,m8,p8];refine g8 ?_;show P _ {s with heap:=sortedHeap s.heap a vs (Array.map (fun x:Keyed=>x.2) (vs.toArray.zip vs.toArray))};rw [ez];refine h vs (.refl _) ?_
  match vs,hsz,h2 with
  | [],_,_=>exact .nil
  | [_],_,_=>exact g5k _ _
  | _ :: _ :: _,_,h2=>simp at h2;lia
 ·rw [m6 h2,m6 h2]
  have h2':2<=vs.length:=by lia
  refine g0 (hkind h2' _ ?_);have gp:∀p∈(vs.toArray.zip vs.toArray).toList,G p.1:=fun p hp=>by
   have:p∈vs.zip vs:=by simpa using hp
   exact g _ (mem_zip_self this).2
  refine g0 (t5 (qfn (by simpa using h64) (a₀:=vs.toArray.zip vs.toArray) (st:=SortSt.mk' κ (vs.toArray.zip vs.toArray) #[] 7 none)
   (Q:=fun _ st'=>failedOf st'=none/\(arrOf st').Perm (vs.toArray.zip vs.toArray)/\(arrOf st').toList.Pairwise (le lt)) (C h2') gp rfl rfl rfl rfl (N:=fun _=>0) (List.pairwise_of_forall fun _ _=>gi _) fun st' a1 a2 a3 _=>⟨a1,a2,a3⟩) ?_ fun _ _ e=>e)
  rintro⟨⟨⟩,st'⟩ s' ⟨rfl,hf,hp,hs⟩
  dsimp only;have hl:(arrOf st').toList.Perm (vs.zip vs):=by
   have:=g1e.mp hp
   simpa using this
  have e2:(arrOf st').map (·.2)=((arrOf st').toList.map (·.1)).toArray:=by
   apply g6b;rw [Array.toList_map];exact g1s fun p hp'=>((mem_zip_self (hl.mem_iff.mp hp')).1).symm
  have hp2:((arrOf st').toList.map (·.1)).Perm vs:=by
   have:=hl.map (·.1);rwa [List.map_fst_zip (gi _)] at this
  refine g0 (g4b ho6 rfl ?_);refine g0 (g1t ho6 rfl ?_ (by simp) (by show(Array.map (fun x:Keyed=>x.2) (arrOf st')).size<=_;rw [e2,gj,hp2.length_eq];lia));rw [hf];simp only [g35,m8,p8];refine g8 ?_;show P _ {s with heap:=sortedHeap s.heap a vs ((arrOf st').map (·.2))};rw [e2];exact h _ hp2 (mx.mpr hs)
def srtH(h:Heap)(vs:List Value): Heap:=((h.push (seqObj "list" #[] 0)).update h.objs.size (Obj.mapSeq (· ++ vs.toArray))).push (seqObj "list" vs.toArray 0)
theorem qk6{l:Addr}{vs:List Value}{Q:Value->Shared->Prop}(hl:s.heap.IsList l vs.toArray)(hz:vs.length<=sizeLine)(h64:vs.length<64)
  (hkind:2<=vs.length->∀Q:SortKind->Shared->Prop,Q κ {s with heap:=xt (srtH s.heap vs) (s.heap.objs.size+1) vs}->wpAny (model prog w) A.in1.in1 (keyKind' vs.toArray) Q E {s with heap:=xt (srtH s.heap vs) (s.heap.objs.size+1) vs})
  (C:2<=vs.length->Cmp prog w A.in1.in1 {s with heap:=xt (srtH s.heap vs) (s.heap.objs.size+1) vs} κ G lt) (g:∀v∈vs,G v)
  (h:∀out:List Value,out.Perm vs->out.Pairwise (fun x y=>lt y x=false)->Q (.ref (s.heap.objs.size+1)) {s with heap:=sortedAll s.heap vs out.toArray}) :
  wpAny (model prog w) A (call (.builtin "sorted") [.ref l]) Q E s:=by
 refine Calls.call_function_entry kind_sorted plain_sorted entry_sorted (args_sorted1 _) ?_;unfold Builtin.«sorted»;refine g0 (m:=checkCount "sorted" 1 1 _) (g8 ?_);refine g0 (collect_list hl ?_ hz);refine g0 (g3e ?_);have hsz:((s.heap.push (seqObj "list" #[] 0)).update s.heap.objs.size (Obj.mapSeq (· ++ vs.toArray))).objs.size=s.heap.objs.size+1:=by
  rw [nu,u6]
 have hoL:(srtH s.heap vs).get? (s.heap.objs.size+1)=some (seqObj "list" vs.toArray 0):=by
  unfold srtH;rw [<- hsz];exact gz _ rfl
 show wpAny _ _ _ _ _ {s with heap:=srtH s.heap vs};rw [hsz];refine g0 (nk (nz slot_list_sort ⟨_,hoL,rfl⟩ entry_list_sort (qn1 (κ := κ) (G:=G) (lt:=lt) hoL hz h64 hkind C g fun out a1 a2=>⟨_,rfl,?_⟩) (args_list_sort _)));exact g8 ⟨_,rfl,h out a1 a2⟩
end
end Srt
namespace DL
open PySem PySem.Spec PyProof.Rows L2 Srt
variable[Lam][Pin]
theorem qn2:∀n,(∀d e:D,sizeOf d<n->shD d e=true->okE d e=true/\eqD d e=(!ltT d e && !ltT e d))/\(∀ds es:List D,sizeOf ds<n->shL ds es=true->v8 ds es=true/\eqL ds es=(!vn ds es && !vn es ds)):=by
 intro n
 induction n with
 | zero=>exact⟨fun d e h=>absurd h (ni _),fun d e h=>absurd h (ni _)⟩
 | succ n ih=>
  refine⟨fun d e hn h=>?_,fun ds es hn h=>?_⟩
  ·cases d <;> cases e <;> simp only [shD] at h <;> first|(cases h;done)|skip
   ·refine⟨by simp [okE,flat,flD],?_⟩
    rw [xr,xr];simp only [eqD,eqF];rename_i i j
    by_cases e1:i=j
    ·subst e1;simp
    ·have:(i==j)=false:=by simpa using e1
     rw [this]
     by_cases e2:i<j
     ·simp [e2]
     ·have e3:j<i:=by lia
      simp [e3]
   ·rw [k8,k8]
    simp only [okE,eqD];exact ih.2 _ _ (by simp at hn;lia) h
  ·cases ds with
   | nil=>cases es <;> simp [v8,eqL,q2m,km]
   | cons d ds=>
    cases es with
    | nil=>simp [v8,eqL,q2m,km]
    | cons e es=>
     simp only [shL,gm] at h;obtain⟨a1,a2⟩:=ih.1 d e (by simp at hn;lia) h.1;obtain⟨b1,b2⟩:=ih.2 ds es (by simp at hn;lia) h.2;refine⟨by simp only [v8,a1,b1,g3f],?_⟩;rw [q00,q00];simp only [eqL,a2,b2];cases e1:ltT d e <;> cases e2:ltT e d <;> simp
theorem qr1{d e:D}(h:shD d e=true): okE d e=true:=((qn2 (sizeOf d+1)).1 d e (p9 _) h).1
theorem qk7{d e:D}(h:shD d e=true): eqD d e=(!ltT d e && !ltT e d):=((qn2 (sizeOf d+1)).1 d e (p9 _) h).2
section
variable{X:Cx}{pins:List (Addr×Obj)}{σ : St}{F H:Hp}{s:Shared}
theorem qch{A:Around}(I:Inv X pins σ H s)(fh:Same F H)(f:Bool): ∀ {ds es:List D} {xs ys:List V} {us vs:List Value},(∀d∈ds,∀e x y u v,shD d e=true->A.units+vy d<cLine->Rep X.K F d x->Rep X.K F e y->RelV x u->RelV y v->LtAt A s u v (ltT d e)) ->
  shL ds es=true->A.units+jn ds<cLine->RepL X.K F ds xs->RepL X.K F es ys->Vals xs us->Vals ys vs->f=decide (ds.length<es.length)->LexAt A s f (us.zip vs) (vn ds es)
 | [],es,xs,ys,us,vs,_,_,_,k1,k2,w1,w2,hf=>by
  cases k1.nil_inv;cases w1;cases es with
  | nil=>rw [q2m];simp only [g4z];rw [show false=f by rw [hf];simp];exact .nil
  | cons e es=>rw [km];simp only [g4z];rw [show true=f by rw [hf];simp];exact .nil
 | d :: ds,[],xs,ys,us,vs,_,_,_,k1,k2,w1,w2,hf=>by
  cases k2.nil_inv;cases w2;rw [q2m];simp only [List.zip_nil_right];rw [show false=f by rw [hf];simp];exact .nil
 | d :: ds,e :: es,xs,ys,us,vs,ih,hs,hu,k1,k2,w1,w2,hf=>by
  obtain⟨x,r,rfl,a1,a2⟩:=k1.cons_inv;obtain⟨y,r',rfl,b1,b2⟩:=k2.cons_inv;cases w1 with
  | cons p1 p2=>
   cases w2 with
   | cons p3 p4=>
    simp only [shL,gm] at hs;simp only [jn] at hu;rw [g4k];have he:=q87 I fh A (qr1 hs.1) (by lia) a1 b1 p1 p3;have hl:=ih d gc e x y _ _ hs.1 (by lia) a1 b1 p1 p3;rw [qk7 hs.1] at he;rw [q00];cases e1:ltT d e
    ·cases e2:ltT e d
     ·rw [e1,e2] at he
      simp only [g4n,g1i,g2i];exact .eq he (qch I fh f (fun d' hd'=>ih d' (gf _ hd')) hs.2 (by lia) a2 b2 p2 p4 (by rw [hf];simp))
     ·rw [e1,e2] at he
      rw [e1] at hl;exact .ne he hl
    ·rw [e1] at he hl
     exact .ne he hl
theorem qvj(I:Inv X pins σ H s)(fh:Same F H): ∀ {d e:D} {x y:V} {u v:Value} (A:Around),shD d e=true->A.units+vy d<cLine->Rep X.K F d x->Rep X.K F e y->RelV x u->RelV y v->LtAt A s u v (ltT d e):=by
 suffices hh:∀n,(∀d e x y u v (A:Around),sizeOf d<n->shD d e=true->A.units+vy d<cLine->Rep X.K F d x->Rep X.K F e y->RelV x u->RelV y v->LtAt A s u v (ltT d e)) from
  fun {d e x y u v} A=>hh (sizeOf d+1) d e x y u v A (p9 _)
 intro n
 induction n with
 | zero=>intro d e x y u v A h;exact absurd h (ni _)
 | succ n ih=>
  intro d e x y u v A hn hs hu r1 r2 q1 q2;cases d <;> cases e <;> simp only [shD] at hs <;> first|(cases hs;done)|skip
  ·cases rep_int.mp r1
   cases rep_int.mp r2;obtain⟨t,rfl⟩:=q1;obtain⟨t',rfl⟩:=q2;rw [xr];intro prog w E Q h;exact lt_int h
  ·rename_i ds es
   obtain⟨a,xs,rfl,k1,k2⟩:=rep_tup.mp r1;obtain⟨b,ys,rfl,k3,k4⟩:=rep_tup.mp r2;cases q1;cases q2;obtain⟨i1,v1,t1,_⟩:=I.tuple (qt fh k1);obtain⟨i2,v2,t2,_⟩:=I.tuple (qt fh k3);simp only [vy] at hu;rw [k8];refine LtAt.tuples (show s.heap.IsTuple a i1.toArray from t1) (show s.heap.IsTuple b i2.toArray from t2) (by lia) ?_;refine qch I fh _ (fun d hd e x y u v s1 s2 s3 s4 s5 s6=>ih d e x y u v A.in1 ?_ s1 s2 s3 s4 s5 s6) hs (by show A.units+1+jn ds<cLine;lia) k2 k4 v1 v2 ?_
   ·have:=g68 hd
    simp at hn;lia
   ·rw [gj,gj, <- v1.length, <- v2.length, <- k2.length, <- k4.length]
theorem qpc(I:Inv X pins σ H s)(fh:Same F H): ∀ {d e:D} {x:V},kD d=true->kD e=true->Rep X.K F d x->Rep X.K F e x->d=e:=by
 suffices hh:∀n,(∀d e x,sizeOf d<n->kD d=true->kD e=true->Rep X.K F d x->Rep X.K F e x->d=e) from fun {d e x}=>hh (sizeOf d+1) d e x (p9 _)
 intro n
 induction n with
 | zero=>intro d e x h;exact absurd h (ni _)
 | succ n ih=>
  intro d e x hn kd ke r1 r2;cases d <;> simp only [kD] at kd <;> first|(cases kd;done)|skip
  all_goals (cases e <;> simp only [kD] at ke <;> first|(cases ke;done)|skip)
  ·cases rep_int.mp r1
   cases rep_int.mp r2
   rfl
  ·cases rep_int.mp r1
   obtain⟨_,_,z,_⟩:=rep_tup.mp r2;cases z
  ·obtain⟨_,_,z,_⟩:=rep_tup.mp r1
   cases rep_int.mp r2;cases z
  ·rename_i ds es
   obtain⟨a,xs,rfl,k1,k2⟩:=rep_tup.mp r1;obtain⟨b,ys,z,k3,k4⟩:=rep_tup.mp r2;cases z;cases I.tuple_inj (qt fh k1) (qt fh k3);have seq:∀(ds es:List D) (xs:List V),sizeOf ds<n->kDL ds=true->kDL es=true->RepL X.K F ds xs->RepL X.K F es xs->ds=es:=by
    intro ds
    induction ds with
    | nil=>
     intro es xs _ _ _ k1 k2;cases k1.nil_inv;cases es with
     | nil=>rfl
     | cons e es=>obtain⟨_,_,z,_⟩:=k2.cons_inv;cases z
    | cons d ds ihd=>
     intro es xs hs h1 h2 k1 k2;obtain⟨x,r,rfl,a1,a2⟩:=k1.cons_inv;cases es with
     | nil=>cases k2.nil_inv
     | cons e es=>
      obtain⟨x',r',z,b1,b2⟩:=k2.cons_inv;cases z;simp only [kDL,gm] at h1 h2;rw [ih d e x (by simp at hs;lia) h1.1 h2.1 a1 b1,ihd es r (by simp at hs;lia) h1.2 h2.2 a2 b2]
   rw [seq ds es xs (by simp at hn;lia) kd ke k2 k4]
theorem qn3{d e:D}{x y:V}{u:Value}{K:Frag}(kd:kD d=true)(ke:kD e=true)(r1:Rep K F d x)(r2:Rep K F e y)(q1:RelV x u)(q2:RelV y u): x=y:=by
 cases d <;> simp only [kD] at kd <;> first|(cases kd;done)|skip
 all_goals (cases e <;> simp only [kD] at ke <;> first|(cases ke;done)|skip)
 ·cases rep_int.mp r1
  cases rep_int.mp r2;obtain⟨t,rfl⟩:=q1;obtain⟨t',z⟩:=q2;cases z
  rfl
 ·cases rep_int.mp r1
  obtain⟨_,_,rfl,_⟩:=rep_tup.mp r2;obtain⟨t,rfl⟩:=q1;cases q2
 ·obtain⟨_,_,rfl,_⟩:=rep_tup.mp r1
  cases rep_int.mp r2;cases q1;obtain⟨t',z⟩:=q2;cases z
 ·obtain⟨_,_,rfl,_⟩:=rep_tup.mp r1
  obtain⟨_,_,rfl,_⟩:=rep_tup.mp r2;cases q1;cases q2
  rfl
def q4k(K:Frag)(F:Hp)(d:D)(u:Value): Prop:=kD d=true/\∃x,Rep K F d x/\RelV x u
open Classical in
noncomputable def keyOf(K:Frag)(F:Hp)(u:Value): D:=if h:∃d,q4k K F d u then Classical.choose h else .non
theorem q74(I:Inv X pins σ H s)(fh:Same F H){d:D}{u:Value}(h:q4k X.K F d u): keyOf X.K F u=d:=by
 unfold keyOf;rw [dif_pos ⟨d,h⟩];obtain⟨k1,x,a1,a2⟩:=Classical.choose_spec (⟨d,h⟩:∃d,q4k X.K F d u);obtain⟨k2,y,b1,b2⟩:=h;obtain rfl:=qn3 k1 k2 a1 b1 a2 b2;exact qpc I fh k1 k2 a1 b1
theorem q56{α β : Type}(f : α -> β){l:List β}{m:List β}(p:l.Perm m): ∀ {L:List α},m=L.map f->∃L':List α,L'.Perm L/\l=L'.map f:=by
 induction p with
 | nil=>intro L h;cases L with
  | nil=>exact⟨[],.refl _,rfl⟩
  | cons a L=>cases h
 | cons x p ih=>
  intro L h;cases L with
  | nil=>cases h
  | cons a L=>
   rw [gd] at h;injection h with h1 h2
   obtain⟨L',p',e⟩:=ih h2;exact⟨a :: L',p'.cons a,by rw [gd, <- e,h1]⟩
 | swap x y r=>
  intro L h
  match L,h with
  | [],h=>cases h
  | [a],h=>injection h with h1 h2;cases h2
  | a :: b :: L,h=>
   rw [gd,gd] at h;injection h with h1 h2
   injection h2 with h2 h3
   exact⟨b :: a :: L,.swap a b L,by rw [gd,gd, <- h1, <- h2, <- h3]⟩
 | trans p q ih1 ih2=>
  intro L h;obtain⟨L2,p2,e2⟩:=ih2 h;obtain⟨L1,p1,e1⟩:=ih1 e2;exact⟨L1,p1.trans p2,e1⟩
end
end DL
namespace DL
open PySem PySem.Spec PyProof.Rows L2 Srt PySem.W
variable[Lam][Pin]
def isI:D->Bool
 | .int _=>true
 | _=>false
def qr2:D->Bool
 | .tup (.int _ :: _)=>true
 | _=>false
def q3y(ks:List D): Bool:=ks.all kD&&(ks.all fun d=>ks.all fun e=>shD d e)&&(ks.all isI || (ks.all qr2&&ks.all fun d=>decide (vy d<=50)))
section
variable{X:Cx}{pins:List (Addr×Obj)}{σ : St}{F H:Hp}{s:Shared}
theorem qn4{prog:Program}{w:World}{A:Around}{f c:Bool}{Q:Bool->Shared->Prop}{l:List (Value×Value)}(h:LexAt A s f l c): ∀i,1<=i->Q c s->KatLex prog w A true f Q l i s:=by
 induction h with
 | nil=>intro i _ q;exact kat_nil q
 | eq e _ ih=>intro i hi q;exact kat_cons (e prog w _ _ (kat_yes (ih (i+1) (by lia) q)))
 | ne e k=>
  intro i hi q;refine kat_cons (e prog w _ _ (kat_no ?_));have:(true&&i==0)=false:=by simp;lia
  rw [this];exact kat_one _ _ (k prog w _ _ q)
theorem qbe{h:Heap}: ∀ {vs:List Value},(∀v∈vs,∃a o xs n i t,v=.ref a/\h.get? a=some o/\o.cls=.type "tuple" /\ o.data=.seq xs n/\xs[0]? = some (Value.int i t)) ->
  ∃fs:List Value,KatTups h vs fs/\fs.length=vs.length/\∀v∈fs,∃i t,v=Value.int i t
 | [],_=>⟨[],.nil,rfl,fun v hv=>by cases hv⟩
 | v :: vs,hh=>by
  obtain⟨a,o,xs,n,i,t,rfl,h1,h2,h3,h4⟩:=hh v gc;obtain⟨fs,k1,k2,k3⟩:=qbe fun v hv=>hh v (gf _ hv);refine⟨.int i t :: fs,.cons h1 h2 h3 h4 k1,by simp [k2],fun v hv=>?_⟩;rcases ml.mp hv with rfl|hv
  ·exact⟨i,t,rfl⟩
  ·exact k3 v hv
theorem qr3(I:Inv X pins σ H s)(fh:Same F H)(A:Around)(hu:A.units+60<cLine){us:List Value}{ks:List D}(st:∀u∈us,∃d∈ks,q4k X.K F d u)(ok:q3y ks=true):
  ∃ κ,(2<=us.length->∀(E:Value->Shared->Prop) (Q:SortKind->Shared->Prop),Q κ s->wpAny (model X.prog X.w) A (keyKind' us.toArray) Q E s) /\
   Cmp X.prog X.w A s κ (fun u=>u∈us) (fun u v=>ltT (keyOf X.K F u) (keyOf X.K F v)):=by
 unfold q3y at ok;rw [gm,gm,g0f,gm] at ok;obtain⟨⟨_,o2⟩,o3⟩:=ok;have sh:∀d∈ks,∀e∈ks,shD d e=true:=fun d hd e he=>n6.mp (n6.mp o2 d hd) e he;rcases o3 with o3|⟨o3,o4⟩
 ·have hin:∀u∈us,∃n t,u=Value.int n t/\keyOf X.K F u=.int n:=fun u hu=>by
   obtain⟨d,hd,hs⟩:=st u hu;have hk:=q74 I fh hs;have:=n6.mp o3 d hd;cases d <;> simp only [isI] at this <;> first|(cases this;done)|skip
   obtain⟨_,x,r,q⟩:=hs;cases rep_int.mp r;obtain⟨t,rfl⟩:=q;exact⟨_,t,rfl,hk⟩
  refine⟨oneType',fun h2 E Q q=>?_,⟨fun x y gx gy Q q=>?_,fun x y h=>qfh h,fun x y z h k=>qfi h k⟩⟩
  ·match us,h2,hin with
   | v₁ :: v₂ :: vs,_,hin=>
    rw [keyKind_ints (intsAre_map _ fun v hv=>let⟨n,t,e,_⟩:=hin v hv; ⟨n,t,e⟩)];exact g8 q
  ·obtain⟨n,t,rfl,e1⟩:=hin x gx
   obtain⟨m,t',rfl,e2⟩:=hin y gy;rw [e1,e2,xr] at q;exact kat_lt_int q
 ·have tups:∀u∈us,∃d∈ks,q4k X.K F d u/\keyOf X.K F u=d/\vy d<=50/\∃i ds,d=.tup (.int i :: ds):=fun u hu=>by
   obtain⟨d,hd,hs⟩:=st u hu;have hk:=q74 I fh hs;have:=n6.mp o3 d hd;have h4:=td (n6.mp o4 d hd);unfold qr2 at this
   split at this
   ·exact⟨_,hd,hs,hk,h4,_,_,rfl⟩
   ·cases this
  refine⟨tuples' true,fun h2 E Q q=>?_,⟨fun x y gx gy Q q=>?_,fun x y h=>qfh h,fun x y z h k=>qfi h k⟩⟩
  ·obtain⟨fs,k1,k2,k3⟩:=qbe (h:=s.heap) (vs:=us) fun v hv=>by
    obtain⟨d,_,⟨_,x,r,qx⟩,_,_,i,ds,rfl⟩:=tups v hv;obtain⟨a,xs,rfl,q1,q2⟩:=rep_tup.mp r;cases qx;obtain⟨x0,r0,rfl,z1,z2⟩:=q2.cons_inv;cases rep_int.mp z1;obtain⟨its,r1,⟨o,ho,hc,n,hd⟩,_⟩:=I.tuple (qt fh q1);cases r1 with
    | cons p1 p2=>
     obtain⟨t,rfl⟩:=p1;exact⟨a,o,_,n,i,t,rfl,ho,hc,hd,by simp⟩
   refine kat_kind (T:=.type "int") k1 (by lia) (fun v hv=>?_) (by rfl) q;obtain⟨i,t,rfl⟩:=k3 v hv;exact Looks.of_pure rfl
  ·obtain⟨d,hd,⟨_,x',r,qx⟩,e1,dp,i,ds,rfl⟩:=tups x gx
   obtain⟨e,he,⟨_,y',r',qy⟩,e2,dp',j,es,rfl⟩:=tups y gy;rw [e1,e2] at q;have hs:=sh _ hd _ he;obtain⟨a,xs,rfl,q1,q2⟩:=rep_tup.mp r;obtain⟨b,ys,rfl,q3,q4⟩:=rep_tup.mp r';cases qx;cases qy;obtain⟨x0,r0,rfl,z1,z2⟩:=q2.cons_inv;obtain⟨y0,w0,rfl,z3,z4⟩:=q4.cons_inv;have z1':=z1;have z3':=z3;cases rep_int.mp z1;cases rep_int.mp z3;obtain⟨its,r1,⟨o,ho,hc,n,hdt⟩,_⟩:=I.tuple (qt fh q1);obtain⟨its2,r2,⟨o2,ho2,hc2,n2,hdt2⟩,_⟩:=I.tuple (qt fh q3);have l1:=r1.length;have l2:=r2.length;have m1:=q2.length;have m2:=q4.length;cases r1 with
   | cons p1 p2=>
    cases r2 with
    | cons p3 p4=>
     have hp1:=p1;have hp3:=p3;obtain⟨t,rfl⟩:=p1;obtain⟨t',rfl⟩:=p3;simp only [shD,shL,gm] at hs;simp only [vy,jn] at dp;refine kat_lt ho hdt ho2 hdt2 ?_;rw [k8,q00] at q;have hE:=q87 I fh A (d:=.int i) (e:=.int j) (by simp [okE,flat,flD]) (by simp only [vy];lia) z1' z3' hp1 hp3;rw [qk7 (by simp only [shD])] at hE;simp only [g4k];have lex:=qch I fh (A:=A) (decide (ds.length<es.length)) (fun d _ e x y u v s1 s2 s3 s4 s5 s6=>qvj I fh A s1 s2 s3 s4 s5 s6) hs.2 (by lia) z2 z4 p2 p4 rfl;have ef:∀ {m1 m2:List Value},Paired RelV r0 m1->Paired RelV w0 m2->decide ((Value.int i t :: m1).toArray.size<(Value.int j t' :: m2).toArray.size)=decide (ds.length<es.length):=fun a3 a4=>by
      simp only [gj,p5];rw [<- g4m a3, <- g4m a4, <- z2.length, <- z4.length];simp
     rw [ef p2 p4];cases c1:ltT (.int i) (.int j)
     ·cases c2:ltT (.int j) (.int i)
      ·rw [c1,c2] at hE q
       simp only [g4n,g1i,g2i] at q;exact kat_cons (hE X.prog X.w _ _ (kat_yes (qn4 lex 1 (gi _) q)))
      ·rw [c1,c2] at hE q
       refine kat_cons (hE X.prog X.w _ _ (kat_no ?_));have c1':decide (i<j)=false:=by rw [<- xr];exact c1
       refine oneLt_int ?_;rw [c1'];exact q
     ·rw [c1] at hE q
      refine kat_cons (hE X.prog X.w _ _ (kat_no ?_));have c1':decide (i<j)=true:=by rw [<- xr];exact c1
      refine oneLt_int ?_;rw [c1'];exact q
theorem qpd{K:Frag}: ∀ {ds:List D} {ys:List V} {its:List Value},RepL K F ds ys->Vals ys its->∃T:List (V×Value×D),T.map (·.1)=ys/\T.map (·.2.1)=its/\T.map (·.2.2)=ds/\∀t∈T,Rep K F t.2.2 t.1/\RelV t.1 t.2.1
 | [],ys,its,k2,r1=>by
  cases k2.nil_inv;cases r1;exact⟨[],rfl,rfl,rfl,fun t ht=>by cases ht⟩
 | d :: ds,ys,its,k2,r1=>by
  obtain⟨x,r,rfl,a1,a2⟩:=k2.cons_inv;cases r1 with
  | cons b1 b2=>
   rename_i u' us';obtain⟨T,t1,t2,t3,t4⟩:=qpd a2 b2;refine⟨(x,u',d) :: T,by simp [t1],by simp [t2],by simp [t3],fun t ht=>?_⟩;rcases ml.mp ht with rfl|ht
   ·exact⟨a1,b1⟩
   ·exact t4 t ht
def q8d:List D->Option (List D)
 | [.lst ds]=>if q3y ds&&decide (ds.length<64) then some ((q09 (ds.map fun d=>(d,d))).map Prod.snd) else none
 | _=>none
theorem qpe(hu:X.A.units+64<cLine): jx X (.builtin "sorted") (rCL X.K q8d):=fun pins s σ H xs us Q I rv ⟨F,ds,es,fh,rl,ho,q⟩=>by
 unfold q8d at ho
 split at ho
 ·rename_i ds
  split at ho
  ·rename_i hok
   cases ho;obtain⟨x,rfl,rx⟩:=rep1 rl;obtain⟨a,ys,rfl,k1,k2⟩:=rep_lst.mp rx;obtain⟨u,rfl,ru⟩:=vals1 rv;cases ru;obtain⟨its,r1,p1,hz⟩:=I.list (fh.seq k1);obtain⟨T,t1,t2,t3,t4⟩:=qpd k2 r1;rw [gm] at hok;have h64:=td hok.2;have hok:=hok.1;have kds:∀d∈ds,kD d=true:=by
    unfold q3y at hok;rw [gm,gm] at hok;exact n6.mp hok.1.1
   have st:∀t∈T,q4k X.K F t.2.2 t.2.1:=fun t ht=>⟨kds _ (by rw [<- t3];exact tu ht),t.1,t4 t ht⟩
   have hlen:its.length<=sizeLine:=by rw [<- r1.length];exact hz
   have keep:∀b o,s.heap.get? b=some o->(xt (srtH s.heap its) (s.heap.objs.size+1) its).get? b=some o:=fun b o qb=>by
    have hlt:b<s.heap.objs.size:=m9 qb;unfold xt srtH;have z1:((s.heap.push (seqObj "list" #[] 0)).update s.heap.objs.size (Obj.mapSeq (· ++ its.toArray))).objs.size=s.heap.objs.size+1:=by rw [nu,u6]
    have ne:∀k,b≠s.heap.objs.size+k:=fun k=>mf (gr hlt (g1n _ _));rw [pj _ _ _ (by rw [u6,nu,u6,z1];exact ne 3),pj _ _ _ (by rw [nu,u6,z1];exact ne 2),t7 _ _ _ _ (ne 1),
     pj _ _ _ (by rw [z1];exact ne 1),t7 _ _ _ _ (show b≠s.heap.objs.size from ne 0),pj _ _ _ (show b≠s.heap.objs.size from ne 0)]
    exact qb
   have I6:Inv X pins σ H {s with heap:=xt (srtH s.heap its) (s.heap.objs.size+1) its}:=I.kept (t':=s.toks) keep;obtain⟨κ,hk,C⟩:=qr3 I6 fh X.A.in1.in1 (by show X.A.units+1+1+60<cLine;lia) (us:=its) (ks:=ds) (fun u hu=>by
    rw [<- t2] at hu;obtain⟨t,ht,rfl⟩:=md.mp hu;exact⟨t.2.2,by rw [<- t3];exact tu ht,st t ht⟩) hok
   refine qk6 p1.isList hlen (by rw [<- r1.length, <- k2.length];exact h64) (fun h2 Q q=>hk h2 _ Q q) (fun _=>C) (fun v hv=>hv) fun out a1 a2=>?_;obtain⟨T',pT,eT⟩:=q56 (fun t:V×Value×D=>t.2.1) a1 t2.symm;have hT':∀t∈T',Rep X.K F t.2.2 t.1/\RelV t.1 t.2.1:=fun t ht=>t4 t (pT.mem_iff.mp ht);have hk':∀t∈T',keyOf X.K F t.2.1=t.2.2:=fun t ht=>q74 I fh (st t (pT.mem_iff.mp ht));have eD:T'.map (·.2.2)=(q09 (ds.map fun d=>(d,d))).map Prod.snd:=by
    have e1:T'.map (fun t=>(t.2.2,t.2.2))=q09 (ds.map fun d=>(d,d)):=by
     refine qfk ?_ ?_ ?_
     ·have:=pT.map (fun t:V×Value×D=>(t.2.2,t.2.2))
      rw [<- t3,mv];exact this
     ·rw [mx]
      rw [eT,mx] at a2;refine pd (fun {x y} hx hy h=>?_) a2;rw [hk' x hx,hk' y hy] at h;exact h
     ·intro x hx y hy h1 h2
      obtain⟨d,hd,rfl⟩:=md.mp hx;obtain⟨e,he,rfl⟩:=md.mp hy;rw [lt_eq (kds d hd) (kds e he) h1 h2]
    rw [<- e1,mv]
    rfl
   have hn:H (s.heap.objs.size+1)=none:=I.hok.fresh (g0t _);have vo:Vals (T'.map (·.1)) out:=by
    rw [eT];clear eT eD pT hk'
    induction T' with
    | nil=>exact .nil
    | cons t T' ih=>exact .cons (hT' t gc).2 (ih fun t ht=>hT' t (gf _ ht))
   have ro:RepL X.K F (T'.map (·.2.2)) (T'.map (·.1)):=by
    clear eT eD pT hk' vo
    induction T' with
    | nil=>exact .nil
    | cons t T' ih=>exact .cons (hT' t gc).1 (ih fun t ht=>hT' t (gf _ ht))
   obtain⟨e,he⟩:=sortedAll_at s.heap its out.toArray;have ll:(T'.map (·.1)).length<=sizeLine:=by
    rw [gh,pT.length_eq, <- gh (f:=fun t:V×Value×D=>t.1) (as:=T),t1];exact hz
   refine⟨.ref (s.heap.objs.size+1),_,I.laid (t':=s.toks) (a:=s.heap.objs.size+1) (o:=.lst (T'.map (·.1))) (fun b ob q=>sortedAll_old q) (g0t _) ⟨ll,out,e,vo,he⟩,rfl,?_⟩;exact q _ _ F _ (Grow.own fh hn) (fh.free hn) hn zi (by rw [<- eD];exact ro)
  ·cases ho
 ·cases ho
end
end DL
namespace Js
open PySem
open Sem (wp)
abbrev PK2:=List Int×List Int
def IsPair(prog:Program)(w:World)(h:Heap)(k:PK2)(a:Addr): Prop:=∃o p q n,h.get? a=some o/\o.cls=.type "tuple" /\ o.data=.seq #[.ref p,.ref q] n/\(TK prog w).is h k.1 p/\(TK prog w).is h k.2 q
section
variable{prog:Program}{w:World}{A:Around}{E:Value->Shared->Prop}{s:Shared}
theorem IsPair.typeIs{k:PK2}{a:Addr}(x:IsPair prog w s.heap k a): s.TypeIs (.ref a) "tuple" :=let⟨o,_,_,_,ho,hc,_⟩:=x; ⟨o,ho,hc⟩
theorem IsPair.inj{h:Heap}{a:Addr}{x y:PK2}(hx:IsPair prog w h x a)(hy:IsPair prog w h y a): x=y:=by
 obtain⟨o,p,q,n,ho,_,hd,h1,h2⟩:=hx;obtain⟨o',p',q',n',ho',_,hd',h1',h2'⟩:=hy;obtain rfl:o=o':=gu (ho.symm.trans ho');rw [hd] at hd';injection hd' with e1 _
 simp only [Array.mk.injEq,g5q,Value.ref.injEq,and_true] at e1;obtain⟨rfl,rfl⟩:=e1;have a1:=(TK prog w).inj h1 h1';have a2:=(TK prog w).inj h2 h2';obtain⟨x1,x2⟩:=x;obtain⟨y1,y2⟩:=y;simp only at a1 a2;rw [a1,a2]
theorem IsPair.keeps{h h':Heap}{k:PK2}{a d:Addr}{o:Obj}{es ep}(x:IsPair prog w h k a)(ho:h.get? d=some o)(hd:o.data=.dict es ep)(hs:Heap.SameBut d h h'): IsPair prog w h' k a:=by
 obtain⟨o',p,q,n,ho',hc,hd',h1,h2⟩:=x;have hne:a≠d:=by
  rintro rfl
  obtain rfl:o'=o:=gu (ho'.symm.trans ho);rw [hd] at hd';exact nomatch hd'
 exact⟨o',p,q,n,(hs.2 a hne).trans ho',hc,hd',(TK prog w).keeps h1 ho hd hs,(TK prog w).keeps h2 ho hd hs⟩
theorem IsPair.stay{h h':Heap}{k:PK2}{a:Addr}(x:IsPair prog w h k a)(e:∀b o,h.get? b=some o->(b=a\/True)->h'.get? b=some o): IsPair prog w h' k a:=by
 obtain⟨o,p,q,n,ho,hc,hd,h1,h2⟩:=x;exact⟨o,p,q,n,e a o ho (.inl rfl),hc,hd,q2l h1 fun o z=>e _ o z (.inr trivial),q2l h2 fun o z=>e _ o z (.inr trivial)⟩
def qr4(k:PK2): Int:=reduceHash (Builtin.Tuple.tupleHashOf [tupleKeyHash (intKind prog w) k.1,tupleKeyHash (intKind prog w) k.2])
def q8e(k:PK2): Nat:=(k.1.length+1)+(k.2.length+1)+1
theorem qhj{k:PK2}{a:Addr}{Q:Int->Shared->Prop}(hu:A.units+8<cLine)(hk:IsPair prog w s.heap k a)(h:Q (qr4 (prog:=prog) (w:=w) k) {s with toks:=s.toks+q8e k}):
  wpAny (model prog w) A (pyHash (.ref a)) Q E s:=by
 have hT:=hk.typeIs;obtain⟨o,p,q,n,ho,_,hd,h1,h2⟩:=hk;unfold pyHash
 first|unfold pyHashByItsType|skip
 first|refine g0 (wpAny_cRoomFor_or (.inr (by lia)) ?_)|skip
 refine g0 (g2n hT g36.lookup ?_);show wpAny _ _ (if(some (Value.builtin "tuple.__hash__")==some Value.none)=true then _ else _) Q E s;rw [m6 (by rw [beq_builtin_none];exact mh)];refine g0 (g2n hT g36.lookup ?_);show wpAny _ _ (callSpecialIfBoundUnlessNone? (.ref a) "__hash__" _ >>= _) Q E s;refine g0 (wpAny_callSpecialIfBoundUnlessNone?_slot hT g36 (nz g36 hT F.entry_tuple_hash ?_ (F.args_tuple_hash_1 _)));show wpAny _ _ (Builtin.Tuple.tupleItemsOf (.ref a) >>= _) _ _ s;refine g0 (g4l ho hd ?_);refine g0 ?_;rw [<- g2s];refine g1o _
  (fun rest (b:Array Int) s'=>∃done left:List (List Int×Addr),[(k.1,p),(k.2,q)]=done++left/\rest=left.map (fun z=>Value.ref z.2)/\b.toList=done.map (fun z=>tupleKeyHash (intKind prog w) z.1)/\s' = {s with toks:=s.toks+(done.map fun z=>z.1.length+1).sum})
  _ ?_ ?_ _ _ ⟨[],[(k.1,p),(k.2,q)],rfl,rfl,rfl,rfl⟩
 ·rintro x rest b s' ⟨done,left,e,hl,hb,rfl⟩
  cases left with
  | nil=>cases hl
  | cons z left=>
   simp only [gd,g5q] at hl;obtain⟨rfl,rfl⟩:=hl;have hz:z∈[(k.1,p),(k.2,q)]:=by rw [e];simp
   have hz2:(TK prog w).is s.heap z.1 z.2:=by
    rcases ml.mp hz with rfl|hz
    ·exact h1
    ·rw [nv.mp hz];exact h2
   refine g0 ((TK prog w).pyHash (s:={s with toks:=s.toks+(done.map fun z=>z.1.length+1).sum}) (show A.units+1<cLine by lia) hz2 ?_)
   first
    | exact g8 ⟨done++[z],left,by rw [e];simp,rfl,by simp [hb];rfl,by simp [g3g];rfl⟩
    | exact g0 (g8 (g8 ⟨done++[z],left,by rw [e];simp,rfl,by simp [hb];rfl,by simp [g3g];rfl⟩))
 ·rintro b s' ⟨done,left,e,hl,hb,rfl⟩
  have el:left=[]:=by
   cases left with
   | nil=>rfl
   | cons z l=>cases hl
  rw [el,g1u] at e;rw [<- e] at hb ⊢;show wpAny _ _ (retInt (Builtin.Tuple.tupleHashOf b.toList)) _ _ _;rw [hb];refine wpAny_ret_mkInt ?_;generalize eh:Builtin.Tuple.tupleHashOf (([(k.1,p),(k.2,q)]:List (List Int×Addr)).map (fun z=>tupleKeyHash (intKind prog w) z.1))=hh;have h':Q (reduceHash hh) {s with toks:=s.toks+q8e k}:=by rw [<- eh];exact h
  show wpAny _ _ (if(decide (-(2:Int) ^ 63<=hh)&&decide (hh<2 ^ 63))=true then _ else _) Q E _;unfold reduceHash at h'
  by_cases hr:(decide (-(2:Int) ^ 63<=hh)&&decide (hh<2 ^ 63))=true
  ·rw [gq hr]
   rw [gq hr] at h';exact g8 (by simpa [q8e,g3g] using h')
  ·rw [m6 hr]
   rw [m6 hr] at h';exact g0 (g0b (g8 (by simpa [q8e,g3g] using h')))
theorem qfo{x y:PK2}{a b:Addr}{P:Fin->Shared->Prop}(hu:A.units+4<cLine)(hx:IsPair prog w s.heap x a)(hy:IsPair prog w s.heap y b)(h:P (.done (.ret (.bool (decide (x=y))))) s):
  wpAny (model prog w) A (Builtin.«tuple.__eq__» ⟨[.ref a,.ref b],[]⟩) P E s:=by
 have hTb:=hy.typeIs;obtain⟨oa,p,q,na,hoa,_,hda,h1,h2⟩:=hx;obtain⟨ob,p',q',nb,hob,_,hdb,h1',h2'⟩:=hy;show wpAny _ _ (isInstance (.ref b) (.type "tuple") >>= _) _ _ s;refine g0 (g0q hTb g3o ?_);simp only [uh,m8,p8];refine g0 (g4l hoa hda ?_);refine g0 (g4l hob hdb ?_);refine g0 ?_;refine g1o _
  (fun rest r s'=>r.1=none/\s'=s/\∃done left:List ((List Int×Addr)×(List Int×Addr)),[((x.1,p),(y.1,p')),((x.2,q),(y.2,q'))]=done++left/\rest=left.map (fun z=>(Value.ref z.1.2,Value.ref z.2.2))/\∀z∈done,z.1.1=z.2.1)
  _ ?_ ?_ _ _ ⟨rfl,rfl,[],[((x.1,p),(y.1,p')),((x.2,q),(y.2,q'))],rfl,rfl,fun z hz=>(nomatch hz)⟩
 ·rintro⟨u,v⟩ rest r s' ⟨hr,rfl,done,left,e,hl,hd⟩
  cases left with
  | nil=>cases hl
  | cons z left=>
   simp only [gd,g5q,Prod.mk.injEq] at hl;obtain⟨⟨rfl,rfl⟩,rfl⟩:=hl;have hz:z∈[((x.1,p),(y.1,p')),((x.2,q),(y.2,q'))]:=by rw [e];simp
   have hz2:(TK prog w).is s'.heap z.1.1 z.1.2/\(TK prog w).is s'.heap z.2.1 z.2.2/\(z.1.1≠z.2.1->x≠y):=by
    rcases ml.mp hz with rfl|hz
    ·exact⟨h1,h1',fun n e=>n (by rw [e])⟩
    ·rw [nv.mp hz];exact⟨h2,h2',fun n e=>n (by rw [e])⟩
   refine g0 ((TK prog w).eqBool (show A.units<cLine by lia) hz2.1 hz2.2.1 ?_)
   by_cases hk:z.1.1=z.2.1
   ·rw [gv hk]
    simp only [uh,m8,p8];refine g8 ⟨rfl,rfl,done++[z],left,by rw [e];simp,rfl,fun c hc=>?_⟩;rcases uj.mp hc with hc|hc
    ·exact hd c hc
    ·rw [nv.mp hc];exact hk
   ·rw [mi hk]
    simp only [g1i,tf];have hf:decide (x=y)=false:=mi (hz2.2.2 hk);rw [hf] at h;exact g0 (g8 (g8 (g8 h)))
 ·rintro⟨r1,r2⟩ s' ⟨hr,rfl,done,left,e,hl,hd⟩
  simp only at hr;subst hr;refine g8 ?_;have el:left=[]:=by
   cases left with
   | nil=>rfl
   | cons z l=>cases hl
  rw [el,g1u] at e;have a1:=hd ((x.1,p),(y.1,p')) (by rw [<- e];simp);have a2:=hd ((x.2,q),(y.2,q')) (by rw [<- e];simp);have hxy:x=y:=by
   obtain⟨x1,x2⟩:=x;obtain⟨y1,y2⟩:=y;simp only at a1 a2;rw [a1,a2]
  rw [gv hxy] at h;exact h
theorem qhk{x y:PK2}{a b:Addr}{Q:Bool->Shared->Prop}(hu:A.units+8<cLine)(hx:IsPair prog w s.heap x a)(hy:IsPair prog w s.heap y b)(h:Q (decide (x=y)) s):
  wpAny (model prog w) A (eqBool (.ref a) (.ref b)) Q E s:=by
 unfold eqBool
 try with_reducible refine nk ?_
 show wpAny _ _ (if(Value.ref a==Value.ref b)=true then _ else _) Q E s
 by_cases hab:(Value.ref a==Value.ref b)=true
 ·rw [gq hab]
  have e:a=b:=by have:=eq_of_beq hab;injection this
  subst e;obtain rfl:=hx.inj hy;exact g0 (g0b (g8 (by simpa using h)))
 ·rw [m6 hab]
  exact g0 (wpAny_richCompare_same_room (op:=.Eq) hx.typeIs hy.typeIs g3z
   (nz g3z hx.typeIs F.entry_tuple_eq (qfo (show A.units+1+4<cLine by lia) hx hy ⟨_,rfl,(fun e=>nomatch e),g0i h⟩) (F.args_tuple_eq_2 _ _)) (by lia))
theorem qn5{ks:List Int}{a:Addr}{Q:Bool->Shared->Prop}(hk:(TK prog w).is s.heap ks a)(h:Q true s): wpAny (model prog w) A (eqIsQuiet 7 (.ref a)) Q E s:=by
 have hT:=IsTupleKey.typeIs hk;obtain⟨o,items,n,ho,_,hd,hi⟩:=hk;unfold eqIsQuiet;refine g0 (g2n hT g3z.lookup ?_);show wpAny _ _ (isInstance (.ref a) (.type "tuple") >>= _) _ _ s;refine g0 (g0q hT g3o ?_);simp only [uh,m8,p8];refine g0 (g49 ho hd ?_);refine g0 ?_;show wpAny _ _ (forIn items _ _) _ _ s;rw [<- g2s];refine g1o _ (fun rest r s'=>r.1=none/\s'=s/\∀v∈rest,carriedByValue v=true) _ ?_ ?_ _ _ ⟨rfl,rfl,hi.byValue⟩
 ·rintro v rest r s' ⟨hr,rfl,hall⟩
  rw [eqIsQuiet_byValue _ (hall v gc)];refine g0 (g8 ?_);simp only [uh,m8,p8];exact g8 ⟨rfl,rfl,fun u hu'=>hall u (gf _ hu')⟩
 ·rintro⟨r1,r2⟩ s' ⟨hr,rfl,_⟩
  simp only at hr;subst hr;exact g8 h
theorem qk8{k:PK2}{a:Addr}{Q:Bool->Shared->Prop}(hk:IsPair prog w s.heap k a)(h:Q true s): wpAny (model prog w) A (eqIsQuiet 8 (.ref a)) Q E s:=by
 have hT:=hk.typeIs;obtain⟨o,p,q,n,ho,_,hd,h1,h2⟩:=hk;unfold eqIsQuiet;refine g0 (g2n hT g3z.lookup ?_);show wpAny _ _ (isInstance (.ref a) (.type "tuple") >>= _) _ _ s;refine g0 (g0q hT g3o ?_);simp only [uh,m8,p8];refine g0 (g49 ho hd ?_);refine g0 ?_;show wpAny _ _ (forIn #[Value.ref p,Value.ref q] _ _) _ _ s;rw [<- g2s];refine g1o _ (fun rest r s'=>r.1=none/\s'=s/\∀v∈rest,v=Value.ref p\/v=Value.ref q) _ ?_ ?_ _ _ ⟨rfl,rfl,by intro v hv;simpa using hv⟩
 ·rintro v rest r s' ⟨hr,rfl,hall⟩
  have hv:=hall v gc;have go:wpAny (model prog w) A (eqIsQuiet 7 v) (fun b s''=>b=true/\s''=s') E s':=by
   rcases hv with rfl|rfl
   ·exact qn5 h1 ⟨rfl,rfl⟩
   ·exact qn5 h2 ⟨rfl,rfl⟩
  refine g0 (t5 go (fun b s'' hb=>?_) fun _ _ z=>z);obtain⟨rfl,rfl⟩:=hb;simp only [uh,m8,p8];exact g8 ⟨rfl,rfl,fun u hu'=>hall u (gf _ hu')⟩
 ·rintro⟨r1,r2⟩ s' ⟨hr,rfl,_⟩
  simp only at hr;subst hr;exact g8 h
end
def PKd(prog:Program)(w:World): HeapKind prog w PK2 where
 is:=IsPair prog w
 hash:=qr4 (prog:=prog) (w:=w)
 draws:=q8e
 room:=fun A=>A.units+8<cLine
 inj:=fun hx hy=>hx.inj hy
 keeps:=fun x ho hd hs=>x.keeps ho hd hs
 pyHash:=fun hu hk h=>qhj hu hk h
 eqBool:=fun hu hx hy h=>qhk hu hx hy h
 quiet:=fun hk h=>qk8 hk h
theorem qpf(prog:Program)(w:World): Stays (PKd prog w):=⟨fun x e=>IsPair.stay x fun b o z _=>e b o z,fun A h=>h⟩
end Js
namespace DL
open PySem PySem.Spec PyProof.Rows L2
variable[Lam][Pin]
def q75:List D->Option (List (List Int×List Int))
 | []=>some []
 | .tup [.tup [.tup a,.tup b],.bl true] :: r=>(zx a).bind fun k1=>(zx b).bind fun k2=>(q75 r).map fun p=>(k1,k2) :: p
 | _ :: _=>none
def qbf:List D->Option D
 | [.lst ds]=>(q75 ds).bind fun p=>if p.Nodup/\ds.length<=lim then some (.dt2 p) else none
 | _=>none
def q76:D->D->Option D
 | .tup [.tup a,.tup b],.dt2 ks=>(zx a).bind fun k1=>(zx b).map fun k2=>.bl (decide ((k1,k2)∈ks))
 | _,_=>none
section
variable{X:Cx}{pins:List (Addr×Obj)}{σ : St}{H F:Hp}{s:Shared}
omit [Lam] [Pin] in
theorem qci(I:Inv X pins σ H s)(fh:Same F H){k:List Int×List Int}{a:Addr}(h:SqP X.K F a k): (Js.PKd X.prog X.w).is s.heap k a:=by
 obtain⟨p,q,h1,h2,h3⟩:=h;obtain⟨its,r,⟨o,ho,hc,n,hd⟩,_⟩:=I.tuple (qt fh h1);obtain⟨u1,u2,rfl,r1,r2⟩:=r.two;cases r1;cases r2;exact⟨o,p,q,n,ho,hc,hd,wz I fh h2,wz I fh h3⟩
omit [Lam] [Pin] in
theorem qfp{a b:List D}{k1 k2:List Int}{v:V}(h1:zx a=some k1)(h2:zx b=some k2)(r:Rep X.K F (.tup [.tup a,.tup b]) v): ∃c,v=.ref c/\SqP X.K F c (k1,k2):=by
 obtain⟨c,xs,rfl,c1,c2⟩:=rep_tup.mp r;obtain⟨x1,z1,rfl,d1,d2⟩:=c2.cons_inv;obtain⟨x2,z2,rfl,e1,e2⟩:=d2.cons_inv;cases e2.nil_inv;obtain⟨p,ps,rfl,p1,p2⟩:=rep_tup.mp d1;obtain⟨q,qs,rfl,q1,q2⟩:=rep_tup.mp e1;rw [ints_rep h1 p2] at p1;rw [ints_rep h2 q2] at q1;exact⟨c,rfl,p,q,c1,p1,q1⟩
omit [Lam] [Pin] in
theorem qiw (I:Inv X pins σ H s) (fh:Same F H):∀ {ds:List D} {ys:List V} {its:List Value} {ks:List (List Int×List Int)},q75 ds=some ks->RepL X.K F ds ys->Vals ys its ->
  ∃(ps:List ((List Int×List Int)×Addr×Value)),Js.Prs (Js.PKd X.prog X.w) s.heap its ps/\ps.map (·.1)=ks/\(∀p∈ps,SqP X.K F p.2.1 p.1)
 | [],ys,its,ks,h,k,r=>by
  cases h;cases k.nil_inv;cases r;exact⟨[],⟨rfl,fun i p e=>by simp at e,fun p hp=>(nomatch hp)⟩,rfl,fun p hp=>(nomatch hp)⟩
 | d :: ds,ys,its,ks,h,k,r=>by
  unfold q75 at h
  split at h
  ·cases ‹_ :: _=[]›
  ·rename_i da db r' e
   injection e with e1 e2
   subst e1;subst e2;obtain⟨k1,h1,h⟩:=g7.mp h;obtain⟨k2,h2,h⟩:=g7.mp h;obtain⟨p,h3,h4⟩:=gw.mp h;cases h4;obtain⟨x,ys',rfl,a1,a2⟩:=k.cons_inv;obtain⟨q,qs,rfl,b1,b2⟩:=rep_tup.mp a1;obtain⟨x1,z1,rfl,c1,c2⟩:=b2.cons_inv;obtain⟨x2,z2,rfl,d1,d2⟩:=c2.cons_inv;cases d2.nil_inv;obtain⟨ka,rfl,kk⟩:=qfp h1 h2 c1;cases r with
   | cons r1 r2=>
    cases r1;obtain⟨uu,hu,⟨oq,hoq,hcq,nq,hdq⟩,_⟩:=I.tuple (qt fh b1);cases hu with
    | cons u1 u2=>
     cases u1;cases u2 with
     | cons u3 u4=>
      cases u4;rename_i uv;obtain⟨ps,P,e1,e2⟩:=qiw I fh h3 a2 r2;refine⟨((k1,k2),ka,uv) :: ps,⟨by simp [P.len],fun i p e=>?_,fun p hp=>?_⟩,by simp [e1],fun p hp=>?_⟩
      ·cases i with
       | zero=>
        simp only [g0m,g0j] at e;subst e;exact⟨q,rfl,oq,hoq,hcq,nq,hdq⟩
       | succ i=>exact P.pair i p (by simpa using e)
      ·rcases ml.mp hp with rfl|hp
       ·exact qci I fh kk
       ·exact P.key p hp
      ·rcases ml.mp hp with rfl|hp
       ·exact kk
       ·exact e2 p hp
  ·cases h
end
section
variable{X:Cx}
theorem qpg(hc:X.calm=true)(hu:X.A.units+64<cLine): jx X (.type "dict") (rC X.K qbf):=fun pins s σ H xs us Q I rv ⟨F,ds,d,fh,rl,ho,q⟩=>by
 unfold qbf at ho
 split at ho
 ·rename_i ds'
  obtain⟨ks,h1,h2⟩:=g7.mp ho
  split at h2
  ·rename_i hok
   cases h2;obtain⟨x,rfl,rx⟩:=rep1 rl;obtain⟨a,ys,rfl,k1,k2⟩:=rep_lst.mp rx;obtain⟨u,rfl,ru⟩:=vals1 rv;cases ru;obtain⟨its,r1,⟨o,n,e1,e2,e3,e4⟩,hz⟩:=I.list (fh.seq k1);obtain⟨oc,od,oda,osl⟩:=o;dsimp only at e2 e3 e4;subst e2;subst e3;subst e4;obtain⟨ps,P,p1,p2⟩:=qiw I fh h1 k2 r1;have hl:ps.length<=lim:=by
    rw [<- P.len, <- r1.length, <- k2.length];exact hok.2
   refine Js.q54 (Js.qpf _ _) (by lia) (I.ok.hd hc) e1 P (by rw [p1];exact hok.1) (x8 hl) fun h' tk old hd=>?_;have hnn:H s.heap.objs.size=none:=I.hok.fresh (gi _);obtain⟨o,es,ep,g1,g2,g3,g4,_,g5⟩:=hd;have de:DE2 s.heap.objs.size ps ep h':=⟨o,es,g1,g2,g3,g4⟩
   refine⟨.ref _,_,I.laid (t':=tk) (a:=s.heap.objs.size) (o:=.ext (DE2 s.heap.objs.size ps ep)) old (gi _) ⟨de,⟨o,g1⟩,fun h1 h2 ⟨o,es,z,r⟩ e=>⟨o,es,e o z,r⟩⟩,rfl,?_⟩;have g:=Grow.new (o:=.ext (DE2 s.heap.objs.size ps ep)) fh hnn;refine q _ _ _ g (rep_dt2.mpr ⟨_,ps,ep,rfl,zi,p1,hok.1,x8 hl,g2k.mpr (uw (qc5 I)),fun x hx=>(p2 x hx).mono g.ff⟩)
  ·cases h2
 ·cases ho
theorem qso(hu:X.A.units+64<cLine): OpR X (compareOp .In) (rD X.K q76):=fun pins s σ H x y v u Q I rx ry ⟨F,d1,d2,d,fh,r1,r2,ho,q⟩=>by
 unfold q76 at ho
 split at ho
 ·rename_i da db ks
  obtain⟨k1,h1,ho⟩:=g7.mp ho;obtain⟨k2,h2,rfl⟩:=gw.mp ho;obtain⟨b,rfl,kk⟩:=qfp h1 h2 r1;obtain⟨a,xs,ep,rfl,e1,e2,e3,e4,e5,e6⟩:=rep_dt2.mp r2;cases rx;cases ry;obtain⟨⟨o,es,g1,g2,g3,g4⟩,_,_⟩:=(show ObjOk X.prog X.w H s.heap a _ from I.hok a _ (fh _ _ e1))
  have dd:s.heap.DictOfH (Js.PKd X.prog X.w) a xs:=⟨o,es,ep,g1,g2,g3,g4,fun x hx=>qci I fh (e6 x hx),by rw [e2];exact e3⟩
  refine wpAny_in_heap (show X.A.units+1+8<cLine by lia) (qci I fh kk) e5 dd ?_;have:(atKey xs (k1,k2)).isSome=decide ((k1,k2)∈ks):=by
   rw [<- e2,p6,n5]
   constructor
   ·intro h
    obtain⟨p,hp⟩:=g01.mp h;obtain⟨z,hz,rfl⟩:=gw.mp hp;have:=List.find?_some hz;exact md.mpr ⟨z,g54 hz,by simpa using this⟩
   ·intro h
    obtain⟨z,hz,hzk⟩:=md.mp h;obtain⟨i,hi⟩:=g66.mp hz;rw [<- hzk,g5g (by rw [e2];exact e3) (show xs[i]? = some (z.1,z.2) from hi)]
    rfl
  rw [this];exact⟨.bl _,H,I.tok _,rfl,q _ F H (.refl fh) (rep_bl.mpr rfl)⟩
 ·cases ho
end
end DL
namespace Rv
open PySem PyProof.Rows
section
variable{prog:Program}{w:World}{A:Around}{E:Value->Shared->Prop}{s:Shared}{r:Addr}{a b c:Int}{t u v:Tok}{n:Nat}
end
end Rv
namespace DL
open PySem PySem.Spec PyProof.Rows L2
variable[Lam][Pin]
section
variable{X:Cx}{e ie:Expr}{pos:Pos}{f g:FE}
omit [Lam] [Pin] in
theorem qph{acc:Array Value}{n:Nat}(h:ItemsOf (fun i v=>∃t,v=.int (0+(i:Int)*1) t) acc n): Vals ((List.range n).map fun i:Nat=>V.int (i:Int)) acc.toList:=by
 have key:∀(l:List Value) (k:Nat),(∀(j:Nat) (v:Value),l[j]? = some v->∃t,v=.int ((k+j:Nat):Int) t)->Vals ((List.range' k l.length).map fun i:Nat=>V.int (i:Int)) l:=by
  intro l
  induction l with
  | nil=>intro k _;exact .nil
  | cons a l ih=>
   intro k hk;rw [p5,g3j,gd];obtain⟨t,ht⟩:=hk 0 a rfl;refine .cons ⟨t,by rw [ht];simp⟩ (ih (k+1) fun j v hv=>?_);obtain⟨t,ht⟩:=hk (j+1) v hv;exact⟨t,by rw [ht];congr 1;lia⟩
 have hl:acc.toList.length=n:=by rw [ue];exact h.1
 have:=key acc.toList 0 fun j v hv=>by
  obtain⟨t,ht⟩:=h.2 j v (by simpa using hv);exact⟨t,by rw [ht];congr 1;lia⟩
 rw [hl, <- g40] at this;exact this
end
def qeb(f:FE): FE:=fun ρ =>(f ρ).bind fun d=>match d with
 | .int j=>if decide (0<=j)&&decide (j<=1000) then some (.lst (z6 0 j.toNat)) else none
 | _=>none
section
variable{X:Cx}{pos:Pos}{f:FE}
theorem qk9{a:Expr}{p p2 q2:Pos}(hc:X.calm=true)(hgt:Gl X "list")(hmt:X.mg "list" = none)(hgr:Gl X "range")(hmr:X.mg "range" = none)(ha:PE X a (tD X.K f))
  (s1:starEach [a] X.env=[(false,eval a X.env)]:=by first|exact q98 rfl|rfl) (s2:starEach [.Call (.Name "range" p2) [a] [] q2] X.env=[(false,eval (.Call (.Name "range" p2) [a] [] q2) X.env)]:=by first|exact q98 rfl|rfl) :
  PE X (.Call (.Name "list" p) [.Call (.Name "range" p2) [a] [] q2] [] pos) (tD X.K (qeb f)):=by
 intro pins s σ H Q I ⟨F0,H0,F, ρ,d,r,hf,q⟩;obtain⟨d',h1,h2⟩:=g7.mp hf
 split at h2
 case h_2=>cases h2
 rename_i j
 split at h2
 case isFalse=>cases h2
 rename_i hj;obtain⟨j0,j1⟩:=q1n hj;cases h2;refine Call_ (q37 I hgt hmt DL.boot_list (g08 ?_ (by rw [s2];rfl) (by rfl)));rw [s2];refine Calls.spliced_cons ?_;have hp:PA X [a] (tDA X.K (qc f qf)):=qii (hs:=by rw [s1];rfl) ha qe;refine Call_ (q37 I hgr hmr boot_range (g08 (thn (hp q2 pins s σ H (fun vs H1=>∃F',Grow F H F' H1/\RepL X.K F' [.int j] vs) I ⟨F0,H0,F, ρ,[.int j],r,by simp only [qc,qf,h1,g9,mw],fun vs F' H' g' r'=>⟨F',g',r'⟩⟩) fun us s1' ⟨vs,H1,I1,r1,F',g',q1⟩=>?_) (by rw [s1];rfl) (by rfl)));obtain⟨v1,t,rfl,e1,e2⟩:=q1.cons_inv;cases e2.nil_inv;obtain⟨u1,rfl,e3⟩:=vals1 r1;cases rep_int.mp e1;obtain⟨tk,rfl⟩:=e3;refine call_range_1 (Calls.spliced_nil ?_);have hn:Builtin.Range.rangeSize 0 j 1=((j.toNat:Nat):Int):=by rw [rangeSize_one];split <;> lia
 refine call_list_range (s:={s1' with heap:=s1'.heap.push {cls:=.type "range",data:=.fields #[.int 0 s1'.toks,.int j tk,.int 1 (s1'.toks+1)]},toks:=s1'.toks+1+1}) (I.ok.hd hc) (IsRange.new ..) (small_one (by decide) (by decide) (by lia) (by lia)) hn (by lia) fun h' tk' acc c' hk hget hacc=>?_;have hkp:∀b o,s1'.heap.get? b=some o->h'.get? b=some o:=fun b o e=>hk b o (gb _ e);have rv:=qph hacc;have ea:acc=acc.toList.toArray:=by simp
 rw [ea] at hget;dsimp only at hget ⊢;rw [g0c] at hget ⊢;have I3:Inv X pins σ (upd H1 (s1'.heap.objs.size+1) (.lst ((List.range j.toNat).map fun i:Nat=>V.int (i:Int)))) {s1' with heap:=h',toks:=tk'}:=
  I1.laid (t':=tk') (a:=s1'.heap.objs.size+1) (o:=.lst ((List.range j.toNat).map fun i:Nat=>V.int (i:Int))) hkp (g0t _) ⟨by rw [gh,g1f,g1z];lia,acc.toList,c',rv,hget⟩
 have g2:Grow F' H1 (upd F' (s1'.heap.objs.size+1) (.lst ((List.range j.toNat).map fun i:Nat=>V.int (i:Int)))) (upd H1 (s1'.heap.objs.size+1) (.lst ((List.range j.toNat).map fun i:Nat=>V.int (i:Int)))):=Grow.new g'.fh (I1.hok.fresh (g0t _));have rl:RepL X.K (upd F' (s1'.heap.objs.size+1) (.lst ((List.range j.toNat).map fun i:Nat=>V.int (i:Int)))) (z6 0 j.toNat) ((List.range j.toNat).map fun i:Nat=>V.int (i:Int)):=by
  have e:z6 0 j.toNat=((List.range j.toNat).map fun i:Nat=>(i:Int)).map D.int:=by
   unfold z6;rw [mv];apply g1s;intro i _;simp only [Function.comp,g41]
  rw [e];exact RepL.ints.mpr (by rw [mv];rfl)
 exact⟨.ref (s1'.heap.objs.size+1),_,I3,rfl,q _ _ _ (g'.trans g2) (rep_lst.mpr ⟨_,_,rfl,SqL.of zi,rl⟩)⟩
end
end DL
namespace Srt
open PySem PySem.SeqAt PySem.AutoSeq1 PySem.MeetsSeq PySem.MeetsSeq2 PySem.MeetsSeq3 PySem.SeqRoads2
def LeAt(A:Around)(s:Shared)(y x:Value)(b:Bool): Prop:=∀(prog:Program) (w:World) (E:Value->Shared->Prop) (Q:Value->Shared->Prop),Q (.bool b) s->wpAny (model prog w) A (richCompare .LtE y x) Q E s
inductive LexLe(A:Around)(s:Shared)(f:Bool): List (Value×Value)->Bool->Prop
 | nil:LexLe A s f [] f
 | eq {x y r b}:EqAt A s x y true->LexLe A s f r b->LexLe A s f ((x,y) :: r) b
 | ne {x y r b}:EqAt A s x y false->LeAt A s x y b->LexLe A s f ((x,y) :: r) b
theorem qvk(l b:Addr)(is js:Array Value)(n n2:Nat)(dd dd2:Option Addr)(sl sl2:Array (Option Value)):
  Meets (Builtin.«tuple.__le__» ⟨[.ref l,.ref b],[]⟩)
   (fun A R s=>s.heap.get? l=some {cls:=.type "tuple",dict:=dd,data:=.seq is n,slots:=sl}/\s.heap.get? b=some {cls:=.type "tuple",dict:=dd2,data:=.seq js n2,slots:=sl2} /\
    ∃c,LexLe A.in1 s (decide (is.size<=js.size)) (is.toList.zip js.toList) c/\R (.ok (.ret (.bool c))) s):=
 .of_wp fun prog w A R s h=>by
  obtain⟨hp,g,d,tk,os⟩:=s;obtain⟨hl,hb,c,hc,h⟩:=h;have f2:=g0g
  wp_walk using g13 hl,g13 hb,g1o _ (fun rest b s'=>b.1=none/\s'=⟨hp,g,d,tk,os⟩/\LexLe A.in1 ⟨hp,g,d,tk,os⟩ (decide (is.size<=js.size)) rest c) _
  case turn=>
   rintro⟨y,x⟩ rest b s' ⟨hb',rfl,hx⟩
   cases hx with
   | eq e r=>
    refine g0 (e prog w _ _ ?_)
    wp_walk
    exact⟨rfl,rfl,r⟩
   | ne e k=>
    refine g0 (e prog w _ _ ?_);have k':∀ {E:Value->Shared->Prop} {Q:Value->Shared->Prop},Q (.bool c) ⟨hp,g,d,tk,os⟩->wpAny (model prog w) A.in1 (richCompare .LtE y x) Q E ⟨hp,g,d,tk,os⟩:=fun h=>k prog w _ _ h
    wp_walk using k'
    exact⟨_,rfl,h⟩
  case fin=>
   rintro⟨b1,b2⟩ s' ⟨hb',rfl,hx⟩
   simp only at hb';subst hb';cases hx
   wp_walk
   exact⟨_,rfl,by simpa [Builtin.Tuple.tupleCompareSizes] using h⟩
  case h=>
   exact⟨rfl,rfl,hc⟩
theorem LeAt.tuples{A:Around}{s:Shared}{l b:Addr}{is js:Array Value}{c:Bool}(hl:s.heap.IsTuple l is)(hb:s.heap.IsTuple b js)(hu:A.units<cLine)
  (he:LexLe A.in1 s (decide (is.size<=js.size)) (is.toList.zip js.toList) c):LeAt A s (.ref l) (.ref b) c:=fun prog w E Q h=>by
 obtain⟨⟨cls,dd,data,sl⟩,ho,hc,n,hd⟩:=id hl;obtain⟨⟨cls2,dd2,data2,sl2⟩,ho2,hc2,n2,hd2⟩:=id hb;simp only at hc hd hc2 hd2;subst hc hd hc2 hd2;exact richCompare_meets_room (op:=.LtE) ⟨_,ho,rfl⟩ ⟨_,ho2,rfl⟩ F.slot_tuple_le F.entry_tuple_le (F.args_tuple_le_2 _ _) (qvk l b is js n n2 dd dd2 sl sl2)
  ⟨ho,ho2,c,he,show Value.bool c≠Value.notImplemented/\Q (.bool c) s from⟨(fun x=>nomatch x),h⟩⟩ hu
end Srt
namespace DL
open PySem PySem.Spec PyProof.Rows L2 Srt
variable[Lam][Pin]
section
variable{X:Cx}{pins:List (Addr×Obj)}{σ : St}{F H:Hp}{s:Shared}
theorem qix{A:Around}(I:Inv X pins σ H s)(fh:Same F H)(f:Bool): ∀ {ds es:List D} {xs ys:List V} {us vs:List Value},(∀d∈ds,∀e x y u v,shD d e=true->A.units+vy d<cLine->Rep X.K F d x->Rep X.K F e y->RelV x u->RelV y v->LeAt A s u v (!ltT e d)) ->
  shL ds es=true->A.units+jn ds<cLine->RepL X.K F ds xs->RepL X.K F es ys->Vals xs us->Vals ys vs->f=decide (ds.length<=es.length)->LexLe A s f (us.zip vs) (!vn es ds)
 | [],es,xs,ys,us,vs,_,_,_,k1,k2,w1,w2,hf=>by
  cases k1.nil_inv;cases w1;rw [q2m];simp only [g4z];rw [show(!false)=f by rw [hf];simp];exact .nil
 | d :: ds,[],xs,ys,us,vs,_,_,_,k1,k2,w1,w2,hf=>by
  cases k2.nil_inv;cases w2;rw [km];simp only [List.zip_nil_right];rw [show(!true)=f by rw [hf];simp];exact .nil
 | d :: ds,e :: es,xs,ys,us,vs,ih,hs,hu,k1,k2,w1,w2,hf=>by
  obtain⟨x,r,rfl,a1,a2⟩:=k1.cons_inv;obtain⟨y,r',rfl,b1,b2⟩:=k2.cons_inv;cases w1 with
  | cons p1 p2=>
   cases w2 with
   | cons p3 p4=>
    simp only [shL,gm] at hs;simp only [jn] at hu;rw [g4k];have he:=q87 I fh A (qr1 hs.1) (by lia) a1 b1 p1 p3;have hl:=ih d gc e x y _ _ hs.1 (by lia) a1 b1 p1 p3;rw [qk7 hs.1] at he;rw [q00];cases e1:ltT d e
    ·cases e2:ltT e d
     ·rw [e1,e2] at he
      simp only [g4n,g1i,g2i];exact .eq he (qix I fh f (fun d' hd'=>ih d' (gf _ hd')) hs.2 (by lia) a2 b2 p2 p4 (by rw [hf];simp))
     ·rw [e1,e2] at he
      rw [e2] at hl;exact .ne he hl
    ·rw [e1] at he
     have h2:(!(ltT e d || !true&&vn es ds)) = !ltT e d:=by simp
     rw [h2];exact .ne he hl
theorem qvl(I:Inv X pins σ H s)(fh:Same F H): ∀ {d e:D} {x y:V} {u v:Value} (A:Around),shD d e=true->A.units+vy d<cLine->Rep X.K F d x->Rep X.K F e y->RelV x u->RelV y v->LeAt A s u v (!ltT e d):=by
 suffices hh:∀n,(∀d e x y u v (A:Around),sizeOf d<n->shD d e=true->A.units+vy d<cLine->Rep X.K F d x->Rep X.K F e y->RelV x u->RelV y v->LeAt A s u v (!ltT e d)) from
  fun {d e x y u v} A=>hh (sizeOf d+1) d e x y u v A (p9 _)
 intro n
 induction n with
 | zero=>intro d e x y u v A h;exact absurd h (ni _)
 | succ n ih=>
  intro d e x y u v A hn hs hu r1 r2 q1 q2;cases d <;> cases e <;> simp only [shD] at hs <;> first|(cases hs;done)|skip
  ·cases rep_int.mp r1
   cases rep_int.mp r2;obtain⟨t,rfl⟩:=q1;obtain⟨t',rfl⟩:=q2;rw [xr];intro prog w E Q h;rename_i i j;have e:(!decide (j<i))=decide (i<=j):=by
    by_cases h:j<i
    ·rw [gv h,mi (by lia)];rfl
    ·rw [mi h,gv (by lia)];rfl
   rw [e] at h;exact le_int h
  ·rename_i ds es
   obtain⟨a,xs,rfl,k1,k2⟩:=rep_tup.mp r1;obtain⟨b,ys,rfl,k3,k4⟩:=rep_tup.mp r2;cases q1;cases q2;obtain⟨i1,v1,t1,_⟩:=I.tuple (qt fh k1);obtain⟨i2,v2,t2,_⟩:=I.tuple (qt fh k3);simp only [vy] at hu;rw [k8];refine LeAt.tuples (show s.heap.IsTuple a i1.toArray from t1) (show s.heap.IsTuple b i2.toArray from t2) (by lia) ?_;refine qix I fh _ (fun d hd e x y u v s1 s2 s3 s4 s5 s6=>ih d e x y u v A.in1 ?_ s1 s2 s3 s4 s5 s6) hs (by show A.units+1+jn ds<cLine;lia) k2 k4 v1 v2 ?_
   ·have:=g68 hd
    simp at hn;lia
   ·rw [gj,gj, <- v1.length, <- v2.length, <- k2.length, <- k4.length]
def qpi:D->D->Option D
 | .tup ds,.tup es=>if shL ds es&&decide (jn ds<=60) then some (.bl (!vn es ds)) else none
 | _,_=>none
theorem qvm(hu:X.A.units+64<cLine): OpR X (compareOp .LtE) (rD X.K qpi):=by
 intro pins s σ H x y v u Q I rx ry h;obtain⟨F,d1,d2,d,fh,r1,r2,ho,q⟩:=h;unfold qpi at ho
 split at ho
 ·rename_i ds es
  split at ho
  ·rename_i hc
   rw [gm] at hc;cases ho;have:=qvl I fh X.A (d:=.tup ds) (e:=.tup es) (by simp only [shD];exact hc.1) (by simp only [vy];have:=td hc.2;lia) r1 r2 rx ry;rw [k8] at this;exact this X.prog X.w _ _ ⟨.bl _,H,I,rfl,q _ F H (.refl fh) (rep_bl.mpr rfl)⟩
  ·cases ho
 ·cases ho
abbrev qfq:D->D->Option D:=fun x y=>(oLe x y).or (qpi x y)
theorem qvn(hu:X.A.units+64<cLine): OpR X (compareOp .LtE) (rD X.K qfq):=q7z qqw (qvm hu)
end
end DL
namespace Srt
open PySem PyProof.Rows
section
variable{prog:Program}{w:World}{A:Around}{E:Value->Shared->Prop}{s:Shared}
theorem qfr{kS:Addr}{f:Value}{vs:List Value}{J:List Value->Shared->Prop}{body:Value->PUnit->Sem (ForInStep PUnit)}(hz:vs.length<=sizeLine)
  (hb:∀x ks (s:Shared) (C:Value->Shared->Prop),ks.length<vs.length->wpAny (model prog w) A (call f [x]) (fun k s'=>(∃e,s'.heap.get? kS=some (seqObj "list" (List.toArray ks) e))/\C k {s' with heap:=s'.heap.update kS (Obj.mapSeq (·.push k))}) (fun _ _=>False) s ->
   wpAny (model prog w) A (body x ⟨⟩) (fun r s'=>r=.yield ⟨⟩/\∃k,C k s') E s)
  (hstep:∀l v r,vs=l++v :: r->∀ks s',ks.length=l.length->J ks s'->wpAny (model prog w) A (call f [v]) (fun k s''=>(∃e,s''.heap.get? kS=some (seqObj "list" (List.toArray ks) e))/\J (ks++[k]) {s'' with heap:=s''.heap.update kS (Obj.mapSeq (·.push k))}) (fun _ _=>False) s') :
  ∀(r l ks:List Value) (s:Shared),vs=l++r->ks.length=l.length->J ks s->wpAny (model prog w) A (forIn r PUnit.unit body) (fun _ s'=>∃ks,ks.length=vs.length/\J ks s') E s
 | [],l,ks,s,h1,h2,h3=>by
  rw [List.forIn_nil];exact g8 ⟨ks,by rw [h2,h1];simp,h3⟩
 | x :: r,l,ks,s,h1,h2,h3=>by
  rw [g3t];refine g0 (t5 (hb x ks s (fun k s'=>J (ks++[k]) s') (by rw [h1,h2];simp) (hstep l x r h1 ks s h2 h3)) (fun q s' hq=>?_) fun _ _ x=>x);obtain⟨rfl,k,hk⟩:=hq;show wpAny (model prog w) A (forIn r PUnit.unit body) _ E s';exact qfr hz hb hstep r (l++[x]) (ks++[k]) s' (by rw [h1];simp) (by simp [h2]) hk
theorem qpj{a:Addr}{f:Value}{vs:List Value}{n:Nat}{P:PySem.Fin->Shared->Prop}(ho:s.heap.get? a=some (seqObj "list" vs.toArray n))(hz:vs.length<=sizeLine)(h64:vs.length<64)(J:List Value->Shared->Prop)
  (h0:J [] {s with heap:=xt s.heap a vs})
  (hstep:∀l v r,vs=l++v :: r->∀ks s',ks.length=l.length->J ks s'->wpAny (model prog w) A (call f [v]) (fun k s''=>(∃e,s''.heap.get? (s.heap.objs.size+1)=some (seqObj "list" (List.toArray ks) e))/\J (ks++[k]) {s'' with heap:=s''.heap.update (s.heap.objs.size+1) (Obj.mapSeq (·.push k))}) (fun _ _=>False) s')
  (hfin:∀ks s',ks.length=vs.length->J ks s'->(∃e,s'.heap.get? (s.heap.objs.size+1)=some (seqObj "list" (List.toArray ks) e))/\s'.heap.get? a=(xt s.heap a vs).get? a /\
   ∃(κ : SortKind) (G:Value->Prop) (lt:Value->Value->Bool) (N:Keyed->Nat),((ks.zip vs).Pairwise fun p q:Keyed=>N p<=N q)/\(2<=vs.length->∀(E:Value->Shared->Prop) (Q:SortKind->Shared->Prop),Q κ s'->wpAny (model prog w) A (keyKind' ks.toArray) Q E s')/\(2<=vs.length->Cmp prog w A s' κ G lt)/\(∀k∈ks,G k) /\
    ∀T:List (Value×Value),T.Perm (ks.zip vs)->T.Pairwise (le lt)->T.Pairwise (fun p q:Keyed=>lt p.1 q.1=false->N p<=N q)->P (.done (.ret .none)) {s' with heap:=(s'.heap.update (s.heap.objs.size+1) (Obj.mapSeq fun _=> #[])).update a (Obj.mapSeq fun _=>(T.map (·.2)).toArray)}) :
  wpAny (model prog w) A (ksk_tree a f false) P E s:=by
 have ha:a<s.heap.objs.size:=m9 ho;obtain⟨e1,ho1⟩:∃e1,(s.heap.update a (Obj.mapSeq fun _=>(#[]:Array Value))).get? a=some (seqObj "list" #[] e1):=⟨_,g17 ho fun _=> #[]⟩
 have hkS:((s.heap.update a (Obj.mapSeq fun _=>(#[]:Array Value))).push (seqObj "tuple" vs.toArray 0)).objs.size=s.heap.objs.size+1:=by rw [u6,nu]
 have ho6:(xt s.heap a vs).get? a=some (seqObj "list" #[] e1):=by
  unfold xt;rw [pj _ _ _ (by rw [u6,nu];exact mf (g0l ha)),pj _ _ _ (by rw [nu];exact mf ha)];exact ho1
 have hsz:vs.toArray.size=vs.length:=by simp
 unfold ksk_tree;refine g0 (listItems_at ho rfl ?_);refine g0 (g1t ho rfl ?_ (by simpa using hz) (t6 _));refine g0 (g4b ho1 rfl ?_);refine g0 (wpAny_newTuple ?_ (by simpa using hz));refine g0 (g3e ?_ (t6 _));refine nk ?_;rw [hkS];show wpAny (model prog w) A (ksk_rest a f false vs.toArray e1 (.ref (s.heap.objs.size+1))) P E {s with heap:=xt s.heap a vs};unfold ksk_rest;refine g0 (g0b ?_);rw [List.forIn_toArray];refine g0 (t5 (qfr (vs:=vs) (J:=J) hz (fun x ks s' C hl hx=>?_) hstep vs [] [] _ rfl rfl h0) (fun _ s' hd=>?_) fun _ _ x=>x)
 ·refine g0 (g1c (t5 hx (fun k s'' hk=>?_) fun _ _ hF=>hF.elim))
  obtain⟨⟨e,he⟩,hc⟩:=hk;dsimp only;refine g0 (g1t he rfl ?_ (by rw [gj];lia) (mq (g6d (Array.size_push ..)) (by rw [gj];lia)));exact g8 ⟨rfl,k,hc⟩
 ·obtain⟨ks,hl,hJ⟩:=hd
  obtain⟨⟨e,he⟩,hA, κ,G,lt,N,hN,hkind,C,g,fin⟩:=hfin ks s' hl hJ;rw [ho6] at hA;refine g0 (listItems_at he rfl ?_);unfold ksk_end;dsimp only;rw [m6 (by simp)];have hks:a≠s.heap.objs.size+1:=mf (g0l ha);have tail:∀st':SortSt,failedOf st'=none->(arrOf st').toList.Perm (ks.zip vs)->(arrOf st').toList.Pairwise (le lt)->(arrOf st').toList.Pairwise (fun p q=>lt p.1 q.1=false->N p<=N q)->wpAny (model prog w) A (ksk_tail a false e1 (.ref (s.heap.objs.size+1)) st') P E s':=by
   intro st' hf hp hs hr;unfold ksk_tail;dsimp only;have eo:(arrOf st').map (·.2)=((arrOf st').toList.map (·.2)).toArray:=by
    apply g6b;rw [Array.toList_map]
   rw [eo];have hlen:((arrOf st').toList.map (·.2)).length=vs.length:=by rw [gh,hp.length_eq,g19,hl,g3u]
   refine g0 (g1t he rfl ?_ (by rw [gj,hl];exact hz) (t6 _));refine g0 (wpAny_letGo ?_);have hA2:(s'.heap.update (s.heap.objs.size+1) (Obj.mapSeq fun _=> #[])).get? a=some (seqObj "list" #[] e1):=by
    rw [t7 _ _ _ _ hks];exact hA
   refine g0 (g4b hA2 rfl ?_);refine g0 (g1t hA2 rfl ?_ (t6 _) (by simp only [m8,p8];rw [gj,hlen];lia));rw [hf];simp only [g35,m8,p8];exact g8 (fin _ hp hs hr)
  have ez:(ks.toArray.zip vs.toArray).toList=ks.zip vs:=by simp
  by_cases h2:vs.toArray.size<2
  ·rw [gq h2,gq h2]
   refine g0 (g8 ?_);rw [StateT.run_pure];refine g0 (g8 ?_);dsimp only;refine tail _ rfl ?_ ?_ (by show(ks.toArray.zip vs.toArray).toList.Pairwise _;rw [ez];exact hN.imp (fun {p q} (h:N p<=N q) (_:lt p.1 q.1=false)=>h))
   ·show(ks.toArray.zip vs.toArray).toList.Perm _
    rw [ez]
   ·show(ks.toArray.zip vs.toArray).toList.Pairwise _
    rw [ez];have:(ks.zip vs).length<2:=by rw [g19,hl,g3u];lia
    match ks.zip vs,this with
    | [],_=>exact .nil
    | [_],_=>exact g5k _ _
    | _ :: _ :: _,h=>simp at h;lia
  ·rw [m6 h2,m6 h2]
   have h2':2<=vs.length:=by lia
   refine g0 (hkind h2' _ _ ?_);have gp:∀p∈(ks.toArray.zip vs.toArray).toList,G p.1:=fun p hp=>by
    rw [ez] at hp;exact g _ (g3r hp).1
   refine g0 (t5 (qfn (a₀:=ks.toArray.zip vs.toArray) (st:=SortSt.mk' κ (ks.toArray.zip vs.toArray) #[] 7 none)
    (Q:=fun _ st'=>failedOf st'=none/\(arrOf st').Perm (ks.toArray.zip vs.toArray)/\(arrOf st').toList.Pairwise (le lt)/\(arrOf st').toList.Pairwise (fun p q=>lt p.1 q.1=false->N p<=N q)) (by rw [<- ue,ez,g19,hl,g3u];exact h64) (C h2') gp rfl rfl rfl rfl (by rw [ez];exact hN) fun st' a1 a2 a3 a4=>⟨a1,a2,a3,a4⟩) ?_ fun _ _ e=>e)
   rintro⟨⟨⟩,st'⟩ s'' ⟨rfl,hf,hp,hs,hr⟩
   dsimp only;refine tail st' hf ?_ hs hr;rw [<- ez];exact g1e.mp hp
theorem qhl{l fa:Addr}{vs:List Value}{Q:Value->Shared->Prop}(hl:s.heap.IsList l vs.toArray)(hz:vs.length<=sizeLine)(h64:vs.length<64)(J:List Value->Shared->Prop)
  (h0:J [] {s with heap:=xt (srtH s.heap vs) (s.heap.objs.size+1) vs})
  (hstep:∀l v r,vs=l++v :: r->∀ks s',ks.length=l.length->J ks s'->wpAny (model prog w) A.in1.in1 (call (.ref fa) [v]) (fun k s''=>(∃e,s''.heap.get? (s.heap.objs.size+3)=some (seqObj "list" (List.toArray ks) e))/\J (ks++[k]) {s'' with heap:=s''.heap.update (s.heap.objs.size+3) (Obj.mapSeq (·.push k))}) (fun _ _=>False) s')
  (hfin:∀ks s',ks.length=vs.length->J ks s'->(∃e,s'.heap.get? (s.heap.objs.size+3)=some (seqObj "list" (List.toArray ks) e))/\s'.heap.get? (s.heap.objs.size+1)=(xt (srtH s.heap vs) (s.heap.objs.size+1) vs).get? (s.heap.objs.size+1) /\
   ∃(κ : SortKind) (G:Value->Prop) (lt:Value->Value->Bool) (N:Keyed->Nat),((ks.zip vs).Pairwise fun p q:Keyed=>N p<=N q)/\(2<=vs.length->∀(E:Value->Shared->Prop) (Q:SortKind->Shared->Prop),Q κ s'->wpAny (model prog w) A.in1.in1 (keyKind' ks.toArray) Q E s')/\(2<=vs.length->Cmp prog w A.in1.in1 s' κ G lt)/\(∀k∈ks,G k) /\
    ∀T:List (Value×Value),T.Perm (ks.zip vs)->T.Pairwise (le lt)->T.Pairwise (fun p q:Keyed=>lt p.1 q.1=false->N p<=N q)->Q (.ref (s.heap.objs.size+1)) {s' with heap:=(s'.heap.update (s.heap.objs.size+3) (Obj.mapSeq fun _=> #[])).update (s.heap.objs.size+1) (Obj.mapSeq fun _=>(T.map (·.2)).toArray)}) :
  wpAny (model prog w) A (call (.builtin "sorted") [.ref l] [(Str.ofString "key",.ref fa)]) Q E s:=by
 refine call_function_entry_kw kind_sorted plain_sorted entry_sorted (ksk_s1 _ _) ?_;unfold Builtin.«sorted»;refine g0 (m:=checkCount "sorted" 1 1 _) (g8 ?_);refine g0 (collect_list hl ?_ hz);refine g0 (g3e ?_ (by simpa using hz));have hsz:((s.heap.push (seqObj "list" #[] 0)).update s.heap.objs.size (Obj.mapSeq (· ++ vs.toArray))).objs.size=s.heap.objs.size+1:=by
  rw [nu,u6]
 have hsz2:(srtH s.heap vs).objs.size=s.heap.objs.size+2:=by unfold srtH;rw [u6,hsz]
 have hoL:(srtH s.heap vs).get? (s.heap.objs.size+1)=some (seqObj "list" vs.toArray 0):=by
  unfold srtH;rw [<- hsz];exact gz _ rfl
 show wpAny _ _ _ _ _ {s with heap:=srtH s.heap vs};rw [hsz];refine g0 (nk (wpAny_call_entry_kw slot_list_sort ⟨_,hoL,rfl⟩ entry_list_sort ?_ (ksk_l1 _ _)));show wpAny (model prog w) A.in1.in1 (Builtin.«list.sort» ⟨[.ref (s.heap.objs.size+1)],[(Str.ofString "key",.ref fa)]⟩) _ _ _;rw [ksk_t1];refine qpj (s:={s with heap:=srtH s.heap vs}) hoL hz h64 J h0 ?_ ?_
 ·show ∀l v r,vs=l++v :: r->∀ks s',ks.length=l.length->J ks s'->wpAny (model prog w) A.in1.in1 (call (.ref fa) [v]) (fun k s''=>(∃e,s''.heap.get? ((srtH s.heap vs).objs.size+1)=some (seqObj "list" (List.toArray ks) e))/\J (ks++[k]) {s'' with heap:=s''.heap.update ((srtH s.heap vs).objs.size+1) (Obj.mapSeq (·.push k))}) (fun _ _=>False) s'
  rw [hsz2];exact hstep
 ·intro ks s' h1 h2
  show(∃e,s'.heap.get? ((srtH s.heap vs).objs.size+1)=some (seqObj "list" (List.toArray ks) e))/\s'.heap.get? (s.heap.objs.size+1)=(xt (srtH s.heap vs) (s.heap.objs.size+1) vs).get? (s.heap.objs.size+1)/\_;obtain⟨b1,b2, κ,G,lt,N,b0,b3,b4,b5,b6⟩:=hfin ks s' h1 h2;rw [hsz2];exact⟨b1,b2, κ,G,lt,N,b0,b3,b4,b5,fun T t1 t2 t3=>⟨_,rfl,g8 ⟨_,rfl,b6 T t1 t2 t3⟩⟩⟩
end
end Srt
namespace DL
open PySem PySem.Spec PyProof.Rows L2 Srt PySem.W
variable[Lam]
section
variable{X:Cx}{pins:List (Addr×Obj)}{σ : St}{F H:Hp}{s:Shared}
structure Late(X:Cx)(pins:List (Addr×Obj))(b:Addr): Prop where
 loc:b≠X.env.locals
 up:X.s₀.heap.objs.size<=b
 cel:∀x c,X.env.cells.lookup x=some c->c≠b
 pin:∀p∈X.pn++pins,p.1≠b
 frs:b∉frs X.stack
theorem qvo(I:Inv X pins σ H s){b:Addr}(hb:s.heap.objs.size<=b): Late X pins b where
 loc:=uw (gr I.lt hb)
 up:=mq I.sz hb
 cel:=fun x c e z=>by
  subst z;obtain⟨v,o,ho,_⟩:=I.cell x c e;exact absurd (m9 ho) (g6a.mpr hb)
 pin:=fun p hp z=>by
  subst z;exact absurd (m9 (I.pin p hp).1) (g6a.mpr hb)
 frs:=fun z=>(ml.mp (I.stkSub b z)).elim (uw (gr I.lt hb)) (I.nofs hb)
theorem qfs(I:Inv X pins σ H s){b:Addr}(l:Late X pins b){h':Heap}(k:∀c o,c≠b->s.heap.get? c=some o->h'.get? c=some o)(hn:H b=none): Inv X pins σ H {s with heap:=h'}:=
 I.turned (t':=s.toks) k hn l.loc (.inr l.up) l.cel l.pin
theorem qn6(I:Inv X pins σ H s){b:Addr}(l:Late X pins b){h':Heap}{o:HO}(k:∀c o,c≠b->s.heap.get? c=some o->h'.get? c=some o)(hn:H b=none)(new:ObjOk X.prog X.w (upd H b o) h' b o):
  Inv X pins σ (upd H b o) {s with heap:=h'}:=by
 have nb:∀c u,H c=some u->c≠b:=fun c u e z=>by rw [z,hn] at e;cases e
 refine I.step (t':=s.toks) (g':=s.gens) (d':=s.drawn) (ch:=[b]) (fun c hc=>?_) (fun c u _ _ hc e _=>k c u (fun z=>hc (by simp [z])) e) (fun c u _ _ hc e _=>⟨u.slots,k c u (fun z=>hc (by simp [z])) e⟩)
  (fun c u hc _ n=>by rw [z8 (fun z=>hc (by simp [z]))];exact n) (fun c u hc e=>⟨u,k c u (fun z=>hc (by simp [z])) e⟩) (fun c xs e=>by rw [z8 (nb c _ e)];exact e) (fun c _ _ e=>by rw [z8 (nb c _ e)];exact e)
  (fun c ps e=>⟨#[],by rw [z8 (nb c _ e),e];simp⟩) (fun m hm=>?_) (fun c u e=>?_) I.bare
 ·have e:c=b:=by simpa using hc
  subst e;exact⟨.inr l.up,l.loc,l.cel,l.pin⟩
 ·obtain⟨u,es,ep,ho,r⟩:=hm
  exact⟨u,es,ep,k _ u (n4 l.loc) ho,r⟩
 ·by_cases hc:c=b
  ·subst hc;rw [zi] at e;cases e;exact new
  ·rw [z8 hc] at e
   refine(I.hok c u e).stay (fun d v hd q=>k d v ?_ q) (fun d q=>by rw [z8 (nb d _ q)];exact q) fun d xs q=>by rw [z8 (nb d _ q)];exact q
   rcases hd with z|z
   ·rw [z];exact hc
   ·exact nb d _ z
def k5(op:List D->Option D): List D->Option (List D)
 | []=>some []
 | d :: ds=>(op [d]).bind fun k=>(k5 op ds).map fun ks=>k :: ks
theorem qbg{op:List D->Option D}: ∀ {l:List D} {d k:D} {ks:List D},k5 op l=some ks->op [d]=some k->k5 op (l++[d])=some (ks++[k])
 | [],d,k,ks,h,e=>by
  cases h;simp [k5,e]
 | x :: l,d,k,ks,h,e=>by
  simp only [k5] at h;obtain⟨k1,h1,h2⟩:=g7.mp h;obtain⟨ks1,h3,h4⟩:=gw.mp h2;subst h4;simp only [g1l,k5,h1,g9,qbg h3 e,mw]
theorem qdc{op:List D->Option D}: ∀ {l ks:List D},k5 op l=some ks->ks.length=l.length
 | [],ks,h=>by cases h;rfl
 | x :: l,ks,h=>by
  simp only [k5] at h;obtain⟨k1,h1,h2⟩:=g7.mp h;obtain⟨ks1,h3,h4⟩:=gw.mp h2;subst h4;simp [qdc h3]
theorem qdd{op:List D->Option D}: ∀ {l ks:List D} {d:D},k5 op l=some ks->d∈l->∃k,op [d]=some k
 | x :: l,ks,d,h,hd=>by
  simp only [k5] at h;obtain⟨k1,h1,h2⟩:=g7.mp h;obtain⟨ks1,h3,h4⟩:=gw.mp h2;rcases ml.mp hd with rfl|hd
  ·exact⟨k1,h1⟩
  ·exact qdd h3 hd
theorem qft{α β γ δ : Type}: ∀ {a:List α} {b:List β} {c:List γ} {d:List δ},a.length=b.length->b.length=c.length->c.length=d.length ->
  ∃T:List (α × β × γ × δ),T.map (·.1)=a/\T.map (·.2.1)=b/\T.map (·.2.2.1)=c/\T.map (·.2.2.2)=d
 | [],[],[],[],_,_,_=>⟨[],rfl,rfl,rfl,rfl⟩
 | x :: a,y :: b,z :: c,w :: d,h1,h2,h3=>by
  obtain⟨T,t1,t2,t3,t4⟩:=qft (a:=a) (b:=b) (c:=c) (d:=d) (by simpa using h1) (by simpa using h2) (by simpa using h3);exact⟨(x,y,z,w) :: T,by simp [t1],by simp [t2],by simp [t3],by simp [t4]⟩
theorem qfu{h:Heap}{a:Addr}{ks:List Value}{e:Nat}(ho:h.get? a=some (seqObj "list" ks.toArray e))(k:Value): ∃e',(h.update a (Obj.mapSeq (·.push k))).get? a=some (seqObj "list" (ks++[k]).toArray e'):=by
 have:=g17 ho (·.push k);have e2:(ks.toArray.push k)=(ks++[k]).toArray:=by simp
 rw [e2] at this;exact⟨_,this⟩
def qcj(b:Bool): Value->Nat
 | .int n _=>if b then n.toNat else 0
 | _=>0
def qck(b:Bool): D->Nat
 | .int n=>if b then n.toNat else 0
 | _=>0
omit [Lam] in
theorem qka{K:Frag}{F:Hp}{d:D}{x:V}{v:Value}{b:Bool}(h:Rep K F d x)(r:RelV x v): qcj b v=qck b d:=by
 cases d with
 | non=>cases rep_non.mp h;cases(show v=Value.none from r);rfl
 | bl c=>cases rep_bl.mp h;cases(show v=Value.bool c from r);rfl
 | int n=>cases rep_int.mp h;obtain⟨t,rfl⟩:=(show ∃t,v=Value.int n t from r);rfl
 | str y=>cases rep_str.mp h;obtain⟨t,rfl⟩:=(show ∃t,v=Value.str y t from r);rfl
 | _=>
  have:∃a,x=.ref a:=by
   simp only [Rep] at h
   first
    | exact let⟨a,_,e,_⟩:=h; ⟨a,e⟩
    | exact let⟨a,_,_,e,_⟩:=h; ⟨a,e⟩
    | exact let⟨a,_,_,_,e,_⟩:=h; ⟨a,e⟩
  obtain⟨a,rfl⟩:=this;cases(show v=Value.ref a from r)
  rfl
theorem qkb(b:Bool){fn l:Addr}{op:List D->Option D}{ds es dks:List D}{Q:VK}(hu0:X.A.units+64<cLine)
  (hrun:∀(F' H':Hp) (s':Shared) (dv kd:D) (x:V) (v:Value),Inv X pins σ H' s'->Grow F H F' H'->Rep X.K F' dv x->RelV x v->op [dv]=some kd->codeAny (model X.prog X.w) X.A.in1.in1 (.call (.ref fn) ⟨[v],[]⟩) (CR CX0 X.stack X.prog X.w H' s' (fun v H''=>∃F'',Grow F' H' F'' H''/\Rep X.K F'' kd v) E0) s')
  (I:Inv X pins σ H s) (fh:Same F H) (rl:Rep X.K F (.lst ds) (.ref l)) (hks:k5 op ds=some dks) (hok:q3y dks=true) (h64:ds.length<64) (hR:ds.Pairwise fun x y=>qck b x<=qck b y)
  (hdet:∀T:List (D×D),T.Perm (dks.zip ds)->T.Pairwise (fun x y=>ltT y.1 x.1=false)->T.Pairwise (fun x y=>ltT x.1 y.1=false->qck b x.2<=qck b y.2)->T.map Prod.snd=es)
  (q:∀a ys F' H',Grow F H F' H'->F' a=none->H a=none->H' a=some (.lst ys)->RepL X.K F' es ys->Q (.ref a) H') :
  wpAny (model X.prog X.w) X.A (call (.builtin "sorted") [.ref l] [(Str.ofString "key",.ref fn)]) (EP X pins σ Q) X.xe s:=by
 obtain⟨a,ys,z,k1,k2⟩:=rep_lst.mp rl;cases z;obtain⟨its,r1,p1,hz⟩:=I.list (fh.seq k1);have hlen:its.length<=sizeLine:=by rw [<- r1.length];exact hz
 have hlds:ds.length=its.length:=by rw [k2.length,r1.length]
 have hlks:=qdc hks;have L1:Late X pins (s.heap.objs.size+1):=qvo I (g0t _);have L3:Late X pins (s.heap.objs.size+3):=qvo I (g1n _ _);have hu:X.A.in1.in1.units+60<cLine:=by show X.A.units+1+1+60<cLine;lia
 have z1:((s.heap.push (seqObj "list" #[] 0)).update s.heap.objs.size (Obj.mapSeq (· ++ its.toArray))).objs.size=s.heap.objs.size+1:=by rw [nu,u6]
 have keep:∀b o,s.heap.get? b=some o->(xt (srtH s.heap its) (s.heap.objs.size+1) its).get? b=some o:=fun b o qb=>by
  have hlt:b<s.heap.objs.size:=m9 qb;unfold xt srtH;have ne:∀k,b≠s.heap.objs.size+k:=fun k=>mf (gr hlt (g1n _ _));rw [pj _ _ _ (by rw [u6,nu,u6,z1];exact ne 3),pj _ _ _ (by rw [nu,u6,z1];exact ne 2),t7 _ _ _ _ (ne 1),
   pj _ _ _ (by rw [z1];exact ne 1),t7 _ _ _ _ (show b≠s.heap.objs.size from ne 0),pj _ _ _ (show b≠s.heap.objs.size from ne 0)]
  exact qb
 have I6:Inv X pins σ H {s with heap:=xt (srtH s.heap its) (s.heap.objs.size+1) its}:=I.kept (t':=s.toks) keep;have hoL:(srtH s.heap its).get? (s.heap.objs.size+1)=some (seqObj "list" its.toArray 0):=by
  unfold srtH;rw [<- z1];exact gz _ rfl
 have zs:(srtH s.heap its).objs.size=s.heap.objs.size+2:=by unfold srtH;rw [u6,z1]
 obtain⟨e1,ho1⟩:∃e1,((srtH s.heap its).update (s.heap.objs.size+1) (Obj.mapSeq fun _=>(#[]:Array Value))).get? (s.heap.objs.size+1)=some (seqObj "list" #[] e1):=⟨_,g17 hoL fun _=> #[]⟩
 have hoA:(xt (srtH s.heap its) (s.heap.objs.size+1) its).get? (s.heap.objs.size+1)=some (seqObj "list" #[] e1):=by
  unfold xt;rw [pj _ _ _ (by rw [u6,nu,zs];exact mf (by lia)),pj _ _ _ (by rw [nu,zs];exact mf (by lia))];exact ho1
 have hoK:(xt (srtH s.heap its) (s.heap.objs.size+1) its).get? (s.heap.objs.size+3)=some (seqObj "list" ([]:List Value).toArray 0):=by
  unfold xt;have:s.heap.objs.size+3=(((srtH s.heap its).update (s.heap.objs.size+1) (Obj.mapSeq fun _=>(#[]:Array Value))).push (seqObj "tuple" its.toArray 0)).objs.size:=by rw [u6,nu,zs]
  rw [this];exact gz _ rfl
 have hn1:H (s.heap.objs.size+1)=none:=I.hok.fresh (g0t _);have hn3:H (s.heap.objs.size+3)=none:=I.hok.fresh (g1n _ _);refine qhl p1.isList hlen (by rw [<- hlds];exact h64) (fun ks s'=>∃F' H' xks kds e,Inv X pins σ H' s'/\Grow F H F' H'/\RepL X.K F' kds xks/\Vals xks ks/\k5 op (ds.take ks.length)=some kds /\
  s'.heap.get? (s.heap.objs.size+3)=some (seqObj "list" ks.toArray e)/\H' (s.heap.objs.size+3)=none/\s'.heap.get? (s.heap.objs.size+1)=some (seqObj "list" #[] e1)/\H' (s.heap.objs.size+1)=none)
  ⟨F,H,[],[],0,I6,.refl fh,.nil,.nil,rfl,hoK,hn3,hoA,hn1⟩ ?_ ?_
 ·rintro l0 v r0 hv ks s' hl ⟨F',H',xks,kds,e,I',g',rk,vk,hkd,hK,nK,hA,nA⟩
  -- the next item
  have hi:ks.length<ds.length:=by rw [hlds,hv,hl];simp
  have hvi:its[ks.length]? = some v:=by rw [hv,hl];simp
  obtain⟨dv,hdv⟩:∃dv,ds[ks.length]? = some dv:=⟨_,g11 ds _ hi⟩
  obtain⟨x,hx,rx⟩:=k2.get hdv;obtain⟨u,hu',ru⟩:=r1.get hx;rw [hvi] at hu';obtain rfl:v=u:=gu hu';obtain⟨kd,hkd'⟩:=qdd hks (uo hdv);refine g31 (g24 (hrun F' H' s' dv kd x v I' g' (rx.mono g'.ff) ru hkd') fun r s'' hq=>?_);cases r with
  | error er=>exact hq.elim
  | ok fl=>
   cases fl with
   | next=>exact False.elim hq
   | brk=>exact False.elim hq
   | cont=>exact False.elim hq
   | ret kv=>
    obtain⟨vv,H'',os,bare,un,hok',rv,F'',g'',rr⟩:=(show CE X.stack X.prog X.w H' s' _ kv s'' from hq)
    have hK2:=un.keep _ _ hK nK L3.frs (by simp);have hA2:=un.keep _ _ hA nA L1.frs (by simp);have nK2:=un.free _ _ hK nK (by simp);have nA2:=un.free _ _ hA nA (by simp);obtain⟨hh,gg,dd,tt,oo⟩:=s'';obtain rfl:oo=s'.os:=os;have I2:=I'.call (h':=hh) (g':=gg) (d':=dd) (t':=tt) (ch:=[]) un hok' bare (fun b z=>absurd z (by simp));obtain⟨e',hK3⟩:=qfu hK2 kv;have I3:=qfs I2 L3 (h':=hh.update (s.heap.objs.size+3) (Obj.mapSeq (·.push kv))) (fun c o hc e=>by rw [t7 _ _ _ _ hc];exact e) nK2;refine⟨⟨e,hK2⟩,F'',H'',xks++[vv],kds++[kd],e',I3,g'.trans g'',(rk.mono g''.ff).append (.cons rr .nil),vk.append (.cons rv .nil),?_,hK3,nK2,?_,nA2⟩
    ·rw [ng,g3l,List.take_succ_eq_append_getElem hi]
     refine qbg hkd ?_;have:ds[ks.length]=dv:=by rw [g11 ds _ hi] at hdv;exact gu hdv
     rw [this];exact hkd'
    ·show(hh.update _ _).get? _=_
     rw [t7 _ _ _ _ (mf (by lia))];exact hA2
 ·rintro ks s' hl ⟨F',H',xks,kds,e,I',g',rk,vk,hkd,hK,nK,hA,nA⟩
  rw [hl, <- hlds,g5b,hks] at hkd;obtain rfl:dks=kds:=gu hkd;refine⟨⟨e,hK⟩,by rw [hA,hoA],?_⟩;have hkl:ks.length=dks.length:=by rw [<- vk.length,rk.length]
  obtain⟨T,t1,t2,t3,t4⟩:=qpd rk vk;have kdk:∀d∈dks,kD d=true:=by
   have:=hok;unfold q3y at this;rw [gm,gm] at this;exact n6.mp this.1.1
  have st:∀u∈ks,∃d∈dks,q4k X.K F' d u:=fun u hu=>by
   rw [<- t2] at hu;obtain⟨t,ht,rfl⟩:=md.mp hu;have hm:t.2.2∈dks:=by rw [<- t3];exact tu ht
   exact⟨t.2.2,hm,kdk _ hm,t.1,t4 t ht⟩
  obtain⟨κ,hkind,C⟩:=qr3 I' g'.fh X.A.in1.in1 hu st hok;have hN:(ks.zip its).Pairwise fun p q:Keyed=>qcj b p.2<=qcj b q.2:=by
   rw [ud] at hR ⊢;intro i j hi hj hij;rw [g19] at hi hj;simp only [List.getElem_zip];have at':∀i,(h:i<its.length)->qcj b its[i]=qck b (ds[i]'(by lia)):=fun i h=>by
    obtain⟨x,hx,rx⟩:=k2.get (g11 ds i (by lia));obtain⟨u,hu',ru⟩:=r1.get hx;rw [g11 its i h] at hu';rw [gu hu'];exact qka rx ru
   rw [at' i (by lia),at' j (by lia)];exact hR i j (by lia) (by lia) hij
  refine⟨κ,_,_,_,hN,fun h2=>hkind (by lia),fun _=>C,fun _ h=>h,fun Tz tp ts tr=>?_⟩
  -- all five rows together
  obtain⟨T,w1,w2,w3,w4⟩:=qft (a:=xks.zip ks) (b:=dks) (c:=its) (d:=ys.zip ds) (by rw [g19,rk.length,vk.length];simp) (by rw [hlks,hlds]) (by rw [g19,r1.length,hlds];simp);have uT:ks.zip its=T.map fun t=>(t.1.2,t.2.2.1):=by
   rw [<- w3, <- g3i (l₁:=xks) (l₂:=ks) (by rw [vk.length];exact gi _), <- w1];simp [List.zip_map',mv,g4v]
  obtain⟨T',pT,eT⟩:=q56 (fun t:(V×Value)×D×Value×V×D=>(t.1.2,t.2.2.1)) tp uT;have rel:∀t∈T,Rep X.K F' t.2.1 t.1.1/\RelV t.1.1 t.1.2/\Rep X.K F' t.2.2.2.2 t.2.2.2.1/\RelV t.2.2.2.1 t.2.2.1/\t.2.1∈dks:=by
   intro t ht;obtain⟨i,hi,rfl⟩:=List.mem_iff_getElem.mp ht;have e1':(xks.zip ks)[i]? = some T[i].1:=by rw [<- w1];simp [hi]
   have e2':dks[i]? = some T[i].2.1:=by rw [<- w2];simp [hi]
   have e3':its[i]? = some T[i].2.2.1:=by rw [<- w3];simp [hi]
   have e4':(ys.zip ds)[i]? = some T[i].2.2.2:=by rw [<- w4];simp [hi]
   rw [List.getElem?_zip_eq_some] at e1' e4';obtain⟨x,hx,rx⟩:=rk.get e2';rw [e1'.1] at hx;obtain rfl:=gu hx;obtain⟨u,hu2,ru⟩:=vk.get e1'.1;rw [e1'.2] at hu2;obtain rfl:=gu hu2;obtain⟨y,hy,ry⟩:=k2.get e4'.2;rw [e4'.1] at hy;obtain rfl:=gu hy;obtain⟨w,hw,rw'⟩:=r1.get e4'.1;rw [e3'] at hw;obtain rfl:=gu hw;exact⟨rx,ru,ry.mono g'.ff,rw',uo e2'⟩
  have rel':∀t∈T',_:=fun t ht=>rel t (pT.mem_iff.mp ht);have hkey:∀t∈T',keyOf X.K F' t.1.2=t.2.1:=fun t ht=>q74 I' g'.fh ⟨kdk _ (rel' t ht).2.2.2.2,_,(rel' t ht).1,(rel' t ht).2.1⟩;have eD:T'.map (fun t=>t.2.2.2.2)=es:=by
   have ez:dks.zip ds=T.map fun t=>(t.2.1,t.2.2.2.2):=by
    rw [<- w2, <- g3i (l₁:=ys) (l₂:=ds) (by rw [<- k2.length];exact gi _), <- w4];simp [List.zip_map',mv,g4v]
   rw [<- hdet (T'.map fun t=>(t.2.1,t.2.2.2.2)) (by rw [ez];exact pT.map _) ?_ ?_,mv]
   ·rfl
   ·rw [mx]
    rw [eT,mx] at ts;refine pd (fun {x y} hx hy h=>?_) ts;have h':ltT (keyOf X.K F' y.1.2) (keyOf X.K F' x.1.2)=false:=h;rw [hkey x hx,hkey y hy] at h';exact h'
   ·rw [mx]
    rw [eT,mx] at tr;refine pd (fun {x y} hx hy h h1=>?_) tr;have h':qcj b x.2.2.1<=qcj b y.2.2.1:=h (by show ltT (keyOf X.K F' x.1.2) (keyOf X.K F' y.1.2)=false;rw [hkey x hx,hkey y hy];exact h1);rw [qka (rel' x hx).2.2.1 (rel' x hx).2.2.2.1,qka (rel' y hy).2.2.1 (rel' y hy).2.2.2.1] at h';exact h'
  have hout:Tz.map (·.2)=T'.map fun t=>t.2.2.1:=by rw [eT,mv];rfl
  have vo:Vals (T'.map fun t=>t.2.2.2.1) (Tz.map (·.2)):=by
   rw [hout];clear eT eD pT hkey hout
   induction T' with
   | nil=>exact .nil
   | cons t T' ih=>exact .cons (rel' t gc).2.2.2.1 (ih fun t ht=>rel' t (gf _ ht))
  have ro:RepL X.K F' (T'.map fun t=>t.2.2.2.2) (T'.map fun t=>t.2.2.2.1):=by
   clear eT eD pT hkey hout vo
   induction T' with
   | nil=>exact .nil
   | cons t T' ih=>exact .cons (rel' t gc).2.2.1 (ih fun t ht=>rel' t (gf _ ht))
  have ll:(T'.map fun t=>t.2.2.2.1).length<=sizeLine:=by
   rw [gh,pT.length_eq];have:=pk List.length w3;rw [gh] at this;rw [this];exact hlen
  have I8:=qfs I' L3 (h':=s'.heap.update (s.heap.objs.size+3) (Obj.mapSeq fun _=> #[])) (fun c o hc e=>by rw [t7 _ _ _ _ hc];exact e) nK;have hA8:(s'.heap.update (s.heap.objs.size+3) (Obj.mapSeq fun _=> #[])).get? (s.heap.objs.size+1)=some (seqObj "list" #[] e1):=by
   rw [t7 _ _ _ _ (mf (by lia))];exact hA
  obtain⟨e9,hA9⟩:∃e9,((s'.heap.update (s.heap.objs.size+3) (Obj.mapSeq fun _=> #[])).update (s.heap.objs.size+1) (Obj.mapSeq fun _=>(Tz.map (·.2)).toArray)).get? (s.heap.objs.size+1)=some (seqObj "list" (Tz.map (·.2)).toArray e9):=⟨_,g17 hA8 fun _=>(Tz.map (·.2)).toArray⟩
  have I9:=qn6 I8 L1 (o:=.lst (T'.map fun t=>t.2.2.2.1)) (h':=(s'.heap.update (s.heap.objs.size+3) (Obj.mapSeq fun _=> #[])).update (s.heap.objs.size+1) (Obj.mapSeq fun _=>(Tz.map (·.2)).toArray))
   (fun c o hc e=>by rw [t7 _ _ _ _ hc];exact e) nA ⟨ll,_,e9,vo,hA9⟩
  refine⟨.ref (s.heap.objs.size+1),_,I9,rfl,?_⟩;have gg:Grow F' H' F' (upd H' (s.heap.objs.size+1) (.lst (T'.map fun t=>t.2.2.2.1))):=Grow.own g'.fh nA;exact q _ _ F' _ (g'.trans gg) (g'.fh.free nA) hn1 zi (by rw [<- eD];exact ro)
end
end DL
namespace DL
open PySem PySem.Spec PyProof.Rows L2 Srt PySem.W
variable[Lam][Pin]
def q3z(mg:Str->Option Value)(base:Heap): Prop:=∃bm ob,mg "__builtins__" = some (.ref bm)/\bm≠builtinsNs/\base.get? bm=some ob/\ob.cls=.type "module" /\ ob.dict=some builtinsNs/\ob.data=.plain
def tabOf(o:Obj): Option Addr:=match o.data with
 | .fields vs=>(match(vs[11]? : Option Value) with
  | some (.ref P)=>some P
  | _=>none)
 | _=>none
omit [Lam] [Pin] in
theorem qpk{K:Frag}{x:Str}{f c P:Addr}{oc:Value}{od:Option Addr}{fd:FuncData}{sl:Array (Option Value)}{o:Obj}(h1:nsIn K mainGlobals x=some (some (.ref f)))(h2:K.lookup f=some ⟨oc,od,.func fd,sl⟩)(h3:fd.code=.ref c)(h4:K.lookup c=some o)(h5:tabOf o=some P): tabIn K x=some (c,P):=by
 unfold tabIn;rw [h1];dsimp only;rw [h2];dsimp only;rw [h3];dsimp only;rw [h4];obtain⟨a,b,d,e⟩:=o;unfold tabOf at h5;dsimp only at h5;cases d <;> simp only at h5 ⊢ <;> first|(cases h5;done)|skip
 split at h5
 ·rename_i hv
  rw [hv];cases h5
  rfl
 ·cases h5
omit [Lam] [Pin] in
theorem qhm{K:Frag}{c P:Addr}{o:Obj}(h1:K.lookup c=some o)(h2:codeHdIn [(c,o)] c P=true): codeHdIn K c P=true:=by
 have e:List.lookup c [(c,o)]=some o:=by simp [List.lookup]
 unfold codeHdIn at h2 ⊢;rw [h1];rw [e] at h2;exact h2
theorem qkc{pos pos':Pos}{c cv:Value}: ∀(l:List Value),TriplesOk l->codeAmong pos' (l++[rawInt pos.line,rawInt pos.col,c])=some cv->codeAmong pos' l=some cv\/cv=c:=fun l h e=>by
 fun_induction TriplesOk l with
 | case1=>
  simp only [um,codeAmong,rawInt] at e
  split at e
  ·exact .inr (gu e).symm
  ·cases e
 | case2 a t b u x rest ih=>
  simp only [g1l,codeAmong] at e ⊢
  split at e
  ·rename_i hc;rw [gq hc];exact .inl e
  ·rename_i hc;rw [m6 hc];exact ih h e
 | case3 l h1 h2=>exact h.elim
section
variable{X:Cx}{pins:List (Addr×Obj)}{σ : St}{F H:Hp}{s:Shared}
theorem qpl{c P:Addr}{q:Str}{params:Arguments}{body:Expr}{scope:Scope}{pos:Pos}{Q:Value->Shared->Prop}(hcode:X.env.code=.ref c)(hd:codeHdIn X.K c P=true)(hP:(P,q)∈Lam.tab)(hU:∀p∈Lam.tab,p.1=P->p.2=q)
  (hq:X.env.qual++"<lambda>" = q) (B:q3z X.mg X.base) (hdef:defaultsOf params X.env=([],[])) {cl:List (Str×Addr)} (hcl:closureFor scope X.env=pure cl) (I:Inv X pins σ H s) (st:SameT F H)
  (h:∀f c' φ ψ ct pm s' H',Inv X pins σ H' s'->Grow F H F H'->H' f=some (.ext φ)->H' c'=some (.ext ψ)->(∀h, φ h->h.get? f=some (kla_obj "<lambda>" q params body scope cl pm c' ct))->(∀h, ψ h->h.CodeRec (.ref c') q)->Q (.ref f) s') :
  wpAny (model X.prog X.w) X.A (eval (.Lambda params body scope pos) X.env) Q X.xe s:=by
 refine kla_eval hdef ?_;rw [hq];obtain⟨ps,e,ht,k⟩:=st.t _ hP;have hPg:s.heap.get? P=some (tabObj ps):=I.hok P _ e;have C:CodeHd s.heap c P:=codeHd_of_K I.kIn hd;have hg:s.heap.Ns mainGlobals X.mg:=I.mod.glob.keeps I.bk;obtain⟨bm,ob,B1,B2,B3,B4,B5,B6⟩:=B;have hbo:=I.bk _ _ B3;have hbP:bm≠P:=fun z=>by
  have e1:=hbo;rw [z,hPg] at e1;have e2:=B4;rw [<- gu e1] at e2;cases e2
 have hgP:mainGlobals≠P:=fun z=>by
  obtain⟨o,es,ep,e1,e2,_⟩:=hg;rw [z,hPg] at e1;rw [<- gu e1] at e2;cases e2
 have hb:s.heap.BuiltinsAt X.mg P:=⟨bm,ob,B1,B2,fun z=>(by
  obtain⟨o,es,ep,e1,e2,_⟩:=hg;rw [<- z,hbo] at e1;rw [<- gu e1,B6] at e2;cases e2),hbP,hbo,B4,B5,B6⟩
 cases hf:codeAmong pos ps.toList with
 | some cv=>
  obtain⟨c', ψ,rfl,e2,e3⟩:=k pos cv hf;refine kla_makeFunctionHit hcl I.ok.glob hg hcode C hPg ht hf hb fun ctv h' tk hk hsz=>?_;have I1:Inv X pins σ H {s with heap:=h',toks:=tk}:=I.kept (t':=tk) hk;have hn:H h'.objs.size=none:=I1.hok.fresh (gi _);have I2:=I1.laid (t':=tk) (a:=h'.objs.size) (o:=.ext fun g=>g.get? h'.objs.size=some (kla_obj "<lambda>" q params body scope cl ((X.mg "__name__").getD .none) c' ctv)) (h':=h'.push (kla_obj "<lambda>" q params body scope cl ((X.mg "__name__").getD .none) c' ctv))
   (fun b u z=>gb _ z) (gi _) ⟨gz _ rfl,⟨_,gz _ rfl⟩,fun h1 h2 z1 z2=>z2 _ z1⟩
  exact h _ c' _ ψ ctv _ _ _ I2 (Grow.own st.s hn) zi ((Kept.new hn).ext _ _ e2) (fun g z=>z) e3
 | none=>
  refine kla_makeFunction hcl I.ok.glob hg hcode C hPg ht hf hgP hb fun c' ctv h' tk hx hge hlt hrec htb=>?_;have hnc:H c'=none:=I.hok.fresh hge;have hcP:c'≠P:=fun z=>by rw [z,e] at hnc;cases hnc
  have nP:∀b o,H b=some o->(∀ps,o ≠ .tbl ps)->b≠P:=fun b o z n y=>by rw [y,e] at z;exact n _ (gu z).symm
  have nP':∀b,H b=none->b≠P:=fun b z y=>by rw [y,e] at z;cases z
  have nc:∀b o,H b=some o->b≠c':=fun b o z y=>by rw [y,hnc] at z;cases z
  have ncs:∀b o,s.heap.get? b=some o->b≠c':=fun b o z y=>absurd (m9 z) (by rw [y];exact g6a.mpr hge)
  let H1:Hp:=upd (upd H P (.tbl (ps ++ #[rawInt pos.line,rawInt pos.col,.ref c']))) c' (.ext fun g=>g.CodeRec (.ref c') q)
  have a1:∀b,b≠P->b≠c'->H1 b=H b:=fun b z1 z2=>by show upd (upd H P _) c' _ b=_;rw [z8 z2,z8 z1]
  have a2:H1 P=some (.tbl (ps ++ #[rawInt pos.line,rawInt pos.col,.ref c'])):=by show upd (upd H P _) c' _ P=_;rw [z8 (n4 hcP),zi]
  have a3:H1 c'=some (.ext fun g=>g.CodeRec (.ref c') q):=zi;have un:Un X.fs [] H H1 s.heap h':=⟨fun b o z n _ _=>hx b o (nP' b n) z,fun b o z n _ _=>⟨o.slots,hx b o (nP' b n) z⟩,fun b o z n _=>by rw [a1 b (nP' b n) (ncs b o z)];exact n,
   fun b o z _=>by
    by_cases y:b=P
    ·exact⟨_,by rw [y];exact htb⟩
    ·exact⟨o,hx b o y z⟩,fun b xs z=>by rw [a1 b (nP b _ z nofun) (nc b _ z)];exact z,fun b o' u z=>by rw [a1 b (nP b _ z nofun) (nc b _ z)];exact z,
   fun b ps' z=>by
    by_cases y:b=P
    ·subst y
     rw [e] at z;cases z;exact⟨_,a2⟩
    ·exact⟨#[],by rw [a1 b y (nc b _ z),z];simp⟩⟩
  have hok:HOk X.prog X.w H1 h':=fun b o z=>by
   by_cases y:b=P
   ·subst y
    rw [a2] at z;cases z;exact htb
   by_cases y2:b=c'
   ·subst y2
    rw [a3] at z;cases z;obtain⟨c2,oc,vs,t,e2,hoc,r⟩:=hrec;cases e2;exact⟨⟨_,oc,vs,t,rfl,hoc,r⟩,⟨_,hoc⟩,fun h1 h2 ⟨c3,o3,v3,t3,e3,h3,r3⟩ z2=>by cases e3;exact⟨_,o3,v3,t3,rfl,z2 _ h3,r3⟩⟩
   rw [a1 b y y2] at z;refine(I.hok b o z).stay (fun b' u hb' z'=>hx b' u ?_ z') (fun b' z'=>by rw [a1 b' (nP b' _ z' nofun) (nc b' _ z')];exact z') fun b' xs z'=>by rw [a1 b' (nP b' _ z' nofun) (nc b' _ z')];exact z'
   rcases hb' with z1|z1
   ·rw [z1];exact y
   ·exact nP b' _ z1 nofun
  have I1:Inv X pins σ H1 {s with heap:=h',toks:=tk}:=I.un (t':=tk) un hok;have hn:H1 h'.objs.size=none:=I1.hok.fresh (gi _);have I2:=I1.laid (t':=tk) (a:=h'.objs.size) (o:=.ext fun g=>g.get? h'.objs.size=some (kla_obj "<lambda>" q params body scope cl ((X.mg "__name__").getD .none) c' ctv)) (h':=h'.push (kla_obj "<lambda>" q params body scope cl ((X.mg "__name__").getD .none) c' ctv))
   (fun b u z=>gb _ z) (gi _) ⟨gz _ rfl,⟨_,gz _ rfl⟩,fun h1 h2 z1 z2=>z2 _ z1⟩
  have hfP:h'.objs.size≠P:=fun z=>by rw [z,a2] at hn;cases hn
  have kp:Kept H H1:=⟨fun b xs z=>by rw [a1 b (nP b _ z nofun) (nc b _ z)];exact z,fun b φ z=>by rw [a1 b (nP b _ z nofun) (nc b _ z)];exact z,fun {b} z=>by
    by_cases y:b=P
    ·subst y;rw [a2] at z;cases z
    by_cases y2:b=c'
    ·rw [y2];exact hnc
    rw [a1 b y y2] at z;exact z,fun t p hp=>by
    obtain⟨ps1,e1,t1,k1⟩:=t p hp
    by_cases y:p.1=P
    ·have e2:=hU p hp y
     rw [y,e] at e1;cases e1;rw [y];refine⟨_,a2,by simpa using TriplesOk_snoc pos.line pos.col (.ref c') ps.toList ht,fun pos' cv z=>?_⟩;rw [Array.toList_append] at z;rcases qkc ps.toList ht (by simpa using z) with z|z
     ·obtain⟨c2, φ,z1,z2,z3⟩:=k1 pos' cv z
      exact⟨c2, φ,z1,by rw [a1 c2 (nP _ _ z2 nofun) (nc _ _ z2)];exact z2,z3⟩
     ·exact⟨c',_,z,a3,fun g z=>by rw [e2];exact z⟩
    ·refine⟨ps1,by rw [a1 _ y (nc _ _ e1)];exact e1,t1,fun pos' cv z=>?_⟩
     obtain⟨c2, φ,z1,z2,z3⟩:=k1 pos' cv z;exact⟨c2, φ,z1,by rw [a1 c2 (nP _ _ z2 nofun) (nc _ _ z2)];exact z2,z3⟩,fun b u z=>by rw [a1 b (nP b _ z (by cases u <;> nofun)) (nc b _ z)];exact z⟩
  have g1:Grow F H F H1:=⟨.refl _,kp,fun b o z=>by
    have y:b≠P:=fun y=>by have:=st.f _ hP;rw [show b=P from y] at z;rw [z] at this;cases this
    rw [a1 b y (nc b _ (st.s b o z))];exact st.s b o z,fun _ z=>.inl z⟩
  exact h _ c' _ _ ctv _ _ _ I2 (g1.trans (Grow.own g1.fh hn)) zi ((Kept.new hn).ext _ _ a3) (fun g z=>z) fun g z=>z
end
section
variable{X:Cx}{pins:List (Addr×Obj)}{σ : St}{F H:Hp}{s:Shared}
end
structure Fun3(K:Frag)(x qual:Str)(st:Stmt)(dV:Value)(f:Addr)(fd:FuncData)(c P:Addr): Prop where
 ex:∃(oc:Value) (od:Option Addr) (kV doc pm:Value) (an:Option Addr) (ct:Value) (osl:Array (Option Value)),
  fd=PySem.W.fnOf x qual (vx st) (qw st) (qh st) dV kV doc pm an (.ref c) ct/\K.lookup f=some ⟨oc,od,.func fd,osl⟩/\PySem.W.codeIn K (.ref c) qual=true
 hd:codeHdIn K c P=true
 kp:PySem.W.keepIn K (.ref f)=true
section
variable{P:Program}{w:World}{K:Frag}{mg:Str->Option Value}{base:Heap}{x qual:Str}{st:Stmt}{dV:Value}{f c T:Addr}{fd:FuncData}{N ps:List Str}
theorem Fun3.okn{k n ar k1:Nat}{u:FS}(F:Fun3 K x qual st dV f fd c T)(S:FnScope N ps (qh st))(hn:N.length=n)(ha:ps.length=ar)(hk:k+1=k1)
  (hb:∀(A:Around) (outer:List Env) (s:Shared) (H:Hp) (E:XK),Room k (A.deeper (envOfC qual (qh st) s.heap.objs.size f (.ref c)))->PSs (zy CX0 P w K mg base N qual (qh st) f (.ref c) A outer s H E).nox (qw st) (tDS K u)) :
  FnOk P w K mg base CX0 k1 f fd ps (spD K ar (zj n u)):=by
 subst hn ha hk;obtain⟨oc,od,kV,doc,pm,an,ct,osl,rfl,lk,hcd⟩:=F.ex;exact qqy lk hcd S fun A outer s H E hr=>hb A outer s H E hr
theorem qsp{oc:Value}{od an:Option Addr}{osl:Array (Option Value)}{kV doc pm ct:Value}(l:K.lookup f=some ⟨oc,od,.func (PySem.W.fnOf x qual (vx st) (qw st) (qh st) dV kV doc pm an (.ref c) ct),osl⟩)
  (cd:PySem.W.codeIn K (.ref c) qual=true) (hd:codeHdIn K c T=true) (k:PySem.W.keepIn K (.ref f)=true):Fun3 K x qual st dV f (PySem.W.fnOf x qual (vx st) (qw st) (qh st) dV kV doc pm an (.ref c) ct) c T:=⟨⟨oc,od,kV,doc,pm,an,ct,osl,rfl,l,cd⟩,hd,k⟩
theorem Fun3.bindsTo(F:Fun3 K x qual st dV f fd c T){P:FuncData->Prop}(h:∀(kV doc pm:Value) (an:Option Addr) (cdv ct:Value),P (PySem.W.fnOf x qual (vx st) (qw st) (qh st) dV kV doc pm an cdv ct)): P fd:=by
 obtain⟨oc,od,kV,doc,pm,an,ct,osl,rfl,lk,hcd⟩:=F.ex;exact h kV doc pm an _ ct
end
theorem qn7{P:Program}{w:World}{K:Frag}{mg mb:Str->Option Value}{k:Nat}{fa a:Addr}{fd:FuncData}{x:Str}{s₁:Shared}{vs:List Value}{ns:List Int}{tabs:List (Addr×Addr)}(hT:TabsAt tabs s₁.heap)(hL:∀p∈Lam.tab,p.1∈tabs.map (·.2))(hKT:∀p∈tabs,K.lookup p.2=none)
  (KX:K.In s₁.heap) (hns:s₁.heap.Ns mainGlobals mg) (hb:s₁.heap.Ns builtinsNs mb) (hbb:∀x:Str,x≠"__name__" -> mb x=bootBuiltins x) (hlim:s₁.heap.NoLimit) (hg:s₁.gens = #[])
  (ha:s₁.heap.get? a=some {cls:=.type "list",data:=.seq vs.toArray}) (hi:IntsAre vs ns) (hl:ns.length<=63) (hr:Room k callerA)
  (hB:q3z mg s₁.heap) (Fn:∀base:Heap,K.In base->base.Ns mainGlobals mg->q3z mg base->FnOk P w K mg base CX0 k fa fd [x] (qe8 K)) (hbind:∀(s:Shared) (u:Value),BindsTo s fd ⟨[u],[]⟩ [(x,u)]) :
  codeAny (model P w) callerA (.call (.ref fa) ⟨[.ref a],[]⟩) (fun r s'=>r=.ok (.ret (.bool true))/\OldK s₁.heap s'.heap/\s'.os=s₁.os/\AllBare s'.gens) s₁:=by
 have rv:=q38 hi;have lenV:=hi.length;have aT:a∉tabs.map (·.2):=fun z=>by
  obtain⟨p,hp,e⟩:=md.mp z;have e1:=(hT p hp).2;rw [e,ha] at e1;cases e1
 let G:Hp:=fun b=>if b=a/\K.lookup a=none then some (.frz {cls:=.type "list",data:=.seq vs.toArray} (.lst (ns.map V.int))) else none
 let H:Hp:=fun b=>if b∈tabs.map (·.2) then some (.tbl #[]) else G b
 have hG:∀b o,G b=some o->b=a/\K.lookup a=none/\o=.frz {cls:=.type "list",data:=.seq vs.toArray} (.lst (ns.map V.int)):=fun b o z=>by
  by_cases y:b=a/\K.lookup a=none
  ·exact⟨y.1,y.2,(gu ((gq y).symm.trans z)).symm⟩
  ·have:=(m6 y).symm.trans z;cases this
 have hH1:∀b,b∈tabs.map (·.2)->H b=some (.tbl #[]):=fun b z=>gq z;have hH2:∀b,b∉tabs.map (·.2)->H b=G b:=fun b z=>m6 z;have tabAt:∀b,b∈tabs.map (·.2)->∃c,CodeHd s₁.heap c b/\s₁.heap.get? b=some (tabObj #[])/\K.lookup b=none:=fun b z=>by
  obtain⟨p,hp,rfl⟩:=md.mp z;exact⟨p.1,(hT p hp).1,(hT p hp).2,hKT p hp⟩
 have gH:Same G H:=fun b o z=>by
  obtain⟨rfl,_,_⟩:=hG b o z;rw [hH2 _ aT];exact z
 have hok:HOk P w H s₁.heap:=fun b u z=>by
  by_cases y:b∈tabs.map (·.2)
  ·rw [hH1 b y] at z
   cases z;exact(tabAt b y).elim fun c z=>z.2.1
  ·rw [hH2 b y] at z
   obtain⟨rfl,_,rfl⟩:=hG b u z;exact⟨ha,by rw [gh];exact mq hl (by decide),vs,_,rv,ha⟩
 have base_of:∀ {b:Addr} {o:Obj},s₁.heap.get? b=some o->H b=none->(q5h s₁.heap H).get? b=some o:=fun e n=>qnt e n;have noA:∀ {b:Addr} {o:Obj} {es:Array DictEntry} {ep:Nat},s₁.heap.get? b=some o->o.data=.dict es ep->H b=none:=fun {b o es ep} e d=>by
  by_cases y:b∈tabs.map (·.2)
  ·obtain⟨c,_,e1,_⟩:=tabAt b y
   rw [e] at e1;rw [gu e1] at d;cases d
  ·rw [hH2 b y]
   cases q:G b with
   | none=>rfl
   | some u=>
    obtain⟨rfl,_,_⟩:=hG b u q;rw [ha] at e;rw [<- gu e] at d;cases d
 have nsK:∀ {b:Addr} {m:Str->Option Value},s₁.heap.Ns b m->(q5h s₁.heap H).Ns b m:=fun {b m} ⟨o,es,ep,e,d,r⟩=>⟨o,es,ep,base_of e (noA e d),d,r⟩
 have hKb:K.In (q5h s₁.heap H):=fun b o e=>base_of (KX b o e) (by
  by_cases y:b∈tabs.map (·.2)
  ·obtain⟨c,_,_,e1⟩:=tabAt b y
   rw [e1] at e;cases e
  ·rw [hH2 b y]
   cases q:G b with
   | none=>rfl
   | some u=>
    obtain⟨rfl,e1,_⟩:=hG b u q;rw [e1] at e;cases e)
 have hM:Mod K mg (q5h s₁.heap H):=⟨hKb,nsK hns,⟨mb,nsK hb,hbb⟩,let⟨mc,h1,h2⟩:=hlim; ⟨mc,nsK h1,h2⟩⟩
 have e0:Env0 P w K mg (q5h s₁.heap H) callerA [] s₁ H:=⟨rfl,hM,fun b o e=>qra e,g6d (qll _ _),trivial,fun b hb=>absurd (show b∈([]:List Addr) from hb) (by simp),hok,.of_eq hg⟩
 have hS:SqL K G a (ns.map V.int):=by
  cases hk:K.lookup a with
  | some o=>
   have e:=KX a o hk;rw [ha] at e;cases e;exact .inr ⟨_,vs.toArray,_,hk,rfl,rfl,rfl,by rw [gj,lenV];exact mq hl (by decide),by simpa using rv⟩
  | none=>exact .inl (.inr ⟨{cls:=.type "list",data:=.seq vs.toArray},gq ⟨rfl,hk⟩⟩)
 have sT:SameT G H:=⟨gH,fun p hp=>⟨#[],hH1 _ (hL p hp),trivial,fun pos cv z=>by simp [codeAmong] at z⟩,fun p hp=>by
  cases q:G p.1 with
  | none=>rfl
  | some u=>
   obtain⟨e,_,_⟩:=hG _ u q;exact absurd (e ▸ hL p hp) aT⟩
 have hBb:q3z mg (q5h s₁.heap H):=by
  obtain⟨bm,ob,B1,B2,B3,B4,B5,B6⟩:=hB;refine⟨bm,ob,B1,B2,base_of B3 ?_,B4,B5,B6⟩
  by_cases y:bm∈tabs.map (·.2)
  ·obtain⟨c,_,e1,_⟩:=tabAt bm y
   rw [B3] at e1;rw [gu e1] at B4;cases B4
  ·rw [hH2 bm y]
   cases q:G bm with
   | none=>rfl
   | some u=>
    obtain⟨rfl,_,_⟩:=hG bm u q;rw [ha] at B3;rw [<- gu B3] at B6;cases B6
 refine g24 ((Fn _ hKb (nsK hns) hBb).run callerA [] s₁ H ⟨[.ref a],[]⟩ [.ref a] [.ref a] (fun v _=>v=.bl true) E0 hr e0 (hbind s₁ (.ref a)) (.cons rfl .nil) ⟨a,ns,G,rfl,sT,hS,hl,fun _=>rfl⟩) fun r s' h=>?_;cases r with
 | error e=>exact h.elim
 | ok fl=>
  cases fl with
  | next=>exact False.elim h
  | brk=>exact False.elim h
  | cont=>exact False.elim h
  | ret u=>
   obtain⟨v,H',os,bare,un,hok',r',q⟩:=h;have q':v=.bl true:=q;subst q';obtain rfl:u=Value.bool true:=r';have tab':∀b,b∈tabs.map (·.2)->∃more,s'.heap.get? b=some (tabObj (#[]++more)):=fun b y=>by
    obtain⟨more,e⟩:=un.tbls b #[] (hH1 b y);exact⟨more,hok' b _ e⟩
   have keep:∀b o,b∉tabs.map (·.2)->s₁.heap.get? b=some o->s'.heap.get? b=some o:=fun b o y e=>by
    cases q:H b with
    | none=>exact un.keep b o e q (by intro z;exact absurd (show b∈([]:List Addr) from z) (by simp)) (by simp)
    | some u=>
     have q2:=q;rw [hH2 b y] at q2;obtain⟨rfl,_,rfl⟩:=hG b u q2;obtain⟨e2,_⟩:=hok' _ _ (un.frzs _ _ _ q);rw [ha] at e;rw [<- gu e];exact e2
   refine⟨rfl,⟨fun b o e=>?_,fun b o e=>?_⟩,os,bare⟩
   ·by_cases y:b∈tabs.map (·.2)
    ·obtain⟨c,C,e1,_⟩:=tabAt b y
     rw [e] at e1;obtain rfl:=gu e1;obtain⟨more,e2⟩:=tab' b y;exact .inr (.inl ⟨(C.tab e).isCodeTable,rfl, #[],more,rfl,e2⟩)
    ·exact .inl (keep b o y e)
   ·by_cases y:b∈tabs.map (·.2)
    ·obtain⟨more,e2⟩:=tab' b y
     exact⟨_,e2⟩
    ·exact⟨o,keep b o y e⟩
omit [Lam] [Pin] in
theorem qsq{l:PySem.W.OpenLaw}{k:Nat}{x:Str}{q:Program}{loose:List Str}{XP:(Str->Option Value)->Heap->Prop}{YP:World->Heap->Prop}{d:DefRec}{K:Params->Frag}(hn:l.most=some 63)(hdf:d.params.defaults=[])(hk:Room k callerA)
  (hY:∀(w:World) (h:Heap),YP w h->(K w.params).In h)
  (F:∀(w:World) (mg:Str->Option Value) (fa:Addr) (h:Heap),(K w.params).In h->h.Ns mainGlobals mg->mg d.name=some (.ref fa) ->
   ∃(L:Lam) (tabs:List (Addr×Addr)) (fd:FuncData),(∀p∈L.tab,p.1∈tabs.map (·.2))/\(∀p∈tabs,(K w.params).lookup p.2=none/\∃y:Str,((recsOf q).find? (fun e=>e.name==y)).isSome=true/\tabIn (K w.params) y=some p) /\
    (∀(s:Shared) (u:Value),BindsTo s fd ⟨[u],[]⟩ [(x,u)])/\∀base:Heap,(K w.params).In base->base.Ns mainGlobals mg->q3z mg base->FnOk l.prog w (K w.params) mg base CX0 k fa fd [x] (qe8 (K w.params))) :
  PySem.W.WalkO q loose XP YP l.row.toRowW d [] (fun f vs=>PySem.call f vs):=by
 refine Att.attach_call hn hdf fun w s₀ s₁ mg mb fa o pm cd doc a vs ns G Y ho hd hcd hmg hobj hints hlen hg=>?_;have KX:=hY w _ Y;obtain⟨L,tabs,fd,hL,hT,hb,hF⟩:=F w mg fa _ KX G.T.g hmg;refine qn7 (tabs:=tabs) (fun p hp=>?_) hL (fun p hp=>(hT p hp).1) KX G.T.g G.T.b G.T.builtins G.T.nolimit hg hobj hints hlen hk (let⟨bm,ob,b1,b2,b3,b4,b5,b6⟩:=G.T.bmain; ⟨bm,ob,b1,b2,b3,b4,b5,b6⟩) hF hb;obtain⟨_,y,e1,e2⟩:=hT p hp;obtain⟨d',e3⟩:=g01.mp e1;exact tab_of G.T KX e3 e2
abbrev q8f(q:Str)(scope:Scope)(L:Addr)(cl:List (Str×Addr))(f:Addr)(cd:Value): Env:=newEnv scope L mainGlobals cl (q++".<locals>.") (some f) cd none builtinsNs
abbrev qec(X:Cx)(A:Around)(N':List Str)(q:Str)(scope:Scope)(cl:List (Str×Addr))(f:Addr)(cd:Value)(s₀:Shared)(H₀:Hp): Cx:=
 {X with A:=A.deeper (q8f q scope s₀.heap.objs.size cl f cd),N:=N',env:=q8f q scope s₀.heap.objs.size cl f cd,s₀:=s₀,H₀:=H₀,outer:=X.stack,stack:=q8f q scope s₀.heap.objs.size cl f cd :: X.stack,ex:=[],fn:=fun _=>false,calm:=true,pn:=[],xe:=fun _ _=>False}
structure CapL(X:Cx)(p:Str)(N':List Str)(scope:Scope)(cap:List (Option Nat)): Prop where
 kind:scope.kind=.function
 co:scope.isCoroutine=false
 gen:scope.isGenerator=false
 cell:∀y∈scope.names,y.2 ≠ .cell
 frees:∀y∈scope.names,y.2=.free->X.env.kindOf y.1=some .cell\/X.env.kindOf y.1=some .free
 par:scope.names.lookup p=some .local
 len:cap.length=N'.length
 cap:∀(i j:Nat),cap[i]? = some (some j)->∃x,N'[i]? = some x/\X.N[j]? = some x/\scope.names.lookup x=some .free
theorem qsr{K:Frag}{F H:Hp}{σ : St}{ρ : Rho}{d:D}{v:V}(r:RS K F H F H σ ρ)(no:q2u ρ)(h:Rep K F d v): RS K F H F H (some v :: σ) (some (.fz d) :: ρ) where
 t0:=r.t0
 g:=r.g
 len:=by simp [r.len]
 fz:=fun i e h1=>by
  cases i with
  | zero=>simp only [g0m,g0j] at h1;cases h1;exact⟨v,rfl,h⟩
  | succ i=>rw [u5] at h1;rw [u5];exact r.fz i e h1
 ow:=fun i ds h1=>by
  cases i with
  | zero=>simp at h1
  | succ i=>rw [u5] at h1;exact(q2i no h1).elim
 dj:=fun i j ds es a _ h1=>by
  cases i with
  | zero=>simp at h1
  | succ i=>rw [u5] at h1;exact(q2i no h1).elim
 od:=fun i ds h1=>by
  cases i with
  | zero=>simp at h1
  | succ i=>rw [u5] at h1;exact(q2j no h1).elim
 o1:=fun i j ds es h1=>by
  cases i with
  | zero=>simp at h1
  | succ i=>rw [u5] at h1;exact(q2j no h1).elim
section
variable{X:Cx}{pins:List (Addr×Obj)}{σ : St}{F0 H0 F H:Hp}{s:Shared}{N':List Str}{p q:Str}{scope:Scope}{cap:List (Option Nat)}{cl:List (Str×Addr)}
theorem qss{A:Around}{f:Addr}{cd u:Value}{x:V}(I:Inv X pins σ H s)(hA:A.frames=some X.stack)(hh:A.handled=none)(co:CapL X p N' scope cap)(h1:∀x c,cl.lookup x=some c->X.env.cells.lookup x=some c)(h2:∀y∈scope.names,y.2=.free->∃c,cl.lookup y.1=some c)
  (rx:RelV x u) {h':Heap} {t':Nat} {m:Str->Option Value} (hm:m p=some u) (hn:h'.Ns s.heap.objs.size m) (hk:∀b o,s.heap.get? b=some o->h'.get? b=some o) :
  Inv (qec X A (p :: N') q scope cl f cd s H) [] (some x :: q7x cap σ) H {s with heap:=h',toks:=t'}:=by
 refine⟨⟨I.ok.mod,co.kind,rfl,rfl,gi _,fun x y c e1 e2=>I.ok.inj x y c (h1 x c e1) (h1 y c e2),fun x hx=>?_,fun x c z _=>(nomatch z),fun _=>hh,Around.frames_deeper hA,.inr ⟨rfl,rfl⟩,fun b hb=>absurd (show b∈([]:List Addr) from hb) (by simp),I.bs,mq I.ok.bsz I.sz,fun b o e hb=>absurd (show b∈([]:List Addr) from hb) (by simp),fun b hb=>absurd (show b∈([]:List Addr) from hb) (by simp),I.stack,I.stkFree⟩,
  rfl,I.bare,Un.kept hk,⟨m,hn,fun i y v e1 e2 e3=>?_⟩,fun x c e=>?_,I.hok.fresh (gi _),fun x c e=>I.freeC x c (h1 x c e),fun p hp=>(nomatch hp),I.hok.kept hk,?_⟩
 ·have hx':scope.names.lookup x=some .cell\/scope.names.lookup x=some .free:=hx
  rcases hx' with z|z
  ·exact absurd rfl (co.cell _ (lookup_mem z))
  ·exact h2 (x,.free) (lookup_mem z) rfl
 ·cases i with
  | zero=>
   have e1':p=y:=by simpa using e1
   have e2':x=v:=by simpa using e2
   subst e1' e2';exact⟨u,rx,.inl ⟨co.par,hm⟩⟩
  | succ i=>
   have e1:N'[i]? = some y:=e1;have e2':(cap.map fun o=>o.bind fun j=>(σ[j]?).join)[i]? = some (some v):=e2;rw [mj] at e2';cases q:cap[i]? with
   | none=>rw [q] at e2';cases e2'
   | some o=>
    rw [q] at e2';cases o with
    | none=>cases e2'
    | some j=>
     obtain⟨y',a1,a2,a3⟩:=co.cap i j q;rw [a1] at e1;obtain rfl:y'=y:=gu e1;have ej:(σ[j]?).join=some v:=by
      have:=e2';simp only [mw,g9,g0j] at this;exact this
     have ej' : σ[j]? = some (some v):=by
      cases z : σ[j]? with
      | none=>rw [z] at ej;cases ej
      | some u=>rw [z] at ej;simp only [g2a] at ej;rw [ej]
     have kd:=co.frees (y',.free) (lookup_mem a3) rfl;obtain⟨m0,hn0,hl0⟩:=I.loc;have vis:Vis X.env.scope y':=by
      rcases kd with k|k
      ·exact .inr (.inl k)
      ·exact .inr (.inr k)
     obtain⟨u',ru,lk⟩:=hl0 j y' v a2 ej' vis;refine⟨u',ru,.inr ⟨.inr a3,?_⟩⟩;obtain⟨c,hc⟩:=h2 (y',.free) (lookup_mem a3) rfl;rcases lk with⟨k,_⟩|⟨_,c',hc',z⟩
     ·rcases kd with k'|k'
      ·rw [k] at k';cases k'
      ·rw [k] at k';cases k'
     ·have:=h1 _ _ hc
      rw [hc'] at this;obtain rfl:c'=c:=gu this;obtain⟨o,eo,ed⟩:=z;exact⟨c',hc,o,hk _ _ eo,ed⟩
 ·obtain⟨v,o,eo,ed⟩:=I.cell x c (h1 x c e)
  exact⟨v,o,hk _ _ eo,ed⟩
 ·show(cap.map _).length+1=N'.length+1
  rw [gh,co.len]
theorem qpm{A:Around}{k:Nat}{f c':Addr}{params:Arguments}{body:Expr}{pm ct v:Value}{u:FE}{ρ : Rho}{x:V}{dv kd:D}(I:Inv X pins σ H s)(hA:A.frames=some X.stack)(hr:Room (k+1) A)(co:CapL X p N' scope cap)
  (h1:∀x c,cl.lookup x=some c->X.env.cells.lookup x=some c) (h2:∀y∈scope.names,y.2=.free->∃c,cl.lookup y.1=some c)
  (ho:s.heap.get? f=some (kla_obj "<lambda>" q params body scope cl pm c' ct)) (hcd:s.heap.CodeRec (.ref c') q) (hbd:bindArgs (kla_fn "<lambda>" q params body scope cl pm (.ref c') ct) ⟨[v],[]⟩=pure [(p,v)])
  (hb:Room k (A.deeper (q8f q scope s.heap.objs.size cl f (.ref c')))->PE (qec X A (p :: N') q scope cl f (.ref c') s H) body (tD X.K u))
  (r:RS X.K F0 H0 F H σ ρ) (rd:Rep X.K F dv x) (rx:RelV x v) (hu:u (some (.fz dv) :: kx cap ρ)=some kd) :
  codeAny (model X.prog X.w) A (.call (.ref f) ⟨[v],[]⟩) (CR CX0 X.stack X.prog X.w H s (fun v H''=>∃F'',Grow F H F'' H''/\Rep X.K F'' kd v) E0) s:=by
 refine kla_callFunE hr.depth ho rfl co.co co.gen rfl hcd ?_;rw [hbd];refine g8 ?_;refine wpAny_newFunctionEnv co.cell (fun y hy=>?_) (fun h' hns hsb=>?_) co.kind
 ·have:y=(p,v):=by simpa using hy
  subst this;exact co.par
 ·have hk:∀b o,s.heap.get? b=some o->h'.get? b=some o:=fun b o e=>by
   rw [hsb.2 b (mf (m9 e))];exact gb _ e
  have J:Inv (qec X A (p :: N') q scope cl f (.ref c') s H) [] (some x :: q7x cap σ) H {s with heap:=h',toks:=s.toks + [(p,v)].length}:=
   qss I hA hr.hd co h1 h2 rx (by simp) hns hk
  refine⟨I.nolimit.keeps hk,kla_codeExpr ?_⟩;refine t5 (hb (hr.deeper _) [] _ _ H (fun v H''=>∃F'',Grow F H F'' H''/\Rep X.K F'' kd v) J ⟨F,H,F,_,kd,qsr (qmd cap r) (yi cap ρ) rd,hu,fun v F' H' g r'=>⟨F',g,r'⟩⟩) (fun v s' hs=>?_) fun e s' hs=>hs.elim;obtain⟨v',H',J',rv,q'⟩:=hs;exact⟨v',H',J'.os,J'.bare,J'.base,J'.hok,rv,q'⟩
end
def isR:Nat->List D->Bool
 | _,[]=>true
 | k,.int n :: r=>decide (n=(k:Int))&&isR (k+1) r
 | _,_=>false
omit [Lam] [Pin] in
theorem qiy:∀ {ds:List D} {k:Nat},isR k ds=true->∀i,(h:i<ds.length)->ds[i]=.int ((k+i:Nat):Int)
 | .int n :: r,k,h,0,_=>by
  simp only [isR,gm,n5] at h;simp [h.1]
 | .int n :: r,k,h,i+1,hi=>by
  simp only [isR,gm,n5] at h;have:=qiy h.2 i (by simpa using hi);simp only [g5v];rw [this,show k+1+i=k+(i+1) by omega]
def qbh(p:D×D): D×D:=(.tup [p.1,p.2],p.2)
def q4l(op:List D->Option D): D->Option (List D)
 | .lst ds=>(k5 op ds).bind fun ks=>if((q3y ks&&ks.all isI)&&isR 0 ds)&&decide (ds.length<64) then some ((q09 ((ks.zip ds).map qbh)).map Prod.snd) else none
 | _=>none
omit [Lam] [Pin] in
theorem qiz{a b m n:Int}: ltT (.tup [.int a,.int m]) (.tup [.int b,.int n])=decide (a<b\/(a=b/\m<n)):=by
 simp only [ltT,v9,vm]
 by_cases h:a<b
 ·simp [h,Ordering.isLT]
 ·by_cases k:b<a
  ·have:¬a=b:=by omega
   simp [h,k,this,Ordering.isLT]
  ·have e:a=b:=by omega
   subst e;simp only [g6c,p8,true_and,false_or]
   by_cases h2:m<n
   ·simp [h2,Ordering.isLT]
   ·by_cases h3:n<m <;> simp [h2,h3,Ordering.isLT]
omit [Lam] [Pin] in
theorem lt_int{a b:Int}: ltT (.int a) (.int b)=decide (a<b):=by
 simp only [ltT,v9]
 by_cases h:a<b
 ·simp [h,Ordering.isLT]
 ·by_cases k:b<a <;> simp [h,k,Ordering.isLT]
section
variable{X:Cx}{pins:List (Addr×Obj)}{σ : St}{F H:Hp}{s:Shared}
theorem qkd{fn l:Addr}{op:List D->Option D}{ds es:List D}{Q:VK}(hu0:X.A.units+64<cLine)
  (hrun:∀(F' H':Hp) (s':Shared) (dv kd:D) (x:V) (v:Value),Inv X pins σ H' s'->Grow F H F' H'->Rep X.K F' dv x->L2.RelV x v->op [dv]=some kd->codeAny (model X.prog X.w) X.A.in1.in1 (.call (.ref fn) ⟨[v],[]⟩) (CR CX0 X.stack X.prog X.w H' s' (fun v H''=>∃F'',Grow F' H' F'' H''/\Rep X.K F'' kd v) E0) s')
  (I:Inv X pins σ H s) (fh:Same F H) (rl:Rep X.K F (.lst ds) (.ref l)) (ho:q4l op (.lst ds)=some es)
  (q:∀a ys F' H',Grow F H F' H'->F' a=none->H a=none->H' a=some (.lst ys)->RepL X.K F' es ys->Q (.ref a) H') :
  wpAny (model X.prog X.w) X.A (call (.builtin "sorted") [.ref l] [(Str.ofString "key",.ref fn)]) (EP X pins σ Q) X.xe s:=by
 unfold q4l at ho;dsimp only at ho;obtain⟨dks,hks,ho⟩:=g7.mp ho
 split at ho
 ·rename_i hok
  rw [gm,gm,gm] at hok;obtain⟨⟨⟨h1,h2⟩,h3⟩,h4⟩:=hok;cases ho;have at':=qiy h3;have mem:∀p∈dks.zip ds,∃(a:Int) (m:Nat),p=(.int a,.int (m:Int)):=fun p hp=>by
   obtain⟨i,hi,rfl⟩:=List.mem_iff_getElem.mp hp;rw [g19] at hi;rw [List.getElem_zip,at' i (by omega)];have:=n6.mp h2 (dks[i]'(by omega)) (by simp);cases e:dks[i]'(by omega) with
   | int a=>exact⟨a,_,rfl⟩
   | _=>rw [e] at this;cases this
  refine qkb true hu0 hrun I fh rl hks h1 (td h4) (ud.mpr fun i j hi hj hij=>?_) (fun T tp ts tr=>?_) q
  ·rw [at' i hi,at' j hj]
   show((0+i:Nat):Int).toNat<=((0+j:Nat):Int).toNat;omega
  ·have e:T.map qbh=q09 ((dks.zip ds).map qbh):=by
    refine qfk (tp.map _) ?_ ?_
    ·rw [mx]
     refine pd (fun {x y} hx hy h=>?_) (ts.and tr);obtain⟨a,m,rfl⟩:=mem x (tp.mem_iff.mp hx);obtain⟨b,n,rfl⟩:=mem y (tp.mem_iff.mp hy);obtain⟨k1,k2⟩:=h;have k2:ltT (.int a) (.int b)=false->(m:Int).toNat<=(n:Int).toNat:=k2;show ltT (.tup [.int b,.int n]) (.tup [.int a,.int m])=false;rw [lt_int] at k1 k2;rw [qiz];simp only [p7] at k1 k2 ⊢;omega
    ·intro x hx y hy k1 k2
     obtain⟨p,hp,rfl⟩:=md.mp hx;obtain⟨p',hp',rfl⟩:=md.mp hy;obtain⟨a,m,rfl⟩:=mem p hp;obtain⟨b,n,rfl⟩:=mem p' hp';have k1:ltT (.tup [.int a,.int m]) (.tup [.int b,.int n])=false:=k1;have k2:ltT (.tup [.int b,.int n]) (.tup [.int a,.int m])=false:=k2;rw [qiz] at k1 k2;simp only [p7] at k1 k2;have e1:a=b:=by omega
     have e2:m=n:=by omega
     rw [e1,e2]
   rw [<- e,mv]
   rfl
 ·cases ho
omit [Lam] [Pin] in
theorem qst{p:Str}{N':List Str}{scope:Scope}{cap:List (Option Nat)}(c:CapOk X N' scope cap)(h1:scope.isCoroutine=false)(h2:scope.isGenerator=false)(h3:scope.names.lookup p=some .local): CapL X p N' scope cap:=⟨c.kind,h1,h2,c.cell,c.frees,h3,c.len,c.cap⟩
def qbi(u:FE)(cap:List (Option Nat))(ρ : Rho): List D->Option D
 | [d]=>u (some (.fz d) :: kx cap ρ)
 | _=>none
def qbj(u:FE)(cap:List (Option Nat))(fa:FA): FA:=fun ρ =>(fa ρ).bind fun es=>match es with
 | [d]=>q4l (qbi u cap ρ) d
 | _=>none
theorem qn8{e:Expr}{p kp pos lpos:Pos}{params:Arguments}{body:Expr}{scope:Scope}{k k':Nat}{c P:Addr}{q x:Str}{N':List Str}{cap:List (Option Nat)}{u:FE}{fa:FA}(hcode:X.env.code=.ref c)(hd:codeHdIn X.K c P=true)(hP:(P,q)∈Lam.tab)
  (hU:∀p∈Lam.tab,p.1=P->p.2=q) (B:q3z X.mg X.base) (hr:Room k' X.A) (hgs:Gl X "sorted") (hms:X.mg "sorted" = none) (ha:PA X [e] (tDA X.K fa)) (co:CapL X x N' scope cap)
  (hb:∀(cl:List (Str×Addr)) (f c':Addr) (A:Around) (s:Shared) (H:Hp),Room k (A.deeper (q8f q scope s.heap.objs.size cl f (.ref c')))->PE (qec X A (x :: N') q scope cl f (.ref c') s H) body (tD X.K u))
  (hbd:∀(cl:List (Str×Addr)) (pm cdv ct:Value) (v:Value),bindArgs (kla_fn "<lambda>" q params body scope cl pm cdv ct) ⟨[v],[]⟩=pure [(x,v)]) (hk:k+3<=k')
  (hq:X.env.qual++"<lambda>" = q:=by rfl) (hdef:defaultsOf params X.env=([],[]):=by rfl) (he:backTo pos (starEach [e] X.env)=(false,eval e X.env) :: backTo pos (starEach [] X.env):=by rfl)
  (hpl:(backTo pos (starEach [e] X.env)).any (·.1)=false:=by rfl):PE X (.Call (.Name "sorted" p) [e] [⟨some "key",.Lambda params body scope lpos,kp⟩] pos) (tL X.K (qbj u cap fa)):=by
 intro pins s σ H Q I h;obtain⟨F0,H0,F, ρ,ds,r,hf,q'⟩:=h;obtain⟨es,h3,h2⟩:=g7.mp hf;obtain⟨cl,hcl,c1,c2⟩:=q6q (scope:=scope) (env:=X.env) fun y hy hf=>I.ok.has _ (co.frees y hy hf)
 split at h2
 ·rename_i d
  refine g0x (q37 I hgs hms boot_sorted ?_ (by decide) (by decide));refine callWith_kw (thn (ha pos pins s σ H (fun vs H1=>∃F1,Grow F H F1 H1/\RepL X.K F1 [d] vs) I ⟨F0,H0,F, ρ,[d],r,h3,fun vs F1 H1 g1 r1=>⟨F1,g1,r1⟩⟩) fun us s1 ⟨vs,H1,I1,rv,F1,g1,r1⟩=>?_) he hpl rfl rfl;refine kws_cons (qpl hcode hd hP hU hq B hdef hcl I1 (r.sameT g1) fun f c' φ ψ ct pm s2 H2 I2 g2 hf' hc' hφ hψ =>kws_nil ?_);obtain⟨z,rfl,rx⟩:=rep1 r1;obtain⟨v,rfl,ru⟩:=vals1 rv;cases d <;> simp only [q4l] at h2 <;> first|(cases h2;done)|skip
  rename_i ds';obtain⟨a,ys,rfl,_⟩:=rep_lst.mp rx;cases ru;have rm:Room (k+1) X.A.in1.in1:=((hr.mono hk).in1).in1;refine qkd (by have:=rm.units;have:X.A.in1.in1.units=X.A.units+2:=rfl;omega) (fun F' H' s' dv kd x' v' I' g' rx' rv' hk'=>?_) I2 g2.fh (rx.mono g2.ff) (by simp only [q4l];exact h2)
   fun a ys F3 H3 g3 k1 k2 k3 k4=>q' a ys F3 H3 (g1.trans (g2.trans g3)) k1 (g1.hh.free (g2.hh.free k2)) k3 k4
  exact qpm I' I'.ok.frames rm co c1 c2 (hφ _ (I'.hok f _ (g'.hh.ext _ _ hf')).1) (hψ _ (I'.hok c' _ (g'.hh.ext _ _ hc')).1) (hbd cl pm _ ct v') (hb cl f c' X.A.in1.in1 s' H') (r.grow (g1.trans (g2.trans g'))) rx' rv' hk'
 ·cases h2
end
end DL
namespace My
open PySem PySem.Spec PyProof.Rows L2 DL
local macro_rules | `(tactic| walk_at "A")=> `(tactic| ((refine qii (hs:=?hs) ?a ?_);(case hs=>exact q98 rfl)))
local macro_rules | `(tactic| walk_at "L")=> `(tactic| first|exact .inl rfl|exact .inr rfl|assumption)
local macro_rules | `(tactic| walk_at "a")=> `(tactic| (exact rfl;walk_at "L";refine(qk ?_ ?_)))
local macro_rules | `(tactic| walk_at "b")=> `(tactic| (exact rfl;exact(Or.inl rfl)))
local macro_rules | `(tactic| walk_at "c")=> `(tactic| (walk_at "A";exact(qa (pv 0));walk_at "A"))
local macro_rules | `(tactic| walk_at "d")=> `(tactic| (refine(qp ?_);refine(z5 ?_)))
local macro_rules | `(tactic| walk_at "e")=> `(tactic| (exact(qa (pv 0))))
local macro_rules | `(tactic| walk_at "f")=> `(tactic| (refine(za ?_);walk_at "A"))
local macro_rules | `(tactic| walk_at "g")=> `(tactic| (refine(qk ?_ ?_);refine(z7 (i:=2) ?_ ?_ ?_ ?_ ?_ ?_)))
local macro_rules | `(tactic| walk_at "h")=> `(tactic| (exact(qa (pv 1))))
local macro_rules | `(tactic| walk_at "i")=> `(tactic| (walk_at "A";refine(zf ?_ qd);walk_at "e";walk_at "A"))
local macro_rules | `(tactic| walk_at "j")=> `(tactic| (refine(jl ?_ (qp ?_) j8)))
local macro_rules | `(tactic| walk_at "k")=> `(tactic| (exact(qa (pv 2))))
local macro_rules | `(tactic| walk_at "l")=> `(tactic| (walk_at "A";walk_at "e";exact qe))
local macro_rules | `(tactic| walk_at "m")=> `(tactic| (exact rfl;walk_at "L";walk_at "d"))
local macro_rules | `(tactic| walk_at "n")=> `(tactic| (walk_at "h";exact qe))
local macro_rules | `(tactic| walk_at "o")=> `(tactic| (walk_at "A";refine(x9 ?_)))
local macro_rules | `(tactic| walk_at "p")=> `(tactic| (refine(z7 (i:=3) ?_ ?_ ?_ ?_ ?_ ?_)))
local macro_rules | `(tactic| walk_at "q")=> `(tactic| (walk_at "f";exact qd;walk_at "A"))
local macro_rules | `(tactic| walk_at "r")=> `(tactic| (refine(zf ?_ qd);walk_at "e"))
local macro_rules | `(tactic| walk_at "s")=> `(tactic| (refine(k7 ?_);refine(xa ?_)))
local macro_rules | `(tactic| walk_at "t")=> `(tactic| (walk_at "A";exact qd;walk_at "A"))
local macro_rules | `(tactic| walk_at "u")=> `(tactic| (walk_at "c";exact qd;exact qe))
local macro_rules | `(tactic| walk_at "v")=> `(tactic| (refine(qk ?_ ?_)))
local macro_rules | `(tactic| walk_at "w")=> `(tactic| (refine(ql j2 ?_ qd)))
local macro_rules | `(tactic| walk_at "x")=> `(tactic| (walk_at "A";walk_at "k";exact qe))
def top(i:Nat): Stmt:=PySem.Challenge.pw_oftentogether_k32_sayings_are_so.main.body.getD i (.Pass ⟨0,0,0,0⟩)
def qvp(i j:Nat): Stmt:=match top i with | .ClassDef _ _ _ body _ _ _ _ _ _ _=>body.getD j (.Pass ⟨0,0,0,0⟩)|x=>x
section
variable[Lam]{P:Program}{w:World}{K:Frag}{mg:Str->Option Value}{base:Heap}
abbrev q0v:Stmt:=top 39
noncomputable def q5m:List Str:=["_law_script","_law_k","_law_cell_here"]
theorem q01:(q5m).Nodup:=by decide +kernel
theorem qfv:FnScope q5m ["_law_script","_law_k"] (qh q0v):=⟨rfl,rfl,rfl,q01,rfl,by decide +kernel,by decide +kernel⟩
noncomputable def wk:FS:=(qz (zo 2 (eOp zh (eOp zv (eC (.int 7)) (eV 1)) (eC (.int 5)))) (qz (sIf (zb oGt (qi ye (qc (eV 0) qf)) (eC (.int 0))) (zo 2 (eOp zh (eOp zh (eOp oMod (eOp oIx (eV 0) (eOp oMod (eV 1) (qi ye (qc (eV 0) qf)))) (eC (.int 2147483587))) (eOp zv (eC (.int 11)) (eOp oDivB (eV 1) (qi ye (qc (eV 0) qf))))) (eC (.int 1)))) jw) (qz (zo 2 (eOp oMod (eOp zh (eOp zh (eOp zv (eV 2) (eOp zh (eC (.int 48271)) (eOp zv (eOp zv (eC (.int 2)) (eV 1)) (eV 1)))) (eOp zv (eV 1) (eC (.int 7919)))) (eC (.int 3))) (eC (.int 2147483629)))) (qz (zo 2 (eOp oMod (eOp zv (eV 2) (eV 2)) (eC (.int 2147483647)))) (zg (eOp oMod (eOp zv (eV 2) (eOp zh (eC (.int 69621)) (eV 1))) (eC (.int 2147483563))))))))
noncomputable def zk:List D->Option D:=zj 3 wk
theorem qfw{fa:Addr}{dV:Value}{fd:FuncData}(F:Fun2 K "_law_mixed" "_law_mixed" q0v dV fa fd)(n_len:mg "len" = none): FnOk P w K mg base CX0 1 fa fd ["_law_script","_law_k"] (spD K 2 zk):=
 F.okn (k:=0) (n:=3) (ar:=2) (k1:=1) (u:=wk) qfv rfl rfl rfl fun cdv A outer s H E hr=>by
 show PSs (zy CX0 P w K mg base q5m "_law_mixed" (qh q0v) fa cdv A outer s H E).nox (qw q0v) (tDS K wk);unfold wk;walk_at "g";exact q01;walk_at "b";refine(ql j3 ?_ qd);refine(ql jc qd ?_);walk_at "h";walk_at "a";walk_at "j";refine(zm qe6 ?_ qd);refine(j6 (yj) rfl n_len DL.jt ?_);walk_at "l";refine(z7 (i:=2) ?_ ?_ ?_ ?_ ?_ ?_);exact q01;walk_at "b";refine(ql j3 ?_ qd);refine(ql j3 ?_ ?_);walk_at "w";refine(zf ?_ ?_);walk_at "e";refine(ql j2 ?_ ?_);walk_at "h";refine(j6 (yj) rfl n_len DL.jt ?_);walk_at "l";refine(ql jc qd ?_);refine(ql q46 ?_ ?_);walk_at "h";refine(j6 (yj) rfl n_len DL.jt ?_);walk_at "l";walk_at "a";refine(z7 (i:=2) ?_ ?_ ?_ ?_ ?_ ?_);exact q01;walk_at "b";walk_at "w";refine(ql j3 ?_ qd);refine(ql j3 ?_ ?_);refine(ql jc ?_ ?_);walk_at "k";refine(ql j3 qd ?_);refine(ql jc ?_ ?_);refine(ql jc qd ?_);walk_at "h";walk_at "h";refine(ql jc ?_ qd);walk_at "h";walk_at "a";refine(z7 (i:=2) ?_ ?_ ?_ ?_ ?_ ?_);exact q01;walk_at "b";walk_at "w";refine(ql jc ?_ ?_);walk_at "k";walk_at "k";walk_at "m";walk_at "w";refine(ql jc ?_ ?_);walk_at "k";refine(ql j3 qd ?_);walk_at "h"
abbrev q1x:Stmt:=top 40
noncomputable def q77:List Str:=["_law_script","_law_k"]
theorem qhn:(q77).Nodup:=by decide +kernel
theorem qho:FnScope q77 ["_law_script","_law_k"] (qh q1x):=⟨rfl,rfl,rfl,qhn,rfl,by decide +kernel,by decide +kernel⟩
noncomputable def q0a:FS:=(qz (sIf (zb oLt' (eV 1) (qi ye (qc (eV 0) qf))) (zg (eOp oIx (eV 0) (eV 1))) jw) (zg (eC (.int 0))))
noncomputable def xl:List D->Option D:=zj 2 q0a
theorem qhp{fa:Addr}{dV:Value}{fd:FuncData}(F:Fun2 K "_law_cell" "_law_cell" q1x dV fa fd)(n_len:mg "len" = none): FnOk P w K mg base CX0 1 fa fd ["_law_script","_law_k"] (spD K 2 xl):=
 F.okn (k:=0) (n:=2) (ar:=2) (k1:=1) (u:=q0a) qho rfl rfl rfl fun cdv A outer s H E hr=>by
 show PSs (zy CX0 P w K mg base q77 "_law_cell" (qh q1x) fa cdv A outer s H E).nox (qw q1x) (tDS K q0a);unfold q0a;walk_at "v";walk_at "j";refine(zm qew ?_ ?_);walk_at "h";refine(j6 (yj) rfl n_len DL.jt ?_);walk_at "l";refine(z5 ?_);refine(zf ?_ ?_);walk_at "e";walk_at "h";refine(qp ?_);exact(z5 qd)
abbrev wb:Stmt:=top 41
noncomputable def q3s:List Str:=["_law_mark_here"]
theorem qcl:(q3s).Nodup:=by decide +kernel
theorem qcm:FnScope q3s ["_law_mark_here"] (qh wb):=⟨rfl,rfl,rfl,qcl,rfl,by decide +kernel,by decide +kernel⟩
theorem qaa:(["_law_ware","_law_mark_here"]:List Str).Nodup:=by decide +kernel
noncomputable def wd:FS:=(zg (qi vi (qc (eL (zp (iR1 (qc (eC (.int 12)) qf)) [none,some 0] (bN 0) (zb oEq (eOp oBand (eOp oShr (eV 1) (eV 0)) (eC (.int 1))) (eC (.int 1))) (eV 0))) qf)))
noncomputable def q1e:List D->Option D:=zj 1 wd
theorem qcn{fa:Addr}{dV:Value}{fd:FuncData}(F:Fun2 K "_law_of_mark" "_law_of_mark" wb dV fa fd)(n_tuple:mg "tuple" = none)(n_range:mg "range" = none): FnOk P w K mg base CX0 1 fa fd ["_law_mark_here"] (spD K 1 q1e):=
 F.okn (k:=0) (n:=1) (ar:=1) (k1:=1) (u:=wd) qcm rfl rfl rfl fun cdv A outer s H E hr=>by
 show PSs (zy CX0 P w K mg base q3s "_law_of_mark" (qh wb) fa cdv A outer s H E).nox (qw wb) (tDS K wd);unfold wd;walk_at "d";refine(jr (yt) rfl n_tuple DL.boot_tuple ?_);walk_at "o";refine(ja (N':=["_law_ware","_law_mark_here"]) (cap:=[none,some 0]) rfl (zu rfl rfl) (zw rfl) ?_ (fun _ _ _ _ _=>(zd qaa rfl (Or.inl rfl) (.inr rfl))) (fun _ _ _ _ _=>(q0t ?_)) (fun _ _ _ _ _=>?_));refine(q1o rfl n_range ?_);walk_at "A";exact qd;exact qe;refine(zm (yz hr.units) ?_ qd);refine(ql q45 ?_ qd);refine(ql qup ?_ ?_);walk_at "h";walk_at "e";walk_at "e";exact qe
abbrev q3e:Stmt:=top 42
noncomputable def q8g:List Str:=["_law_number","_law_wares","_law_great"]
theorem qke:(q8g).Nodup:=by decide +kernel
theorem qkf:FnScope q8g ["_law_number","_law_wares","_law_great"] (qh q3e):=⟨rfl,rfl,rfl,qke,rfl,by decide +kernel,by decide +kernel⟩
noncomputable def q3f:FS:=(zg (zc (qc (eOp zh (eC (.int 1)) (eOp oMod (eOp oDiv (eV 0) (eC (.int 4096))) (eV 2))) (qc (qi (qq 1 [] q1e) (qc (eOp oMod (eV 0) (eOp oShl (eC (.int 1)) (eV 1))) qf)) qf))))
noncomputable def q3g:List D->Option D:=zj 3 q3f
theorem qkg{fa:Addr}{dV:Value}{fd:FuncData}(F:Fun2 K "_law_run" "_law_run" q3e dV fa fd){eO:Addr}{bO:FuncData}(c_20:Cal P w K mg base "_law_of_mark" 1 ["_law_mark_here"] 1 q1e eO bO)(b_20:Binds K bO ["_law_mark_here"] []): FnOk P w K mg base CX0 2 fa fd ["_law_number","_law_wares","_law_great"] (spD K 3 q3g):=
 F.okn (k:=1) (n:=3) (ar:=3) (k1:=2) (u:=q3f) qkf rfl rfl rfl fun cdv A outer s H E hr=>by
 show PSs (zy CX0 P w K mg base q8g "_law_run" (qh q3e) fa cdv A outer s H E).nox (qw q3e) (tDS K q3f);unfold q3f;walk_at "d";walk_at "f";refine(ql j3 qd ?_);refine(ql j2 ?_ ?_);refine(ql q3a ?_ qd);walk_at "e";walk_at "k";walk_at "A";refine(z0 c_20 b_20 hr (by decide) rfl ?_);walk_at "A";refine(ql j2 ?_ ?_);walk_at "e";refine(ql q69 qd ?_);walk_at "n";exact qe
abbrev q1y:Stmt:=top 43
noncomputable def q78:List Str:=["_law_script","_law_wares","_law_most_runs","_law_great","_law_runs","_law_cell_here","_law_base","_law_k","_law_number"]
theorem vw:(q78).Nodup:=by decide +kernel
theorem qhq:FnScope q78 ["_law_script","_law_wares","_law_most_runs"] (qh q1y):=⟨rfl,rfl,rfl,vw,rfl,by decide +kernel,by decide +kernel⟩
noncomputable def we:FS:=(q4c 4 (qi (qq 3 [] q3g) (qc (eV 5) (qc (eV 1) (qc (eV 3) qf)))))
noncomputable def yg:FS:=(qz (zo 8 (qi (qq 2 [] zk) (qc (eV 0) (qc (eOp zh (eC (.int 10)) (eV 7)) qf)))) (qz (sIf (zb oEq (eOp oMod (eV 8) (eC (.int 3))) (eC (.int 0))) (zo 8 (eOp zh (eOp zv (eOp oDiv (eV 8) (eC (.int 4096))) (eC (.int 4096))) (eOp oMod (eOp oBor (eV 8) (eV 6)) (eC (.int 4096))))) jw) (q4c 4 (qi (qq 3 [] q3g) (qc (eV 8) (qc (eV 1) (qc (eV 3) qf)))))))
noncomputable def q0b:FS:=(qz (zo 3 (eOp oIx (eL (q1h (qc (eC (.int 1)) (qc (eC (.int 3)) (qc (eC (.int 9)) (qc (eOp oPow (eC (.int 10)) (eC (.int 12))) qf)))))) (eOp oMod (qi (qq 2 [] zk) (qc (eV 0) (qc (eC (.int 0)) qf))) (eC (.int 4))))) (qz (q1s 4 (q1h qf)) (qz (sIf (zb oEq (eOp oMod (qi (qq 2 [] xl) (qc (eV 0) (qc (eC (.int 0)) qf))) (eC (.int 2))) (eC (.int 0))) (q1t (jm (eSl (eV 0) (oAt (eC (.int 2))) (oAt (eOp zh (eC (.int 2)) (eV 2))))) (bN 5) we) (qz (zo 6 (eOp oMod (qi (qq 2 [] zk) (qc (eV 0) (qc (eC (.int 1)) qf))) (eOp oShl (eC (.int 1)) (eV 1)))) (q1t (iR1 (qc (eOp oMod (qi (qq 2 [] zk) (qc (eV 0) (qc (eC (.int 2)) qf))) (eOp zh (eV 2) (eC (.int 1)))) qf)) (bN 7) yg))) (wy 4 (zg (zc (qc (eV 1) (qc (qi vi (qc (eV 4) qf)) qf))))))))
noncomputable def q1z:List D->Option D:=zj 9 q0b
theorem qhr{fa:Addr}{dV:Value}{fd:FuncData}(F:Fun2 K "_law_pile" "_law_pile" q1y dV fa fd){ai:Addr}{ab:FuncData}(c_19:Cal P w K mg base "_law_mixed" 1 ["_law_script","_law_k"] 2 zk ai ab)(b_19:Binds K ab ["_law_script","_law_k"] []){aw:Addr}{ae:FuncData}(c_11:Cal P w K mg base "_law_cell" 1 ["_law_script","_law_k"] 2 xl aw ae)(b_11:Binds K ae ["_law_script","_law_k"] []){fZ:Addr}{d8:FuncData}(c_23:Cal P w K mg base "_law_run" 2 ["_law_number","_law_wares","_law_great"] 3 q3g fZ d8)(b_23:Binds K d8 ["_law_number","_law_wares","_law_great"] [])(n_range:mg "range" = none)(n_tuple:mg "tuple" = none): FnOk P w K mg base CX0 3 fa fd ["_law_script","_law_wares","_law_most_runs"] (spD K 3 q1z):=
 F.okn (k:=2) (n:=9) (ar:=3) (k1:=3) (u:=q0b) qhq rfl rfl rfl fun cdv A outer s H E hr=>by
 show PSs (zy CX0 P w K mg base q78 "_law_pile" (qh q1y) fa cdv A outer s H E).nox (qw q1y) (tDS K q0b);unfold q0b yg we;walk_at "v";walk_at "p";exact vw;walk_at "b";refine(zf ?_ ?_);refine(x9 ?_);refine(q0q ?_);walk_at "t";exact qd;walk_at "t";exact(ql q80 qd qd);exact qe;walk_at "w";refine(z0 c_19 b_19 hr (by decide) rfl ?_);walk_at "u";walk_at "a";exact(q84 (i:=4) vw rfl (Or.inl rfl) (q0q qe));walk_at "v";refine(jl ?_ (qp ?_) (qk ?_ ?_));refine(zm (yz hr.units) ?_ qd);walk_at "w";refine(z0 c_11 b_11 hr (by decide) rfl ?_);walk_at "u";refine(q0s tq rfl ?_ (zd vw rfl (Or.inl rfl) (.inl rfl)) (qp ?_));refine(j9 ?_);refine(q2k ?_ (q1i qd) (q1i ?_));walk_at "e";refine(ql j3 qd ?_);walk_at "k";refine(qau (pv 4) ?_);refine(z0 c_23 b_23 hr (by decide) rfl ?_);walk_at "A";exact(qa (pv 5));walk_at "A";walk_at "h";walk_at "A";exact(qa (pv 3));exact qe;refine(z7 (i:=6) ?_ ?_ ?_ ?_ ?_ ?_);exact vw;walk_at "b";refine(ql j2 ?_ ?_);refine(z0 c_19 b_19 hr (by decide) rfl ?_);walk_at "u";refine(ql q69 qd ?_);walk_at "h";exact rfl;walk_at "L";refine(qp ?_);refine(q0s tq rfl ?_ (zd vw rfl (Or.inl rfl) (.inl rfl)) (qk ?_ ?_));refine(q1o rfl n_range ?_);walk_at "A";refine(ql j2 ?_ ?_);refine(z0 c_19 b_19 hr (by decide) rfl ?_);walk_at "u";refine(ql j3 ?_ qd);walk_at "k";exact qe;refine(z7 (i:=8) ?_ ?_ ?_ ?_ ?_ ?_);exact vw;walk_at "b";refine(z0 c_19 b_19 hr (by decide) rfl ?_);walk_at "c";refine(ql j3 qd ?_);exact(qa (pv 7));exact qe;walk_at "a";walk_at "j";refine(zm (yz hr.units) ?_ qd);walk_at "w";exact(qa (pv 8));refine(z7 (i:=8) ?_ ?_ ?_ ?_ ?_ ?_);exact vw;walk_at "b";refine(ql j3 ?_ ?_);refine(ql jc ?_ qd);refine(ql q3a ?_ qd);exact(qa (pv 8));walk_at "w";refine(ql qmi ?_ ?_);exact(qa (pv 8));exact(qa (pv 6));exact rfl;walk_at "L";refine(qp ?_);refine(qau (pv 4) ?_);refine(z0 c_23 b_23 hr (by decide) rfl ?_);walk_at "A";exact(qa (pv 8));walk_at "A";walk_at "h";walk_at "A";exact(qa (pv 3));exact qe;refine(q0r 4 (qp ?_));refine(z5 ?_);walk_at "f";walk_at "h";walk_at "A";refine(jr (yt) rfl n_tuple DL.boot_tuple ?_);walk_at "A";exact(qa (pv 4));exact qe;exact qe
abbrev q0w:Stmt:=top 44
noncomputable def q5n:List Str:=["_law_pile_here"]
theorem qfx:(q5n).Nodup:=by decide +kernel
theorem qfy:FnScope q5n ["_law_pile_here"] (qh q0w):=⟨rfl,rfl,rfl,qfx,rfl,by decide +kernel,by decide +kernel⟩
theorem q6e:(["_law_many","_law_basket"]:List Str).Nodup:=by decide +kernel
theorem qco:(["_law_ware"]:List Str).Nodup:=by decide +kernel
noncomputable def q0x:FS:=(zg (eL (zp (jm (eOp oIx (eV 0) (eC (.int 1)))) [none,none] (q0j 2 (jy (bN 0) (jy (bN 1) q0i))) zr (zc (qc (eV 0) (qc (qi q6x (qc (eL (zp (jm (eV 1)) [none] (bN 0) zr (eOp oShl (eC (.int 1)) (eV 0)))) qf)) qf))))))
noncomputable def q2v:List D->Option D:=zj 1 q0x
theorem qfz{fa:Addr}{dV:Value}{fd:FuncData}(F:Fun2 K "_law_marks" "_law_marks" q0w dV fa fd)(n_sum:mg "sum" = none): FnOk P w K mg base CX0 1 fa fd ["_law_pile_here"] (spD K 1 q2v):=
 F.okn (k:=0) (n:=1) (ar:=1) (k1:=1) (u:=q0x) qfy rfl rfl rfl fun cdv A outer s H E hr=>by
 show PSs (zy CX0 P w K mg base q5n "_law_marks" (qh q0w) fa cdv A outer s H E).nox (qw q0w) (tDS K q0x);unfold q0x;walk_at "d";refine(x9 ?_);refine(ja (N':=["_law_many","_law_basket"]) (cap:=[none,none]) rfl (zu rfl rfl) (q3d (xi rfl (xi rfl q1u))) ?_ (fun _ _ _ _ _=>(q6b rfl (yf (zd q6e rfl (Or.inl rfl) (.inr rfl)) (yf (zd q6e rfl (Or.inl rfl) (.inr rfl)) q6a)))) (fun _ _ _ _ _=>vh) (fun _ _ _ _ _=>?_));refine(j9 ?_);walk_at "r";refine(za ?_);walk_at "c";refine(j6 (qb0 rfl) rfl n_sum DL.boot_sum ?_);walk_at "o";refine(ja (N':=["_law_ware"]) (cap:=[none]) rfl (zu rfl rfl) (zw rfl) ?_ (fun _ _ _ _ _=>(zd qco rfl (Or.inl rfl) (.inr rfl))) (fun _ _ _ _ _=>vh) (fun _ _ _ _ _=>?_));refine(j9 ?_);walk_at "h";refine(ql q69 qd ?_);walk_at "e";exact qe;exact qe
abbrev q02:Stmt:=top 45
noncomputable def q4m:List Str:=["_law_pile_here","_law_marks_here","_law_found","_law_mark_here"]
theorem q1f:(q4m).Nodup:=by decide +kernel
theorem qdz:FnScope q4m ["_law_pile_here"] (qh q02):=⟨rfl,rfl,rfl,q1f,rfl,by decide +kernel,by decide +kernel⟩
theorem q57:(["_law_many","_law_own","_law_mark_here"]:List Str).Nodup:=by decide +kernel
noncomputable def wu:FS:=(q4c 2 (qi q6x (qc (eL (zp (jm (eV 1)) [none,none,some 3] (q0j 2 (jy (bN 0) (jy (bN 1) q0i))) (zb oEq (eOp oBand (eV 1) (eV 2)) (eV 2)) (eV 0))) qf)))
noncomputable def q20:FS:=(qz (zo 1 (qi (qq 1 [] q2v) (qc (eV 0) qf))) (qz (q1s 2 (q1h qf)) (qz (q1t (iR1 (qc (eOp oShl (eC (.int 1)) (eOp oIx (eV 0) (eC (.int 0)))) qf)) (bN 3) wu) (wy 2 (zg (eV 2))))))
noncomputable def q21:List D->Option D:=zj 4 q20
theorem qe0{fa:Addr}{dV:Value}{fd:FuncData}(F:Fun2 K "_law_counts" "_law_counts" q02 dV fa fd){fD:Addr}{cI:FuncData}(c_18:Cal P w K mg base "_law_marks" 1 ["_law_pile_here"] 1 q2v fD cI)(b_18:Binds K cI ["_law_pile_here"] [])(n_range:mg "range" = none)(n_sum:mg "sum" = none): FnOk P w K mg base CX0 2 fa fd ["_law_pile_here"] (spD K 1 q21):=
 F.okn (k:=1) (n:=4) (ar:=1) (k1:=2) (u:=q20) qdz rfl rfl rfl fun cdv A outer s H E hr=>by
 show PSs (zy CX0 P w K mg base q4m "_law_counts" (qh q02) fa cdv A outer s H E).nox (qw q02) (tDS K q20);unfold q20 wu;walk_at "v";refine(z7 (i:=1) ?_ ?_ ?_ ?_ ?_ ?_);exact q1f;walk_at "b";refine(z0 c_18 b_18 hr (by decide) rfl ?_);walk_at "l";walk_at "a";exact(q84 (i:=2) q1f rfl (Or.inl rfl) (q0q qe));walk_at "v";refine(q0s tq rfl ?_ (zd q1f rfl (Or.inr rfl) (.inl rfl)) (qp ?_));refine(q1o rfl n_range ?_);walk_at "A";refine(ql q69 qd ?_);walk_at "r";exact qe;refine(qau (pv 2) ?_);refine(j6 (qb0 rfl) rfl n_sum DL.boot_sum ?_);walk_at "o";refine(ja (N':=["_law_many","_law_own","_law_mark_here"]) (cap:=[none,none,some 3]) rfl (zu rfl rfl) (q3d (xi rfl (xi rfl q1u))) ?_ (fun _ _ _ _ _=>(q6b rfl (yf (zd q57 rfl (Or.inl rfl) (.inr rfl)) (yf (zd q57 rfl (Or.inl rfl) (.inr rfl)) q6a)))) (fun _ _ _ _ _=>(q0t ?_)) (fun _ _ _ _ _=>?_));refine(j9 ?_);walk_at "h";refine(zm (yz hr.units) ?_ ?_);refine(ql q45 ?_ ?_);walk_at "h";walk_at "k";walk_at "k";walk_at "e";exact qe;refine(q0r 2 (qp ?_));refine(z5 ?_);walk_at "k"
abbrev q0y:Stmt:=top 46
noncomputable def q5o:List Str:=["_law_script","_law_counts_here","_law_number","_law_least_here"]
theorem q4n:(q5o).Nodup:=by decide +kernel
theorem qg0:FnScope q5o ["_law_script","_law_counts_here"] (qh q0y):=⟨rfl,rfl,rfl,q4n,rfl,by decide +kernel,by decide +kernel⟩
noncomputable def xx:FS:=(qz (zo 2 (qi (qq 2 [] xl) (qc (eV 0) (qc (eC (.int 1)) qf)))) (qz (sIf (zb oLt' (eOp oMod (eV 2) (eC (.int 5))) (eC (.int 2))) (zg (eOp zh (eC (.int 1)) (eOp oMod (eOp oDiv (eV 2) (eC (.int 5))) (eOp oIx (eL (q1h (qc (eC (.int 10)) (qc (eOp oPow (eC (.int 10)) (eC (.int 15))) qf)))) (eOp oMod (eV 2) (eC (.int 5))))))) jw) (qz (zo 3 (eOp zh (eOp oIx (eV 1) (eOp oMod (eOp oDiv (eV 2) (eC (.int 5))) (qi ye (qc (eV 1) qf)))) (eOp oIx (eL (q1h (qc (eC (.int 0)) (qc (eC (.int 1)) (qc (eUn q5j (eC (.int 1))) qf))))) (eOp oSub (eOp oMod (eV 2) (eC (.int 5))) (eC (.int 2)))))) (zg (qi oMax (qc (eC (.int 1)) (qc (eV 3) qf)))))))
noncomputable def xy:List D->Option D:=zj 4 xx
theorem qg1{fa:Addr}{dV:Value}{fd:FuncData}(F:Fun2 K "_law_least" "_law_least" q0y dV fa fd){aw:Addr}{ae:FuncData}(c_11:Cal P w K mg base "_law_cell" 1 ["_law_script","_law_k"] 2 xl aw ae)(b_11:Binds K ae ["_law_script","_law_k"] [])(n_max:mg "max" = none)(n_len:mg "len" = none): FnOk P w K mg base CX0 2 fa fd ["_law_script","_law_counts_here"] (spD K 2 xy):=
 F.okn (k:=1) (n:=4) (ar:=2) (k1:=2) (u:=xx) qg0 rfl rfl rfl fun cdv A outer s H E hr=>by
 show PSs (zy CX0 P w K mg base q5o "_law_least" (qh q0y) fa cdv A outer s H E).nox (qw q0y) (tDS K xx);unfold xx;walk_at "g";exact q4n;walk_at "b";refine(z0 c_11 b_11 hr (by decide) rfl ?_);walk_at "u";walk_at "a";walk_at "j";refine(zm qew ?_ qd);walk_at "w";walk_at "k";refine(z5 ?_);refine(ql j3 qd ?_);refine(ql j2 ?_ ?_);refine(ql q3a ?_ qd);walk_at "k";refine(zf ?_ ?_);refine(x9 ?_);refine(q0q ?_);walk_at "t";exact(ql q80 qd qd);exact qe;walk_at "w";walk_at "k";walk_at "v";walk_at "p";exact q4n;walk_at "b";refine(ql j3 ?_ ?_);refine(zf ?_ ?_);walk_at "h";refine(ql j2 ?_ ?_);refine(ql q3a ?_ qd);walk_at "k";refine(j6 (yj) rfl n_len DL.jt ?_);walk_at "A";walk_at "n";refine(zf ?_ ?_);refine(x9 ?_);refine(q0q ?_);walk_at "t";exact qd;walk_at "A";exact(q88 qd);exact qe;refine(ql qm6 ?_ qd);walk_at "w";walk_at "k";walk_at "m";refine(j6 (quy rfl) rfl n_max DL.boot_max ?_);walk_at "t";exact(qa (pv 3));exact qe
abbrev q0z:Stmt:=top 50
noncomputable def q5p:List Str:=["_law_script","_law_counts_here","_law_number","_law_far","_law_both","_law_whom"]
theorem q03:(q5p).Nodup:=by decide +kernel
theorem qg2:FnScope q5p ["_law_script","_law_counts_here"] (qh q0z):=⟨rfl,rfl,rfl,q03,rfl,by decide +kernel,by decide +kernel⟩
noncomputable def q10:FS:=(qz (zo 2 (qi (qq 2 [] xl) (qc (eV 0) (qc (eC (.int 2)) qf)))) (qz (zo 3 (eOp oDiv (eV 2) (eC (.int 5)))) (qz (sIf (zb oEq (eOp oMod (eV 2) (eC (.int 5))) (eC (.int 0))) (zg (zc (qc (eOp oMod (eV 3) (eC (.int 11))) (qc (eOp zh (eC (.int 1)) (eOp oMod (eOp oDiv (eV 3) (eC (.int 11))) (eC (.int 10)))) qf)))) jw) (qz (sIf (zb oEq (eOp oMod (eV 2) (eC (.int 5))) (eC (.int 1))) (zg (zc (qc (eOp oMod (eV 3) (eOp oPow (eC (.int 10)) (eC (.int 15)))) (qc (eOp zh (eC (.int 1)) (eOp oMod (eOp oDivB (eV 3) (eOp oPow (eC (.int 10)) (eC (.int 15)))) (eOp oPow (eC (.int 10)) (eC (.int 15))))) qf)))) jw) (qz (sIf (zb oEq (eOp oMod (eV 2) (eC (.int 5))) (eC (.int 4))) (zg (eC .non)) jw) (qz (zo 4 (eOp oMod (eV 3) (qi ye (qc (eV 1) qf)))) (qz (zo 5 (eOp oBand (eV 4) (eOp oDiv (eV 3) (eC (.int 4096))))) (qz (sIf (zb oEq (eOp oIx (eV 1) (eV 5)) (eC (.int 0))) (zg (zc (qc (eC (.int 1)) (qc (eC (.int 3)) qf)))) jw) (zg (zc (qc (eOp oSub (eOp zh (eOp zv (eC (.int 3)) (eOp oIx (eV 1) (eV 4))) (eOp oMod (eV 2) (eC (.int 5)))) (eC (.int 2))) (qc (eOp zv (eC (.int 3)) (eOp oIx (eV 1) (eV 5))) qf))))))))))))
noncomputable def q2w:List D->Option D:=zj 6 q10
theorem qg3{fa:Addr}{dV:Value}{fd:FuncData}(F:Fun2 K "_law_bound" "_law_bound" q0z dV fa fd){aw:Addr}{ae:FuncData}(c_11:Cal P w K mg base "_law_cell" 1 ["_law_script","_law_k"] 2 xl aw ae)(b_11:Binds K ae ["_law_script","_law_k"] [])(n_len:mg "len" = none): FnOk P w K mg base CX0 2 fa fd ["_law_script","_law_counts_here"] (spD K 2 q2w):=
 F.okn (k:=1) (n:=6) (ar:=2) (k1:=2) (u:=q10) qg2 rfl rfl rfl fun cdv A outer s H E hr=>by
 show PSs (zy CX0 P w K mg base q5p "_law_bound" (qh q0z) fa cdv A outer s H E).nox (qw q0z) (tDS K q10);unfold q10;walk_at "g";exact q03;walk_at "b";refine(z0 c_11 b_11 hr (by decide) rfl ?_);walk_at "u";walk_at "a";walk_at "p";exact q03;walk_at "b";refine(ql q3a ?_ qd);walk_at "k";walk_at "a";walk_at "j";refine(zm (yz hr.units) ?_ qd);walk_at "w";walk_at "k";refine(z5 ?_);walk_at "f";walk_at "w";exact(qa (pv 3));walk_at "A";refine(ql j3 qd ?_);walk_at "w";refine(ql q3a ?_ qd);exact(qa (pv 3));exact qe;walk_at "v";walk_at "j";refine(zm (yz hr.units) ?_ qd);walk_at "w";walk_at "k";refine(z5 ?_);walk_at "f";refine(ql j2 ?_ ?_);exact(qa (pv 3));exact(ql q80 qd qd);walk_at "A";refine(ql j3 qd ?_);refine(ql j2 ?_ ?_);refine(ql q46 ?_ ?_);exact(qa (pv 3));exact(ql q80 qd qd);exact(ql q80 qd qd);exact qe;walk_at "v";walk_at "j";refine(zm (yz hr.units) ?_ qd);walk_at "w";walk_at "k";exact(z5 q39);walk_at "v";refine(z7 (i:=4) ?_ ?_ ?_ ?_ ?_ ?_);exact q03;walk_at "b";refine(ql j2 ?_ ?_);exact(qa (pv 3));refine(j6 (yj) rfl n_len DL.jt ?_);walk_at "A";walk_at "n";walk_at "a";refine(z7 (i:=5) ?_ ?_ ?_ ?_ ?_ ?_);exact q03;walk_at "b";refine(ql q45 ?_ ?_);exact(qa (pv 4));refine(ql q3a ?_ qd);exact(qa (pv 3));walk_at "a";walk_at "j";refine(zm (yz hr.units) ?_ qd);refine(zf ?_ ?_);walk_at "h";exact(qa (pv 5));refine(z5 ?_);walk_at "q";exact qd;exact qe;walk_at "d";walk_at "f";refine(ql qm6 ?_ qd);refine(ql j3 ?_ ?_);refine(ql jc qd ?_);refine(zf ?_ ?_);walk_at "h";exact(qa (pv 4));walk_at "w";walk_at "k";walk_at "A";refine(ql jc qd ?_);refine(zf ?_ ?_);walk_at "h";exact(qa (pv 5));exact qe
abbrev va:Stmt:=top 25
noncomputable def q04:List Str:=["one","other","rest"]
theorem ya:(q04).Nodup:=by decide +kernel
theorem q7s:FnScope q04 ["one","other"] (qh va):=⟨rfl,rfl,rfl,ya,rfl,by decide +kernel,by decide +kernel⟩
noncomputable def xc:FS:=(qz (zo 2 (eOp oMod (eV 0) (eV 1))) (qz (zo 0 (eV 1)) (zo 1 (eV 2))))
noncomputable def vb:FS:=(qz (jk (bT (eV 1)) xc 100000) (zg (eV 0)))
noncomputable def yl:List D->Option D:=zj 3 vb
theorem q7t{fa:Addr}{dV:Value}{fd:FuncData}(F:Fun2 K "greatest_divisor" "greatest_divisor" va dV fa fd): FnOk P w K mg base CX0 1 fa fd ["one","other"] (spD K 2 yl):=
 F.okn (k:=0) (n:=3) (ar:=2) (k1:=1) (u:=vb) q7s rfl rfl rfl fun cdv A outer s H E hr=>by
 show PSs (zy CX0 P w K mg base q04 "greatest_divisor" (qh va) fa cdv A outer s H E).nox (qw va) (tDS K vb);unfold vb xc;walk_at "v";refine(qa2 100000 tq ?_ (qk ?_ ?_));refine(xa ?_);walk_at "h";refine(z7 (i:=2) ?_ ?_ ?_ ?_ ?_ ?_);exact ya;walk_at "b";refine(ql j2 ?_ ?_);walk_at "e";walk_at "h";walk_at "a";refine(z7 (i:=0) ?_ ?_ ?_ ?_ ?_ ?_);exact ya;walk_at "b";walk_at "h";exact rfl;walk_at "L";refine(qp ?_);refine(z7 (i:=1) ?_ ?_ ?_ ?_ ?_ ?_);exact ya;walk_at "b";walk_at "k";walk_at "m";walk_at "e"
abbrev q11:Stmt:=top 5
noncomputable def q5q:List Str:=["thing"]
theorem qg4:(q5q).Nodup:=by decide +kernel
theorem qg5:FnScope q5q ["thing"] (qh q11):=⟨rfl,rfl,rfl,qg4,rfl,by decide +kernel,by decide +kernel⟩
noncomputable def q12:FS:=(zg (q6u (q0k .int (eV 0)) (q6u (qc2 (q0k .bool (eV 0))) (eOp oGe (eV 0) (eC (.int 0))))))
noncomputable def q13:List D->Option D:=zj 1 q12
theorem qg6{fa:Addr}{dV:Value}{fd:FuncData}(F:Fun2 K "is_number" "is_number" q11 dV fa fd)(n_isinstance:mg "isinstance" = none)(n_int:mg "int" = none)(n_bool:mg "bool" = none): FnOk P w K mg base CX0 1 fa fd ["thing"] (spD K 1 q13):=
 F.okn (k:=0) (n:=1) (ar:=1) (k1:=1) (u:=q12) qg5 rfl rfl rfl fun cdv A outer s H E hr=>by
 show PSs (zy CX0 P w K mg base q5q "is_number" (qh q11) fa cdv A outer s H E).nox (qw q11) (tDS K q12);unfold q12;refine(qp ?_);refine(z5 ?_);refine(q83 ?_ (q83 ?_ (qer ?_)));refine(wa .int rfl n_isinstance rfl n_int DL.boot_int ?_);exact(qa (pv 0));refine(qm8 ?_);refine(wa .bool rfl n_isinstance rfl n_bool DL.boot_bool ?_);exact(qa (pv 0));refine(q3c q51 ?_ qd);exact(qa (pv 0))
abbrev q6f:Stmt:=top 26
noncomputable def qcp:List Str:=["top","bottom","divisor"]
theorem qg7:(qcp).Nodup:=by decide +kernel
theorem qpn:FnScope qcp ["top","bottom"] (qh q6f):=⟨rfl,rfl,rfl,qg7,rfl,by decide +kernel,by decide +kernel⟩
noncomputable def q6g:FS:=(qz (sIf (bOr (wx (bT (qi (qq 1 [] q13) (qc (eV 0) qf)))) (bOr (wx (bT (qi (qq 1 [] q13) (qc (eV 1) qf)))) (zb oEq (eV 1) (eC (.int 0))))) qb3 jw) (qz (zo 2 (qi (qq 2 [] yl) (qc (eV 0) (qc (eV 1) qf)))) (zg (zc (qc (eOp oDivB (eV 0) (eV 2)) (qc (eOp oDivB (eV 1) (eV 2)) qf))))))
noncomputable def q2n:List D->Option D:=zj 3 q6g
theorem qpo{fa:Addr}{dV:Value}{fd:FuncData}(F:Fun2 K "share" "share" q6f dV fa fd){dn:Addr}{ah:FuncData}(c_6:Cal P w K mg base "greatest_divisor" 1 ["one","other"] 2 yl dn ah)(b_6:Binds K ah ["one","other"] []){fS:Addr}{aY:FuncData}(c_8:Cal P w K mg base "is_number" 1 ["thing"] 1 q13 fS aY)(b_8:Binds K aY ["thing"] []): FnOk P w K mg base CX0 2 fa fd ["top","bottom"] (spD K 2 q2n):=
 F.okn (k:=1) (n:=3) (ar:=2) (k1:=2) (u:=q6g) qpn rfl rfl rfl fun cdv A outer s H E hr=>by
 show PSs (zy CX0 P w K mg base qcp "share" (qh q6f) fa cdv A outer s H E).nox (qw q6f) (tDS K q6g);unfold q6g;walk_at "v";refine(jl ?_ (qp qa5) j8);refine(PW.pt (yy ?_ (yy ?_ (q0p ?_))));walk_at "s";refine(z0 c_8 b_8 hr (by decide) rfl ?_);walk_at "l";walk_at "s";refine(z0 c_8 b_8 hr (by decide) rfl ?_);walk_at "A";walk_at "n";refine(zm (yz hr.units) ?_ qd);walk_at "h";walk_at "g";exact qg7;walk_at "b";refine(z0 c_6 b_6 hr (by decide) rfl ?_);walk_at "c";walk_at "n";walk_at "m";walk_at "f";refine(ql q46 ?_ ?_);walk_at "e";walk_at "k";walk_at "A";refine(ql q46 ?_ ?_);walk_at "h";walk_at "k";exact qe
abbrev q22:Stmt:=top 31
noncomputable def q79:List Str:=["thing"]
theorem qhs:(q79).Nodup:=by decide +kernel
theorem qht:FnScope q79 ["thing"] (qh q22):=⟨rfl,rfl,rfl,qhs,rfl,by decide +kernel,by decide +kernel⟩
noncomputable def q40:FS:=(qz (sIf (zb (oIs false) (eV 0) (eC .non)) (zg (zc (qc (eC (.int 1)) (qc (eC (.int 2)) qf)))) jw) (qz (sIf (bOr (wx (bT (q0k .tuple (eV 0)))) (zb q1r (qi ye (qc (eV 0) qf)) (eC (.int 2)))) qb3 jw) (zg (qi (qq 2 [] q2n) (qc (eOp oIx (eV 0) (eC (.int 0))) (qc (eOp oIx (eV 0) (eC (.int 1))) qf))))))
noncomputable def q41:List D->Option D:=zj 1 q40
theorem qhu{fa:Addr}{dV:Value}{fd:FuncData}(F:Fun2 K "bound_of" "bound_of" q22 dV fa fd){fA:Addr}{a8:FuncData}(c_39:Cal P w K mg base "share" 2 ["top","bottom"] 2 q2n fA a8)(b_39:Binds K a8 ["top","bottom"] [])(n_isinstance:mg "isinstance" = none)(n_tuple:mg "tuple" = none)(n_len:mg "len" = none): FnOk P w K mg base CX0 3 fa fd ["thing"] (spD K 1 q41):=
 F.okn (k:=2) (n:=1) (ar:=1) (k1:=3) (u:=q40) qht rfl rfl rfl fun cdv A outer s H E hr=>by
 show PSs (zy CX0 P w K mg base q79 "bound_of" (qh q22) fa cdv A outer s H E).nox (qw q22) (tDS K q40);unfold q40;walk_at "v";walk_at "j";refine(zm (qb2 rfl) ?_ q39);walk_at "e";refine(z5 ?_);walk_at "q";exact qd;exact qe;walk_at "v";refine(jl ?_ (qp qa5) j8);refine(PW.pt (yy ?_ (q0p ?_)));walk_at "s";refine(wa .tuple rfl n_isinstance rfl n_tuple DL.boot_tuple ?_);walk_at "e";refine(zm q3b ?_ qd);refine(j6 (yj) rfl n_len DL.jt ?_);walk_at "l";walk_at "d";refine(z0 c_39 b_39 hr (by decide) rfl ?_);walk_at "i";walk_at "r";exact qe
abbrev q23:Stmt:=top 19
noncomputable def q7a:List Str:=["pairs","least"]
theorem qhv:(q7a).Nodup:=by decide +kernel
theorem qhw:FnScope q7a ["pairs","least"] (qh q23):=⟨rfl,rfl,rfl,qhv,rfl,by decide +kernel,by decide +kernel⟩
theorem qe1:(["pair","least"]:List Str).Nodup:=by decide +kernel
noncomputable def q0c:FS:=(zg (qi vi (qc (eL (zp (jm (eV 0)) [none,some 1] (bN 0) (zb oGe (eOp oIx (eV 0) (eC (.int 1))) (eV 1)) (eV 0))) qf)))
noncomputable def ky:List D->Option D:=zj 2 q0c
theorem qhx{fa:Addr}{dV:Value}{fd:FuncData}(F:Fun2 K "at_least" "at_least" q23 dV fa fd)(n_tuple:mg "tuple" = none): FnOk P w K mg base CX0 1 fa fd ["pairs","least"] (spD K 2 ky):=
 F.okn (k:=0) (n:=2) (ar:=2) (k1:=1) (u:=q0c) qhw rfl rfl rfl fun cdv A outer s H E hr=>by
 show PSs (zy CX0 P w K mg base q7a "at_least" (qh q23) fa cdv A outer s H E).nox (qw q23) (tDS K q0c);unfold q0c;walk_at "d";refine(jr (yt) rfl n_tuple DL.boot_tuple ?_);walk_at "o";refine(ja (N':=["pair","least"]) (cap:=[none,some 1]) rfl (zu rfl rfl) (zw rfl) ?_ (fun _ _ _ _ _=>(zd qe1 rfl (Or.inl rfl) (.inr rfl))) (fun _ _ _ _ _=>(q0t ?_)) (fun _ _ _ _ _=>?_));refine(j9 ?_);walk_at "e";refine(zm q51 ?_ ?_);walk_at "r";walk_at "h";walk_at "e";exact qe
abbrev q3h:Stmt:=top 7
noncomputable def q8h:List Str:=["some"]
theorem qkh:(q8h).Nodup:=by decide +kernel
theorem qki:FnScope q8h ["some"] (qh q3h):=⟨rfl,rfl,rfl,qkh,rfl,by decide +kernel,by decide +kernel⟩
theorem qg8:(["ware"]:List Str).Nodup:=by decide +kernel
noncomputable def q3i:FS:=(zg (qi q6x (qc (eL (zp (jm (eV 0)) [none] (bN 0) zr (eOp oShl (eC (.int 1)) (eV 0)))) qf)))
noncomputable def ko:List D->Option D:=zj 1 q3i
theorem qkj{fa:Addr}{dV:Value}{fd:FuncData}(F:Fun2 K "mark_of" "mark_of" q3h dV fa fd)(n_sum:mg "sum" = none): FnOk P w K mg base CX0 1 fa fd ["some"] (spD K 1 ko):=
 F.okn (k:=0) (n:=1) (ar:=1) (k1:=1) (u:=q3i) qki rfl rfl rfl fun cdv A outer s H E hr=>by
 show PSs (zy CX0 P w K mg base q8h "mark_of" (qh q3h) fa cdv A outer s H E).nox (qw q3h) (tDS K q3i);unfold q3i;walk_at "d";refine(j6 (qb0 rfl) rfl n_sum DL.boot_sum ?_);walk_at "o";refine(ja (N':=["ware"]) (cap:=[none]) rfl (zu rfl rfl) (zw rfl) ?_ (fun _ _ _ _ _=>(zd qg8 rfl (Or.inl rfl) (.inr rfl))) (fun _ _ _ _ _=>vh) (fun _ _ _ _ _=>?_));refine(j9 ?_);walk_at "e";refine(ql q69 qd ?_);walk_at "e";exact qe
abbrev q4o:Stmt:=top 16
noncomputable def qab:List Str:=["pile"]
theorem qn9:(qab).Nodup:=by decide +kernel
theorem qna:FnScope qab ["pile"] (qh q4o):=⟨rfl,rfl,rfl,qn9,rfl,by decide +kernel,by decide +kernel⟩
theorem q9v:(["many","basket"]:List Str).Nodup:=by decide +kernel
noncomputable def q4p:FS:=(zg (eL (zp (jm (eOp oIx (eV 0) (eC (.int 1)))) [none,none] (q0j 2 (jy (bN 0) (jy (bN 1) q0i))) zr (zc (qc (eV 0) (qc (qi (qq 1 [] ko) (qc (eV 1) qf)) qf))))))
noncomputable def q7b:List D->Option D:=zj 1 q4p
theorem qnb{fa:Addr}{dV:Value}{fd:FuncData}(F:Fun2 K "marked" "marked" q4o dV fa fd){dY:Addr}{aI:FuncData}(c_29:Cal P w K mg base "mark_of" 1 ["some"] 1 ko dY aI)(b_29:Binds K aI ["some"] []): FnOk P w K mg base CX0 2 fa fd ["pile"] (spD K 1 q7b):=
 F.okn (k:=1) (n:=1) (ar:=1) (k1:=2) (u:=q4p) qna rfl rfl rfl fun cdv A outer s H E hr=>by
 show PSs (zy CX0 P w K mg base qab "marked" (qh q4o) fa cdv A outer s H E).nox (qw q4o) (tDS K q4p);unfold q4p;walk_at "d";refine(x9 ?_);refine(ja (N':=["many","basket"]) (cap:=[none,none]) rfl (zu rfl rfl) (q3d (xi rfl (xi rfl q1u))) ?_ (fun _ _ _ _ _=>(q6b rfl (yf (zd q9v rfl (Or.inl rfl) (.inr rfl)) (yf (zd q9v rfl (Or.inl rfl) (.inr rfl)) q6a)))) (fun _ _ _ _ _=>vh) (fun _ _ _ _ _=>?_));refine(j9 ?_);walk_at "r";refine(za ?_);walk_at "c";refine(z0 c_29 b_29 hr (by decide) rfl ?_);walk_at "A";walk_at "n";exact qe
abbrev ym:Stmt:=top 13
noncomputable def q24:List Str:=["some","wares","first"]
theorem q4q:(q24).Nodup:=by decide +kernel
theorem qac:FnScope q24 ["some","wares"] (qh ym):=⟨rfl,rfl,rfl,q4q,rfl,by decide +kernel,by decide +kernel⟩
theorem q8i:(["ware","some"]:List Str).Nodup:=by decide +kernel
noncomputable def vc:FS:=(qz (zo 2 (eIf (bT (eV 0)) (eOp zh (eOp oIx (eV 0) (eUn q5j (eC (.int 1)))) (eC (.int 1))) (eC (.int 0)))) (zg (eL (zp (iR2 (qc (eV 2) (qc (eV 1) qf))) [none,some 0] (bN 0) zr (eOp zh (eV 1) (zc (qc (eV 0) qf)))))))
noncomputable def yn:List D->Option D:=zj 3 vc
theorem qad{fa:Addr}{dV:Value}{fd:FuncData}(F:Fun2 K "one_ware_more" "one_ware_more" ym dV fa fd)(n_range:mg "range" = none): FnOk P w K mg base CX0 1 fa fd ["some","wares"] (spD K 2 yn):=
 F.okn (k:=0) (n:=3) (ar:=2) (k1:=1) (u:=vc) qac rfl rfl rfl fun cdv A outer s H E hr=>by
 show PSs (zy CX0 P w K mg base q24 "one_ware_more" (qh ym) fa cdv A outer s H E).nox (qw ym) (tDS K vc);unfold vc;walk_at "g";exact q4q;walk_at "b";refine(qwz ?_ ?_ qd);refine(xa ?_);walk_at "e";refine(ql j3 ?_ qd);refine(zf ?_ ?_);walk_at "e";exact(q88 qd);walk_at "m";refine(x9 ?_);refine(ja (N':=["ware","some"]) (cap:=[none,some 0]) rfl (zu rfl rfl) (zw rfl) ?_ (fun _ _ _ _ _=>(zd q8i rfl (Or.inl rfl) (.inr rfl))) (fun _ _ _ _ _=>vh) (fun _ _ _ _ _=>?_));refine(qmc rfl n_range ?_);walk_at "A";walk_at "k";walk_at "A";walk_at "n";refine(ql j3 ?_ ?_);walk_at "h";walk_at "f";walk_at "e";exact qe
abbrev vz:Stmt:=top 14
noncomputable def q1j:List Str:=["some"]
theorem q9m:(q1j).Nodup:=by decide +kernel
theorem q9n:FnScope q1j ["some"] (qh vz):=⟨rfl,rfl,rfl,q9m,rfl,by decide +kernel,by decide +kernel⟩
theorem q7u:(["place","some"]:List Str).Nodup:=by decide +kernel
noncomputable def y3:FS:=(zg (eL (zp (iR1 (qc (qi ye (qc (eV 0) qf)) qf)) [none,some 0] (bN 0) zr (eOp zh (eSl (eV 1) oNo (oAt (eV 0))) (eSl (eV 1) (oAt (eOp zh (eV 0) (eC (.int 1)))) oNo)))))
noncomputable def y4:List D->Option D:=zj 1 y3
theorem q9o{fa:Addr}{dV:Value}{fd:FuncData}(F:Fun2 K "one_ware_fewer" "one_ware_fewer" vz dV fa fd)(n_range:mg "range" = none)(n_len:mg "len" = none): FnOk P w K mg base CX0 1 fa fd ["some"] (spD K 1 y4):=
 F.okn (k:=0) (n:=1) (ar:=1) (k1:=1) (u:=y3) q9n rfl rfl rfl fun cdv A outer s H E hr=>by
 show PSs (zy CX0 P w K mg base q1j "one_ware_fewer" (qh vz) fa cdv A outer s H E).nox (qw vz) (tDS K y3);unfold y3;walk_at "d";refine(x9 ?_);refine(ja (N':=["place","some"]) (cap:=[none,some 0]) rfl (zu rfl rfl) (zw rfl) ?_ (fun _ _ _ _ _=>(zd q7u rfl (Or.inl rfl) (.inr rfl))) (fun _ _ _ _ _=>vh) (fun _ _ _ _ _=>?_));refine(q1o rfl n_range ?_);walk_at "A";refine(j6 (yj) rfl n_len DL.jt ?_);walk_at "l";exact qe;refine(ql j3 ?_ ?_);refine(q2k ?_ q4e (q1i ?_));walk_at "h";walk_at "e";refine(q2k ?_ (q1i ?_) q4e);walk_at "h";refine(ql j3 ?_ qd);walk_at "e"
abbrev q6h:Stmt:=top 22
noncomputable def qcq:List Str:=["layer","wares","known","found","some","longer"]
theorem q4r:(qcq).Nodup:=by decide +kernel
theorem qpp:FnScope qcq ["layer","wares"] (qh q6h):=⟨rfl,rfl,rfl,q4r,rfl,by decide +kernel,by decide +kernel⟩
theorem qkk:(["some"]:List Str).Nodup:=by decide +kernel
theorem qkl:(["shorter","known"]:List Str).Nodup:=by decide +kernel
noncomputable def w6:FS:=(sIf (bT (qi qc4 (qc (eL (zp (jm (qi (qq 1 [] y4) (qc (eV 5) qf))) [none,some 2] (bN 0) zr (eOp qcb (eV 0) (eV 1)))) qf))) (q4c 3 (eV 5)) jw)
noncomputable def q25:FS:=(q1t (jm (qi (qq 2 [] yn) (qc (eV 4) (qc (eV 1) qf)))) (bN 5) w6)
noncomputable def q6i:FS:=(qz (zo 2 (qi qe9 (qc (eL (zp (jm (eV 0)) [none] (bN 0) zr (zc (qc (eV 0) (qc (eC (.bl true)) qf))))) qf))) (qz (q1s 3 (q1h qf)) (qz (q1t (jm (eV 0)) (bN 4) q25) (wy 3 (zg (eV 3))))))
noncomputable def q9g:List D->Option D:=zj 6 q6i
theorem qpq{fa:Addr}{dV:Value}{fd:FuncData}(F:Fun2 K "grown" "grown" q6h dV fa fd){ey:Addr}{ax:FuncData}(c_35:Cal P w K mg base "one_ware_more" 1 ["some","wares"] 2 yn ey ax)(b_35:Binds K ax ["some","wares"] []){dX:Addr}{aq:FuncData}(c_34:Cal P w K mg base "one_ware_fewer" 1 ["some"] 1 y4 dX aq)(b_34:Binds K aq ["some"] [])(n_dict:mg "dict" = none)(n_all:mg "all" = none): FnOk P w K mg base CX0 2 fa fd ["layer","wares"] (spD K 2 q9g):=
 F.okn (k:=1) (n:=6) (ar:=2) (k1:=2) (u:=q6i) qpp rfl rfl rfl fun cdv A outer s H E hr=>by
 show PSs (zy CX0 P w K mg base qcq "grown" (qh q6h) fa cdv A outer s H E).nox (qw q6h) (tDS K q6i);unfold q6i q25 w6;walk_at "g";exact q4r;exact rfl;exact(Or.inr rfl);refine(jr (qsg rfl hr.units) rfl n_dict DL.boot_dict ?_);walk_at "o";refine(ja (N':=["some"]) (cap:=[none]) rfl (zu rfl rfl) (zw rfl) ?_ (fun _ _ _ _ _=>(zd qkk rfl (Or.inl rfl) (.inr rfl))) (fun _ _ _ _ _=>vh) (fun _ _ _ _ _=>?_));refine(j9 ?_);walk_at "e";refine(za ?_);walk_at "c";exact q1d;exact qe;exact qe;walk_at "a";exact(q84 (i:=3) q4r rfl (Or.inl rfl) (q0q qe));walk_at "v";refine(q0s tq rfl ?_ (zd q4r rfl (Or.inl rfl) (.inl rfl)) (qp ?_));refine(j9 ?_);walk_at "e";refine(q0s tq rfl ?_ (zd q4r rfl (Or.inl rfl) (.inl rfl)) (qp ?_));refine(j9 ?_);refine(z0 c_35 b_35 hr (by decide) rfl ?_);walk_at "A";exact(qa (pv 4));walk_at "A";walk_at "n";walk_at "j";refine(xa ?_);refine(j6 (quw rfl) rfl n_all DL.boot_all ?_);walk_at "o";refine(ja (N':=["shorter","known"]) (cap:=[none,some 2]) rfl (zu rfl rfl) (zw rfl) ?_ (fun _ _ _ _ _=>(zd qkl rfl (Or.inl rfl) (.inr rfl))) (fun _ _ _ _ _=>vh) (fun _ _ _ _ _=>?_));refine(j9 ?_);refine(z0 c_34 b_34 hr (by decide) rfl ?_);walk_at "A";exact(qa (pv 5));exact qe;refine(q3c (qvc hr.units) ?_ ?_);walk_at "e";walk_at "n";refine(qau (pv 3) ?_);exact(qa (pv 5));refine(q0r 3 (qp ?_));refine(z5 ?_);exact(qa (pv 3))
abbrev k9:Stmt:=top 17
noncomputable def q2o:List Str:=["marked_runs","some","mark"]
theorem q58:(q2o).Nodup:=by decide +kernel
theorem qbk:FnScope q2o ["marked_runs","some"] (qh k9):=⟨rfl,rfl,rfl,q58,rfl,by decide +kernel,by decide +kernel⟩
theorem q3w:(["many","basket","mark"]:List Str).Nodup:=by decide +kernel
noncomputable def kb:FS:=(qz (zo 2 (qi (qq 1 [] ko) (qc (eV 1) qf))) (zg (qi q6x (qc (eL (zp (jm (eV 0)) [none,none,some 2] (q0j 2 (jy (bN 0) (jy (bN 1) q0i))) (zb oEq (eOp oBand (eV 1) (eV 2)) (eV 2)) (eV 0))) qf))))
noncomputable def kc:List D->Option D:=zj 3 kb
theorem qbl{fa:Addr}{dV:Value}{fd:FuncData}(F:Fun2 K "count_marked" "count_marked" k9 dV fa fd){dY:Addr}{aI:FuncData}(c_29:Cal P w K mg base "mark_of" 1 ["some"] 1 ko dY aI)(b_29:Binds K aI ["some"] [])(n_sum:mg "sum" = none): FnOk P w K mg base CX0 2 fa fd ["marked_runs","some"] (spD K 2 kc):=
 F.okn (k:=1) (n:=3) (ar:=2) (k1:=2) (u:=kb) qbk rfl rfl rfl fun cdv A outer s H E hr=>by
 show PSs (zy CX0 P w K mg base q2o "count_marked" (qh k9) fa cdv A outer s H E).nox (qw k9) (tDS K kb);unfold kb;walk_at "g";exact q58;exact rfl;exact(Or.inr rfl);refine(z0 c_29 b_29 hr (by decide) rfl ?_);walk_at "A";walk_at "n";walk_at "m";refine(j6 (qb0 rfl) rfl n_sum DL.boot_sum ?_);walk_at "o";refine(ja (N':=["many","basket","mark"]) (cap:=[none,none,some 2]) rfl (zu rfl rfl) (q3d (xi rfl (xi rfl q1u))) ?_ (fun _ _ _ _ _=>(q6b rfl (yf (zd q3w rfl (Or.inl rfl) (.inr rfl)) (yf (zd q3w rfl (Or.inl rfl) (.inr rfl)) q6a)))) (fun _ _ _ _ _=>(q0t ?_)) (fun _ _ _ _ _=>?_));refine(j9 ?_);walk_at "e";refine(zm (yz hr.units) ?_ ?_);refine(ql q45 ?_ ?_);walk_at "h";walk_at "k";walk_at "k";walk_at "e";exact qe
abbrev jh:Stmt:=qvp 23 1
noncomputable def q0l:List Str:=["self","pile","least","runs","told","layer","pairs"]
theorem xf:(q0l).Nodup:=by decide +kernel
theorem q8j:FnScope q0l ["self","pile","least"] (qh jh):=⟨rfl,rfl,rfl,xf,rfl,by decide +kernel,by decide +kernel⟩
theorem q7c:(["some","runs"]:List Str).Nodup:=by decide +kernel
theorem q7d:(["pair"]:List Str).Nodup:=by decide +kernel
noncomputable def xm:FS:=(qz (q1s 6 (zp (jm (eV 5)) [none,some 3] (bN 0) zr (zc (qc (eV 0) (qc (qi (qq 2 [] kc) (qc (eV 1) (qc (eV 0) qf))) qf))))) (wy 6 (qz (qc7 4 (eV 6)) (zo 5 (qi (qq 2 [] q9g) (qc (eL (zp (jm (qi (qq 2 [] ky) (qc (eV 6) (qc (eV 2) qf)))) [none] (bN 0) zr (eOp oIx (eV 0) (eC (.int 0))))) (qc (eOp oIx (eV 1) (eC (.int 0))) qf)))))))
noncomputable def ji:FS:=(qz (zo 3 (qi (qq 1 [] q7b) (qc (eV 1) qf))) (qz (q1s 4 (q1h qf)) (qz (zo 5 (eL (q1h (qc (zc qf) qf)))) (qz (jk (bT (eV 5)) xm 100000) (wy 6 (wy 4 (zg (qi vi (qc (eV 4) qf)))))))))
noncomputable def k6:List D->Option D:=zj 7 ji
theorem q8k{fa:Addr}{dV:Value}{fd:FuncData}(F:Fun2 K "counted" "Growing.counted" jh dV fa fd){gD:Addr}{cE:FuncData}(c_30:Cal P w K mg base "marked" 2 ["pile"] 1 q7b gD cE)(b_30:Binds K cE ["pile"] []){gG:Addr}{dD:FuncData}(c_7:Cal P w K mg base "grown" 2 ["layer","wares"] 2 q9g gG dD)(b_7:Binds K dD ["layer","wares"] []){eN:Addr}{aF:FuncData}(c_4:Cal P w K mg base "count_marked" 2 ["marked_runs","some"] 2 kc eN aF)(b_4:Binds K aF ["marked_runs","some"] []){dt:Addr}{av:FuncData}(c_2:Cal P w K mg base "at_least" 1 ["pairs","least"] 2 ky dt av)(b_2:Binds K av ["pairs","least"] [])(n_tuple:mg "tuple" = none): FnOk P w K mg base CX0 3 fa fd ["self","pile","least"] (spD K 3 k6):=
 F.okn (k:=2) (n:=7) (ar:=3) (k1:=3) (u:=ji) q8j rfl rfl rfl fun cdv A outer s H E hr=>by
 show PSs (zy CX0 P w K mg base q0l "Growing.counted" (qh jh) fa cdv A outer s H E).nox (qw jh) (tDS K ji);unfold ji xm;walk_at "v";walk_at "p";exact xf;exact rfl;exact(Or.inr rfl);refine(z0 c_30 b_30 hr (by decide) rfl ?_);walk_at "A";walk_at "n";walk_at "a";exact(q84 (i:=4) xf rfl (Or.inl rfl) (q0q qe));walk_at "v";refine(z7 (i:=5) ?_ ?_ ?_ ?_ ?_ ?_);exact xf;walk_at "b";refine(x9 ?_);refine(q0q ?_);walk_at "A";exact(za qe);exact qe;walk_at "a";refine(qa2 100000 tq ?_ (qk ?_ ?_));refine(xa ?_);exact(qa (pv 5));refine(qc3 (i:=6) rfl xf rfl rfl (N':=["some","runs"]) (cap:=[none,some 3]) (zu rfl rfl) (zw rfl) ?_ (fun _ _ _ _ _=>(zd q7c rfl (Or.inl rfl) (.inr rfl))) (fun _ _ _ _ _=>vh) (fun _ _ _ _ _=>?_));refine(j9 ?_);exact(qa (pv 5));refine(za ?_);walk_at "c";refine(z0 c_4 b_4 hr (by decide) rfl ?_);walk_at "A";walk_at "h";walk_at "l";exact qe;refine(q0r 6 (qk ?_ ?_));refine(qmj (pv 4) ?_);exact(qa (pv 6));refine(qp ?_);refine(z7 (i:=5) ?_ ?_ ?_ ?_ ?_ ?_);exact xf;walk_at "b";refine(z0 c_7 b_7 hr (by decide) rfl ?_);walk_at "o";refine(ja (N':=["pair"]) (cap:=[none]) rfl (zu rfl rfl) (zw rfl) ?_ (fun _ _ _ _ _=>(zd q7d rfl (Or.inl rfl) (.inr rfl))) (fun _ _ _ _ _=>vh) (fun _ _ _ _ _=>?_));refine(j9 ?_);refine(z0 c_2 b_2 hr (by decide) rfl ?_);walk_at "A";exact(qa (pv 6));walk_at "x";walk_at "r";walk_at "A";refine(zf ?_ qd);walk_at "n";exact rfl;walk_at "L";refine(q0r 6 (q0r 4 (qp ?_)));refine(z5 ?_);refine(jr (yt) rfl n_tuple DL.boot_tuple ?_);walk_at "A";exact(qa (pv 4));exact qe
abbrev ju:Stmt:=qvp 23 0
noncomputable def q26:List Str:=["self","pile","least"]
theorem qae:(q26).Nodup:=by decide +kernel
theorem qaf:FnScope q26 ["self","pile","least"] (qh ju):=⟨rfl,rfl,rfl,qae,rfl,by decide +kernel,by decide +kernel⟩
noncomputable def yo:FS:=(zg (qi (qq 2 [] ky) (qc (qc8 "Growing" 3 k6 (eV 0) (qc (eV 1) (qc (eV 2) qf))) (qc (eV 2) qf))))
noncomputable def yp:List D->Option D:=zj 3 yo
theorem qag{fa:Addr}{dV:Value}{fd:FuncData}(F:Fun2 K "often" "Growing.often" ju dV fa fd){aa:Addr}(aO:ClsOk K "Growing" aa){dt:Addr}{av:FuncData}(c_2:Cal P w K mg base "at_least" 1 ["pairs","least"] 2 ky dt av)(b_2:Binds K av ["pairs","least"] []){dI:Addr}{ba:FuncData}(c_0:CalM P w K mg base "Growing" "counted" aa 3 ["self","pile","least"] 3 k6 dI ba)(b_0:Binds K ba ["self","pile","least"] []): FnOk P w K mg base CX0 4 fa fd ["self","pile","least"] (spD K 3 yp):=
 F.okn (k:=3) (n:=3) (ar:=3) (k1:=4) (u:=yo) qaf rfl rfl rfl fun cdv A outer s H E hr=>by
 show PSs (zy CX0 P w K mg base q26 "Growing.often" (qh ju) fa cdv A outer s H E).nox (qw ju) (tDS K yo);unfold yo;walk_at "d";refine(z0 c_2 b_2 hr (by decide) rfl ?_);walk_at "A";refine(qmm aO c_0 b_0 hr (by decide) ?_ ?_);walk_at "e";walk_at "A";walk_at "h";walk_at "x";walk_at "x"
abbrev q3j:Stmt:=top 37
noncomputable def q8l:List Str:=["some","ware"]
theorem qkm:(q8l).Nodup:=by decide +kernel
theorem qkn:FnScope q8l ["some","ware"] (qh q3j):=⟨rfl,rfl,rfl,qkm,rfl,by decide +kernel,by decide +kernel⟩
theorem qg9:(["other","ware"]:List Str).Nodup:=by decide +kernel
noncomputable def q59:FS:=(zg (qi vi (qc (eL (zp (jm (eV 0)) [none,some 1] (bN 0) (zb q1r (eV 0) (eV 1)) (eV 0))) qf)))
noncomputable def q3k:List D->Option D:=zj 2 q59
theorem qko{fa:Addr}{dV:Value}{fd:FuncData}(F:Fun2 K "without" "without" q3j dV fa fd)(n_tuple:mg "tuple" = none): FnOk P w K mg base CX0 1 fa fd ["some","ware"] (spD K 2 q3k):=
 F.okn (k:=0) (n:=2) (ar:=2) (k1:=1) (u:=q59) qkn rfl rfl rfl fun cdv A outer s H E hr=>by
 show PSs (zy CX0 P w K mg base q8l "without" (qh q3j) fa cdv A outer s H E).nox (qw q3j) (tDS K q59);unfold q59;walk_at "d";refine(jr (yt) rfl n_tuple DL.boot_tuple ?_);walk_at "o";refine(ja (N':=["other","ware"]) (cap:=[none,some 1]) rfl (zu rfl rfl) (zw rfl) ?_ (fun _ _ _ _ _=>(zd qg9 rfl (Or.inl rfl) (.inr rfl))) (fun _ _ _ _ _=>(q0t ?_)) (fun _ _ _ _ _=>?_));refine(j9 ?_);walk_at "e";refine(zm q3b ?_ ?_);walk_at "e";walk_at "h";walk_at "e";exact qe
abbrev q4s:Stmt:=top 10
noncomputable def qah:List Str:=["one","other"]
theorem qnc:(qah).Nodup:=by decide +kernel
theorem qnd:FnScope qah ["one","other"] (qh q4s):=⟨rfl,rfl,rfl,qnc,rfl,by decide +kernel,by decide +kernel⟩
noncomputable def q4t:FS:=(zg (qi vi (qc (eL (qjy (eV 0) (eV 1))) qf)))
noncomputable def q1k:List D->Option D:=zj 2 q4t
theorem qne{fa:Addr}{dV:Value}{fd:FuncData}(F:Fun2 K "joined" "joined" q4s dV fa fd)(n_tuple:mg "tuple" = none)(n_sorted:mg "sorted" = none)(n_set:mg "set" = none): FnOk P w K mg base CX0 1 fa fd ["one","other"] (spD K 2 q1k):=
 F.okn (k:=0) (n:=2) (ar:=2) (k1:=1) (u:=q4t) qnd rfl rfl rfl fun cdv A outer s H E hr=>by
 show PSs (zy CX0 P w K mg base qah "joined" (qh q4s) fa cdv A outer s H E).nox (qw q4s) (tDS K q4t);unfold q4t;walk_at "d";refine(jr (yt) rfl n_tuple DL.boot_tuple ?_);walk_at "o";refine(qsf rfl rfl n_sorted rfl n_set ?_ ?_);walk_at "e";walk_at "n"
abbrev xq:Stmt:=top 36
noncomputable def wq:List Str:=["whom","what","wares"]
theorem q7e:(wq).Nodup:=by decide +kernel
theorem q7f:FnScope wq ["whom","what","wares"] (qh xq):=⟨rfl,rfl,rfl,q7e,rfl,by decide +kernel,by decide +kernel⟩
theorem q5r:(["ware","whom","what"]:List Str).Nodup:=by decide +kernel
noncomputable def yb:FS:=(zg (eL (zp (iR1 (qc (eV 2) qf)) [none,some 0,some 1] (bN 0) (zb (oIn true) (eV 0) (eV 2)) (zc (qc (qi (qq 2 [] q3k) (qc (eV 1) (qc (eV 0) qf))) (qc (qi (qq 2 [] q1k) (qc (eV 2) (qc (zc (qc (eV 0) qf)) qf))) qf))))))
noncomputable def yc:List D->Option D:=zj 3 yb
theorem q7g{fa:Addr}{dV:Value}{fd:FuncData}(F:Fun2 K "one_step_stronger" "one_step_stronger" xq dV fa fd){f6:Addr}{bH:FuncData}(c_41:Cal P w K mg base "without" 1 ["some","ware"] 2 q3k f6 bH)(b_41:Binds K bH ["some","ware"] []){eM:Addr}{aN:FuncData}(c_9:Cal P w K mg base "joined" 1 ["one","other"] 2 q1k eM aN)(b_9:Binds K aN ["one","other"] [])(n_range:mg "range" = none): FnOk P w K mg base CX0 2 fa fd ["whom","what","wares"] (spD K 3 yc):=
 F.okn (k:=1) (n:=3) (ar:=3) (k1:=2) (u:=yb) q7f rfl rfl rfl fun cdv A outer s H E hr=>by
 show PSs (zy CX0 P w K mg base wq "one_step_stronger" (qh xq) fa cdv A outer s H E).nox (qw xq) (tDS K yb);unfold yb;walk_at "d";refine(x9 ?_);refine(ja (N':=["ware","whom","what"]) (cap:=[none,some 0,some 1]) rfl (zu rfl rfl) (zw rfl) ?_ (fun _ _ _ _ _=>(zd q5r rfl (Or.inl rfl) (.inr rfl))) (fun _ _ _ _ _=>(q0t ?_)) (fun _ _ _ _ _=>?_));refine(q1o rfl n_range ?_);walk_at "x";refine(zm qoq ?_ ?_);walk_at "e";walk_at "k";walk_at "f";refine(z0 c_41 b_41 hr (by decide) rfl ?_);walk_at "A";walk_at "h";walk_at "l";walk_at "A";refine(z0 c_9 b_9 hr (by decide) rfl ?_);walk_at "A";walk_at "k";walk_at "A";walk_at "f";walk_at "e";exact qe;exact qe;exact qe
abbrev q3l:Stmt:=top 35
noncomputable def q8m:List Str:=["saying","known","wares"]
theorem qkp:(q8m).Nodup:=by decide +kernel
theorem qkq:FnScope q8m ["saying","known","wares"] (qh q3l):=⟨rfl,rfl,rfl,qkp,rfl,by decide +kernel,by decide +kernel⟩
theorem qga:(["stronger","known"]:List Str).Nodup:=by decide +kernel
noncomputable def q5a:FS:=(zg (qi qjp (qc (eL (zp (jm (qi (qq 3 [] yc) (qc (eOp oIx (eV 0) (eC (.int 0))) (qc (eOp oIx (eV 0) (eC (.int 1))) (qc (eV 2) qf))))) [none,some 1] (bN 0) zr (eOp q76 (eV 0) (eV 1)))) qf)))
noncomputable def q3m:List D->Option D:=zj 3 q5a
theorem qkr{fa:Addr}{dV:Value}{fd:FuncData}(F:Fun2 K "follows" "follows" q3l dV fa fd){cF:Addr}{ag:FuncData}(c_33:Cal P w K mg base "one_step_stronger" 2 ["whom","what","wares"] 3 yc cF ag)(b_33:Binds K ag ["whom","what","wares"] [])(n_any:mg "any" = none): FnOk P w K mg base CX0 3 fa fd ["saying","known","wares"] (spD K 3 q3m):=
 F.okn (k:=2) (n:=3) (ar:=3) (k1:=3) (u:=q5a) qkq rfl rfl rfl fun cdv A outer s H E hr=>by
 show PSs (zy CX0 P w K mg base q8m "follows" (qh q3l) fa cdv A outer s H E).nox (qw q3l) (tDS K q5a);unfold q5a;walk_at "d";refine(j6 (qux rfl) rfl n_any DL.boot_any ?_);walk_at "o";refine(ja (N':=["stronger","known"]) (cap:=[none,some 1]) rfl (zu rfl rfl) (zw rfl) ?_ (fun _ _ _ _ _=>(zd qga rfl (Or.inl rfl) (.inr rfl))) (fun _ _ _ _ _=>vh) (fun _ _ _ _ _=>?_));refine(j9 ?_);refine(z0 c_33 b_33 hr (by decide) rfl ?_);walk_at "i";walk_at "r";walk_at "x";refine(q3c (qso hr.units) ?_ ?_);walk_at "e";walk_at "n"
abbrev xg:Stmt:=top 34
noncomputable def kf:List Str:=["told","wares","known"]
theorem q14:(kf).Nodup:=by decide +kernel
theorem q5s:FnScope kf ["told","wares"] (qh xg):=⟨rfl,rfl,rfl,q14,rfl,by decide +kernel,by decide +kernel⟩
theorem q4u:(["saying"]:List Str).Nodup:=by decide +kernel
theorem q4v:(["saying","known","wares"]:List Str).Nodup:=by decide +kernel
noncomputable def vd:FS:=(qz (zo 2 (qi qbf (qc (eL (zp (jm (eV 0)) [none] (bN 0) zr (zc (qc (zc (qc (eOp oIx (eV 0) (eC (.int 0))) (qc (eOp oIx (eV 0) (eC (.int 1))) qf))) (qc (eC (.bl true)) qf))))) qf))) (zg (qi vi (qc (eL (zp (jm (eV 0)) [none,some 2,some 1] (bN 0) zr (eOp zh (eV 0) (zc (qc (qi (qq 3 [] q3m) (qc (eV 0) (qc (eV 1) (qc (eV 2) qf)))) qf))))) qf))))
noncomputable def ve:List D->Option D:=zj 3 vd
theorem q5t{fa:Addr}{dV:Value}{fd:FuncData}(F:Fun2 K "marked_by_following" "marked_by_following" xg dV fa fd){f9:Addr}{bJ:FuncData}(c_5:Cal P w K mg base "follows" 3 ["saying","known","wares"] 3 q3m f9 bJ)(b_5:Binds K bJ ["saying","known","wares"] [])(n_dict:mg "dict" = none)(n_tuple:mg "tuple" = none): FnOk P w K mg base CX0 4 fa fd ["told","wares"] (spD K 2 ve):=
 F.okn (k:=3) (n:=3) (ar:=2) (k1:=4) (u:=vd) q5s rfl rfl rfl fun cdv A outer s H E hr=>by
 show PSs (zy CX0 P w K mg base kf "marked_by_following" (qh xg) fa cdv A outer s H E).nox (qw xg) (tDS K vd);unfold vd;walk_at "g";exact q14;exact rfl;exact(Or.inr rfl);refine(jr (qpg rfl hr.units) rfl n_dict DL.boot_dict ?_);walk_at "o";refine(ja (N':=["saying"]) (cap:=[none]) rfl (zu rfl rfl) (zw rfl) ?_ (fun _ _ _ _ _=>(zd q4u rfl (Or.inl rfl) (.inr rfl))) (fun _ _ _ _ _=>vh) (fun _ _ _ _ _=>?_));refine(j9 ?_);walk_at "e";walk_at "f";walk_at "f";walk_at "r";walk_at "A";walk_at "r";exact qe;walk_at "A";exact q1d;exact qe;exact qe;walk_at "m";refine(jr (yt) rfl n_tuple DL.boot_tuple ?_);walk_at "o";refine(ja (N':=["saying","known","wares"]) (cap:=[none,some 2,some 1]) rfl (zu rfl rfl) (zw rfl) ?_ (fun _ _ _ _ _=>(zd q4v rfl (Or.inl rfl) (.inr rfl))) (fun _ _ _ _ _=>vh) (fun _ _ _ _ _=>?_));refine(j9 ?_);walk_at "e";refine(ql j3 ?_ ?_);walk_at "e";walk_at "f";refine(z0 c_5 b_5 hr (by decide) rfl ?_);walk_at "c";walk_at "h";walk_at "x";exact qe;exact qe
abbrev q15:Stmt:=top 33
noncomputable def q5u:List Str:=["whom","what","counts","number","chance"]
theorem q4w:(q5u).Nodup:=by decide +kernel
theorem qgb:FnScope q5u ["whom","what","counts"] (qh q15):=⟨rfl,rfl,rfl,q4w,rfl,by decide +kernel,by decide +kernel⟩
noncomputable def q2x:FS:=(qz (zo 3 (qk1 (eV 2) (qc (qi (qq 2 [] q1k) (qc (eV 0) (qc (eV 1) qf))) (qc (eC (.int 0)) qf)))) (qz (zo 4 (qi (qq 2 [] q2n) (qc (eOp zv (eV 3) (eOp q55 (eV 2) (zc qf))) (qc (eOp zv (eOp q55 (eV 2) (eV 0)) (eOp q55 (eV 2) (eV 1))) qf)))) (zg (zc (qc (eV 0) (qc (eV 1) (qc (eV 3) (qc (qi (qq 2 [] q2n) (qc (eV 3) (qc (eOp q55 (eV 2) (eV 0)) qf))) (qc (eV 4) qf)))))))))
noncomputable def yu:List D->Option D:=zj 5 q2x
theorem qgc{fa:Addr}{dV:Value}{fd:FuncData}(F:Fun2 K "saying_of" "saying_of" q15 dV fa fd){fA:Addr}{a8:FuncData}(c_39:Cal P w K mg base "share" 2 ["top","bottom"] 2 q2n fA a8)(b_39:Binds K a8 ["top","bottom"] []){eM:Addr}{aN:FuncData}(c_9:Cal P w K mg base "joined" 1 ["one","other"] 2 q1k eM aN)(b_9:Binds K aN ["one","other"] []): FnOk P w K mg base CX0 3 fa fd ["whom","what","counts"] (spD K 3 yu):=
 F.okn (k:=2) (n:=5) (ar:=3) (k1:=3) (u:=q2x) qgb rfl rfl rfl fun cdv A outer s H E hr=>by
 show PSs (zy CX0 P w K mg base q5u "saying_of" (qh q15) fa cdv A outer s H E).nox (qw q15) (tDS K q2x);unfold q2x;walk_at "v";walk_at "p";exact q4w;walk_at "b";refine(qvf hr.units ?_ ?_);walk_at "k";walk_at "A";refine(z0 c_9 b_9 hr (by decide) rfl ?_);walk_at "c";walk_at "n";walk_at "A";exact qd;exact qe;walk_at "a";refine(z7 (i:=4) ?_ ?_ ?_ ?_ ?_ ?_);exact q4w;walk_at "b";refine(z0 c_39 b_39 hr (by decide) rfl ?_);walk_at "A";refine(ql jc ?_ ?_);exact(qa (pv 3));refine(qb9 hr.units ?_ ?_);walk_at "k";exact(za qe);walk_at "A";refine(ql jc ?_ ?_);refine(qb9 hr.units ?_ ?_);walk_at "k";walk_at "e";refine(qb9 hr.units ?_ ?_);walk_at "k";walk_at "n";walk_at "m";refine(za ?_);walk_at "c";walk_at "h";walk_at "A";exact(qa (pv 3));walk_at "A";refine(z0 c_39 b_39 hr (by decide) rfl ?_);walk_at "A";exact(qa (pv 3));walk_at "A";refine(qb9 hr.units ?_ ?_);walk_at "k";walk_at "e";exact qe;walk_at "A";exact(qa (pv 4));exact qe
abbrev qbm:Stmt:=top 9
noncomputable def qks:List Str:=["one","other"]
theorem qvq:(qks).Nodup:=by decide +kernel
theorem qvr:FnScope qks ["one","other"] (qh qbm):=⟨rfl,rfl,rfl,qvq,rfl,by decide +kernel,by decide +kernel⟩
theorem qpr:(["ware","other"]:List Str).Nodup:=by decide +kernel
noncomputable def qed:FS:=(zg (qi vi (qc (eL (zp (jm (eV 0)) [none,some 1] (bN 0) (zb (oIn false) (eV 0) (eV 1)) (eV 0))) qf)))
noncomputable def q9h:List D->Option D:=zj 2 qed
theorem qvs{fa:Addr}{dV:Value}{fd:FuncData}(F:Fun2 K "met" "met" qbm dV fa fd)(n_tuple:mg "tuple" = none): FnOk P w K mg base CX0 1 fa fd ["one","other"] (spD K 2 q9h):=
 F.okn (k:=0) (n:=2) (ar:=2) (k1:=1) (u:=qed) qvr rfl rfl rfl fun cdv A outer s H E hr=>by
 show PSs (zy CX0 P w K mg base qks "met" (qh qbm) fa cdv A outer s H E).nox (qw qbm) (tDS K qed);unfold qed;walk_at "d";refine(jr (yt) rfl n_tuple DL.boot_tuple ?_);walk_at "o";refine(ja (N':=["ware","other"]) (cap:=[none,some 1]) rfl (zu rfl rfl) (zw rfl) ?_ (fun _ _ _ _ _=>(zd qpr rfl (Or.inl rfl) (.inr rfl))) (fun _ _ _ _ _=>(q0t ?_)) (fun _ _ _ _ _=>?_));refine(j9 ?_);walk_at "e";refine(zm qx5 ?_ ?_);walk_at "e";walk_at "h";walk_at "e";exact qe
abbrev q16:Stmt:=top 32
noncomputable def q5v:List Str:=["whom","counts"]
theorem qgd:(q5v).Nodup:=by decide +kernel
theorem qge:FnScope q5v ["whom","counts"] (qh q16):=⟨rfl,rfl,rfl,qgd,rfl,by decide +kernel,by decide +kernel⟩
theorem qcr:(["what","whom"]:List Str).Nodup:=by decide +kernel
noncomputable def q2y:FS:=(zg (eL (zp (qk0 (eV 1)) [none,some 0] (bN 0) (ku (zb q4f (eV 0) (zc qf)) (zb oEq (qi (qq 2 [] q9h) (qc (eV 1) (qc (eV 0) qf))) (zc qf))) (eV 0))))
noncomputable def q2z:List D->Option D:=zj 2 q2y
theorem qgf{fa:Addr}{dV:Value}{fd:FuncData}(F:Fun2 K "whats_for" "whats_for" q16 dV fa fd){gJ:Addr}{fg:FuncData}(c_32:Cal P w K mg base "met" 1 ["one","other"] 2 q9h gJ fg)(b_32:Binds K fg ["one","other"] []): FnOk P w K mg base CX0 2 fa fd ["whom","counts"] (spD K 2 q2z):=
 F.okn (k:=1) (n:=2) (ar:=2) (k1:=2) (u:=q2y) qge rfl rfl rfl fun cdv A outer s H E hr=>by
 show PSs (zy CX0 P w K mg base q5v "whats_for" (qh q16) fa cdv A outer s H E).nox (qw q16) (tDS K q2y);unfold q2y;walk_at "d";refine(x9 ?_);refine(ja (N':=["what","whom"]) (cap:=[none,some 0]) rfl (zu rfl rfl) (zw rfl) ?_ (fun _ _ _ _ _=>(zd qcr rfl (Or.inl rfl) (.inr rfl))) (fun _ _ _ _ _=>(q0t ?_)) (fun _ _ _ _ _=>?_));refine(qmy ?_);walk_at "h";refine(PW.pt (q82 ?_ (q97 ?_)));refine(zm (qf4 hr.units) ?_ ?_);walk_at "e";exact(za qe);refine(zm (yz hr.units) ?_ ?_);refine(z0 c_32 b_32 hr (by decide) rfl ?_);walk_at "A";walk_at "h";walk_at "l";exact(za qe);walk_at "e"
abbrev q3n:Stmt:=top 27
noncomputable def q8n:List Str:=["one","other"]
theorem qkt:(q8n).Nodup:=by decide +kernel
theorem qku:FnScope q8n ["one","other"] (qh q3n):=⟨rfl,rfl,rfl,qkt,rfl,by decide +kernel,by decide +kernel⟩
noncomputable def q3o:FS:=(zg (eOp oGe (eOp zv (eOp oIx (eV 0) (eC (.int 0))) (eOp oIx (eV 1) (eC (.int 1)))) (eOp zv (eOp oIx (eV 1) (eC (.int 0))) (eOp oIx (eV 0) (eC (.int 1))))))
noncomputable def yq:List D->Option D:=zj 2 q3o
theorem qkv{fa:Addr}{dV:Value}{fd:FuncData}(F:Fun2 K "reaches" "reaches" q3n dV fa fd): FnOk P w K mg base CX0 1 fa fd ["one","other"] (spD K 2 yq):=
 F.okn (k:=0) (n:=2) (ar:=2) (k1:=1) (u:=q3o) qku rfl rfl rfl fun cdv A outer s H E hr=>by
 show PSs (zy CX0 P w K mg base q8n "reaches" (qh q3n) fa cdv A outer s H E).nox (qw q3n) (tDS K q3o);unfold q3o;refine(qp ?_);refine(z5 ?_);refine(q3c q51 ?_ ?_);refine(ql jc ?_ ?_);refine(zf ?_ qd);exact(qa (pv 0));refine(zf ?_ qd);exact(qa (pv 1));refine(ql jc ?_ ?_);refine(zf ?_ qd);exact(qa (pv 1));refine(zf ?_ qd);exact(qa (pv 0))
abbrev kq:Stmt:=top 30
noncomputable def q8o:List Str:=["pile","least","bound","asked","counts","told","whom","said"]
theorem au:(q8o).Nodup:=by decide +kernel
theorem qkw:FnScope q8o ["pile","least","bound"] (qh kq):=⟨rfl,rfl,rfl,au,rfl,by decide +kernel,by decide +kernel⟩
theorem qgg:(["what","whom","counts"]:List Str).Nodup:=by decide +kernel
theorem qgh:(["saying","least","asked"]:List Str).Nodup:=by decide +kernel
noncomputable def q4x:FS:=(qz (q1s 7 (zp (jm (qi (qq 2 [] q2z) (qc (eV 6) (qc (eV 4) qf)))) [none,some 6,some 4] (bN 0) zr (qi (qq 3 [] yu) (qc (eV 1) (qc (eV 0) (qc (eV 2) qf)))))) (wy 7 (qc7 5 (eL (zp (jm (eV 7)) [none,some 1,some 3] (bN 0) (ku (zb oGe (eOp oIx (eV 0) (eC (.int 2))) (eV 1)) (bT (qi (qq 2 [] yq) (qc (eOp oIx (eV 0) (eC (.int 3))) (qc (eV 2) qf))))) (eV 0))))))
noncomputable def q5b:FS:=(qz (zo 3 (qi (qq 1 [] q41) (qc (eV 2) qf))) (qz (sIf (zb oGt (eOp oIx (eV 0) (eC (.int 0))) (eC (.int 8))) qb3 jw) (qz (zo 4 (qi qba (qc (qc8 "Growing" 3 yp (eC (.obj "Growing")) (qc (eV 0) (qc (eC (.int 1)) qf))) qf))) (qz (q1s 5 (q1h qf)) (qz (q1t (qk0 (eV 4)) (bN 6) q4x) (wy 7 (wy 5 (zg (qi (qq 2 [] ve) (qc (eV 5) (qc (eOp oIx (eV 0) (eC (.int 0))) qf)))))))))))
noncomputable def xh:List D->Option D:=zj 8 q5b
theorem qkx{fa:Addr}{dV:Value}{fd:FuncData}(F:Fun2 K "sayings" "sayings" kq dV fa fd){aa:Addr}(aO:ClsOk K "Growing" aa)(dU:mg "Growing" = some (.ref aa)){fY:Addr}{br:FuncData}(c_3:Cal P w K mg base "bound_of" 3 ["thing"] 1 q41 fY br)(b_3:Binds K br ["thing"] []){eE:Addr}{bC:FuncData}(c_1:CalM P w K mg base "Growing" "often" aa 4 ["self","pile","least"] 3 yp eE bC)(b_1:Binds K bC ["self","pile","least"] []){bP:Addr}{af:FuncData}(c_31:Cal P w K mg base "marked_by_following" 4 ["told","wares"] 2 ve bP af)(b_31:Binds K af ["told","wares"] []){fR:Addr}{aX:FuncData}(c_37:Cal P w K mg base "saying_of" 3 ["whom","what","counts"] 3 yu fR aX)(b_37:Binds K aX ["whom","what","counts"] []){fQ:Addr}{aW:FuncData}(c_40:Cal P w K mg base "whats_for" 2 ["whom","counts"] 2 q2z fQ aW)(b_40:Binds K aW ["whom","counts"] []){f7:Addr}{bI:FuncData}(c_36:Cal P w K mg base "reaches" 1 ["one","other"] 2 yq f7 bI)(b_36:Binds K bI ["one","other"] [])(n_dict:mg "dict" = none)(g_MOST_WARES_SAID:∃t,mg "MOST_WARES_SAID" = some (.int 8 t)): FnOk P w K mg base CX0 5 fa fd ["pile","least","bound"] (spD K 3 xh):=
 F.okn (k:=4) (n:=8) (ar:=3) (k1:=5) (u:=q5b) qkw rfl rfl rfl fun cdv A outer s H E hr=>by
 show PSs (zy CX0 P w K mg base q8o "sayings" (qh kq) fa cdv A outer s H E).nox (qw kq) (tDS K q5b);unfold q5b q4x;walk_at "v";walk_at "p";exact au;exact rfl;exact(Or.inr rfl);refine(z0 c_3 b_3 hr (by decide) rfl ?_);walk_at "x";walk_at "a";refine(jl ?_ (qp qa5) j8);refine(zm qe6 ?_ ?_);walk_at "r";exact(qs4 rfl g_MOST_WARES_SAID);walk_at "v";refine(z7 (i:=4) ?_ ?_ ?_ ?_ ?_ ?_);exact au;exact rfl;exact(Or.inr rfl);refine(jr (qp9 rfl hr.units) rfl n_dict DL.boot_dict ?_);walk_at "A";refine(qmm aO c_1 b_1 hr (by decide) ?_ ?_);exact(qv7 aO dU rfl);walk_at "u";exact qe;walk_at "a";exact(q84 (i:=5) au rfl (Or.inl rfl) (q0q qe));walk_at "v";refine(q0s tq rfl ?_ (zd au rfl (Or.inr rfl) (.inl rfl)) (qk ?_ ?_));refine(qmy ?_);exact(qa (pv 4));refine(qc3 (i:=7) rfl au rfl rfl (N':=["what","whom","counts"]) (cap:=[none,some 6,some 4]) (zu rfl rfl) (zw rfl) ?_ (fun _ _ _ _ _=>(zd qgg rfl (Or.inl rfl) (.inr rfl))) (fun _ _ _ _ _=>vh) (fun _ _ _ _ _=>?_));refine(j9 ?_);refine(z0 c_40 b_40 hr (by decide) rfl ?_);walk_at "A";exact(qa (pv 6));walk_at "A";exact(qa (pv 4));exact qe;refine(z0 c_37 b_37 hr (by decide) rfl ?_);walk_at "A";walk_at "h";walk_at "c";walk_at "k";exact qe;refine(q0r 7 (qp ?_));refine(qmj (pv 5) ?_);refine(x9 ?_);refine(ja (N':=["saying","least","asked"]) (cap:=[none,some 1,some 3]) rfl (zu rfl rfl) (zw rfl) ?_ (fun _ _ _ _ _=>(zd qgh rfl (Or.inl rfl) (.inr rfl))) (fun _ _ _ _ _=>(q0t ?_)) (fun _ _ _ _ _=>?_));refine(j9 ?_);exact(qa (pv 7));refine(PW.pt (q82 ?_ (q97 ?_)));refine(zm q51 ?_ ?_);walk_at "r";walk_at "h";refine(xa ?_);refine(z0 c_36 b_36 hr (by decide) rfl ?_);walk_at "i";walk_at "k";exact qe;walk_at "e";refine(q0r 7 (q0r 5 (qp ?_)));refine(z5 ?_);refine(z0 c_31 b_31 hr (by decide) rfl ?_);walk_at "A";exact(qa (pv 5));walk_at "A";walk_at "r";exact qe
abbrev q27:Stmt:=top 51
noncomputable def q7h:List Str:=["_law_pile_here","_law_least_here","_law_edge"]
theorem qhy:(q7h).Nodup:=by decide +kernel
theorem qhz:FnScope q7h ["_law_pile_here","_law_least_here","_law_edge"] (qh q27):=⟨rfl,rfl,rfl,qhy,rfl,by decide +kernel,by decide +kernel⟩
noncomputable def q42:FS:=(qz (sIf (zb (oIs false) (eV 2) (eC .non)) (zg (qi (qq 3 [.non] xh) (qc (eV 0) (qc (eV 1) qf)))) jw) (zg (qi (qb1 3 xh) (qjs 2 1 (qc (eV 0) (qc (eV 1) qf)) (qc (eV 2) qf)))))
noncomputable def q28:List D->Option D:=zj 3 q42
theorem qi0{fa:Addr}{dV:Value}{fd:FuncData}(F:Fun2 K "_law_said" "_law_said" q27 dV fa fd){dW:Addr}{aH:FuncData}(c_38:Cal P w K mg base "sayings" 5 ["pile","least","bound"] 3 xh dW aH)(kb_sayings:KB K aH ["pile","least","bound"] ["bound"] 2 1){aE:List V}{dv_l_sayings_1:List Value}(aA:Binds K aH ["pile","least","bound"] dv_l_sayings_1)(ay:Vals aE dv_l_sayings_1)(az:∀ {H:Hp},RepL K H [.non] aE): FnOk P w K mg base CX0 6 fa fd ["_law_pile_here","_law_least_here","_law_edge"] (spD K 3 q28):=
 F.okn (k:=5) (n:=3) (ar:=3) (k1:=6) (u:=q42) qhz rfl rfl rfl fun cdv A outer s H E hr=>by
 show PSs (zy CX0 P w K mg base q7h "_law_said" (qh q27) fa cdv A outer s H E).nox (qw q27) (tDS K q42);unfold q42;walk_at "v";walk_at "j";refine(zm (qb2 rfl) ?_ q39);walk_at "k";refine(z5 ?_);refine(qio c_38 aA ay (fun _=>az) hr (by decide) rfl ?_);walk_at "c";walk_at "n";walk_at "d";refine(qs3 c_38 kb_sayings hr (by decide) rfl ?_ (qs2 ?_ qv2));walk_at "c";walk_at "n";walk_at "k"
abbrev xj:Stmt:=top 58
noncomputable def q5w:List Str:=["_law_script","_law_pile_here","_law_wide","_law_turned","_law_spots"]
theorem q29:(q5w).Nodup:=by decide +kernel
theorem qgi:FnScope q5w ["_law_script","_law_pile_here"] (qh xj):=⟨rfl,rfl,rfl,q29,rfl,by decide +kernel,by decide +kernel⟩
theorem q6j:(["_law_many","_law_basket","_law_spots"]:List Str).Nodup:=by decide +kernel
theorem qcs:(["_law_ware","_law_spots"]:List Str).Nodup:=by decide +kernel
noncomputable def q30:FS:=(qz (zo 2 (eOp zh (eC (.int 6)) (eOp oMod (qi (qq 2 [] zk) (qc (eV 0) (qc (eC (.int 4)) qf))) (eC (.int 3))))) (qz (zo 3 (eL (qbj (qi (qq 2 [] zk) (qc (eV 1) (qc (eOp zh (eC (.int 80)) (eV 0)) qf))) [some 0] (qc (qeb (eV 2)) qf)))) (qz (zo 4 (eL (q99 q8d (qc (eSl (eV 3) oNo (oAt (eOp oIx (eV 1) (eC (.int 0))))) qf)))) (zg (zc (qc (eV 2) (qc (qi vi (qc (eL (zp (jm (eOp oIx (eV 1) (eC (.int 1)))) [none,none,some 4] (q0j 2 (jy (bN 0) (jy (bN 1) q0i))) zr (zc (qc (eV 0) (qc (qi vi (qc (eL (zp (jm (eV 1)) [none,some 2] (bN 0) zr (eOp oIx (eV 1) (eV 0)))) qf)) qf))))) qf)) qf)))))))
noncomputable def q17:List D->Option D:=zj 5 q30
theorem q8p{fa:Addr}{A:Around}{outer:List Env}{s:Shared}{H:Hp}{E:XK}{ai:Addr}{ab:FuncData}(c_19:Cal P w K mg base "_law_mixed" 1 ["_law_script","_law_k"] 2 zk ai ab)(b_19:Binds K ab ["_law_script","_law_k"] [])(n_sorted:mg "sorted" = none)(n_list:mg "list" = none)(n_tuple:mg "tuple" = none)(n_range:mg "range" = none){cL TL:Addr}{dV':Value}{fd':FuncData}(F_L:Fun3 K "_law_wider" "_law_wider" xj dV' fa fd' cL TL)(hP_L:(TL,("_law_wider.<locals>.<lambda>" : Str))∈Lam.tab)(hU_L:∀p∈Lam.tab,p.1=TL->p.2="_law_wider.<locals>.<lambda>")(B_L:q3z mg base)(hr:Room 4 (A.deeper (envOfC "_law_wider" (qh xj) s.heap.objs.size fa (.ref cL)))):
  PSs (zy CX0 P w K mg base q5w "_law_wider" (qh xj) fa (.ref cL) A outer s H E).nox (qw xj) (tDS K q30):=by
 unfold q30;walk_at "g";exact q29;walk_at "b";refine(ql j3 qd ?_);walk_at "w";refine(z0 c_19 b_19 hr (by decide) rfl ?_);walk_at "u";walk_at "a";walk_at "p";exact q29;walk_at "b";refine(x9 ?_);refine(qn8 (x:="_law_ware") (N':=["_law_script"]) (cap:=[some 0]) (k:=1) (u:=(qi (qq 2 [] zk) (qc (eV 1) (qc (eOp zh (eC (.int 80)) (eV 0)) qf)))) rfl F_L.hd hP_L hU_L B_L hr rfl n_sorted ?_ (qst (zu rfl rfl) rfl rfl rfl) (fun _ _ _ _ _ _ hr=>?_) (fun _ _ _ _ _=>rfl) (by decide));walk_at "A";refine(qk9 rfl rfl n_list rfl n_range ?_);walk_at "k";exact qe;refine(z0 c_19 b_19 hr (by decide) rfl ?_);walk_at "A";walk_at "h";walk_at "A";refine(ql j3 qd ?_);walk_at "e";exact qe;walk_at "a";refine(z7 (i:=4) ?_ ?_ ?_ ?_ ?_ ?_);exact q29;exact rfl;exact(Or.inr rfl);refine(x9 ?_);refine(qoo (qpe hr.units) rfl n_sorted DL.boot_sorted ?_);walk_at "A";refine(q2k ?_ q4e (q1i ?_));exact(qa (pv 3));refine(zf ?_ qd);walk_at "n";walk_at "m";walk_at "f";walk_at "k";walk_at "A";refine(jr (yt) rfl n_tuple DL.boot_tuple ?_);walk_at "o";refine(ja (N':=["_law_many","_law_basket","_law_spots"]) (cap:=[none,none,some 4]) rfl (zu rfl rfl) (q3d (xi rfl (xi rfl q1u))) ?_ (fun _ _ _ _ _=>(q6b rfl (yf (zd q6j rfl (Or.inl rfl) (.inr rfl)) (yf (zd q6j rfl (Or.inl rfl) (.inr rfl)) q6a)))) (fun _ _ _ _ _=>vh) (fun _ _ _ _ _=>?_));refine(j9 ?_);refine(zf ?_ qd);walk_at "h";refine(za ?_);walk_at "c";refine(jr (yt) rfl n_tuple DL.boot_tuple ?_);walk_at "o";refine(ja (N':=["_law_ware","_law_spots"]) (cap:=[none,some 2]) rfl (zu rfl rfl) (zw rfl) ?_ (fun _ _ _ _ _=>(zd qcs rfl (Or.inl rfl) (.inr rfl))) (fun _ _ _ _ _=>vh) (fun _ _ _ _ _=>?_));refine(j9 ?_);walk_at "h";refine(zf ?_ ?_);walk_at "h";walk_at "e";exact qe;exact qe;exact qe;exact qe
theorem qgj{fa:Addr}{ai:Addr}{ab:FuncData}(c_19:Cal P w K mg base "_law_mixed" 1 ["_law_script","_law_k"] 2 zk ai ab)(b_19:Binds K ab ["_law_script","_law_k"] [])(n_sorted:mg "sorted" = none)(n_list:mg "list" = none)(n_tuple:mg "tuple" = none)(n_range:mg "range" = none){cL TL:Addr}{dV':Value}{fd':FuncData}(F_L:Fun3 K "_law_wider" "_law_wider" xj dV' fa fd' cL TL)(hP_L:(TL,("_law_wider.<locals>.<lambda>" : Str))∈Lam.tab)(hU_L:∀p∈Lam.tab,p.1=TL->p.2="_law_wider.<locals>.<lambda>")(B_L:q3z mg base): FnOk P w K mg base CX0 5 fa fd' ["_law_script","_law_pile_here"] (spD K 2 q17):=
 F_L.okn (k:=4) (n:=5) (ar:=2) (k1:=5) (u:=q30) qgi rfl rfl rfl fun A outer s H E hr=>(by first|(with_reducible exact q8p c_19 b_19 n_sorted n_list n_tuple n_range F_L hP_L hU_L B_L hr)|exact q8p c_19 b_19 n_sorted n_list n_tuple n_range F_L hP_L hU_L B_L hr)
abbrev wg:Stmt:=top 52
noncomputable def q3t:List Str:=["_law_one","_law_other","_law_edge","_law_top","_law_bottom"]
theorem q2p:(q3t).Nodup:=by decide +kernel
theorem qct:FnScope q3t ["_law_one","_law_other","_law_edge"] (qh wg):=⟨rfl,rfl,rfl,q2p,rfl,by decide +kernel,by decide +kernel⟩
noncomputable def q1g:FS:=(qz (qaw (eOp oIx (eL (q1h (qc (eV 2) (qc (zc (qc (eC (.int 1)) (qc (eC (.int 2)) qf))) qf)))) (qi qjq (qc (eOp (oIs false) (eV 2) (eC .non)) qf))) (q0j 2 (jy (bN 3) (jy (bN 4) q0i)))) (zg (eOp oGe (eOp zv (eV 0) (eV 4)) (eOp zv (eV 3) (eV 1)))))
noncomputable def xo:List D->Option D:=zj 5 q1g
theorem qcu{fa:Addr}{dV:Value}{fd:FuncData}(F:Fun2 K "_law_reaches" "_law_reaches" wg dV fa fd)(n_int:mg "int" = none): FnOk P w K mg base CX0 1 fa fd ["_law_one","_law_other","_law_edge"] (spD K 3 xo):=
 F.okn (k:=0) (n:=5) (ar:=3) (k1:=1) (u:=q1g) qct rfl rfl rfl fun cdv A outer s H E hr=>by
 show PSs (zy CX0 P w K mg base q3t "_law_reaches" (qh wg) fa cdv A outer s H E).nox (qw wg) (tDS K q1g);unfold q1g;walk_at "v";refine(qrz ?_ (q6b rfl (yf (zd q2p rfl (Or.inl rfl) (.inl rfl)) (yf (zd q2p rfl (Or.inl rfl) (.inl rfl)) q6a))));refine(zf ?_ ?_);refine(x9 ?_);refine(q0q ?_);walk_at "A";walk_at "k";walk_at "A";walk_at "q";exact qd;exact qe;exact qe;refine(jr (quz) rfl n_int DL.boot_int ?_);walk_at "A";refine(q3c (qb2 rfl) ?_ q39);walk_at "k";exact qe;walk_at "d";refine(q3c q51 ?_ ?_);refine(ql jc ?_ ?_);walk_at "e";exact(qa (pv 4));refine(ql jc ?_ ?_);exact(qa (pv 3));walk_at "h"
abbrev kg:Stmt:=top 57
noncomputable def q2q:List Str:=["_law_counts_here","_law_least_here","_law_edge","_law_total","_law_often_marks","_law_both","_law_whom"]
theorem vf:(q2q).Nodup:=by decide +kernel
theorem qbn:FnScope q2q ["_law_counts_here","_law_least_here","_law_edge"] (qh kg):=⟨rfl,rfl,rfl,vf,rfl,by decide +kernel,by decide +kernel⟩
theorem q9p:(["_law_mark_here","_law_least_here","_law_counts_here"]:List Str).Nodup:=by decide +kernel
noncomputable def q0m:FS:=(sIf (ku (zb q1r (eV 6) (eV 5)) (ku (zb oEq (eOp oBand (eV 6) (eV 5)) (eV 6)) (bT (qi (qq 3 [] xo) (qc (eOp oIx (eV 0) (eV 5)) (qc (eOp oIx (eV 0) (eV 6)) (qc (eV 2) qf))))))) (zo 3 (eOp zh (eV 3) (eC (.int 1)))) jw)
noncomputable def q0n:FS:=(q1t (jm (eV 4)) (bN 6) q0m)
noncomputable def q0d:FS:=(qz (zo 3 (eC (.int 0))) (qz (q1s 4 (zp (iR1 (qc (qi ye (qc (eV 0) qf)) qf)) [none,some 1,some 0] (bN 0) (zb oGe (eOp oIx (eV 2) (eV 0)) (eV 1)) (eV 0))) (wy 4 (qz (q1t (jm (eV 4)) (bN 5) q0n) (zg (eV 3))))))
noncomputable def q0e:List D->Option D:=zj 7 q0d
theorem qbo{fa:Addr}{dV:Value}{fd:FuncData}(F:Fun2 K "_law_many_due" "_law_many_due" kg dV fa fd){bj:Addr}{aj:FuncData}(c_22:Cal P w K mg base "_law_reaches" 1 ["_law_one","_law_other","_law_edge"] 3 xo bj aj)(b_22:Binds K aj ["_law_one","_law_other","_law_edge"] [])(n_range:mg "range" = none)(n_len:mg "len" = none): FnOk P w K mg base CX0 2 fa fd ["_law_counts_here","_law_least_here","_law_edge"] (spD K 3 q0e):=
 F.okn (k:=1) (n:=7) (ar:=3) (k1:=2) (u:=q0d) qbn rfl rfl rfl fun cdv A outer s H E hr=>by
 show PSs (zy CX0 P w K mg base q2q "_law_many_due" (qh kg) fa cdv A outer s H E).nox (qw kg) (tDS K q0d);unfold q0d q0n q0m;walk_at "v";refine(z7 (i:=3) ?_ ?_ ?_ qd ?_ ?_);exact vf;walk_at "b";walk_at "a";refine(qc3 (i:=4) rfl vf rfl rfl (N':=["_law_mark_here","_law_least_here","_law_counts_here"]) (cap:=[none,some 1,some 0]) (zu rfl rfl) (zw rfl) ?_ (fun _ _ _ _ _=>(zd q9p rfl (Or.inl rfl) (.inr rfl))) (fun _ _ _ _ _=>(q0t ?_)) (fun _ _ _ _ _=>?_));refine(q1o rfl n_range ?_);walk_at "A";refine(j6 (yj) rfl n_len DL.jt ?_);walk_at "l";exact qe;refine(zm q51 ?_ ?_);refine(zf ?_ ?_);walk_at "k";walk_at "e";walk_at "h";walk_at "e";refine(q0r 4 (qk ?_ ?_));refine(q0s tq rfl ?_ (zd vf rfl (Or.inl rfl) (.inl rfl)) (qp ?_));refine(j9 ?_);exact(qa (pv 4));refine(q0s tq rfl ?_ (zd vf rfl (Or.inl rfl) (.inl rfl)) (qp ?_));refine(j9 ?_);exact(qa (pv 4));walk_at "j";refine(PW.pt (q82 ?_ (q82 ?_ (q97 ?_))));refine(zm q3b ?_ ?_);exact(qa (pv 6));exact(qa (pv 5));refine(zm (yz hr.units) ?_ ?_);refine(ql q45 ?_ ?_);exact(qa (pv 6));exact(qa (pv 5));exact(qa (pv 6));refine(xa ?_);refine(z0 c_22 b_22 hr (by decide) rfl ?_);walk_at "A";refine(zf ?_ ?_);walk_at "e";exact(qa (pv 5));walk_at "A";refine(zf ?_ ?_);walk_at "e";exact(qa (pv 6));walk_at "x";walk_at "p";exact vf;walk_at "b";refine(ql j3 ?_ qd);exact(qa (pv 3));walk_at "m";exact(qa (pv 3))
abbrev q2a:Stmt:=top 55
noncomputable def q7i:List Str:=["_law_some","_law_wares","_law_last","_law_mark_here","_law_ware"]
theorem wm:(q7i).Nodup:=by decide +kernel
theorem qi1:FnScope q7i ["_law_some","_law_wares"] (qh q2a):=⟨rfl,rfl,rfl,wm,rfl,by decide +kernel,by decide +kernel⟩
noncomputable def q3u:FS:=(qz (sIf (bOr (wx (bT (q0k .int (eV 4)))) (bOr (bT (q0k .bool (eV 4))) (bOr (zb oLe (eV 4) (eV 2)) (zb oGe (eV 4) (eV 1))))) (zg (eC .non)) jw) (qz (zo 2 (eV 4)) (zo 3 (eOp zh (eV 3) (eOp oShl (eC (.int 1)) (eV 4))))))
noncomputable def q43:FS:=(qz (sIf (wx (bT (q0k .tuple (eV 0)))) (zg (eC .non)) jw) (qz (zo 2 (eUn q5j (eC (.int 1)))) (qz (zo 3 (eC (.int 0))) (qz (q1t (jm (eV 0)) (bN 4) q3u) (zg (eV 3))))))
noncomputable def q2b:List D->Option D:=zj 5 q43
theorem qi2{fa:Addr}{dV:Value}{fd:FuncData}(F:Fun2 K "_law_mark" "_law_mark" q2a dV fa fd)(n_isinstance:mg "isinstance" = none)(n_tuple:mg "tuple" = none)(n_bool:mg "bool" = none)(n_int:mg "int" = none): FnOk P w K mg base CX0 1 fa fd ["_law_some","_law_wares"] (spD K 2 q2b):=
 F.okn (k:=0) (n:=5) (ar:=2) (k1:=1) (u:=q43) qi1 rfl rfl rfl fun cdv A outer s H E hr=>by
 show PSs (zy CX0 P w K mg base q7i "_law_mark" (qh q2a) fa cdv A outer s H E).nox (qw q2a) (tDS K q43);unfold q43 q3u;walk_at "v";walk_at "j";walk_at "s";refine(wa .tuple rfl n_isinstance rfl n_tuple DL.boot_tuple ?_);walk_at "e";exact(z5 q39);walk_at "g";exact wm;walk_at "b";exact(q88 qd);walk_at "a";refine(z7 (i:=3) ?_ ?_ ?_ qd ?_ ?_);exact wm;walk_at "b";walk_at "a";refine(q0s tq rfl ?_ (zd wm rfl (Or.inl rfl) (.inl rfl)) (qk ?_ ?_));refine(j9 ?_);walk_at "e";walk_at "j";refine(PW.pt (yy ?_ (yy ?_ (yy ?_ (q0p ?_)))));walk_at "s";refine(wa .int rfl n_isinstance rfl n_int DL.boot_int ?_);exact(qa (pv 4));refine(xa ?_);refine(wa .bool rfl n_isinstance rfl n_bool DL.boot_bool ?_);exact(qa (pv 4));refine(zm qqw ?_ ?_);exact(qa (pv 4));walk_at "k";refine(zm q51 ?_ ?_);exact(qa (pv 4));walk_at "h";exact(z5 q39);walk_at "g";exact wm;walk_at "b";exact(qa (pv 4));exact rfl;walk_at "L";refine(qp ?_);walk_at "p";exact wm;walk_at "b";refine(ql j3 ?_ ?_);exact(qa (pv 3));refine(ql q69 qd ?_);exact(qa (pv 4));walk_at "m";exact(qa (pv 3))
abbrev q18:Stmt:=top 47
noncomputable def q5x:List Str:=["_law_found","_law_due"]
theorem qgk:(q5x).Nodup:=by decide +kernel
theorem qgl:FnScope q5x ["_law_found","_law_due"] (qh q18):=⟨rfl,rfl,rfl,qgk,rfl,by decide +kernel,by decide +kernel⟩
noncomputable def q31:FS:=(zg (q6u (q0k .int (eV 0)) (q6u (qc2 (q0k .bool (eV 0))) (eOp oEq (eV 0) (eV 1)))))
noncomputable def yw:List D->Option D:=zj 2 q31
theorem qgm{fa:Addr}{dV:Value}{fd:FuncData}(F:Fun2 K "_law_whole" "_law_whole" q18 dV fa fd)(n_isinstance:mg "isinstance" = none)(n_int:mg "int" = none)(n_bool:mg "bool" = none): FnOk P w K mg base CX0 1 fa fd ["_law_found","_law_due"] (spD K 2 yw):=
 F.okn (k:=0) (n:=2) (ar:=2) (k1:=1) (u:=q31) qgl rfl rfl rfl fun cdv A outer s H E hr=>by
 show PSs (zy CX0 P w K mg base q5x "_law_whole" (qh q18) fa cdv A outer s H E).nox (qw q18) (tDS K q31);unfold q31;refine(qp ?_);refine(z5 ?_);refine(q83 ?_ (q83 ?_ (qer ?_)));refine(wa .int rfl n_isinstance rfl n_int DL.boot_int ?_);exact(qa (pv 0));refine(qm8 ?_);refine(wa .bool rfl n_isinstance rfl n_bool DL.boot_bool ?_);exact(qa (pv 0));refine(q3c (yz hr.units) ?_ ?_);exact(qa (pv 0));exact(qa (pv 1))
abbrev y6:Stmt:=top 53
noncomputable def q1l:List Str:=["_law_found","_law_due"]
theorem q9q:(q1l).Nodup:=by decide +kernel
theorem q9r:FnScope q1l ["_law_found","_law_due"] (qh y6):=⟨rfl,rfl,rfl,q9q,rfl,by decide +kernel,by decide +kernel⟩
noncomputable def w8:FS:=(qz (sIf (bOr (wx (bT (q0k .tuple (eV 0)))) (zb q1r (qi ye (qc (eV 0) qf)) (eC (.int 2)))) (zg (eC (.bl false))) jw) (zg (q6u (qi (qq 2 [] yw) (qc (eOp oIx (eV 0) (eC (.int 0))) (qc (eOp oIx (eV 1) (eC (.int 0))) qf))) (qi (qq 2 [] yw) (qc (eOp oIx (eV 0) (eC (.int 1))) (qc (eOp oIx (eV 1) (eC (.int 1))) qf))))))
noncomputable def y8:List D->Option D:=zj 2 w8
theorem q9s{fa:Addr}{dV:Value}{fd:FuncData}(F:Fun2 K "_law_two_shares" "_law_two_shares" y6 dV fa fd){bK:Addr}{aD:FuncData}(c_27:Cal P w K mg base "_law_whole" 1 ["_law_found","_law_due"] 2 yw bK aD)(b_27:Binds K aD ["_law_found","_law_due"] [])(n_isinstance:mg "isinstance" = none)(n_tuple:mg "tuple" = none)(n_len:mg "len" = none): FnOk P w K mg base CX0 2 fa fd ["_law_found","_law_due"] (spD K 2 y8):=
 F.okn (k:=1) (n:=2) (ar:=2) (k1:=2) (u:=w8) q9r rfl rfl rfl fun cdv A outer s H E hr=>by
 show PSs (zy CX0 P w K mg base q1l "_law_two_shares" (qh y6) fa cdv A outer s H E).nox (qw y6) (tDS K w8);unfold w8;walk_at "v";walk_at "j";refine(PW.pt (yy ?_ (q0p ?_)));walk_at "s";refine(wa .tuple rfl n_isinstance rfl n_tuple DL.boot_tuple ?_);walk_at "e";refine(zm q3b ?_ qd);refine(j6 (yj) rfl n_len DL.jt ?_);walk_at "l";exact(z5 q1d);walk_at "d";refine(q83 ?_ (qer ?_));refine(z0 c_27 b_27 hr (by decide) rfl ?_);walk_at "i";refine(zf ?_ qd);walk_at "n";refine(z0 c_27 b_27 hr (by decide) rfl ?_);walk_at "i";refine(zf ?_ qd);walk_at "n"
abbrev q05:Stmt:=top 48
noncomputable def q4y:List Str:=["_law_one","_law_other"]
theorem q3v:(q4y).Nodup:=by decide +kernel
theorem qe2:FnScope q4y ["_law_one","_law_other"] (qh q05):=⟨rfl,rfl,rfl,q3v,rfl,by decide +kernel,by decide +kernel⟩
noncomputable def yr:FS:=(sIf (zb oGe (eV 0) (eV 1)) (zo 0 (eOp oMod (eV 0) (eV 1))) (zo 1 (eOp oMod (eV 1) (eV 0))))
noncomputable def q06:FS:=(qz (jk (ku (zb oGt (eV 0) (eC (.int 0))) (zb oGt (eV 1) (eC (.int 0)))) yr 100000) (zg (eOp zh (eV 0) (eV 1))))
noncomputable def q2c:List D->Option D:=zj 2 q06
theorem qe3{fa:Addr}{dV:Value}{fd:FuncData}(F:Fun2 K "_law_common" "_law_common" q05 dV fa fd): FnOk P w K mg base CX0 1 fa fd ["_law_one","_law_other"] (spD K 2 q2c):=
 F.okn (k:=0) (n:=2) (ar:=2) (k1:=1) (u:=q06) qe2 rfl rfl rfl fun cdv A outer s H E hr=>by
 show PSs (zy CX0 P w K mg base q4y "_law_common" (qh q05) fa cdv A outer s H E).nox (qw q05) (tDS K q06);unfold q06 yr;walk_at "v";refine(qa2 100000 tq ?_ (qp ?_));refine(PW.pt (q82 ?_ (q97 ?_)));refine(zm qe6 ?_ qd);walk_at "e";refine(zm qe6 ?_ qd);walk_at "h";refine(jl ?_ (qp ?_) (qp ?_));refine(zm q51 ?_ ?_);walk_at "e";walk_at "h";refine(z7 (i:=0) ?_ ?_ ?_ ?_ ?_ ?_);exact q3v;walk_at "b";refine(ql j2 ?_ ?_);walk_at "e";walk_at "h";exact rfl;walk_at "L";refine(z7 (i:=1) ?_ ?_ ?_ ?_ ?_ ?_);exact q3v;walk_at "b";refine(ql j2 ?_ ?_);walk_at "h";walk_at "e";walk_at "m";refine(ql j3 ?_ ?_);walk_at "e";walk_at "h"
abbrev q19:Stmt:=top 49
noncomputable def q5y:List Str:=["_law_top","_law_bottom","_law_divisor"]
theorem q8q:(q5y).Nodup:=by decide +kernel
theorem qgn:FnScope q5y ["_law_top","_law_bottom"] (qh q19):=⟨rfl,rfl,rfl,q8q,rfl,by decide +kernel,by decide +kernel⟩
noncomputable def q32:FS:=(qz (zo 2 (qi (qq 2 [] q2c) (qc (eV 0) (qc (eV 1) qf)))) (zg (zc (qc (eOp oDivB (eV 0) (eV 2)) (qc (eOp oDivB (eV 1) (eV 2)) qf)))))
noncomputable def q1a:List D->Option D:=zj 3 q32
theorem qgo{fa:Addr}{dV:Value}{fd:FuncData}(F:Fun2 K "_law_share" "_law_share" q19 dV fa fd){eY:Addr}{cj:FuncData}(c_12:Cal P w K mg base "_law_common" 1 ["_law_one","_law_other"] 2 q2c eY cj)(b_12:Binds K cj ["_law_one","_law_other"] []): FnOk P w K mg base CX0 2 fa fd ["_law_top","_law_bottom"] (spD K 2 q1a):=
 F.okn (k:=1) (n:=3) (ar:=2) (k1:=2) (u:=q32) qgn rfl rfl rfl fun cdv A outer s H E hr=>by
 show PSs (zy CX0 P w K mg base q5y "_law_share" (qh q19) fa cdv A outer s H E).nox (qw q19) (tDS K q32);unfold q32;walk_at "g";exact q8q;walk_at "b";refine(z0 c_12 b_12 hr (by decide) rfl ?_);walk_at "c";walk_at "n";walk_at "m";walk_at "f";refine(ql q46 ?_ ?_);walk_at "e";walk_at "k";walk_at "A";refine(ql q46 ?_ ?_);walk_at "h";walk_at "k";exact qe
abbrev q1b:Stmt:=top 56
noncomputable def q5z:List Str:=["_law_saying","_law_wares","_law_counts_here","_law_edge","_law_whom","_law_what","_law_many"]
theorem q2d:(q5z).Nodup:=by decide +kernel
theorem qgp:FnScope q5z ["_law_saying","_law_wares","_law_counts_here","_law_edge"] (qh q1b):=⟨rfl,rfl,rfl,q2d,rfl,by decide +kernel,by decide +kernel⟩
noncomputable def q33:FS:=(qz (sIf (bOr (wx (bT (q0k .tuple (eV 0)))) (bOr (zb q1r (qi ye (qc (eV 0) qf)) (eC (.int 6))) (wx (bT (q0k .bool (eOp oIx (eV 0) (eC (.int 5)))))))) (zg (eC (.bl false))) jw) (qz (zo 4 (qi (qq 2 [] q2b) (qc (eOp oIx (eV 0) (eC (.int 0))) (qc (eV 1) qf)))) (qz (zo 5 (qi (qq 2 [] q2b) (qc (eOp oIx (eV 0) (eC (.int 1))) (qc (eV 1) qf)))) (qz (sIf (bOr (zb (oIs false) (eV 4) (eC .non)) (bOr (zb (oIs false) (eV 5) (eC .non)) (bOr (zb oEq (eV 5) (eC (.int 0))) (zb q1r (eOp oBand (eV 4) (eV 5)) (eC (.int 0)))))) (zg (eC (.bl false))) jw) (qz (zo 6 (eOp oIx (eV 2) (eOp oBor (eV 4) (eV 5)))) (qz (sIf (bOr (wx (bT (qi (qq 2 [] yw) (qc (eOp oIx (eV 0) (eC (.int 2))) (qc (eV 6) qf))))) (wx (bT (qi (qq 3 [] xo) (qc (eV 6) (qc (eOp oIx (eV 2) (eV 4)) (qc (eV 3) qf))))))) (zg (eC (.bl false))) jw) (qz (sIf (wx (bT (qi (qq 2 [] y8) (qc (eOp oIx (eV 0) (eC (.int 3))) (qc (qi (qq 2 [] q1a) (qc (eV 6) (qc (eOp oIx (eV 2) (eV 4)) qf))) qf))))) (zg (eC (.bl false))) jw) (zg (qi (qq 2 [] y8) (qc (eOp oIx (eV 0) (eC (.int 4))) (qc (qi (qq 2 [] q1a) (qc (eOp zv (eV 6) (eOp oIx (eV 2) (eC (.int 0)))) (qc (eOp zv (eOp oIx (eV 2) (eV 4)) (eOp oIx (eV 2) (eV 5))) qf))) qf)))))))))))
noncomputable def q34:List D->Option D:=zj 7 q33
theorem qgq{fa:Addr}{dV:Value}{fd:FuncData}(F:Fun2 K "_law_is_so" "_law_is_so" q1b dV fa fd){fV:Addr}{dG:FuncData}(c_17:Cal P w K mg base "_law_mark" 1 ["_law_some","_law_wares"] 2 q2b fV dG)(b_17:Binds K dG ["_law_some","_law_wares"] []){dH:Addr}{a9:FuncData}(c_26:Cal P w K mg base "_law_two_shares" 2 ["_law_found","_law_due"] 2 y8 dH a9)(b_26:Binds K a9 ["_law_found","_law_due"] []){fC:Addr}{cH:FuncData}(c_25:Cal P w K mg base "_law_share" 2 ["_law_top","_law_bottom"] 2 q1a fC cH)(b_25:Binds K cH ["_law_top","_law_bottom"] []){bK:Addr}{aD:FuncData}(c_27:Cal P w K mg base "_law_whole" 1 ["_law_found","_law_due"] 2 yw bK aD)(b_27:Binds K aD ["_law_found","_law_due"] []){bj:Addr}{aj:FuncData}(c_22:Cal P w K mg base "_law_reaches" 1 ["_law_one","_law_other","_law_edge"] 3 xo bj aj)(b_22:Binds K aj ["_law_one","_law_other","_law_edge"] [])(n_isinstance:mg "isinstance" = none)(n_tuple:mg "tuple" = none)(n_len:mg "len" = none)(n_bool:mg "bool" = none): FnOk P w K mg base CX0 3 fa fd ["_law_saying","_law_wares","_law_counts_here","_law_edge"] (spD K 4 q34):=
 F.okn (k:=2) (n:=7) (ar:=4) (k1:=3) (u:=q33) qgp rfl rfl rfl fun cdv A outer s H E hr=>by
 show PSs (zy CX0 P w K mg base q5z "_law_is_so" (qh q1b) fa cdv A outer s H E).nox (qw q1b) (tDS K q33);unfold q33;walk_at "v";walk_at "j";refine(PW.pt (yy ?_ (yy ?_ (q0p ?_))));walk_at "s";refine(wa .tuple rfl n_isinstance rfl n_tuple DL.boot_tuple ?_);walk_at "e";refine(zm q3b ?_ qd);refine(j6 (yj) rfl n_len DL.jt ?_);walk_at "l";walk_at "s";refine(wa .bool rfl n_isinstance rfl n_bool DL.boot_bool ?_);walk_at "r";exact(z5 q1d);walk_at "v";refine(z7 (i:=4) ?_ ?_ ?_ ?_ ?_ ?_);exact q2d;walk_at "b";refine(z0 c_17 b_17 hr (by decide) rfl ?_);walk_at "i";walk_at "n";walk_at "a";refine(z7 (i:=5) ?_ ?_ ?_ ?_ ?_ ?_);exact q2d;walk_at "b";refine(z0 c_17 b_17 hr (by decide) rfl ?_);walk_at "i";walk_at "n";walk_at "a";walk_at "j";refine(PW.pt (yy ?_ (yy ?_ (yy ?_ (q0p ?_)))));refine(zm (qb2 rfl) ?_ q39);exact(qa (pv 4));refine(zm (qb2 rfl) ?_ q39);exact(qa (pv 5));refine(zm (yz hr.units) ?_ qd);exact(qa (pv 5));refine(zm q3b ?_ qd);refine(ql q45 ?_ ?_);exact(qa (pv 4));exact(qa (pv 5));exact(z5 q1d);walk_at "v";refine(z7 (i:=6) ?_ ?_ ?_ ?_ ?_ ?_);exact q2d;walk_at "b";refine(zf ?_ ?_);walk_at "k";refine(ql qmi ?_ ?_);exact(qa (pv 4));exact(qa (pv 5));walk_at "a";walk_at "j";refine(PW.pt (yy ?_ (q0p ?_)));walk_at "s";refine(z0 c_27 b_27 hr (by decide) rfl ?_);walk_at "i";exact(qa (pv 6));exact qe;walk_at "s";refine(z0 c_22 b_22 hr (by decide) rfl ?_);walk_at "A";exact(qa (pv 6));walk_at "A";refine(zf ?_ ?_);walk_at "k";exact(qa (pv 4));walk_at "A";exact(qa (pv 3));exact qe;exact(z5 q1d);walk_at "v";walk_at "j";walk_at "s";refine(z0 c_26 b_26 hr (by decide) rfl ?_);walk_at "i";refine(z0 c_25 b_25 hr (by decide) rfl ?_);walk_at "A";exact(qa (pv 6));walk_at "A";refine(zf ?_ ?_);walk_at "k";exact(qa (pv 4));exact qe;exact qe;exact(z5 q1d);walk_at "d";refine(z0 c_26 b_26 hr (by decide) rfl ?_);walk_at "i";refine(z0 c_25 b_25 hr (by decide) rfl ?_);walk_at "A";refine(ql jc ?_ ?_);exact(qa (pv 6));refine(zf ?_ qd);walk_at "k";walk_at "A";refine(ql jc ?_ ?_);refine(zf ?_ ?_);walk_at "k";exact(qa (pv 4));refine(zf ?_ ?_);walk_at "k";exact(qa (pv 5));exact qe;exact qe
abbrev qbp:Stmt:=top 59
noncomputable def qky:List Str:=["_law_script","_law_pile_here","_law_wares","_law_counts_here","_law_least_here","_law_edge","_law_found","_law_last","_law_saying","_law_here","_law_other"]
theorem kh:(qky).Nodup:=by decide +kernel
theorem qvt:FnScope qky ["_law_script"] (qh qbp):=⟨rfl,rfl,rfl,kh,rfl,by decide +kernel,by decide +kernel⟩
noncomputable def qai:FS:=(qz (sIf (bOr (wx (bT (qi (qq 4 [] q34) (qc (eV 8) (qc (eV 2) (qc (eV 3) (qc (eV 5) qf))))))) (zb oLt' (eOp oIx (eV 8) (eC (.int 2))) (eV 4))) (zg (eC (.bl false))) jw) (qz (zo 9 (zc (qc (zc (qc (qi ye (qc (eOp oIx (eV 8) (eC (.int 0))) qf)) (qc (eOp oIx (eV 8) (eC (.int 0))) qf))) (qc (zc (qc (qi ye (qc (eOp oIx (eV 8) (eC (.int 1))) qf)) (qc (eOp oIx (eV 8) (eC (.int 1))) qf))) qf)))) (qz (sIf (zb qfq (eV 9) (eV 7)) (zg (eC (.bl false))) jw) (zo 7 (eV 9)))))
noncomputable def qee:FS:=(qz (zo 1 (qi (qq 3 [] q1z) (qc (eOp zh (eSl (eV 0) oNo (oAt (eC (.int 2)))) (eSl (eV 0) (oAt (eC (.int 3))) oNo)) (qc (eOp oMod (eOp oDiv (qi (qq 2 [] xl) (qc (eV 0) (qc (eC (.int 0)) qf))) (eC (.int 2))) (eC (.int 6))) (qc (eC (.int 60)) qf))))) (qz (sIf (zb oEq (eOp oMod (qi (qq 2 [] zk) (qc (eV 0) (qc (eC (.int 3)) qf))) (eC (.int 4))) (eC (.int 0))) (zo 1 (qi (qq 2 [] q17) (qc (eV 0) (qc (eV 1) qf)))) jw) (qz (zo 2 (eOp oIx (eV 1) (eC (.int 0)))) (qz (zo 3 (qi (qq 1 [] q21) (qc (eV 1) qf))) (qz (zo 4 (qi (qq 2 [] xy) (qc (eV 0) (qc (eV 3) qf)))) (qz (zo 5 (qi (qq 2 [] q2w) (qc (eV 0) (qc (eV 3) qf)))) (qz (zo 6 (qi (qq 3 [] q28) (qc (eV 1) (qc (eV 4) (qc (eV 5) qf))))) (qz (sIf (bOr (wx (bT (q0k .tuple (eV 6)))) (zb q1r (qi ye (qc (eV 6) qf)) (qi (qq 3 [] q0e) (qc (eV 3) (qc (eV 4) (qc (eV 5) qf)))))) (zg (eC (.bl false))) jw) (qz (zo 7 (zc (qc (zc (qc (eUn q5j (eC (.int 1))) (qc (zc qf) qf))) (qc (zc (qc (eUn q5j (eC (.int 1))) (qc (zc qf) qf))) qf)))) (qz (q1t (jm (eV 6)) (bN 8) qai) (qz (zo 10 (qi (qq 3 [] xh) (qc (zc (qc (eC (.int 1)) (qc (zc (qc (zc (qc (eC (.int 2)) (qc (zc (qc (eC (.int 0)) qf)) qf))) (qc (zc (qc (eC (.int 1)) (qc (zc qf) qf))) qf))) qf))) (qc (eC (.int 2)) (qc (zc (qc (eC (.int 2)) (qc (eC (.int 3)) qf))) qf))))) (qz (sIf (bOr (zb q4f (eV 10) (zc (qc (zc (qc (zc qf) (qc (zc (qc (eC (.int 0)) qf)) (qc (eC (.int 2)) (qc (zc (qc (eC (.int 2)) (qc (eC (.int 3)) qf))) (qc (zc (qc (eC (.int 1)) (qc (eC (.int 1)) qf))) (qc (eC (.bl false)) qf))))))) qf))) (zb q4f (qi (qq 3 [.non] xh) (qc (zc (qc (eC (.int 0)) (qc (zc (qc (zc (qc (eC (.int 3)) (qc (zc qf) qf))) qf)) qf))) (qc (eC (.int 1)) qf))) (zc qf))) (zg (eC (.bl false))) jw) (zg (eOp oEq (qi (qq 3 [] q28) (qc (eV 1) (qc (eV 4) (qc (eV 5) qf)))) (eV 6)))))))))))))))
noncomputable def qkz:List D->Option D:=zj 11 qee
theorem qvu{fa:Addr}{dV:Value}{fd:FuncData}(F:Fun2 K "law" "law" qbp dV fa fd){fU:Addr}{dF:FuncData}(c_21:Cal P w K mg base "_law_pile" 3 ["_law_script","_law_wares","_law_most_runs"] 3 q1z fU dF)(b_21:Binds K dF ["_law_script","_law_wares","_law_most_runs"] []){eW:Addr}{cg:FuncData}(c_13:Cal P w K mg base "_law_counts" 2 ["_law_pile_here"] 1 q21 eW cg)(b_13:Binds K cg ["_law_pile_here"] []){fE:Addr}{cJ:FuncData}(c_15:Cal P w K mg base "_law_least" 2 ["_law_script","_law_counts_here"] 2 xy fE cJ)(b_15:Binds K cJ ["_law_script","_law_counts_here"] []){fG:Addr}{cN:FuncData}(c_10:Cal P w K mg base "_law_bound" 2 ["_law_script","_law_counts_here"] 2 q2w fG cN)(b_10:Binds K cN ["_law_script","_law_counts_here"] []){fT:Addr}{dE:FuncData}(c_24:Cal P w K mg base "_law_said" 6 ["_law_pile_here","_law_least_here","_law_edge"] 3 q28 fT dE)(b_24:Binds K dE ["_law_pile_here","_law_least_here","_law_edge"] []){dW:Addr}{aH:FuncData}(c_38:Cal P w K mg base "sayings" 5 ["pile","least","bound"] 3 xh dW aH)(b_38:Binds K aH ["pile","least","bound"] []){aE:List V}{dv_l_sayings_1:List Value}(aA:Binds K aH ["pile","least","bound"] dv_l_sayings_1)(ay:Vals aE dv_l_sayings_1)(az:∀ {H:Hp},RepL K H [.non] aE){fB:Addr}{cG:FuncData}(c_28:Cal P w K mg base "_law_wider" 5 ["_law_script","_law_pile_here"] 2 q17 fB cG)(b_28:Binds K cG ["_law_script","_law_pile_here"] []){ai:Addr}{ab:FuncData}(c_19:Cal P w K mg base "_law_mixed" 1 ["_law_script","_law_k"] 2 zk ai ab)(b_19:Binds K ab ["_law_script","_law_k"] []){eB:Addr}{bB:FuncData}(c_16:Cal P w K mg base "_law_many_due" 2 ["_law_counts_here","_law_least_here","_law_edge"] 3 q0e eB bB)(b_16:Binds K bB ["_law_counts_here","_law_least_here","_law_edge"] []){aw:Addr}{ae:FuncData}(c_11:Cal P w K mg base "_law_cell" 1 ["_law_script","_law_k"] 2 xl aw ae)(b_11:Binds K ae ["_law_script","_law_k"] []){fF:Addr}{cK:FuncData}(c_14:Cal P w K mg base "_law_is_so" 3 ["_law_saying","_law_wares","_law_counts_here","_law_edge"] 4 q34 fF cK)(b_14:Binds K cK ["_law_saying","_law_wares","_law_counts_here","_law_edge"] [])(n_isinstance:mg "isinstance" = none)(n_tuple:mg "tuple" = none)(n_len:mg "len" = none): FnOk P w K mg base CX0 7 fa fd ["_law_script"] (spD K 1 qkz):=
 F.okn (k:=6) (n:=11) (ar:=1) (k1:=7) (u:=qee) qvt rfl rfl rfl fun cdv A outer s H E hr=>by
 show PSs (zy CX0 P w K mg base qky "law" (qh qbp) fa cdv A outer s H E).nox (qw qbp) (tDS K qee);unfold qee qai;walk_at "v";refine(z7 (i:=1) ?_ ?_ ?_ ?_ ?_ ?_);exact kh;walk_at "b";refine(z0 c_21 b_21 hr (by decide) rfl ?_);walk_at "A";refine(ql j3 ?_ ?_);refine(q2k ?_ q4e (q1i qd));walk_at "e";refine(q2k ?_ (q1i qd) q4e);walk_at "e";walk_at "A";walk_at "w";refine(ql q3a ?_ qd);refine(z0 c_11 b_11 hr (by decide) rfl ?_);walk_at "u";walk_at "A";exact qd;exact qe;walk_at "a";walk_at "j";refine(zm (yz hr.units) ?_ qd);walk_at "w";refine(z0 c_19 b_19 hr (by decide) rfl ?_);walk_at "u";refine(z7 (i:=1) ?_ ?_ ?_ ?_ ?_ ?_);exact kh;walk_at "b";refine(z0 c_28 b_28 hr (by decide) rfl ?_);walk_at "c";walk_at "n";walk_at "a";refine(z7 (i:=2) ?_ ?_ ?_ ?_ ?_ ?_);exact kh;walk_at "b";refine(zf ?_ qd);walk_at "h";walk_at "a";walk_at "p";exact kh;walk_at "b";refine(z0 c_13 b_13 hr (by decide) rfl ?_);walk_at "A";walk_at "n";walk_at "a";refine(z7 (i:=4) ?_ ?_ ?_ ?_ ?_ ?_);exact kh;walk_at "b";refine(z0 c_15 b_15 hr (by decide) rfl ?_);walk_at "c";exact(qa (pv 3));exact qe;walk_at "a";refine(z7 (i:=5) ?_ ?_ ?_ ?_ ?_ ?_);exact kh;walk_at "b";refine(z0 c_10 b_10 hr (by decide) rfl ?_);walk_at "c";exact(qa (pv 3));exact qe;walk_at "a";refine(z7 (i:=6) ?_ ?_ ?_ ?_ ?_ ?_);exact kh;walk_at "b";refine(z0 c_24 b_24 hr (by decide) rfl ?_);walk_at "A";walk_at "h";walk_at "A";exact(qa (pv 4));walk_at "A";exact(qa (pv 5));exact qe;walk_at "a";walk_at "j";refine(PW.pt (yy ?_ (q0p ?_)));walk_at "s";refine(wa .tuple rfl n_isinstance rfl n_tuple DL.boot_tuple ?_);exact(qa (pv 6));refine(zm q3b ?_ ?_);refine(j6 (yj) rfl n_len DL.jt ?_);walk_at "A";exact(qa (pv 6));exact qe;refine(z0 c_16 b_16 hr (by decide) rfl ?_);walk_at "A";exact(qa (pv 3));walk_at "A";exact(qa (pv 4));walk_at "A";exact(qa (pv 5));exact qe;exact(z5 q1d);walk_at "v";refine(z7 (i:=7) ?_ ?_ ?_ ?_ ?_ ?_);exact kh;walk_at "b";walk_at "f";walk_at "f";exact(q88 qd);walk_at "A";exact(za qe);exact qe;walk_at "A";walk_at "f";exact(q88 qd);walk_at "A";exact(za qe);exact qe;exact qe;walk_at "a";refine(q0s tq rfl ?_ (zd kh rfl (Or.inl rfl) (.inl rfl)) (qk ?_ ?_));refine(j9 ?_);exact(qa (pv 6));walk_at "j";refine(PW.pt (yy ?_ (q0p ?_)));walk_at "s";refine(z0 c_14 b_14 hr (by decide) rfl ?_);walk_at "A";exact(qa (pv 8));walk_at "A";walk_at "k";walk_at "A";exact(qa (pv 3));walk_at "A";exact(qa (pv 5));exact qe;refine(zm qew ?_ ?_);refine(zf ?_ qd);exact(qa (pv 8));exact(qa (pv 4));exact(z5 q1d);walk_at "v";refine(z7 (i:=9) ?_ ?_ ?_ ?_ ?_ ?_);exact kh;walk_at "b";walk_at "f";walk_at "f";refine(j6 (yj) rfl n_len DL.jt ?_);walk_at "A";refine(zf ?_ qd);exact(qa (pv 8));exact qe;walk_at "A";refine(zf ?_ qd);exact(qa (pv 8));exact qe;walk_at "A";walk_at "f";refine(j6 (yj) rfl n_len DL.jt ?_);walk_at "A";refine(zf ?_ qd);exact(qa (pv 8));exact qe;walk_at "A";refine(zf ?_ qd);exact(qa (pv 8));exact qe;exact qe;walk_at "a";walk_at "j";refine(zm (qvn hr.units) ?_ ?_);exact(qa (pv 9));exact(qa (pv 7));exact(z5 q1d);refine(qp ?_);refine(z7 (i:=7) ?_ ?_ ?_ ?_ ?_ ?_);exact kh;walk_at "b";exact(qa (pv 9));walk_at "a";refine(z7 (i:=10) ?_ ?_ ?_ ?_ ?_ ?_);exact kh;walk_at "b";refine(z0 c_38 b_38 hr (by decide) rfl ?_);walk_at "A";walk_at "q";walk_at "f";walk_at "q";walk_at "f";exact qd;exact qe;exact qe;walk_at "A";walk_at "q";exact(za qe);exact qe;exact qe;exact qe;walk_at "t";walk_at "q";exact qd;exact qe;exact qe;walk_at "a";walk_at "j";refine(PW.pt (yy ?_ (q0p ?_)));refine(zm (qf4 hr.units) ?_ ?_);exact(qa (pv 10));walk_at "f";walk_at "f";exact(za qe);walk_at "A";walk_at "f";exact qd;exact qe;walk_at "t";walk_at "q";exact qd;exact qe;walk_at "A";walk_at "q";exact qd;exact qe;walk_at "A";exact q1d;exact qe;exact qe;refine(zm (qf4 hr.units) ?_ ?_);refine(qio c_38 aA ay (fun _=>az) hr (by decide) rfl ?_);walk_at "A";walk_at "q";walk_at "f";walk_at "q";exact(za qe);exact qe;exact qe;exact qe;walk_at "A";exact qd;exact qe;exact(za qe);exact(z5 q1d);walk_at "d";refine(q3c (yz hr.units) ?_ ?_);refine(z0 c_24 b_24 hr (by decide) rfl ?_);walk_at "A";walk_at "h";walk_at "A";exact(qa (pv 4));walk_at "A";exact(qa (pv 5));exact qe;exact(qa (pv 6))
end
end My
namespace DL
open PySem L2
theorem qgr(a b:Int): decide (V.int a=V.int b)=decide (a=b):=g2e.mpr ⟨fun h=>by injection h,fun h=>by rw [h]⟩
theorem q0f(a b:Int): oEq (.int a) (.int b)=some (.bl (decide (a=b))):=by
 simp only [oEq,qoh,flD,qby,g9,tf,g69,qgr]
theorem q1p(a b:Int): q1r (.int a) (.int b)=some (.bl (!decide (a=b))):=by
 simp only [q1r,flD,qby,g9,tf,qgr]
theorem qvv(a b:Bool): oEq (.bl a) (.bl b)=some (.bl (a==b)):=by
 cases a <;> cases b <;> rfl
theorem xu(a b:Int)(h:0<b): oMod (.int a) (.int b)=some (.int (a%b)):=by simp [oMod,oI,h]
theorem q4z(a b:Int)(h:0<b)(h2:b<1073741824): oDiv (.int a) (.int b)=some (.int (a / b)):=by simp [oDiv,oI,h,h2]
theorem kr(a b:Int): zh (.int a) (.int b)=some (.int (a+b)):=rfl
theorem qgs(a b:Int): oSub (.int a) (.int b)=some (.int (a-b)):=rfl
theorem qj0(a b:Int): oLt' (.int a) (.int b)=some (.bl (decide (a<b))):=rfl
theorem qj1(a b:Int): oLe (.int a) (.int b)=some (.bl (decide (a<=b))):=rfl
theorem qj2(a b:Int): oGt (.int a) (.int b)=some (.bl (decide (b<a))):=rfl
theorem q6k(a b:Int): oGe (.int a) (.int b)=some (.bl (decide (b<=a))):=rfl
theorem qde(xs ys:List D)(h:xs.length+ys.length<=1000000): zh (.tup xs) (.tup ys)=some (.tup (xs++ys)):=by
 show(oAdd (.tup xs) (.tup ys)).or (qa4 (.tup xs) (.tup ys))=_;simp only [oAdd,oI,Option.none_or,qa4,lim,gq h]
theorem qnf(xs ys:List D)(h:xs.length+ys.length<=1000000): zh (.lst xs) (.lst ys)=some (.lst (xs++ys)):=by
 show(oAdd (.lst xs) (.lst ys)).or (qa4 (.lst xs) (.lst ys))=_;simp only [oAdd,oI,Option.none_or,qa4,lim,gq h]
theorem q7j(a b:Int)(h:0<=b)(h2:b<=1000000)(h3:a.natAbs<2 ^ 64): oShl (.int a) (.int b)=some (.int (a*2 ^ b.toNat)):=by simp [oShl,oI,h,h2,h3]
theorem qps(a b:Int)(h:0<=b): oShr (.int a) (.int b)=some (.int (a / 2 ^ b.toNat)):=by simp [oShr,oI,h]
theorem q7k(a b:Int)(h:0<=b)(h2:b<=1000000)(h3:a.natAbs<2 ^ 64): oPow (.int a) (.int b)=some (.int (a ^ b.toNat)):=by simp [oPow,oI,h,h2,h3]
theorem q5c(ns:List Int): q6x [.lst (ns.map .int)]=some (.int ns.sum):=by simp [q6x,o1L,xb]
theorem ql0(bs:List Bool): qc4 [.lst (bs.map .bl)]=some (.bl (bs.all id)):=by simp [qc4,o1L,q6w]
theorem ql1(bs:List Bool): qjp [.lst (bs.map .bl)]=some (.bl (bs.any id)):=by simp [qjp,o1L,q6w]
theorem qj3{α : Type}{xs:List α}{i:Int}(h0:0<=i): atI xs i=xs[i.toNat]? :=by
 unfold atI ixN;rw [gq h0]
 by_cases h:i<xs.length
 ·rw [gq h];rfl
 ·rw [m6 h,g65 (by omega)];rfl
theorem qpt{α : Type}(xs:List α): atI xs (-1)=xs.getLast? :=by
 unfold atI ixN;rw [m6 (by decide)];cases xs with
 | nil=>rfl
 | cons a r=>
  rw [gq (by simp only [p5];omega)];show(a :: r)[((-1:Int)+((a :: r).length:Nat)).toNat]? = _;rw [List.getLast?_eq_getElem?]
  congr 1
  simp only [p5];omega
section
variable{b:FB}{body:FS}{d:D}{ds:List D}{ρ ρ1 ρ2:Rho}
theorem xp(h1:b d ρ = some ρ1)(h2:body ρ1=some (.nx, ρ2)): runFor b body (d :: ds) ρ = runFor b body ds ρ2:=by simp only [runFor,h1,h2,g9]
end
theorem vp{b:FB}{c:FT}{f:FE}{ρ : Rho}(p:D->Bool)(g:D->D): ∀ {ds:List D},(∀d∈ds,∃ ρ1,b d ρ = some ρ1/\c ρ1=some (p d)/\(p d=true->f ρ1=some (g d)))->z9 b c f ρ ds=some ((ds.filter p).map g)
 | [],_=>rfl
 | d :: ds,h=>by
  obtain⟨ρ1,e1,e2,e3⟩:=h d gc;have ih:=vp p g fun e he=>h e (gf _ he);simp only [z9,e1,e2,g9];cases hp:p d with
  | true=>simp only [tf,e3 hp,g9,ih,mw,nt,hp,gd]
  | false=>simp only [m8,p8,ih,nt,hp]
theorem q60{b:FB}{f:FE}{ρ : Rho}(g:D->D){ds:List D}(h:∀d∈ds,∃ ρ1,b d ρ = some ρ1/\f ρ1=some (g d)): z9 b zr f ρ ds=some (ds.map g):=by
 have:=vp (b:=b) (c:=zr) (f:=f) (ρ := ρ) (fun _=>true) g (ds:=ds) fun d hd=>let⟨ρ1,e1,e2⟩:=h d hd; ⟨ρ1,e1,rfl,fun _=>e2⟩
 rw [List.filter_eq_self.mpr (fun _ _=>rfl)] at this;exact this
theorem q9w(lo:Int)(n:Nat): z6 lo (n+1)=.int lo :: z6 (lo+1) n:=by
 unfold z6;rw [g0v,gd,mv]
 congr 1
 ·simp
 ·apply g1s
  intro a _;simp only [Function.comp,Nat.succ_eq_add_one,Int.natCast_add]
  congr 1
  omega
theorem q0g(lo:Int)(n:Nat): (z6 lo n).length=n:=by simp [z6]
theorem q6l(fa:FA)(ρ : Rho)(j:Int)(h:fa ρ = some [.int j])(h1 : -(2 ^ 62)<=j)(h2:j<2 ^ 62): iR1 fa ρ = some (z6 0 j.toNat):=by
 simp only [iR1,h,g9,gv h1,gv h2,g2h,tf]
theorem q61{α : Type}(xs:List D)(k:Nat): cutD xs none (some (k:Int))=xs.take k:=by
 unfold cutD;rw [HT.sIx_nat,HT.sIx_none];simp only [g63,Nat.sub_zero]
 by_cases h:k<=xs.length
 ·rw [Nat.min_eq_left h]
 ·rw [Nat.min_eq_right (by omega),g5b,g0u (by omega)]
theorem qgt{α : Type}(xs:List D)(k:Nat): cutD xs (some (k:Int)) none=xs.drop k:=by
 unfold cutD;rw [HT.sIx_nat,HT.sIx_none]
 by_cases h:k<=xs.length
 ·rw [Nat.min_eq_left h,g0u (by rw [g0p];exact gi _)]
 ·rw [Nat.min_eq_right (by omega),g58,List.drop_eq_nil_of_le (by omega)];simp
section
variable{ρ ρ1 ρ':Rho}{f g:FE}{d x y z:D}{i n m ar:Nat}{fa fk:FA}{ds es:List D}{t t2:FT}{c:Bool}{u w:FS}{r:Option (Fl×Rho)}
theorem x_c:eC d ρ = some d:=rfl
theorem x_v(h : ρ[i]? = some (some (.fz d))): eV i ρ = some d:=by unfold eV;rw [h]
theorem qu{o:D->D->Option D}(h1:f ρ = some x)(h2:g ρ = some y)(h3:o x y=some z): eOp o f g ρ = some z:=by unfold eOp;rw [h1,g9,h2,g9,h3]
theorem qvw{o:D->Option D}(h1:f ρ = some x)(h3:o x=some z): eUn o f ρ = some z:=by unfold eUn;rw [h1,g9,h3]
theorem qr:qf ρ = some []:=rfl
theorem qg(h1:f ρ = some d)(h2:fa ρ = some ds): qc f fa ρ = some (d :: ds):=by unfold qc;rw [h1,g9,h2,mw]
theorem x_call{o:List D->Option D}(h1:fa ρ = some ds)(h2:o ds=some d): qi o fa ρ = some d:=by unfold qi;rw [h1,g9,h2]
theorem zq{o:List D->Option D}{dds:List D}(h1:fa ρ = some ds)(hl:(ds++dds).length=ar)(h2:o (ds++dds)=some d): qi (qq ar dds o) fa ρ = some d:=by unfold qi qq;rw [h1,g9,gq hl,h2]
theorem v5(h1:fa ρ = some ds)(hl:ds.length<=lim): zc fa ρ = some (.tup ds):=by unfold zc;rw [h1,g9,gq hl]
theorem qr5(h1:fa ρ = some ds)(hl:ds.length<=lim): q1h fa ρ = some ds:=by unfold q1h;rw [h1,g9,gq hl]
theorem x_l(h1:fa ρ = some ds): eL fa ρ = some (.lst ds):=by unfold eL;rw [h1,mw]
theorem qsu{o:List D->Option (List D)}(h1:fa ρ = some ds)(h2:o ds=some es): q99 o fa ρ = some es:=by unfold q99;rw [h1,g9,h2]
theorem qxd(h1:f ρ = some (.bl c)): qc2 f ρ = some (.bl (!c)):=by unfold qc2;rw [h1,g9];rfl
theorem qcv(h1:f ρ = some (.bl c))(hc:c=true)(h2:g ρ = some d): q6u f g ρ = some d:=by subst hc;unfold q6u;rw [h1,g9];exact h2
theorem q35{T:Ty}(h1:f ρ = some d): q0k T f ρ = some (.bl (zz T d)):=by unfold q0k;rw [h1,mw]
theorem qpu:oNo ρ = some none:=rfl
theorem x_at{k:Int}(h1:f ρ = some (.int k)): oAt f ρ = some (some k):=by unfold oAt;rw [h1,g9]
theorem qpv{lo hi:FO}{a b:Option Int}(h1:f ρ = some x)(h2:lo ρ = some a)(h3:hi ρ = some b)(h4:oSl x a b=some y): eSl f lo hi ρ = some y:=by unfold eSl;rw [h1,g9,h2,g9,h3,g9,h4]
theorem wj{it:FA}{cap:List (Option Nat)}{b:FB}{q:FT}(h1:it ρ = some ds)(hl:ds.length<=lim)(h2:z9 b q f (kx cap ρ) ds=some es): zp it cap b q f ρ = some es:=by unfold zp;rw [h1,g9,gq hl,h2]
theorem ki(h1:f ρ = some d)(h2:qjo d=some ds): jm f ρ = some ds:=by unfold jm;rw [h1,g9,h2]
theorem jd{o:D->D->Option D}(h1:f ρ = some x)(h2:g ρ = some y)(h3:o x y=some (.bl c)): zb o f g ρ = some c:=by unfold zb;rw [qu h1 h2 h3,g9];rfl
theorem q07(h1:f ρ = some d)(h2:q81 d=some c): bT f ρ = some c:=by unfold bT;rw [h1,g9,h2]
theorem q08(h1:t ρ = some c): wx t ρ = some (!c):=by unfold wx;rw [h1,mw]
theorem q7l{e:Bool}(h1:t ρ = some c)(hc:c=true)(h2:t2 ρ = some e): ku t t2 ρ = some e:=by subst hc;unfold ku;rw [h1,g9];exact h2
theorem q7m(h1:t ρ = some c)(hc:c=false): ku t t2 ρ = some false:=by subst hc;unfold ku;rw [h1,g9];rfl
theorem vg{e:Bool}(h1:t ρ = some c)(hc:c=false)(h2:t2 ρ = some e): bOr t t2 ρ = some e:=by subst hc;unfold bOr;rw [h1,g9];exact h2
theorem q44(h1:u ρ = some (.nx, ρ1))(h2:w ρ1=r): qz u w ρ = r:=by unfold qz;rw [h1,g9];exact h2
theorem qgu(h1:t ρ = some c)(hc:c=true)(h2:u ρ = r): sIf t u w ρ = r:=by subst hc;unfold sIf;rw [h1,g9];exact h2
theorem je(h1:t ρ = some c)(hc:c=false)(h2:w ρ = r): sIf t u w ρ = r:=by subst hc;unfold sIf;rw [h1,g9];exact h2
theorem qxe(h1:f ρ = some d): zg f ρ = some (.rt d, ρ):=by unfold zg;rw [h1,mw]
theorem jf:jw ρ = some (.nx, ρ):=rfl
theorem j7(h1:f ρ = some d): zo i f ρ = some (.nx, ρ.set i (some (.fz d))):=by unfold zo;rw [h1,mw]
theorem qef(h1:fa ρ = some ds): q1s i fa ρ = some (.nx, ρ.set i (some (.ow ds))):=by unfold q1s;rw [h1,mw]
theorem qpw(h0 : ρ[i]? = some (some (.ow ds)))(h1:f ρ = some d)(hl:ds.length<lim): q4c i f ρ = some (.nx, ρ.set i (some (.ow (ds++[d])))):=by unfold q4c q85;rw [h0];simp only [g9,h1,gq hl]
theorem q9i{it:FA}{b:FB}{body:FS}(h1:it ρ = some ds)(h2:runFor b body ds ρ = r): q1t it b body ρ = r:=by unfold q1t;rw [h1,g9];exact h2
theorem qxf(h1:frz i ρ = ρ1)(h2:u ρ1=r): wy i u ρ = r:=by unfold wy;rw [h1];exact h2
theorem qvx{b:FB}(h1:f ρ = some d)(h2:b d ρ = some ρ1): qaw f b ρ = some (.nx, ρ1):=by unfold qaw;rw [h1,g9,h2,mw]
theorem qng(h:u (ds.map (fun d=>some (.fz d))++List.replicate (n-ds.length) none)=some (.rt d, ρ')): zj n u ds=some d:=by unfold zj;rw [h]
end
theorem eV0(d:D)(r:Rho): eV 0 (some (.fz d) :: r)=some d:=rfl
theorem eVs(i:Nat)(x:Option B)(r:Rho): eV (i+1) (x :: r)=eV i r:=rfl
theorem q5d(ds:List D): ye [.tup ds]=some (.int ds.length):=rfl
theorem ql2(ds:List D): ye [.lst ds]=some (.int ds.length):=rfl
theorem qya(i:Int): (match D.int i with | .int i=>some (some i)|_=>none:Option (Option Int))=some (some i):=rfl
theorem qyb(ds:List D)(r:Rho): frz 0 (some (.ow ds) :: r)=some (.fz (.lst ds)) :: r:=rfl
theorem frzs(i:Nat)(x:Option B)(r:Rho): frz (i+1) (x :: r)=x :: frz i r:=by
 unfold frz;rw [u5];cases h:r[i]? with
 | none=>rfl
 | some y=>
  cases y with
  | none=>rfl
  | some z=>cases z <;> rfl
theorem vq(a b:Int)(h : -(2 ^ 64)<b/\b<2 ^ 64): zv (.int a) (.int b)=some (.int (a*b)):=by
 have h2:(decide (-(2 ^ 64)<b)&&decide (b<2 ^ 64))=true:=by rw [gv h.1,gv h.2];rfl
 show(if((decide (-(2 ^ 64)<a)&&decide (a<2 ^ 64)) || (decide (-(2 ^ 64)<b)&&decide (b<2 ^ 64)))=true then some (D.int (a*b)) else none).or _=_;rw [h2,Bool.or_true,gq rfl,g69]
theorem v7(a b:Int)(h : -(2 ^ 64)<a/\a<2 ^ 64): zv (.int a) (.int b)=some (.int (a*b)):=by
 have h2:(decide (-(2 ^ 64)<a)&&decide (a<2 ^ 64))=true:=by rw [gv h.1,gv h.2];rfl
 show(if((decide (-(2 ^ 64)<a)&&decide (a<2 ^ 64)) || (decide (-(2 ^ 64)<b)&&decide (b<2 ^ 64)))=true then some (D.int (a*b)) else none).or _=_;rw [h2,Bool.true_or,gq rfl,g69]
theorem qpx(ds:List D)(i:Int): oIx (.lst ds) (.int i)=atI ds i:=rfl
theorem qvy(ds:List D)(i:Int): oIx (.tup ds) (.int i)=atI ds i:=rfl
theorem qsv{α : Type}(xs:List α)(n:Nat): atI xs (no_index (OfNat.ofNat n:Int))=xs[n]? :=by
 show atI xs (n:Int)=xs[n]?;rw [qj3 (show(0:Int)<=(n:Int) by omega)]
 rfl
theorem q50{α : Type}(xs:List α)(n:Nat): atI xs (n:Int)=xs[n]? :=by
 rw [qj3 (show(0:Int)<=(n:Int) by omega)]
 rfl
theorem qsw(ds:List D): qqz [.lst ds]=some ds:=rfl
theorem qsx(ds:List D): qqz [.tup ds]=some ds:=rfl
theorem jq(ds:List D): vi [.lst ds]=some (.tup ds):=rfl
theorem qpy(ds:List D): vi [.tup ds]=some (.tup ds):=rfl
theorem qbq(ds:List D)(r:Rho): q85 0 (some (.ow ds) :: r)=some ds:=rfl
theorem qbr(i:Nat)(x:Option B)(r:Rho): q85 (i+1) (x :: r)=q85 i r:=rfl
theorem jb{n:Nat}{u:FS}{ds:List D}{d:D}(h:(u (ds.map (fun d=>some (.fz d))++List.replicate (n-ds.length) none)).map Prod.fst=some (.rt d)): zj n u ds=some d:=by
 cases e:u (ds.map (fun d=>some (.fz d))++List.replicate (n-ds.length) none) with
 | none=>rw [e] at h;cases h
 | some p=>
  obtain⟨fl, ρ'⟩:=p;rw [e] at h;have h':fl=.rt d:=by simpa using h
  subst h';exact qng e
theorem qsy:zz .int .non=false/\(∀b:Bool,zz .int (.bl b)=true)/\(∀i:Int,zz .int (.int i)=true)/\(∀x:Str,zz .int (.str x)=false)/\(∀ds:List D,zz .int (.tup ds)=false)/\(∀ds:List D,zz .int (.lst ds)=false)/\(∀(ks:List Key) (vs:List D),zz .int (.dct ks vs)=false)/\(∀(ks:List (List Int)) (vs:List D),zz .int (.dtt ks vs)=false)/\zz .bool .non=false/\(∀b:Bool,zz .bool (.bl b)=true)/\(∀i:Int,zz .bool (.int i)=false)/\(∀x:Str,zz .bool (.str x)=false)/\(∀ds:List D,zz .bool (.tup ds)=false)/\(∀ds:List D,zz .bool (.lst ds)=false)/\(∀(ks:List Key) (vs:List D),zz .bool (.dct ks vs)=false)/\(∀(ks:List (List Int)) (vs:List D),zz .bool (.dtt ks vs)=false)/\zz .tuple .non=false/\(∀b:Bool,zz .tuple (.bl b)=false)/\(∀i:Int,zz .tuple (.int i)=false)/\(∀x:Str,zz .tuple (.str x)=false)/\(∀ds:List D,zz .tuple (.tup ds)=true)/\(∀ds:List D,zz .tuple (.lst ds)=false)/\(∀(ks:List Key) (vs:List D),zz .tuple (.dct ks vs)=false)/\(∀(ks:List (List Int)) (vs:List D),zz .tuple (.dtt ks vs)=false)/\zz .list .non=false/\(∀b:Bool,zz .list (.bl b)=false)/\(∀i:Int,zz .list (.int i)=false)/\(∀x:Str,zz .list (.str x)=false)/\(∀ds:List D,zz .list (.tup ds)=false)/\(∀ds:List D,zz .list (.lst ds)=true)/\(∀(ks:List Key) (vs:List D),zz .list (.dct ks vs)=false)/\(∀(ks:List (List Int)) (vs:List D),zz .list (.dtt ks vs)=false)/\zz .str .non=false/\(∀b:Bool,zz .str (.bl b)=false)/\(∀i:Int,zz .str (.int i)=false)/\(∀x:Str,zz .str (.str x)=true)/\(∀ds:List D,zz .str (.tup ds)=false)/\(∀ds:List D,zz .str (.lst ds)=false)/\(∀(ks:List Key) (vs:List D),zz .str (.dct ks vs)=false)/\(∀(ks:List (List Int)) (vs:List D),zz .str (.dtt ks vs)=false)/\zz .dict .non=false/\(∀b:Bool,zz .dict (.bl b)=false)/\(∀i:Int,zz .dict (.int i)=false)/\(∀x:Str,zz .dict (.str x)=false)/\(∀ds:List D,zz .dict (.tup ds)=false)/\(∀ds:List D,zz .dict (.lst ds)=false)/\(∀(ks:List Key) (vs:List D),zz .dict (.dct ks vs)=true)/\(∀(ks:List (List Int)) (vs:List D),zz .dict (.dtt ks vs)=true):=by
 refine⟨?_,?_,?_,?_,?_,?_,?_,?_,?_,?_,?_,?_,?_,?_,?_,?_,?_,?_,?_,?_,?_,?_,?_,?_,?_,?_,?_,?_,?_,?_,?_,?_,?_,?_,?_,?_,?_,?_,?_,?_,?_,?_,?_,?_,?_,?_,?_,?_⟩ <;> intros <;> rfl
theorem q9j{x:Int}{n:Nat}(hn:0<n): ∃k:Nat,k<n/\oMod (.int x) (.int (n:Int))=some (.int (k:Int)):=by
 have h1:=g0a x (show(n:Int)≠0 by omega);have h2:=g1w x (show(0:Int)<(n:Int) by omega);refine⟨(x%n).toNat,by omega,?_⟩;rw [xu _ _ (by omega),g1r h1]
end DL
open PySem PyProof.Rows L2 DL
local macro_rules | `(tactic| simp! [$a,*])=> `(tactic| simp (config:={decide:=true,implicitDefEqProofs:=false}) only [zj,qz,sIf,zo,zg,qx0,jw,q1s,qy5,qy6,qx1,q1t,wy,qaw,eOp,eC,eV0,eVs,qi,qc,qf,zc,eL,q1h,q99,eSl,oNo,oAt,qya,ku,zb,wx,bT,bOr,q6u,eOr,qc2,eIf,q0k,qsy,eUn,isB,q81,q5j,q5d,ql2,qyb,frzs,jm,qjo,qq,qb1,qjs,bN,q0j,jy,q0i,kx,quu,gd,g02,p5,g5o,gh,Nat.reduceAdd,Nat.reduceSub,Nat.reduceEqDiff,List.replicate,g1l,um,g1u,List.set_cons_zero,List.set_cons_succ,List.set_nil,g0m,u5,g9,Option.bind_none,mw,Option.map_none,g2a,Option.join_none,xu,q4z,kr,qgs,vq,v7,q0f,q1p,qvv,qj0,qj1,qj2,q6k,jq,qpy,tf,p8,g4c,g5h,m8,uh,g1i,and_true,true_and,and_self,ite_true,ite_false,Int.reduceSub,Int.reduceMod,Int.reduceAdd,Int.reduceDiv,Int.reducePow,Int.reduceMul,Int.reduceNeg,Int.reduceEq,Int.reduceLT,Int.reduceLE,Int.reduceToNat,qpx,qvy,qsv,qsw,qsx,q7k,reduceCtorEq,List.isEmpty_nil,List.isEmpty_cons,List.isEmpty_iff, $a,*])
namespace My
open PySem PyProof.Rows L2 DL
abbrev TI(ns:List Int): D:=.tup (ns.map .int)
abbrev Run:=Int×List Int
abbrev wt(r:Run): D:=.tup [.int r.1,TI r.2]
abbrev jv(w:Nat)(rs:List Run): D:=.tup [.int (w:Int),.tup (rs.map wt)]
def bit(m i:Nat): Bool:=m / 2 ^ i%2==1
def qj(n m:Nat): List Int:=((List.range n).filter fun i=>bit m i).map fun i:Nat=>(i:Int)
def mk(b:List Int): Int:=(b.map fun x=>(2:Int) ^ x.toNat).sum
theorem q9k(a b:Nat): Builtin.bitAnd (a:Int) (b:Int)=((a &&& b:Nat):Int):=by
 unfold Builtin.bitAnd;rw [gv (by omega:(0:Int)<=(a:Int)),gv (by omega:(0:Int)<=(b:Int))];simp
theorem q8r(a b:Nat): oBand (.int (a:Int)) (.int (b:Int))=some (.int ((a &&& b:Nat):Int)):=by
 show some (D.int (Builtin.bitAnd (a:Int) (b:Int)))=_;rw [q9k]
theorem q8s(a b:Int): oBand (.int a) (.int b)=some (.int (Builtin.bitAnd a b)):=rfl
theorem qsz(m i:Nat): oShr (.int (m:Int)) (.int (i:Int))=some (.int ((m / 2 ^ i:Nat):Int)):=by
 rw [qps _ _ (by omega),my]
 norm_cast
theorem q1q(n:Nat): z6 0 n=(List.range n).map fun i:Nat=>.int (i:Int):=by
 unfold z6;simp only [g41]
theorem ql3(m:Nat): q1e [.int (m:Int)]=some (TI (qj 12 m)):=by
 have c:z9 (bN 0) (zb oEq (eOp oBand (eOp oShr (eV 1) (eV 0)) (eC (.int 1))) (eC (.int 1))) (eV 0) [none,some (.fz (.int (m:Int)))] (z6 0 12)=some ((qj 12 m).map D.int):=by
  have:=vp (b:=bN 0) (c:=zb oEq (eOp oBand (eOp oShr (eV 1) (eV 0)) (eC (.int 1))) (eC (.int 1))) (f:=eV 0) (ρ :=[none,some (.fz (.int (m:Int)))]) (fun d=>match d with | .int x=>bit m x.toNat|_=>false) id (ds:=z6 0 12) fun d hd=>by
   rw [q1q] at hd;obtain⟨i,_,rfl⟩:=md.mp hd;refine⟨_,rfl,jd (qu (qu (x_v rfl) (x_v rfl) (qsz m i)) x_c (q8r _ 1)) x_c ?_,fun _=>rfl⟩;rw [q0f]
   congr 2
   show decide _=bit m (i:Int).toNat;rw [my,bit,Nat.and_one_is_mod,p6,n5,g30];omega
  rw [this,g3a,q1q,uz,qj,mv]
  rfl
 have hr:iR1 (qc (eC (.int 12)) qf) [some (.fz (.int (m:Int)))]=some (z6 0 12):=rfl;have hl:(z6 0 12).length<=lim:=by decide
 (refine jb ?_;simp! [wd,zp,hr,hl,c,jq])
theorem vt:∀k:Nat,k<256->qj (Builtin.Int.intBits (k:Int)) k=qj 12 k/\mk (qj 12 k)=(k:Int):=by decide +kernel
theorem q2r:∀a:Nat,a<256->∀b:Nat,b<256->qj 12 a=qj 12 b->a=b:=fun a ha b hb h=>by
 have h1:=(vt a ha).2;have h2:=(vt b hb).2;rw [h,h2] at h1;omega
theorem q2s(n m:Nat): (qj n m).length<=n:=by
 unfold qj;rw [gh];exact mq (nh _ _) (by simp)
theorem q2t{n m:Nat}{x:Int}(h:x∈qj n m): ∃i:Nat,x=(i:Int)/\i<n:=by
 unfold qj at h;obtain⟨i,hi,rfl⟩:=md.mp h;exact⟨i,rfl,by simpa using(mn.mp hi).1⟩
theorem qj4(b:List Int)(hb:∀x∈b,0<=x/\x<100)(ρ : Rho): z9 (bN 0) zr (eOp oShl (eC (.int 1)) (eV 0)) (none :: ρ) (b.map D.int)=some ((b.map fun x=>(2:Int) ^ x.toNat).map D.int):=by
 have:=q60 (b:=bN 0) (f:=eOp oShl (eC (.int 1)) (eV 0)) (ρ :=none :: ρ) (fun d=>match d with | .int x=>.int (2 ^ x.toNat)|_=>.non) (ds:=b.map D.int) fun d hd=>by
  obtain⟨x,hx,rfl⟩:=md.mp hd;have:=hb x hx;refine⟨_,rfl,qu x_c (x_v rfl) ?_⟩;rw [q7j 1 x (by omega) (by omega) (by decide),g5x]
 rw [this,mv,mv]
 rfl
theorem qbs(b:List Int)(hb:∀x∈b,0<=x/\x<100)(hl:b.length<=1000): ko [TI b]=some (.int (mk b)):=by
 have hl':b.length<=lim:=by show _<=1000000;omega
 have c:=qj4 b hb [];have a:=q5c (b.map fun x=>(2:Int) ^ x.toNat)
 (refine jb ?_;simp! [q3i,zp,hl',c,a])
 rfl
theorem q5e(a b:Int)(h:0<b)(h2:b<1606938044258990275541962092341162602522202993782792835301376): oDivB (.int a) (.int b)=some (.int (a / b)):=by simp [oDivB,oI,h,h2]
end My
open PySem PyProof.Rows L2 DL
namespace My
open PySem PyProof.Rows L2 DL
def zt(rs:List Run): Prop:=rs.length<=1000/\∀r∈rs,(∀x∈r.2,0<=x/\x<100)/\r.2.length<=1000/\0<=r.1/\∃t,t<256/\r.2=qj 12 t
abbrev mrD(r:Run): D:=.tup [.int r.1,.int (mk r.2)]
theorem qnh(w:Nat)(rs:List Run)(h:zt rs): q7b [jv w rs]=some (.lst (rs.map mrD)):=by
 have hl':rs.length<=lim:=by have:=h.1;show _<=1000000;omega
 have c:z9 (q0j 2 (jy (bN 0) (jy (bN 1) q0i))) zr (zc (qc (eV 0) (qc (qi (qq 1 [] ko) (qc (eV 1) qf)) qf))) [none,none] (rs.map wt)=some (rs.map mrD):=by
  have hr:=h.2;clear hl' h
  induction rs with
  | nil=>rfl
  | cons r rs ih=>
   have ih':=ih fun x hx=>hr x (gf _ hx);have m:=qbs r.2 (hr r gc).1 (hr r gc).2.1;rw [gd];simp! [z9,ih',m,zr]
 (refine jb ?_;simp! [q4p,zp,hl',c])
theorem qgv(w:Nat)(rs:List Run)(h:zt rs): q2v [jv w rs]=some (.lst (rs.map mrD)):=by
 have hl':rs.length<=lim:=by have:=h.1;show _<=1000000;omega
 have c:z9 (q0j 2 (jy (bN 0) (jy (bN 1) q0i))) zr (zc (qc (eV 0) (qc (qi q6x (qc (eL (zp (jm (eV 1)) [none] (bN 0) zr (eOp oShl (eC (.int 1)) (eV 0)))) qf)) qf))) [none,none] (rs.map wt)=some (rs.map mrD):=by
  have hr:=h.2;clear hl' h
  induction rs with
  | nil=>rfl
  | cons r rs ih=>
   have ih':=ih fun x hx=>hr x (gf _ hx);have hl2:r.2.length<=lim:=by have:=(hr r gc).2.1;show _<=1000000;omega
   have c2:=qj4 r.2 (hr r gc).1 [];have a:=q5c (r.2.map fun x=>(2:Int) ^ x.toNat);rw [gd];simp! [z9,ih',zp,hl2,c2,a,zr]
   rfl
 (refine jb ?_;simp! [q0x,zp,hl',c])
def cM(rs:List Run)(k:Nat): Int:=((rs.filter fun r=>decide (Builtin.bitAnd (mk r.2) (k:Int)=(k:Int))).map (·.1)).sum
theorem qj5(rs:List Run)(k:Nat): z9 (q0j 2 (jy (bN 0) (jy (bN 1) q0i))) (zb oEq (eOp oBand (eV 1) (eV 2)) (eV 2)) (eV 0) [none,none,some (.fz (.int (k:Int)))] (rs.map mrD)
  = some (((rs.filter fun r=>decide (Builtin.bitAnd (mk r.2) (k:Int)=(k:Int))).map (·.1)).map D.int):=by
 induction rs with
 | nil=>rfl
 | cons r rs ih=>
  rw [gd]
  by_cases hb:Builtin.bitAnd (mk r.2) (k:Int)=(k:Int)
  ·simp! [z9,ih,q8s,hb,nt,g4c,tf]
  ·simp! [z9,ih,q8s,hb,nt,g5h,p8,m8]
theorem qbt(rs:List Run)(h:zt rs)(k:Nat)(hk:k<256): kc [.lst (rs.map mrD),TI (qj 12 k)]=some (.int (cM rs k)):=by
 have hl':rs.length<=lim:=by have:=h.1;show _<=1000000;omega
 have m:ko [TI (qj 12 k)]=some (.int (k:Int)):=by
  rw [qbs _ (fun x hx=>?_) (mq (q2s 12 k) (by decide)),(vt k hk).2];obtain⟨i,rfl,hi⟩:=q2t hx;omega
 have c:=qj5 rs k;have a:=q5c ((rs.filter fun r=>decide (Builtin.bitAnd (mk r.2) (k:Int)=(k:Int))).map (·.1))
 (refine jb ?_;simp! [kb,zp,hl',m,c,a])
 rfl
theorem q5f(x0:Option B)(rs:List Run)(h:zt rs): ∀(n k:Nat) (acc:List D) (b:Option B),acc.length+n<=1000->∃b',
  runFor (bN 3) wu (z6 (k:Int) n) [x0,some (.fz (.lst (rs.map mrD))),some (.ow acc),b]=some (.nx,[x0,some (.fz (.lst (rs.map mrD))),some (.ow (acc++(List.range' k n).map fun i:Nat=>.int (cM rs i))),b'])
 | 0,k,acc,b,_=>⟨b,by simp [z6,runFor]⟩
 | n+1,k,acc,b,hn=>by
  have hl':rs.length<=lim:=by have:=h.1;show _<=1000000;omega
  have hl2:acc.length<lim:=by show _<1000000;omega
  obtain⟨b',ih⟩:=q5f x0 rs h n (k+1) (acc++[.int (cM rs k)]) (some (.fz (.int (k:Int)))) (by simp;omega);have c:=qj5 rs k;have a:q6x [.lst (((rs.filter fun r=>decide (Builtin.bitAnd (mk r.2) (k:Int)=(k:Int))).map (·.1)).map D.int)]=some (.int (cM rs k)):=q5c _;have body:wu [x0,some (.fz (.lst (rs.map mrD))),some (.ow acc),some (.fz (.int (k:Int)))]=some (.nx,[x0,some (.fz (.lst (rs.map mrD))),some (.ow (acc++[.int (cM rs k)])),some (.fz (.int (k:Int)))]):=by
   refine qpw rfl ?_ hl2;simp! [zp,hl',c,a]
  refine⟨b',?_⟩;rw [q9w,xp (b:=bN 3) rfl body,show(k:Int)+1=((k+1:Nat):Int) by omega,ih,g3j];simp
theorem qe4(w:Nat)(rs:List Run)(h:zt rs)(hw:w<=8): q21 [jv w rs]=some (.lst ((List.range (2 ^ w)).map fun i:Nat=>.int (cM rs i))):=by
 have h2:2 ^ w<=256:=mq (ur (by decide) hw) (by decide);obtain⟨b',e⟩:=q5f (some (.fz (jv w rs))) rs h (2 ^ w) 0 [] none (by simp;omega);have m:=qgv w rs h;have hr:iR1 (qc (eOp oShl (eC (.int 1)) (eOp oIx (eV 0) (eC (.int 0)))) qf) [some (.fz (jv w rs)),some (.fz (.lst (rs.map mrD))),some (.ow []),none]=some (z6 ((0:Nat):Int) (2 ^ w)):=by
  have hs:oShl (.int 1) (.int (w:Int))=some (.int ((2 ^ w:Nat):Int)):=by
   rw [q7j 1 (w:Int) (by omega) (by omega) (by decide),my,g5x]
   norm_cast
  have ha:qc (eOp oShl (eC (.int 1)) (eOp oIx (eV 0) (eC (.int 0)))) qf [some (.fz (jv w rs)),some (.fz (.lst (rs.map mrD))),some (.ow []),none]=some [.int ((2 ^ w:Nat):Int)]:=qg (qu x_c (qu (x_v rfl) x_c rfl) hs) qr;have h3:(0:Int)<=((2 ^ w:Nat):Int):=g4e _;have h4:((2 ^ w:Nat):Int)<=256:=by exact_mod_cast h2
  rw [q6l _ _ _ ha (g6g (by decide) h3) (Int.lt_of_le_of_lt h4 (by decide)),my]
  rfl
 have hlst:q1h qf [some (.fz (jv w rs)),some (.fz (.lst (rs.map mrD))),none,none]=some []:=rfl;rw [um, <- g40] at e;refine qng (q44 (j7 (zq (qg (x_v rfl) qr) rfl m)) (q44 (qef hlst) (q44 (q9i hr e) (qxf rfl (qxe (x_v rfl))))))
abbrev setD(k:Nat): D:=TI (qj 12 k)
abbrev pairD(rs:List Run)(k:Nat): D:=.tup [setD k,.int (cM rs k)]
theorem qi3(rs:List Run)(L:Int)(l:List Nat)(hl:l.length<=1000): ky [.lst (l.map (pairD rs)),.int L]=some (.tup ((l.filter fun k=>decide (L<=cM rs k)).map (pairD rs))):=by
 have hl':l.length<=lim:=by show _<=1000000;omega
 have c:z9 (bN 0) (zb oGe (eOp oIx (eV 0) (eC (.int 1))) (eV 1)) (eV 0) [none,some (.fz (.int L))] (l.map (pairD rs))=some ((l.filter fun k=>decide (L<=cM rs k)).map (pairD rs)):=by
  clear hl hl'
  induction l with
  | nil=>rfl
  | cons k l ih=>
   rw [gd]
   by_cases hb:L<=cM rs k
   ·simp! [z9,ih,hb,nt,g4c,tf]
   ·simp! [z9,ih,hb,nt,g5h,p8,m8]
 (refine jb ?_;simp! [q0c,zp,hl',c,jq])
theorem qgw(rs:List Run)(L:Int)(l:List Nat)(hl:l.length<=1000): ky [.tup (l.map (pairD rs)),.int L]=some (.tup ((l.filter fun k=>decide (L<=cM rs k)).map (pairD rs))):=by
 have hl':l.length<=lim:=by show _<=1000000;omega
 have c:z9 (bN 0) (zb oGe (eOp oIx (eV 0) (eC (.int 1))) (eV 1)) (eV 0) [none,some (.fz (.int L))] (l.map (pairD rs))=some ((l.filter fun k=>decide (L<=cM rs k)).map (pairD rs)):=by
  clear hl hl'
  induction l with
  | nil=>rfl
  | cons k l ih=>
   rw [gd]
   by_cases hb:L<=cM rs k
   ·simp! [z9,ih,hb,nt,g4c,tf]
   ·simp! [z9,ih,hb,nt,g5h,p8,m8]
 (refine jb ?_;simp! [q0c,zp,hl',c,jq])
end My
open PySem PyProof.Rows L2 DL
namespace My
open PySem PyProof.Rows L2 DL
theorem q36(ns:List Int)(k:Nat): ∃c:Int,xl [.lst (ns.map .int),.int (k:Int)]=some (.int c):=by
 by_cases h:(k:Int)<(ns.length:Int)
 ·have hk:k<ns.length:=by omega
  have hi:atI (ns.map D.int) (k:Int)=some (.int ns[k]):=by rw [q50,mj,mm hk];rfl
  refine⟨ns[k],?_⟩
  (refine jb ?_;simp! [q0a,h,hi])
 ·refine⟨0,?_⟩
  (refine jb ?_;simp! [q0a,h])
theorem y9(ns:List Int)(hl:ns.length<=63)(k:Int)(h0:0<=k)(h1:k<=1000000): ∃m,zk [.lst (ns.map .int),.int k]=some (.int m)/\0<=m/\m<2147483563:=by
 have hk7:zv (.int k) (.int 7919)=some (.int (k*7919)):=vq _ _ ⟨by decide,by decide⟩;have h7k:zv (.int 7) (.int k)=some (.int (7*k)):=v7 _ _ ⟨by decide,by decide⟩;have h2k:zv (.int 2) (.int k)=some (.int (2*k)):=v7 _ _ ⟨by decide,by decide⟩;have h2kk:zv (.int (2*k)) (.int k)=some (.int (2*k*k)):=vq _ _ ⟨by omega,by omega⟩;have hkk:0<=2*k*k/\2*k*k<=2000000000000:=by
  have a:0<=k*k:=Int.mul_nonneg h0 h0;have b:k*k<=1000000*1000000:=Int.mul_le_mul h1 h1 h0 (by decide);rw [Int.mul_assoc];omega
 have hc:∀x:Int,zv (.int x) (.int (48271+2*k*k))=some (.int (x*(48271+2*k*k))):=fun x=>vq _ _ ⟨by omega,by omega⟩;have hx:∀x:Int,zv (.int (x%2147483629)) (.int (x%2147483629))=some (.int ((x%2147483629)*(x%2147483629))):=fun x=>
  vq _ _ ⟨by have:=g0a x (show(2147483629:Int)≠0 by decide);omega,by have:=g1w x (show(0:Int)<2147483629 by decide);omega⟩
 have hy:∀x:Int,zv (.int x) (.int (69621+k))=some (.int (x*(69621+k))):=fun x=>vq _ _ ⟨by omega,by omega⟩;have fin:∀x:Int,0<=x%2147483563/\x%2147483563<2147483563:=fun x=>⟨g0a x (by decide),g1w x (by decide)⟩
 by_cases hn:0<ns.length
 ·obtain⟨j,hj,hm⟩:=q9j (x:=k) hn
  have hn':(0:Int)<(ns.length:Int):=by omega
  have hi:atI (ns.map D.int) (j:Int)=some (.int ns[j]):=by rw [q50,mj,mm hj];rfl
  have hd:oDivB (.int k) (.int (ns.length:Int))=some (.int (k / (ns.length:Int))):=q5e _ _ hn' (by omega);have h11:∀x:Int,zv (.int 11) (.int x)=some (.int (11*x)):=fun x=>v7 _ _ ⟨by decide,by decide⟩;simp! [zk,wk,hk7,h7k,h2k,h2kk,hc,hx,hy,hm,hn',hi,hd,h11];exact⟨_,rfl,fin _⟩
 ·have hn':¬(0:Int)<(ns.length:Int):=by omega
  simp! [zk,wk,hk7,h7k,h2k,h2kk,hc,hx,hy,hn'];exact⟨_,rfl,fin _⟩
def runOf(n:Int)(w:Nat)(most:Int): Run:=(1+n / 4096%most,qj 12 (n%2 ^ w).toNat)
theorem qj6(w:Nat)(hw:w<=1000): oShl (.int 1) (.int (w:Int))=some (.int (2 ^ w)):=by
 rw [q7j 1 (w:Int) (by omega) (by omega) (by decide),my,g5x]
theorem qbu(n:Int)(w:Nat)(most:Int)(hw:w<=12)(hm:0<most): q3g [.int n,.int (w:Int),.int most]=some (wt (runOf n w most)):=by
 have hp:=qj6 w (by omega);have hpos:(0:Int)<2 ^ w:=Int.pow_pos (by decide);have ls:=ql3 (n%2 ^ w).toNat;rw [g1r (g0a n (by omega))] at ls
 (refine jb ?_;simp! [q3f,hp,hm,hpos,ls])
 rfl
def q5g(w:Nat)(r:Run): Prop:=(∀x∈r.2,0<=x/\x<100)/\r.2.length<=1000/\0<=r.1/\r.1<=1000000000000/\∃t,t<2 ^ w/\r.2=qj 12 t
theorem qgx(n:Int)(w:Nat)(most:Int)(hw:w<=12)(hm:0<most)(hm2:most<=1000000000000): q5g w (runOf n w most):=by
 have hp0:(0:Int)<2 ^ w:=Int.pow_pos (by decide);have h1:=g0a (n / 4096) (by omega:most≠0);have h4:=g1w (n / 4096) hm;have h2:=g1w n hp0;have h3:=g0a n (by omega:(2:Int) ^ w≠0);refine⟨fun x hx=>?_,mq (q2s 12 _) (by decide),by show 0<=1+n / 4096%most;omega,by show 1+n / 4096%most<=_;omega,_,?_,rfl⟩
 ·obtain⟨i,rfl,hi⟩:=q2t hx
  omega
 ·have:((n%2 ^ w).toNat:Int)<((2 ^ w:Nat):Int):=by
   rw [g1r h3]
   exact_mod_cast h2
  exact_mod_cast this
theorem q6m(x0 x2:Option B)(w:Nat)(most:Int)(hw:w<=12)(hm:0<most)(t:Rho): ∀(cs:List Int) (acc:List Run) (b5:Option B),acc.length+cs.length<=1000->∃b5',
  runFor (bN 5) we (cs.map D.int) ([x0,some (.fz (.int (w:Int))),x2,some (.fz (.int most)),some (.ow (acc.map wt)),b5]++t) =
   some (.nx,[x0,some (.fz (.int (w:Int))),x2,some (.fz (.int most)),some (.ow ((acc++cs.map fun n=>runOf n w most).map wt)),b5']++t)
 | [],acc,b5,_=>⟨b5,by simp [runFor]⟩
 | c :: cs,acc,b5,h=>by
  have lr:=qbu c w most hw hm;have hl:acc.length<lim:=by simp at h;show _<1000000;omega
  obtain⟨b5',ih⟩:=q6m x0 x2 w most hw hm t cs (acc++[runOf c w most]) (some (.fz (.int c))) (by simp at h ⊢;omega);have body:we ([x0,some (.fz (.int (w:Int))),x2,some (.fz (.int most)),some (.ow (acc.map wt)),some (.fz (.int c))]++t)=some (.nx,[x0,some (.fz (.int (w:Int))),x2,some (.fz (.int most)),some (.ow ((acc++[runOf c w most]).map wt)),some (.fz (.int c))]++t):=by
   simp! [we,lr,q4c,qbq,qbr,hl,ti]
  refine⟨b5',?_⟩;rw [gd,xp (b:=bN 5) rfl body,ih];simp
theorem q6n(ns:List Int)(hns:ns.length<=63)(x2:Option B)(w:Nat)(most base:Int)(hw:w<=12)(hm:0<most)(hm2:most<=1000000000000)(b5:Option B): ∀(n:Nat) (k:Int) (acc:List Run) (b7 b8:Option B),0<=k->k+n<=1000->acc.length+n<=1000->(∀r∈acc,q5g w r) ->
  ∃(rs:List Run) (b7' b8':Option B),runFor (bN 7) yg (z6 k n) [some (.fz (.lst (ns.map .int))),some (.fz (.int (w:Int))),x2,some (.fz (.int most)),some (.ow (acc.map wt)),b5,some (.fz (.int base)),b7,b8] =
   some (.nx,[some (.fz (.lst (ns.map .int))),some (.fz (.int (w:Int))),x2,some (.fz (.int most)),some (.ow (rs.map wt)),b5,some (.fz (.int base)),b7',b8'])/\rs.length=acc.length+n/\∀r∈rs,q5g w r
 | 0,k,acc,b7,b8,_,_,_,ha=>⟨acc,b7,b8,by simp [z6,runFor],by simp,ha⟩
 | n+1,k,acc,b7,b8,h0,h1,h2,ha=>by
  obtain⟨m1,e1,p1,q1⟩:=y9 ns hns (10+k) (by omega) (by omega);have hl:acc.length<lim:=by show _<1000000;omega
  have body:∃N b8',yg [some (.fz (.lst (ns.map .int))),some (.fz (.int (w:Int))),x2,some (.fz (.int most)),some (.ow (acc.map wt)),b5,some (.fz (.int base)),some (.fz (.int k)),b8] =
    some (.nx,[some (.fz (.lst (ns.map .int))),some (.fz (.int (w:Int))),x2,some (.fz (.int most)),some (.ow ((acc++[runOf N w most]).map wt)),b5,some (.fz (.int base)),some (.fz (.int k)),b8']):=by
   have lr:=fun n=>qbu n w most hw hm;have hor:∀a b:Int,oBor (.int a) (.int b)=some (.int (Builtin.bitOr a b)):=fun _ _=>rfl;have ht:∀x:Int,zv (.int x) (.int 4096)=some (.int (x*4096)):=fun x=>vq _ _ ⟨by decide,by decide⟩
   by_cases c2:m1%3=0
   ·simp! [yg,e1,c2,lr,hor,ht,q4c,qbq,qbr,hl,ti]
    exact⟨_,_,rfl⟩
   ·simp! [yg,e1,c2,lr,q4c,qbq,qbr,hl,ti]
    exact⟨_,_,rfl⟩
  obtain⟨N,b8',eb⟩:=body;obtain⟨rs,c7,c8,er,el,ho⟩:=q6n ns hns x2 w most base hw hm hm2 b5 n (k+1) (acc++[runOf N w most]) (some (.fz (.int k))) b8' (by omega) (by omega) (by simp;omega) (fun r hr=>by
   rcases uj.mp hr with hr|hr
   ·exact ha r hr
   ·rw [nv.mp hr];exact qgx N w most hw hm hm2)
  refine⟨rs,c7,c8,?_,by rw [el];simp;omega,ho⟩;rw [q9w,xp (b:=bN 7) rfl eb,er]
theorem qi4(ns:List Int)(hl:ns.length<=63)(w:Nat)(hw:w<=12)(mr:Nat)(hmr:mr<=61): ∃rs:List Run,q1z [.lst (ns.map .int),.int (w:Int),.int (mr:Int)]=some (jv w rs)/\rs.length<=63/\∀r∈rs,q5g w r:=by
 obtain⟨m0,e0,p0,q0⟩:=y9 ns hl 0 (by decide) (by decide);obtain⟨m1,e1,p1,q1⟩:=y9 ns hl 1 (by decide) (by decide);obtain⟨m2,e2,p2,q2⟩:=y9 ns hl 2 (by decide) (by decide);obtain⟨c0,ec⟩:=q36 ns 0;rw [show((0:Nat):Int)=0 from rfl] at ec;obtain⟨most,emost,hmost,hmost2⟩:∃most:Int,atI [D.int 1,D.int 3,D.int 9,D.int 1000000000000] (m0%4)=some (.int most)/\0<most/\most<=1000000000000:=by
  have:m0%4=0\/m0%4=1\/m0%4=2\/m0%4=3:=by omega
  rcases this with e|e|e|e <;> rw [e]
  ·exact⟨1,rfl,by decide,by decide⟩
  ·exact⟨3,rfl,by decide,by decide⟩
  ·exact⟨9,rfl,by decide,by decide⟩
  ·exact⟨1000000000000,rfl,by decide,by decide⟩
 have hpw:oPow (.int 10) (.int 12)=some (.int 1000000000000):=by
  rw [q7k 10 12 (by decide) (by decide) (by decide)];rfl
 by_cases hc:c0%2=0
 ·have sl:∃cs:List Int,oSl (.lst (ns.map D.int)) (some 2) (some (2+(mr:Int)))=some (.lst (cs.map D.int))/\cs.length<=63:=by
   refine⟨(ns.drop (min 2 ns.length)).take (min (2+mr) ns.length-min 2 ns.length),?_,?_⟩
   ·show some (D.lst (DL.cutD (ns.map D.int) (some ((2:Nat):Int)) (some (2+(mr:Int)))))=_
    rw [show(2:Int)+(mr:Int)=((2+mr:Nat):Int) by omega];unfold DL.cutD;rw [HT.sIx_nat,HT.sIx_nat,gh,g3d,g4o]
   ·rw [pq,g0p];omega
  obtain⟨cs,sl,hcs⟩:=sl;obtain⟨b5,e⟩:=q6m (some (.fz (.lst (ns.map .int)))) (some (.fz (.int (mr:Int)))) w most hw hmost [none,none,none] cs [] none (by simp;omega);refine⟨cs.map fun n=>runOf n w most,?_,?_,?_⟩
  ·simp only [g02,um,g1l] at e
   (refine jb ?_;simp! [q0b,e0,ec,emost,hpw,hc,sl,e,jq])
  ·rw [gh];omega
  ·intro r hr
   obtain⟨n,_,rfl⟩:=md.mp hr;exact qgx n w most hw hmost hmost2
 ·obtain⟨tn,htn,etn⟩:=q9j (x:=m2) (n:=mr+1) (by omega)
  rw [show((mr+1:Nat):Int)=(mr:Int)+1 by omega] at etn;have hpos:(0:Int)<2 ^ w:=Int.pow_pos (by decide);have hp:=qj6 w (by omega);obtain⟨rs,b7,b8,e,el,ho⟩:=q6n ns hl (some (.fz (.int (mr:Int)))) w most (m1%2 ^ w) hw hmost hmost2 none tn 0 [] none none (by decide) (by omega) (by simp;omega) (by simp);have hr:iR1 (qc (eOp oMod (qi (qq 2 [] zk) (qc (eV 0) (qc (eC (.int 2)) qf))) (eOp zh (eV 2) (eC (.int 1)))) qf) [some (.fz (.lst (ns.map .int))),some (.fz (.int (w:Int))),some (.fz (.int (mr:Int))),some (.fz (.int most)),some (.ow []),none,some (.fz (.int (m1%2 ^ w))),none,none]=some (z6 0 tn):=by
   have ha:qc (eOp oMod (qi (qq 2 [] zk) (qc (eV 0) (qc (eC (.int 2)) qf))) (eOp zh (eV 2) (eC (.int 1)))) qf [some (.fz (.lst (ns.map .int))),some (.fz (.int (w:Int))),some (.fz (.int (mr:Int))),some (.fz (.int most)),some (.ow []),none,some (.fz (.int (m1%2 ^ w))),none,none]=some [.int (tn:Int)]:=
    qg (qu (zq (qg (x_v rfl) (qg x_c qr)) rfl e2) (qu (x_v rfl) x_c rfl) etn) qr
   rw [q6l _ _ _ ha (by omega) (by omega),my]
  refine⟨rs,?_,by rw [el];simp;omega,ho⟩;simp only [g02] at e
  (refine jb ?_;simp! [q0b,e0,e1,ec,emost,hpw,hc,hp,hpos,hr,e,jq])
theorem qgy(ns:List Int)(cs:List Int)(hc:0<cs.length)(hc2:cs.length<=1000): ∃L:Int,xy [.lst (ns.map .int),.lst (cs.map .int)]=some (.int L)/\1<=L:=by
 obtain⟨c1,ec⟩:=q36 ns 1;rw [show((1:Nat):Int)=1 from rfl] at ec;have hpw:oPow (.int 10) (.int 15)=some (.int 1000000000000000):=by
  rw [q7k 10 15 (by decide) (by decide) (by decide)];rfl
 have r5:c1%5=0\/c1%5=1\/c1%5=2\/c1%5=3\/c1%5=4:=by omega
 obtain⟨j,hj,hm⟩:=q9j (x:=c1 / 5) hc;have hi:atI (cs.map D.int) (j:Int)=some (.int cs[j]):=by rw [q50,mj,mm hj];rfl
 have hmax:∀a b:Int,oMax [.int a,.int b]=some (.int (if b>a then b else a)):=fun _ _=>rfl;rcases r5 with e|e|e|e|e
 ·simp! [xy,xx,ec,hpw,e]
  exact⟨_,rfl,by omega⟩
 ·simp! [xy,xx,ec,hpw,e]
  exact⟨_,rfl,by omega⟩
 ·simp! [xy,xx,ec,hpw,e,hm,hi,hmax]
  exact⟨_,rfl,by split <;> omega⟩
 ·simp! [xy,xx,ec,hpw,e,hm,hi,hmax]
  exact⟨_,rfl,by split <;> omega⟩
 ·simp! [xy,xx,ec,hpw,e,hm,hi,hmax]
  exact⟨_,rfl,by split <;> omega⟩
theorem qt0{w:Nat}(hw:w<=8){rs:List Run}(hl:rs.length<=63)(h:∀r∈rs,q5g w r): zt rs:=⟨by omega,fun r hr=>by
 obtain⟨a,b,c,_,t,ht,e⟩:=h r hr;have:2 ^ w<=256:=mq (ur (by decide) hw) (by decide);exact⟨a,b,c,t,by omega,e⟩⟩
end My
open PySem PyProof.Rows L2 DL
namespace My
open PySem PyProof.Rows L2 DL
def firstOf(b:List Int): Int:=match b.getLast? with
 | some x=>x+1
 | none=>0
theorem qdf:∀i:Nat,i<8->∀m:Nat,m<2 ^ i->qj 12 (m+2 ^ i)=qj 12 m++[(i:Int)]:=by decide +kernel
theorem qt1(b:List Int)(x:Int): oIx (TI (b++[x])) (.int (-1))=some (.int x):=by
 rw [qvy,qpt,ti,gd,g02,List.getLast?_append];simp
theorem qt2{fa:FA}{ρ : Rho}{i j:Int}(ha:fa ρ = some [.int i,.int j])(h1 : -(2 ^ 62)<=i)(h2:i<2 ^ 62)(h3 : -(2 ^ 62)<=j)(h4:j<2 ^ 62): iR2 fa ρ = some (z6 i (j-i).toNat):=by
 unfold iR2;rw [ha,g9];dsimp only;rw [gv h1,gv h2,gv h3,gv h4]
 rfl
theorem qi5(b:List Int)(w s:Nat)(hs:firstOf b=(s:Int))(hb:b.length<=100)(hw:w<=100)(hs2:s<=100): yn [TI b,.int (w:Int)]=some (.lst ((List.range (w-s)).map fun i:Nat=>TI (b++[((s+i:Nat):Int)]))):=by
 have e:eIf (bT (eV 0)) (eOp zh (eOp oIx (eV 0) (eUn q5j (eC (.int 1)))) (eC (.int 1))) (eC (.int 0)) [some (.fz (TI b)),some (.fz (.int (w:Int))),none]=some (.int (s:Int)):=by
  rw [<- hs];cases b with
  | nil=>rfl
  | cons x r=>
   have hx:∃b' y,x :: r=b'++[y]:=⟨(x :: r).dropLast,(x :: r).getLast (by simp),(g4a (by simp)).symm⟩
   obtain⟨b',y,e⟩:=hx;have ht:bT (eV 0) [some (.fz (TI (x :: r))),some (.fz (.int (w:Int))),none]=some true:=rfl;unfold eIf;rw [ht,g9,gq rfl,e];have hf:firstOf (b'++[y])=y+1:=by unfold firstOf;rw [List.getLast?_append];simp
   rw [hf];exact qu (qu (x_v rfl) (qvw x_c rfl) (qt1 b' y)) x_c rfl
 have r:iR2 (qc (eV 2) (qc (eV 1) qf)) [some (.fz (TI b)),some (.fz (.int (w:Int))),some (.fz (.int (s:Int)))]=some (z6 (s:Int) (w-s)):=by
  rw [qt2 (qg (x_v rfl) (qg (x_v rfl) qr)) (by omega) (by omega) (by omega) (by omega),show((w:Int)-(s:Int)).toNat=w-s by omega]
 have hl:(z6 (s:Int) (w-s)).length<=lim:=by rw [q0g];show _<=1000000;omega
 have c:z9 (bN 0) zr (eOp zh (eV 1) (zc (qc (eV 0) qf))) [none,some (.fz (TI b))] (z6 (s:Int) (w-s))=some ((List.range (w-s)).map fun i:Nat=>TI (b++[((s+i:Nat):Int)])):=by
  have:=q60 (b:=bN 0) (f:=eOp zh (eV 1) (zc (qc (eV 0) qf))) (ρ :=[none,some (.fz (TI b))]) (fun d=>match d with | .int x=>TI (b++[x])|_=>.non) (ds:=z6 (s:Int) (w-s)) fun d hd=>by
   simp only [z6,md] at hd;obtain⟨i,_,rfl⟩:=hd;refine⟨_,rfl,qu (x_v rfl) (v5 (qg (x_v rfl) qr) (by show 1<=1000000;decide)) ?_⟩;rw [qde _ _ (by rw [gh];simp;omega)];simp only [TI,ti,gd,g02]
  rw [this,z6,mv]
  congr 1
 have lc:zp (iR2 (qc (eV 2) (qc (eV 1) qf))) [none,some 0] (bN 0) zr (eOp zh (eV 1) (zc (qc (eV 0) qf))) [some (.fz (TI b)),some (.fz (.int (w:Int))),some (.fz (.int (s:Int)))]=some ((List.range (w-s)).map fun i:Nat=>TI (b++[((s+i:Nat):Int)])):=by
  unfold zp;rw [r,g9,gq hl];exact c
 have k1:zo 2 (eIf (bT (eV 0)) (eOp zh (eOp oIx (eV 0) (eUn q5j (eC (.int 1)))) (eC (.int 1))) (eC (.int 0))) [some (.fz (TI b)),some (.fz (.int (w:Int))),none]=some (.nx,[some (.fz (TI b)),some (.fz (.int (w:Int))),some (.fz (.int (s:Int)))]):=by
  unfold zo;rw [e]
  rfl
 have k2:zg (eL (zp (iR2 (qc (eV 2) (qc (eV 1) qf))) [none,some 0] (bN 0) zr (eOp zh (eV 1) (zc (qc (eV 0) qf))))) [some (.fz (TI b)),some (.fz (.int (w:Int))),some (.fz (.int (s:Int)))]=some (.rt (.lst ((List.range (w-s)).map fun i:Nat=>TI (b++[((s+i:Nat):Int)]))),[some (.fz (TI b)),some (.fz (.int (w:Int))),some (.fz (.int (s:Int)))]):=by
  unfold zg;rw [x_l lc]
  rfl
 have k3:vc [some (.fz (TI b)),some (.fz (.int (w:Int))),none]=some (.rt (.lst ((List.range (w-s)).map fun i:Nat=>TI (b++[((s+i:Nat):Int)]))),[some (.fz (TI b)),some (.fz (.int (w:Int))),some (.fz (.int (s:Int)))]):=by
  unfold vc qz;simp (config:={implicitDefEqProofs:=false}) only [k1,g9,k2]
 refine jb ?_;have k4:([TI b,.int (w:Int)].map (fun d=>some (B.fz d))++List.replicate (3 - [TI b,D.int (w:Int)].length) none:Rho)=[some (.fz (TI b)),some (.fz (.int (w:Int))),none]:=rfl;rw [k4,k3,mw]
def firstN(k:Nat): Nat:=((List.range 9).find? fun s=>decide (k<2 ^ s)).getD 8
def w9(w k:Nat): List Nat:=(List.range (w-firstN k)).map fun i=>k+2 ^ (firstN k+i)
def xn(k:Nat): List Nat:=((List.range 8).filter fun j=>bit k j).map fun j=>k-2 ^ j
theorem qpz:∀k:Nat,k<256->firstOf (qj 12 k)=(firstN k:Int)/\k<2 ^ firstN k/\firstN k<=8:=by decide +kernel
theorem qt3(w k:Nat)(hw:w<=8)(hk:k<256): yn [setD k,.int (w:Int)]=some (.lst ((w9 w k).map setD)):=by
 obtain⟨h1,h2,h3⟩:=qpz k hk;rw [qi5 (qj 12 k) w (firstN k) h1 (mq (q2s 12 k) (by decide)) (by omega) (by omega)];unfold w9;rw [mv]
 congr 2
 refine g1s fun i hi=>?_;have hi':=n9.mp hi;have h4:k<2 ^ (firstN k+i):=gr h2 (ur (by decide) (by omega));show TI _=TI (qj 12 (k+2 ^ (firstN k+i)));rw [qdf (firstN k+i) (by omega) k h4]
theorem ql4:∀k:Nat,k<256->((List.range (qj 12 k).length).map fun p=>(qj 12 k).take p++(qj 12 k).drop (p+1))=(xn k).map (qj 12):=by decide +kernel
theorem qq0(k:Nat)(hk:k<256): y4 [setD k]=some (.lst ((xn k).map setD)):=by
 have hb:=q2s 12 k;have c:z9 (bN 0) zr (eOp zh (eSl (eV 1) oNo (oAt (eV 0))) (eSl (eV 1) (oAt (eOp zh (eV 0) (eC (.int 1)))) oNo)) [none,some (.fz (setD k))] (z6 0 (qj 12 k).length) =
   some ((xn k).map setD):=by
  have:=q60 (b:=bN 0) (f:=eOp zh (eSl (eV 1) oNo (oAt (eV 0))) (eSl (eV 1) (oAt (eOp zh (eV 0) (eC (.int 1)))) oNo)) (ρ :=[none,some (.fz (setD k))]) (fun d=>match d with | .int x=>TI ((qj 12 k).take x.toNat++(qj 12 k).drop (x.toNat+1))|_=>.non) (ds:=z6 0 (qj 12 k).length) fun d hd=>by
   rw [q1q] at hd;obtain⟨i,hi,rfl⟩:=md.mp hd;have s1:oSl (setD k) none (some (i:Int))=some (TI ((qj 12 k).take i)):=by
    show some (D.tup (DL.cutD ((qj 12 k).map D.int) none (some (i:Int))))=_;rw [q61 (α :=D), <- g3d]
   have s2:oSl (setD k) (some ((i+1:Nat):Int)) none=some (TI ((qj 12 k).drop (i+1))):=by
    show some (D.tup (DL.cutD ((qj 12 k).map D.int) (some ((i+1:Nat):Int)) none))=_;rw [qgt (α :=D), <- g4o]
   have s3:zh (TI ((qj 12 k).take i)) (TI ((qj 12 k).drop (i+1)))=some (TI ((qj 12 k).take i++(qj 12 k).drop (i+1))):=by
    rw [qde _ _ (by rw [gh,gh,pq,g0p];omega), <- ti]
   refine⟨_,rfl,?_⟩;show eOp zh (eSl (eV 1) oNo (oAt (eV 0))) (eSl (eV 1) (oAt (eOp zh (eV 0) (eC (.int 1)))) oNo) [some (.fz (.int (i:Int))),some (.fz (setD k))]=some (TI ((qj 12 k).take (i:Int).toNat++(qj 12 k).drop ((i:Int).toNat+1)));rw [my];have e1:(i:Int)+1=((i+1:Nat):Int):=by omega
   simp! [s1,e1,s2,s3]
  rw [this,q1q,mv];have hf:=pk (List.map TI) (ql4 k hk);rw [mv,mv] at hf;exact pk some hf
 have hr:iR1 (qc (qi ye (qc (eV 0) qf)) qf) [some (.fz (setD k))]=some (z6 0 (qj 12 k).length):=by
  have ha:qc (qi ye (qc (eV 0) qf)) qf [some (.fz (setD k))]=some [.int ((qj 12 k).length:Int)]:=by
   refine qg (x_call (qg (x_v rfl) qr) ?_) qr;rw [q5d,gh]
  rw [q6l _ _ _ ha (by omega) (by omega),my]
 have hl:(z6 0 (qj 12 k).length).length<=lim:=by rw [q0g];show _<=1000000;omega
 (refine jb ?_;simp! [y3,zp,hr,hl,c])
theorem q9x{A:List Nat}(hn:A.Nodup)(hA:∀k∈A,k<256): (A.map (qj 12)).Nodup:=by
 rw [List.Nodup,mx];refine pd (fun {a b} ha hb hne e=>hne (q2r a (hA a ha) b (hA b hb) e)) hn
theorem qdg:∀A:List Nat,q4g (A.map fun k=>D.tup [setD k,.bl true])=some (A.map (qj 12),A.map fun _=>.bl true)
 | []=>rfl
 | k :: A=>by
  have hi:zx ((qj 12 k).map D.int)=some (qj 12 k):=xb _;rw [gd];show(zx ((qj 12 k).map D.int)).bind (fun q=>(q4g (A.map fun k=>D.tup [setD k,.bl true])).map fun p=>(q :: p.1,D.bl true :: p.2))=_;rw [hi,qdg A]
  rfl
abbrev vj(A:List Nat): D:=.dtt (A.map (qj 12)) (A.map fun _=>.bl true)
theorem ql5(A:List Nat)(hn:A.Nodup)(hA:∀k∈A,k<256)(hl:A.length<=1000): qe9 [.lst (A.map fun k=>D.tup [setD k,.bl true])]=some (vj A):=by
 show(q4g (A.map fun k=>D.tup [setD k,.bl true])).bind (fun p=>if p.1.Nodup/\(A.map fun k=>D.tup [setD k,.bl true]).length<=lim then some (D.dtt p.1 p.2) else none)=_;rw [qdg];show(if(A.map (qj 12)).Nodup/\_ then _ else _)=_;rw [gq ⟨q9x hn hA,by rw [gh];show _<=1000000;omega⟩]
theorem qq1(A:List Nat)(hA:∀k∈A,k<256)(m:Nat)(hm:m<256): qcb (setD m) (vj A)=some (.bl (decide (m∈A))):=by
 have hi:zx ((qj 12 m).map D.int)=some (qj 12 m):=xb _;show(zx ((qj 12 m).map D.int)).map (fun k=>D.bl (decide (k∈A.map (qj 12))))=_;rw [hi,mw]
 congr 2
 rw [p6,n5,n5]
 constructor
 ·intro h
  obtain⟨a,ha,e⟩:=md.mp h;exact q2r a (hA a ha) m hm e ▸ ha
 ·exact fun h=>tu h
theorem qq2:∀k:Nat,k<256->∀m∈xn k,m<256:=by decide +kernel
def chk(A:List Nat)(l:Nat): Bool:=(xn l).all fun m=>decide (m∈A)
theorem qvz(A:List Nat)(hA:∀k∈A,k<256)(l:Nat)(hl:l<256)(x0 x1 x3 x4:Option B): qi qc4 (qc (eL (zp (jm (qi (qq 1 [] y4) (qc (eV 5) qf))) [none,some 2] (bN 0) zr (eOp qcb (eV 0) (eV 1)))) qf)
  [x0,x1,some (.fz (vj A)),x3,x4,some (.fz (setD l))]=some (.bl (chk A l)):=by
 have f:=qq0 l hl;have hlen:((xn l).map setD).length<=lim:=by
  rw [gh];unfold xn;rw [gh];exact mq (nh _ _) (by simp;decide)
 have c:z9 (bN 0) zr (eOp qcb (eV 0) (eV 1)) [none,some (.fz (vj A))] ((xn l).map setD)=some (((xn l).map fun m=>decide (m∈A)).map D.bl):=by
  have hf:=qq2 l hl;generalize xn l=q at hf;clear f hlen
  induction q with
  | nil=>rfl
  | cons m q ih=>
   have ih':=ih fun x hx=>hf x (gf _ hx);have hi:=qq1 A hA m (hf m gc);rw [gd];simp! [z9,ih',hi,zr]
 have a:qc4 [.lst (((xn l).map fun m=>decide (m∈A)).map D.bl)]=some (.bl (chk A l)):=by rw [ql0,g6e];rfl
 rw [gh] at hlen;simp! [f,zp,hlen,c,a]
theorem qt4:∀w:Nat,w<9->∀k:Nat,k<256->∀l∈w9 w k,l<256:=by decide +kernel
theorem qq3:∀w:Nat,w<9->∀k:Nat,k<256->(w9 w k).length<=8:=by decide +kernel
theorem q62(A:List Nat)(hA:∀k∈A,k<256)(x0 x1 x4:Option B): ∀(q acc:List Nat) (b5:Option B),(∀l∈q,l<256)->acc.length+q.length<=1000->∃b5',
  runFor (bN 5) w6 (q.map setD) [x0,x1,some (.fz (vj A)),some (.ow (acc.map setD)),x4,b5]=some (.nx,[x0,x1,some (.fz (vj A)),some (.ow ((acc++q.filter (chk A)).map setD)),x4,b5'])
 | [],acc,b5,_,_=>⟨b5,by simp [runFor]⟩
 | l :: q,acc,b5,hq,hl=>by
  simp only [p5] at hl;have hla:acc.length<lim:=by show _<1000000;omega
  have ck:=qvz A hA l (hq l gc) x0 x1 (some (.ow (acc.map setD))) x4;have hq':∀x∈q,x<256:=fun x hx=>hq x (gf _ hx);have e0:bN 5 (setD l) [x0,x1,some (.fz (vj A)),some (.ow (acc.map setD)),x4,b5]=some [x0,x1,some (.fz (vj A)),some (.ow (acc.map setD)),x4,some (.fz (setD l))]:=by
   unfold bN
   rfl
  cases hc:chk A l with
  | true=>
   rw [hc] at ck;obtain⟨b5',ih⟩:=q62 A hA x0 x1 x4 q (acc++[l]) (some (.fz (setD l))) hq' (by simp;omega);have body:w6 [x0,x1,some (.fz (vj A)),some (.ow (acc.map setD)),x4,some (.fz (setD l))]=some (.nx,[x0,x1,some (.fz (vj A)),some (.ow ((acc++[l]).map setD)),x4,some (.fz (setD l))]):=by
    unfold w6;refine qgu (q07 ck rfl) rfl ?_;simp! [q4c,qbq,qbr,hla,ti]
   refine⟨b5',?_⟩;rw [gd,xp (b:=bN 5) e0 body,ih,nt,gq hc];simp
  | false=>
   rw [hc] at ck;obtain⟨b5',ih⟩:=q62 A hA x0 x1 x4 q acc (some (.fz (setD l))) hq' (by omega);have body:w6 [x0,x1,some (.fz (vj A)),some (.ow (acc.map setD)),x4,some (.fz (setD l))]=some (.nx,[x0,x1,some (.fz (vj A)),some (.ow (acc.map setD)),x4,some (.fz (setD l))]):=by
    unfold w6;exact je (q07 ck rfl) rfl jf
   refine⟨b5',?_⟩;rw [gd,xp (b:=bN 5) e0 body,ih,nt,m6 (by rw [hc];exact mh)]
def qeg(w:Nat)(A:List Nat): List Nat:=A.flatMap fun s=>(w9 w s).filter (chk A)
theorem q9y(w:Nat)(hw:w<=8)(A:List Nat)(hA:∀k∈A,k<256)(x0:Option B): ∀(q acc:List Nat) (b4 b5:Option B),(∀l∈q,l<256)->acc.length+q.length*8<=1000->∃b4' b5',
  runFor (bN 4) q25 (q.map setD) [x0,some (.fz (.int (w:Int))),some (.fz (vj A)),some (.ow (acc.map setD)),b4,b5]=some (.nx,[x0,some (.fz (.int (w:Int))),some (.fz (vj A)),some (.ow ((acc++q.flatMap fun s=>(w9 w s).filter (chk A)).map setD)),b4',b5'])
 | [],acc,b4,b5,_,_=>⟨b4,b5,by simp [runFor]⟩
 | s :: q,acc,b4,b5,hq,hl=>by
  simp only [p5] at hl;have hs:=hq s gc;have m:=qt3 w s hw hs;have hml:=qq3 w (by omega) s hs;obtain⟨c5,e⟩:=q62 A hA x0 (some (.fz (.int (w:Int)))) (some (.fz (setD s))) (w9 w s) acc b5 (qt4 w (by omega) s hs) (by omega);have hfl:((w9 w s).filter (chk A)).length<=8:=mq (nh _ _) hml;obtain⟨b4',b5',ih⟩:=q9y w hw A hA x0 q (acc++(w9 w s).filter (chk A)) (some (.fz (setD s))) c5 (fun x hx=>hq x (gf _ hx)) (by rw [ng];omega);have body:q25 [x0,some (.fz (.int (w:Int))),some (.fz (vj A)),some (.ow (acc.map setD)),some (.fz (setD s)),b5]=some (.nx,[x0,some (.fz (.int (w:Int))),some (.fz (vj A)),some (.ow ((acc++(w9 w s).filter (chk A)).map setD)),some (.fz (setD s)),c5]):=by
   simp! [q25,m,e]
  refine⟨b4',b5',?_⟩;rw [gd,xp (b:=bN 4) rfl body,ih,tw,g0k]
theorem qq4(w:Nat)(hw:w<=8)(A:List Nat)(hn:A.Nodup)(hA:∀k∈A,k<256)(hl:A.length<=100): q9g [.lst (A.map setD),.int (w:Int)]=some (.lst ((qeg w A).map setD)):=by
 have hl':A.length<=lim:=by show _<=1000000;omega
 have c:z9 (bN 0) zr (zc (qc (eV 0) (qc (eC (.bl true)) qf))) [none] (A.map setD)=some (A.map fun k=>D.tup [setD k,.bl true]):=by
  clear hl hl' hn hA
  induction A with
  | nil=>rfl
  | cons k A ih=>
   rw [gd];simp! [z9,ih,zr]
 have d:=ql5 A hn hA (by omega);obtain⟨b4,b5,e⟩:=q9y w hw A hA (some (.fz (.lst (A.map setD)))) A [] none none hA (by simp;omega);simp only [g02,um] at e
 (refine jb ?_;simp! [q6i,zp,hl',c,d,e])
 rfl
end My
open PySem PyProof.Rows L2 DL
namespace My
open PySem PyProof.Rows L2 DL
theorem q7n(p q:Run->Bool): ∀rs:List Run,(∀r∈rs,0<=r.1)->(∀r∈rs,p r=true->q r=true)->((rs.filter p).map (·.1)).sum<=((rs.filter q).map (·.1)).sum
 | [],_,_=>Int.le_refl _
 | r :: rs,h,hpq=>by
  have ih:=q7n p q rs (fun x hx=>h x (gf _ hx)) fun x hx=>hpq x (gf _ hx);have h0:=h r gc;have h1:=hpq r gc;rw [nt,nt];cases hp:p r with
  | true=>
   rw [hp] at h1;rw [gq rfl,gq (h1 rfl),gd,gd,g2j,g2j];omega
  | false=>
   rw [m6 mh]
   split
   ·rw [gd,g2j];omega
   ·exact ih
def q0h(rs:List Run)(L:Int)(k:Nat): Bool:=decide (L<=cM rs k)
theorem qi6:∀k:Nat,k<256->∀m∈xn k,m &&& k=m/\m<k:=by decide +kernel
theorem qni(t:Nat)(ht:t<256)(k:Nat)(hk:k<256)(m:Nat)(hm:m∈xn k)(h:t &&& k=k): t &&& m=m:=by
 rw [<- (qi6 k hk m hm).1,Nat.and_comm m k, <- Nat.and_assoc,h]
theorem qxg(rs:List Run)(h:zt rs)(k:Nat)(hk:k<256)(m:Nat)(hm:m∈xn k): cM rs k<=cM rs m:=by
 unfold cM;refine q7n _ _ rs (fun r hr=>(h.2 r hr).2.2.1) fun r hr hq=>?_;obtain⟨t,ht,e⟩:=(h.2 r hr).2.2.2;have e2:mk r.2=(t:Int):=by rw [e];exact(vt t ht).2
 rw [n5,e2,q9k] at hq ⊢;have:=qni t ht k hk m hm (by exact_mod_cast hq);rw [this]
theorem qdh(rs:List Run)(L:Int)(h:zt rs)(k:Nat)(hk:k<256)(hp:q0h rs L k=true): ∀m∈xn k,q0h rs L m=true:=fun m hm=>by
 have:=qxg rs h k hk m hm;unfold q0h at hp ⊢;rw [n5] at hp ⊢;omega
def cnd(rs:List Run)(L:Int)(l:Nat): Bool:=(xn l).all (q0h rs L)
def lv(w:Nat): Nat->List Nat
 | 0=>[0]
 | d+1=>(lv w d).flatMap (w9 w)
def jg(w:Nat): List Nat:=(List.range (w+1)).flatMap (lv w)
theorem wo:∀w:Nat,w<9->(∀k∈jg w,k<2 ^ w)/\(jg w).Nodup/\(jg w).length<=256:=by decide +kernel
theorem qr6{w:Nat}(hw:w<=8): 2 ^ w<=256:=mq (ur (by decide) hw) (by decide)
theorem qgz{w:Nat}(hw:w<=8): ∀k∈jg w,k<256:=fun k hk=>gr ((wo w (by omega)).1 k hk) (qr6 hw)
def oft(w:Nat)(rs:List Run)(L:Int): List Nat:=(jg w).filter fun k=>decide (L<=cM rs k)
theorem qh0:∀w:Nat,w<9->lv w (w+1)=[]/\∀d:Nat,d<10->(∀k∈lv w d,k<256)/\(lv w d).Nodup/\(lv w d).length<=70:=by decide +kernel
theorem ql6:∀w:Nat,w<9->∀k:Nat,k<256->∀l∈w9 w k,k∈xn l:=by decide +kernel
theorem qq5:∀w:Nat,w<9->∀d:Nat,d<9->∀l∈lv w (d+1),∀m∈xn l,m∈lv w d:=by decide +kernel
theorem q63{α β : Type}(q : α -> Bool)(g : α -> List β): ∀l:List α,(∀s∈l,q s=false->g s=[])->(l.filter q).flatMap g=l.flatMap g
 | [],_=>rfl
 | s :: l,h=>by
  have ih:=q63 q g l fun x hx=>h x (gf _ hx);rw [nt,tw];cases c:q s with
  | true=>rw [gq rfl,tw,ih]
  | false=>rw [m6 mh,ih,h s gc c,um]
theorem q64{α β : Type}(p : β -> Bool)(g : α -> List β): ∀l:List α,(l.flatMap g).filter p=l.flatMap fun s=>(g s).filter p
 | []=>rfl
 | s :: l=>by rw [tw,tw,List.filter_append,q64 p g l]
def layer(w:Nat)(rs:List Run)(L:Int)(d:Nat): List Nat:=(lv w d).filter (cnd rs L)
theorem step(w:Nat)(hw:w<=8)(rs:List Run)(L:Int)(h:zt rs)(d:Nat)(hd:d<9): qeg w ((layer w rs L d).filter (q0h rs L))=layer w rs L (d+1):=by
 obtain⟨_,lf⟩:=qh0 w (by omega);obtain⟨l1,l2,l3⟩:=lf d (by omega);obtain⟨k1,k2,k3⟩:=lf (d+1) (by omega);have eA:(layer w rs L d).filter (q0h rs L)=(lv w d).filter fun k=>q0h rs L k&&cnd rs L k:=by
  unfold layer;rw [g1x]
 rw [eA];unfold qeg;rw [q63 _ _ (lv w d) fun s hs hq=>?_]
 ·unfold layer
  show _=((lv w d).flatMap (w9 w)).filter (cnd rs L);have e1:(lv w d).flatMap (fun s=>(w9 w s).filter (chk ((lv w d).filter fun k=>q0h rs L k&&cnd rs L k)))=((lv w d).flatMap (w9 w)).filter (chk ((lv w d).filter fun k=>q0h rs L k&&cnd rs L k)):=(q64 _ _ _).symm;rw [e1];refine uy fun l hl=>?_;have hl':l∈lv w (d+1):=hl;have hf:=qq5 w (by omega) d (by omega) l hl';unfold chk cnd;rw [p6,n6,n6]
  constructor
  ·intro z m hm
   have:=z m hm;rw [n5,mn,gm] at this;exact this.2.1
  ·intro z m hm
   rw [n5,mn,gm];refine⟨hf m hm,z m hm,?_⟩;show(xn m).all (q0h rs L)=true;rw [n6];exact qdh rs L h m (l1 m (hf m hm)) (z m hm)
 ·refine g3b.mpr fun l hl hc=>?_
  have hm:=ql6 w (by omega) s (l1 s hs) l hl;unfold chk at hc;have:=n6.mp hc s hm;rw [n5,mn] at this;rw [this.2] at hq;cases hq
theorem qdi(w:Nat)(hw:w<=8)(rs:List Run)(L:Int)(h:zt rs): ∀n d:Nat,d+n<=w+1->layer w rs L d=[]->(List.range' d n).flatMap (layer w rs L)=[]
 | 0,d,_,_=>rfl
 | n+1,d,hd,e=>by
  have s:=step w hw rs L h d (by omega);rw [e] at s;have e1:layer w rs L (d+1)=[]:=s.symm;rw [g3j,tw,e,um];exact qdi w hw rs L h n (d+1) (by omega) e1
theorem qnj(rs:List Run)(h:zt rs)(A:List Nat)(hA:∀k∈A,k<256): z9 (bN 0) zr (zc (qc (eV 0) (qc (qi (qq 2 [] kc) (qc (eV 1) (qc (eV 0) qf))) qf))) [none,some (.fz (.lst (rs.map mrD)))] (A.map setD)=some (A.map (pairD rs)):=by
 induction A with
 | nil=>rfl
 | cons k l ih=>
  have ih':=ih fun x hx=>hA x (gf _ hx);have cm:=qbt rs h k (hA k gc);rw [gd];simp! [z9,ih',cm,zr]
theorem qq6(rs:List Run)(A:List Nat): z9 (bN 0) zr (eOp oIx (eV 0) (eC (.int 0))) [none] (A.map (pairD rs))=some (A.map setD):=by
 induction A with
 | nil=>rfl
 | cons k l ih=>
  rw [gd];simp! [z9,ih,zr]
theorem turn(w:Nat)(hw:w<=8)(rs:List Run)(L:Int)(h:zt rs)(x0:Option B)(A acc:List Nat)(hn:A.Nodup)(hA:∀k∈A,k<256)(hl:A.length<=100)(hacc:acc.length<=1000)(b6:Option B):
  xm [x0,some (.fz (jv w rs)),some (.fz (.int L)),some (.fz (.lst (rs.map mrD))),some (.ow (acc.map (pairD rs))),some (.fz (.lst (A.map setD))),b6] =
   some (.nx,[x0,some (.fz (jv w rs)),some (.fz (.int L)),some (.fz (.lst (rs.map mrD))),some (.ow ((acc++A).map (pairD rs))),some (.fz (.lst ((qeg w (A.filter (q0h rs L))).map setD))),some (.fz (.lst (A.map (pairD rs))))]):=by
 have hl':A.length<=lim:=by show _<=1000000;omega
 have hfl:(A.filter fun k=>decide (L<=cM rs k)).length<=lim:=mq (nh _ _) hl';have he:acc.length+A.length<=lim:=by show _<=1000000;omega
 have c1:=qnj rs h A hA;have al:=qi3 rs L A (by omega);have c2:=qq6 rs (A.filter fun k=>decide (L<=cM rs k));have g:=qq4 w hw (A.filter fun k=>decide (L<=cM rs k)) (u7 _ hn) (fun k hk=>hA k (mn.mp hk).1) (mq (nh _ _) hl);have e:(A.filter (q0h rs L))=A.filter fun k=>decide (L<=cM rs k):=rfl;rw [e];simp! [xm,zp,hl',c1,qc7,qbq,qbr,he,al,hfl,c2,g,ti]
theorem qh1(w:Nat)(hw:w<=8)(rs:List Run)(L:Int)(h:zt rs)(x0:Option B): ∀(n d f:Nat) (acc:List Nat) (b6:Option B),d+n=w+1->n<f->acc.length+n*70<=1000->∃b5' b6',
  jk (bT (eV 5)) xm f [x0,some (.fz (jv w rs)),some (.fz (.int L)),some (.fz (.lst (rs.map mrD))),some (.ow (acc.map (pairD rs))),some (.fz (.lst ((layer w rs L d).map setD))),b6] =
   some (.nx,[x0,some (.fz (jv w rs)),some (.fz (.int L)),some (.fz (.lst (rs.map mrD))),some (.ow ((acc++(List.range' d n).flatMap (layer w rs L)).map (pairD rs))),b5',b6'])
 | n,d,0,acc,b6,_,hf,_=>by omega
 | n,d,f+1,acc,b6,hd,hf,hl=>by
  obtain⟨le,lf⟩:=qh0 w (by omega);have ht:bT (eV 5) [x0,some (.fz (jv w rs)),some (.fz (.int L)),some (.fz (.lst (rs.map mrD))),some (.ow (acc.map (pairD rs))),some (.fz (.lst ((layer w rs L d).map setD))),b6]=some (!((layer w rs L d).map setD).isEmpty):=q07 (x_v rfl) rfl
  by_cases hc:layer w rs L d=[]
  ·rw [hc] at ht
   have hz:=qdi w hw rs L h n d (by omega) hc;rw [hz,g1u];refine⟨some (.fz (.lst ((layer w rs L d).map setD))),b6,?_⟩;unfold jk;rw [hc];rw [ht]
   rfl
  ·have hne:(!((layer w rs L d).map setD).isEmpty)=true:=by
    cases e:layer w rs L d with
    | nil=>exact absurd e hc
    | cons a l=>rfl
   rw [hne] at ht;cases n with
   | zero=>
    have:d=w+1:=by omega
    subst this;exact absurd (by unfold layer;rw [le];rfl) hc
   | succ n=>
    obtain⟨k1,k2,k3⟩:=lf d (by omega);have hll:(layer w rs L d).length<=70:=mq (nh _ _) k3;have t:=turn w hw rs L h x0 (layer w rs L d) acc (u7 _ k2) (fun k hk=>k1 k (mn.mp hk).1) (by omega) (by omega) b6;rw [step w hw rs L h d (by omega)] at t;obtain⟨b5',b6',ih⟩:=qh1 w hw rs L h x0 n (d+1) f (acc++layer w rs L d) (some (.fz (.lst ((layer w rs L d).map (pairD rs))))) (by omega) (by omega) (by rw [ng];omega);refine⟨b5',b6',?_⟩;unfold jk;rw [ht,g9,gq rfl,t,g9];dsimp only;rw [ih,g3j,tw,g0k]
theorem qyc(r:Rho): frz 0 (none :: r)=none :: r:=rfl
theorem qyd(d:D)(r:Rho): frz 0 (some (.fz d) :: r)=some (.fz d) :: r:=rfl
theorem qye(d:Str×List (Str×D))(r:Rho): frz 0 (some (.od d) :: r)=some (.od d) :: r:=rfl
def q8t(w:Nat)(rs:List Run)(L:Int): List Nat:=(jg w).filter (cnd rs L)
theorem ql7(self:D)(w:Nat)(hw:w<=8)(rs:List Run)(L:Int)(h:zt rs): k6 [self,jv w rs,.int L]=some (.tup ((q8t w rs L).map (pairD rs))):=by
 have m:=qnh w rs h;obtain⟨b5,b6,e⟩:=qh1 w hw rs L h (some (.fz self)) (w+1) 0 100000 [] none (by omega) (by omega) (by simp;omega);have e0:layer w rs L 0=[0]:=rfl;rw [e0, <- g40,um] at e;have e1:(List.range (w+1)).flatMap (layer w rs L)=q8t w rs L:=by
  unfold q8t;unfold jg;rw [q64]
  rfl
 rw [e1] at e;simp only [g02,gd] at e;rw [show setD 0=D.tup [] from rfl] at e;cases b6 with
 | none=>(refine jb ?_;simp! [ji,m,e,jq,qyc])
 | some z=>cases z with
  | fz z=>(refine jb ?_;simp! [ji,m,e,jq,qyd])
  | ow z=>(refine jb ?_;simp! [ji,m,e,jq])
  | od z=>(refine jb ?_;simp! [ji,m,e,jq,qye])
theorem ql8(rs:List Run)(L:Int)(h:zt rs)(k:Nat)(hk:k<256)(hp:q0h rs L k=true): cnd rs L k=true:=by
 unfold cnd;rw [n6];exact qdh rs L h k hk hp
theorem qq7(w:Nat)(hw:w<=8)(rs:List Run)(L:Int)(h:zt rs): (q8t w rs L).filter (fun k=>decide (L<=cM rs k))=oft w rs L:=by
 unfold q8t oft;rw [g1x];refine uy fun k hk=>?_;cases hp:decide (L<=cM rs k) with
 | false=>rfl
 | true=>rw [ql8 rs L h k (qgz hw k hk) hp];rfl
theorem qq8(w:Nat)(hw:w<=8)(rs:List Run)(L:Int): (q8t w rs L).length<=256:=by
 unfold q8t;exact mq (nh _ _) (wo w (by omega)).2.2
theorem qr7:isO "Growing" (.obj "Growing")=true:=by decide
theorem qq9(w:Nat)(hw:w<=8)(rs:List Run)(L:Int)(h:zt rs): yp [.obj "Growing",jv w rs,.int L]=some (.tup ((oft w rs L).map (pairD rs))):=by
 have c:=ql7 (.obj "Growing") w hw rs L h;have a:=qgw rs L (q8t w rs L) (by have:=qq8 w hw rs L;omega);rw [qq7 w hw rs L h] at a
 (refine jb ?_;simp! [yo,qc8,qr7,c,a])
end My
namespace DL
open PySem PyProof.Rows L2
section
variable{u w:FS}{t:FT}{f:FE}{fa:FA}{ρ ρ1:Rho}{d:D}{ds:List D}{i n:Nat}{c:Bool}{r:Option Fl}
abbrev g1(x:Option (Fl×Rho)): Option Fl:=x.map Prod.fst
theorem jz(h:g1 (u (ds.map (fun d=>some (.fz d))++List.replicate (n-ds.length) none))=some (.rt d)): zj n u ds=some d:=jb h
theorem ze(h1:u ρ = some (.nx, ρ1))(h2:g1 (w ρ1)=r): g1 (qz u w ρ)=r:=by unfold qz;rw [h1,g9];exact h2
theorem q8u(h1:g1 (u ρ)=some (.rt d)): g1 (qz u w ρ)=some (.rt d):=by
 cases e:u ρ with
 | none=>rw [e] at h1;cases h1
 | some p=>
  obtain⟨fl, ρ2⟩:=p;rw [e] at h1;cases h1;unfold qz;rw [e,g9];rfl
theorem q8v(h1:t ρ = some c)(hc:c=true)(h2:g1 (u ρ)=r): g1 (sIf t u w ρ)=r:=by subst hc;unfold sIf;rw [h1,g9];exact h2
theorem y_ret(h1:f ρ = some d): g1 (zg f ρ)=some (.rt d):=by unfold zg;rw [h1,mw];rfl
theorem ql9(h1:frz i ρ = ρ1)(h2:g1 (u ρ1)=r): g1 (wy i u ρ)=r:=by unfold wy;rw [h1];exact h2
end
end DL
open PySem PyProof.Rows L2 DL
namespace My
open PySem PyProof.Rows L2 DL
abbrev N'(n:Nat): D:=.int (n:Int)
theorem qaj(a b:Nat)(h:0<b): oMod (N' a) (N' b)=some (N' (a%b)):=by
 rw [xu _ _ (by lia)];rfl
theorem q3p{t:FT}{u:FS}{n:Nat}{ρ : Rho}(h:t ρ = some false): jk t u (n+1) ρ = some (.nx, ρ):=by
 simp only [jk,h,g9,m8,p8]
theorem qak{t:FT}{u:FS}{n:Nat}{ρ ρ1:Rho}(h:t ρ = some true)(h1:u ρ = some (.nx, ρ1)): jk t u (n+1) ρ = jk t u n ρ1:=by
 simp only [jk,h,h1,g9,tf]
theorem qyf(n:Nat): q81 (N' n)=some (decide (n≠0)):=by
 simp only [q81]
 congr 1
 by_cases h:n=0
 ·subst h;rfl
 ·rw [gv h,bne_iff_ne];lia
theorem qh2(a b:Nat)(x:Option B): bT (eV 1) [some (.fz (N' a)),some (.fz (N' b)),x]=some (decide (b≠0)):=by
 show(q81 (N' b))=_;exact qyf b
theorem qw0(a b:Nat)(x:Option B)(h:b≠0): xc [some (.fz (N' a)),some (.fz (N' b)),x]=some (.nx,[some (.fz (N' b)),some (.fz (N' (a%b))),some (.fz (N' (a%b)))]):=by
 unfold xc;simp! [qaj a b (g2y h)]
theorem qt5:∀(k n a b:Nat) (x:Option B),b<2 ^ k->2*k+1<=n->∃y,jk (bT (eV 1)) xc n [some (.fz (N' a)),some (.fz (N' b)),x]=some (.nx,[some (.fz (N' (Nat.gcd a b))),some (.fz (N' 0)),y]):=by
 intro k
 induction k with
 | zero=>
  intro n a b x hb hn;obtain⟨n,rfl⟩:∃m,n=m+1:=⟨n-1,by lia⟩
  have:b=0:=by lia
  subst this;rw [q3p (by rw [qh2];rfl),g1y];exact⟨x,rfl⟩
 | succ k ih=>
  intro n a b x hb hn;obtain⟨n,rfl⟩:∃m,n=m+3:=⟨n-3,by lia⟩
  by_cases h0:b=0
  ·subst h0
   rw [q3p (by rw [qh2];rfl),g1y];exact⟨x,rfl⟩
  ·rw [qak (by rw [qh2,gv h0]) (qw0 a b x h0)]
   have hr:a%b<b:=g3w _ (g2y h0);have e1:Nat.gcd a b=Nat.gcd b (a%b):=by rw [g2z a b,g5y b a,g2z]
   rw [e1];generalize a%b=r at *
   by_cases h1:r=0
   ·subst h1
    rw [q3p (by rw [qh2];rfl),g1y];exact⟨_,rfl⟩
   ·rw [qak (by rw [qh2,gv h1]) (qw0 b r _ h1)]
    have e2:Nat.gcd b r=Nat.gcd r (b%r):=by rw [g2z b r,g5y r b,g2z]
    rw [e2];refine ih (n+1) r (b%r) _ ?_ (by lia);have h2:b%r<r:=g3w _ (g2y h1);have h3:b%r+r<=b:=by
     have:=Nat.div_add_mod b r;have h4:1<=b / r:=(Nat.one_le_div_iff (g2y h1)).mpr (g0w hr);have h5:r*1<=r*(b / r):=g44 r h4;lia
    have h6:2 ^ (k+1)=2*2 ^ k:=by rw [g6h];lia
    lia
theorem qxh(a b:Nat)(h:b<2 ^ 128): yl [N' a,N' b]=some (N' (Nat.gcd a b)):=by
 refine jb ?_;obtain⟨y,e⟩:=qt5 128 100000 a b none h (by decide);unfold vb;simp! [e]
theorem isn(n:Nat): q13 [N' n]=some (.bl true):=by(refine jb ?_;simp! [q12,gv (show(0:Int)<=(n:Int) by lia)])
theorem qal(T B:Nat)(hB:0<B)(h2:B<2 ^ 128): q2n [N' T,N' B]=some (.tup [N' (T / Nat.gcd T B),N' (B / Nat.gcd T B)]):=by
 have hg:0<Nat.gcd T B:=g1p _ hB;have hl:Nat.gcd T B<=B:=Nat.gcd_le_right _ hB;have e0:¬(B:Int)=0:=by lia
 have d:∀a:Nat,oDivB (N' a) (N' (Nat.gcd T B))=some (N' (a / Nat.gcd T B)):=fun a=>by
  have hq:(Nat.gcd T B:Int)<2 ^ 128:=by exact_mod_cast g03 hl h2
  rw [q5e _ _ (by lia) (Int.lt_trans hq (by decide))];rfl
 (refine jb ?_;simp! [q6g,isn,mi e0,qxh T B h2,d])
theorem tms(a b:Nat)(h:a<2 ^ 64): zv (N' a) (N' b)=some (.int ((a:Int)*b)):=v7 _ _ (by lia)
theorem qqa(a b c d:Nat)(h1:a<2 ^ 64)(h2:c<2 ^ 64): yq [.tup [N' a,N' b],.tup [N' c,N' d]]=some (.bl (decide ((c:Int)*b<=(a:Int)*d))):=by
 (refine jb ?_;simp! [q3o,tms a d h1,tms c b h2])
theorem qcw(x:Int): ∀b:List Int,inF (.int x) (b.map D.int)=decide (x∈b)
 | []=>rfl
 | y :: b=>by
  show((eqF (.int y) (.int x)) || inF (.int x) (b.map D.int))=_;rw [qcw x b];show((y==x) || _)=_;rw [p6];simp only [g0f,g30,n5,ml]
  constructor <;> rintro(h|h)
  ·exact .inl h.symm
  ·exact .inr h
  ·exact .inl h.symm
  ·exact .inr h
theorem qdj(b:List Int): (b.map D.int).all flat=true:=by
 rw [g6e,n6];intro x _;rfl
theorem qqb(x:Int)(b:List Int): oIn false (.int x) (TI b)=some (.bl (decide (x∈b))):=by
 show(if(flat (.int x)&&(b.map D.int).all flat)=true then some (D.bl (if false=true then !inF (.int x) (b.map D.int) else inF (.int x) (b.map D.int))) else none)=_;rw [qdj,qcw];rfl
def uni(s t:List Int): List Int:=((List.range 12).map fun i:Nat=>(i:Int)).filter fun x=>decide (x∈s\/x∈t)
theorem q8w:∀(s:List Int),(∀x∈s,0<=x/\x<12)->q5l (s.map D.int)=some (s.map Int.toNat)
 | [],_=>rfl
 | x :: s,h=>by
  have hx:=h x gc;show(if 0<=x/\x<12 then(q5l (s.map D.int)).map (x.toNat :: ·) else none)=_;rw [gq hx,q8w s fun y hy=>h y (gf _ hy)]
  rfl
theorem qdk{s:List Int}(h:∀x∈s,0<=x/\x<12)(n:Nat): n∈s.map Int.toNat↔(n:Int)∈s:=by
 constructor
 ·intro hn
  obtain⟨x,hx,e⟩:=md.mp hn;have:=h x hx;have:x=(n:Int):=by omega
  exact this ▸ hx
 ·intro hn
  exact md.mpr ⟨_,hn,by simp⟩
theorem qla(s t:List Int)(hs:∀x∈s,0<=x/\x<12)(ht:∀x∈t,0<=x/\x<12): qjx (TI s) (TI t)=some ((uni s t).map D.int):=by
 show(q5l (s.map D.int)).bind (fun a=>(q5l (t.map D.int)).bind fun b=>some (((List.range 12).filter fun n=>decide (n∈a\/n∈b)).map fun n=>D.int (n:Nat)))=_;rw [q8w s hs,q8w t ht];show some _=_
 congr 1
 unfold uni;rw [uz,mv]
 congr 1
 refine uy fun n _=>?_;show decide (n∈s.map Int.toNat\/n∈t.map Int.toNat)=decide ((n:Int)∈s\/(n:Int)∈t);rw [p6,ny,ny,qdk hs,qdk ht]
theorem qdl(s t:List Int)(hs:∀x∈s,0<=x/\x<12)(ht:∀x∈t,0<=x/\x<12): q1k [TI s,TI t]=some (TI (uni s t)):=by
 have h:=qla s t hs ht
 (refine jb ?_;simp! [q4t,qjy,h,jq])
theorem qxi(rs:List Run)(h:zt rs)(k:Nat): 0<=cM rs k:=by
 have hz:∀q:List Run,(∀r∈q,0<=r.1)->0<=(q.map (·.1)).sum:=by
  intro q
  induction q with
  | nil=>intro _;simp
  | cons r q ih=>
   intro hq;have h1:=hq r gc;have h2:=ih fun r hr=>hq r (gf _ hr);rw [gd,g2j];omega
 unfold cM;exact hz _ fun r hr=>(h.2 r (mn.mp hr).1).2.2.1
def Bd(rs:List Run): Prop:=∀k,cM rs k<100000000000000
theorem qxj{rs:List Run}(hl:rs.length<=63)(h:∀r∈rs,0<=r.1/\r.1<=1000000000000): Bd rs:=fun k=>by
 have hz:∀q:List Run,(∀r∈q,r.1<=1000000000000)->(q.map (·.1)).sum<=(q.length:Int)*1000000000000:=by
  intro q
  induction q with
  | nil=>intro _;simp
  | cons r q ih=>
   intro hq;have h1:=hq r gc;have h2:=ih fun r hr=>hq r (gf _ hr);rw [gd,g2j,p5]
   push_cast
   omega
 have h1:=hz (rs.filter fun r=>decide (Builtin.bitAnd (mk r.2) (k:Int)=(k:Int))) fun r hr=>(h r (mn.mp hr).1).2;have h2:=nh (fun r:Run=>decide (Builtin.bitAnd (mk r.2) (k:Int)=(k:Int))) rs;unfold cM;omega
abbrev yh(K:List Nat)(rs:List Run): D:=.dtt (K.map (qj 12)) (K.map fun k=>.int (cM rs k))
structure KOk(K:List Nat)(rs:List Run): Prop where
 nd:K.Nodup
 lt:∀k∈K,k<256
 len:K.length<=256
 pos:∀k∈K,1<=cM rs k
 zero:K≠[]->0∈K
theorem qlb:∀w:Nat,w<9->0∈jg w:=by decide +kernel
theorem qw1(w:Nat)(hw:w<=8)(rs:List Run)(h:zt rs): KOk (oft w rs 1) rs:=by
 obtain⟨m1,m2,m3⟩:=wo w (by omega);refine⟨u7 _ m2,fun k hk=>qgz hw k (mn.mp hk).1,mq (nh _ _) m3,fun k hk=>by simpa using(mn.mp hk).2,fun hne=>?_⟩;obtain⟨a,ha⟩:=List.exists_mem_of_ne_nil _ hne;refine mn.mpr ⟨qlb w (by omega),?_⟩;have h1:1<=cM rs a:=by simpa using(mn.mp ha).2
 have h2:cM rs a<=cM rs 0:=by
  unfold cM;refine q7n _ _ rs (fun r hr=>(h.2 r hr).2.2.1) fun r hr _=>?_;obtain⟨t,ht,e⟩:=(h.2 r hr).2.2.2;have e2:mk r.2=(t:Int):=by rw [e];exact(vt t ht).2
  rw [n5,e2,q9k,Nat.and_zero]
 rw [n5];omega
theorem qdm(rs:List Run): ∀A:List Nat,q4g (A.map (pairD rs))=some (A.map (qj 12),A.map fun k=>.int (cM rs k))
 | []=>rfl
 | k :: A=>by
  have hi:zx ((qj 12 k).map D.int)=some (qj 12 k):=xb _;rw [gd];show(zx ((qj 12 k).map D.int)).bind (fun q=>(q4g (A.map (pairD rs))).map fun p=>(q :: p.1,D.int (cM rs k) :: p.2))=_;rw [hi,qdm rs A]
  rfl
theorem qlc{K:List Nat}{rs:List Run}(h:KOk K rs): qba [.tup (K.map (pairD rs))]=some (yh K rs):=by
 show(q4g (K.map (pairD rs))).bind (fun p=>if p.1.Nodup/\(K.map (pairD rs)).length<=lim then some (D.dtt p.1 p.2) else none)=_;rw [qdm];show(if(K.map (qj 12)).Nodup/\_ then _ else _)=_;rw [gq ⟨q9x h.nd h.lt,by rw [gh];have:=h.len;show _<=1000000;omega⟩]
theorem qnk{K:List Nat}{rs:List Run}(h:KOk K rs){a:Nat}(ha:a∈K): (K.map fun k=>D.int (cM rs k))[(K.map (qj 12)).idxOf (qj 12 a)]? = some (.int (cM rs a)):=by
 have hm:qj 12 a∈K.map (qj 12):=tu ha;have hi:=g29 hm;have e:=g4j hi;generalize (K.map (qj 12)).idxOf (qj 12 a)=i at *;rw [List.getElem_map] at e;have hi':i<K.length:=by simpa using hi
 have:=q2r _ (h.lt _ (g1k hi')) a (h.lt a ha) e;rw [mj,mm hi',mw,this]
theorem q8x{K:List Nat}{rs:List Run}(h:KOk K rs){a:Nat}(ha:a∈K): q55 (yh K rs) (setD a)=some (.int (cM rs a)):=by
 have hi:zx ((qj 12 a).map D.int)=some (qj 12 a):=xb _;show(zx ((qj 12 a).map D.int)).bind (fun k=>if k∈K.map (qj 12) then(K.map fun k=>D.int (cM rs k))[(K.map (qj 12)).idxOf k]? else none)=_;rw [hi,g9,gq (tu ha),qnk h ha]
theorem qh3(K:List Nat): q9d (K.map (qj 12))=K.map setD:=by
 unfold q9d;rw [mv];rfl
def cn(rs:List Run)(k:Nat): Nat:=(cM rs k).toNat
theorem q2e{rs:List Run}(h:zt rs)(k:Nat): cM rs k=(cn rs k:Int):=by
 have:=qxi rs h k;unfold cn;omega
theorem q9l{rs:List Run}(h:zt rs)(hB:Bd rs)(k:Nat): cn rs k<100000000000000:=by
 have:=hB k;have:=q2e h k;omega
theorem mono(rs:List Run)(h:zt rs)(x y:Nat)(hxy:x ||| y=x): cM rs x<=cM rs y:=by
 unfold cM;refine q7n _ _ rs (fun r hr=>(h.2 r hr).2.2.1) fun r hr hq=>?_;obtain⟨t,ht,e⟩:=(h.2 r hr).2.2.2;have e2:mk r.2=(t:Int):=by rw [e];exact(vt t ht).2
 rw [n5,e2,q9k] at hq ⊢;have hq':t &&& x=x:=by exact_mod_cast hq
 have:t &&& y=y:=by
  apply g05;intro i;have h1:=pk (fun n=>n.testBit i) hq';have h2:=pk (fun n=>n.testBit i) hxy;simp only [g1a,g0r] at h1 h2 ⊢
  revert h1 h2
  cases t.testBit i <;> cases x.testBit i <;> cases y.testBit i <;> simp
 rw [this]
theorem qr8:∀w:Nat,w<9->∀a:Nat,a<2 ^ w->∀b:Nat,b<2 ^ w->a ||| b<2 ^ w:=fun w _ a ha b hb=>g37 ha hb
theorem qt6{a b:Nat}(ha:a<256)(hb:b<256): a ||| b<256:=g37 (n:=8) ha hb
theorem qcx(a b:Nat): (a ||| b) ||| a=a ||| b:=by
 apply g05;intro i;simp only [g0r];cases a.testBit i <;> cases b.testBit i <;> rfl
theorem qh4(a b:Nat): (a ||| b) ||| b=a ||| b:=by
 apply g05;intro i;simp only [g0r];cases a.testBit i <;> cases b.testBit i <;> rfl
theorem q6o(a i:Nat): bit a i=a.testBit i:=by
 unfold bit;rw [Nat.testBit_eq_decide_div_mod_eq]
 rfl
theorem mem_bits{a i:Nat}: (i:Int)∈qj 12 a↔i<12/\a.testBit i=true:=by
 unfold qj;rw [md]
 constructor
 ·rintro⟨j,hj,e⟩
  have:j=i:=by omega
  subst this;rw [mn,n9,q6o] at hj;exact hj
 ·rintro⟨h1,h2⟩
  exact⟨i,mn.mpr ⟨n9.mpr h1,by rw [q6o];exact h2⟩,rfl⟩
theorem qw2:∀a:Nat,a<256->∀b:Nat,b<256->uni (qj 12 a) (qj 12 b)=qj 12 (a ||| b):=fun a _ b _=>by
 unfold uni;rw [uz];show _=((List.range 12).filter fun i=>bit (a ||| b) i).map fun i:Nat=>(i:Int)
 congr 1
 refine uy fun i hi=>?_;have hi':=n9.mp hi;show decide ((i:Int)∈qj 12 a\/(i:Int)∈qj 12 b)=bit (a ||| b) i;rw [q6o,g0r,p6,ny,mem_bits,mem_bits,g0f]
 constructor
 ·rintro(h|h)
  ·exact .inl h.2
  ·exact .inr h.2
 ·rintro(h|h)
  ·exact .inl ⟨hi',h⟩
  ·exact .inr ⟨hi',h⟩
theorem qt7:∀a:Nat,a<256->∀b:Nat,b<256->(((qj 12 a).filter fun x=>decide (x∈qj 12 b))=[]↔a &&& b=0):=fun a ha b _=>by
 rw [g3b]
 constructor
 ·intro h
  apply g05;intro i;rw [g1a,g3k];cases e1:a.testBit i with
  | false=>rfl
  | true=>
   cases e2:b.testBit i with
   | false=>rfl
   | true=>
    have hi:i<12:=by
     by_cases hh:i<12
     ·exact hh
     ·have:a<2 ^ i:=gr ha (mq (by decide:256<=2 ^ 12) (ur (by decide) (by omega)))
      rw [g5z this] at e1;cases e1
    exact absurd (gv (mem_bits.mpr ⟨hi,e2⟩)) (h (i:Int) (mem_bits.mpr ⟨hi,e1⟩))
 ·intro h x hx hy
  obtain⟨i,rfl,hi⟩:=q2t hx;have h1:=(mem_bits.mp hx).2;have h2:=(mem_bits.mp (td hy)).2;have:=pk (fun n=>n.testBit i) h;simp only [g1a,g3k,h1,h2] at this;cases this
theorem qh5:∀b:Nat,b<256->(qj 12 b=[]↔b=0):=by decide +kernel
theorem get_eq{K:List Nat}{rs:List Run}(h:KOk K rs)(hr:zt rs)(hK:∀k<256,1<=cM rs k->¬k∈K->False\/True){a b:Nat}(ha:a<256)(hb:b<256)(hin:1<=cM rs (a ||| b)->(a ||| b)∈K):
  q9e (yh K rs) [TI (uni (qj 12 a) (qj 12 b)),.int 0]=some (N' (cn rs (a ||| b))):=by
 rw [qw2 a ha b hb];have hi:zx ((qj 12 (a ||| b)).map D.int)=some (qj 12 (a ||| b)):=xb _;show(zx ((qj 12 (a ||| b)).map D.int)).bind (fun k=>if k∈K.map (qj 12) then(K.map fun k=>D.int (cM rs k))[(K.map (qj 12)).idxOf k]? else some (.int 0))=_;rw [hi,g9];have e:=q2e hr (a ||| b)
 by_cases hm:(a ||| b)∈K
 ·rw [gq (tu hm),qnk h hm,e]
 ·rw [m6]
  ·have:cn rs (a ||| b)=0:=by
    have hh:¬ 1<=cM rs (a ||| b):=fun z=>hm (hin z);omega
   rw [this];rfl
  ·intro z
   obtain⟨k,hk,ek⟩:=md.mp z;have:=qt6 ha hb;exact hm (q2r k (h.lt k hk) (a ||| b) (by omega) ek ▸ hk)
theorem qw3(a b:List Int)(ha:a.length<=1000): q9h [TI a,TI b]=some (TI (a.filter fun x=>decide (x∈b))):=by
 have hc:=vp (b:=bN 0) (c:=zb (oIn false) (eV 0) (eV 1)) (f:=eV 0) (ρ :=[none,some (.fz (TI b))]) (fun d=>match d with | .int x=>decide (x∈b)|_=>false) id (ds:=a.map D.int) fun d hd=>by
  obtain⟨x,hx,rfl⟩:=md.mp hd;exact⟨_,rfl,jd (x_v rfl) (x_v rfl) (qqb x b),fun _=>x_v rfl⟩
 rw [g3a,uz] at hc;exact jz (y_ret (x_call (qg (x_l (wj (ds:=a.map D.int) (ki (x_v rfl) rfl) (by rw [gh];show _<=1000000;omega) hc)) qr) (jq _)))
theorem qld:∀q:List Int,jn (q.map D.int)=0
 | []=>rfl
 | y :: q=>by rw [gd,jn,qld q];rfl
theorem eq_nil(l:List Int): oEq (TI l) (.tup [])=some (.bl (decide (l=[]))):=by
 cases l with
 | nil=>rfl
 | cons x r=>
  have h:=qld (x :: r);rw [gd] at h;show(none:Option D).or (qev (.tup (.int x :: r.map D.int)) (.tup []))=_;simp [qev,v8,eqL,h,gd]
theorem ne_nil(l:List Int): q4f (TI l) (.tup [])=some (.bl (!decide (l=[]))):=by
 cases l with
 | nil=>rfl
 | cons x r=>
  have h:=qld (x :: r);rw [gd] at h;show(none:Option D).or (qf3 (.tup (.int x :: r.map D.int)) (.tup []))=_;simp [qf3,v8,eqL,h,gd]
def apart(a b:Nat): Bool:=decide (b≠0)&&decide (a &&& b=0)
theorem qqc{K:List Nat}{rs:List Run}(h:KOk K rs)(h32:∀k∈K,k<256){a:Nat}(ha:a<256): q2z [setD a,yh K rs]=some (.lst ((K.filter (apart a)).map setD)):=by
 have hl:=q2s 12 a;have hc:=vp (b:=bN 0) (c:=ku (zb q4f (eV 0) (zc qf)) (zb oEq (qi (qq 2 [] q9h) (qc (eV 1) (qc (eV 0) qf))) (zc qf))) (f:=eV 0) (ρ :=[none,some (.fz (setD a))]) (fun d=>match d with | .tup ds=>(match zx ds with|some l=>apart a (mk l).toNat|none=>false)|_=>false) id (ds:=K.map setD) fun d hd=>by
  obtain⟨k,hk,rfl⟩:=md.mp hd;have hk32:=h32 k hk;have hi:zx ((qj 12 k).map D.int)=some (qj 12 k):=xb _;have hmk:(mk (qj 12 k)).toNat=k:=by rw [(vt k (by omega)).2];rfl
  have t1:zb q4f (eV 0) (zc qf) [some (.fz (setD k)),some (.fz (setD a))]=some (!decide (qj 12 k=[])):=jd (x_v rfl) (v5 qr (by decide)) (ne_nil _);have t2:zb oEq (qi (qq 2 [] q9h) (qc (eV 1) (qc (eV 0) qf))) (zc qf) [some (.fz (setD k)),some (.fz (setD a))]=some (decide (((qj 12 a).filter fun x=>decide (x∈qj 12 k))=[])):=jd (zq (qg (x_v rfl) (qg (x_v rfl) qr)) rfl (qw3 _ _ (by omega))) (v5 qr (by decide)) (eq_nil _);refine⟨[some (.fz (setD k)),some (.fz (setD a))],rfl,?_,fun _=>x_v rfl⟩;show _=some (match zx ((qj 12 k).map D.int) with|some l=>apart a (mk l).toNat|none=>false);rw [hi];show _=some (apart a (mk (qj 12 k)).toNat);rw [hmk];unfold apart;rw [g2e.mpr (qt7 a ha k hk32)] at t2
  by_cases hz:k=0
  ·have hz2:=(qh5 k hk32).mpr hz
   rw [gv hz2] at t1;rw [mi (by simpa using hz)];exact q7m t1 rfl
  ·have hz2:¬qj 12 k=[]:=fun z=>hz ((qh5 k hk32).mp z)
   rw [mi hz2] at t1;rw [gv hz,g2i];exact q7l t1 rfl t2
 rw [g3a,uz] at hc;have hf:K.filter ((fun d=>match d with | .tup ds=>(match zx ds with|some l=>apart a (mk l).toNat|none=>false)|_=>false) ∘ setD)=K.filter (apart a):=by
  refine uy fun k hk=>?_;have hi:zx ((qj 12 k).map D.int)=some (qj 12 k):=xb _;have hk32:=h32 k hk;have hmk:(mk (qj 12 k)).toNat=k:=by rw [(vt k (by omega)).2];rfl
  show(match zx ((qj 12 k).map D.int) with|some l=>apart a (mk l).toNat|none=>false)=_;rw [hi];show apart a (mk (qj 12 k)).toNat=_;rw [hmk]
 rw [hf] at hc;refine jz (y_ret (x_l (wj (ds:=K.map setD) ?_ (by rw [gh];have:=h.len;show _<=1000000;omega) hc)));show Option.bind (some (yh K rs)) _=_;rw [g9];show some (q9d (K.map (qj 12)))=_;rw [qh3]
theorem qh6(k:Nat): ∀x∈qj 12 k,0<=x/\x<12:=fun x hx=>by
 obtain⟨i,rfl,hi⟩:=q2t hx;omega
theorem qxk{f:FE}{fa:FA}{ρ : Rho}{x d:D}{xs:List D}(h1:f ρ = some x)(h2:fa ρ = some xs)(h3:q9e x xs=some d): qk1 f fa ρ = some d:=by unfold qk1;rw [h1,g9,h2,g9,h3]
abbrev yx(n m:Nat): D:=.tup [N' (n / Nat.gcd n m),N' (m / Nat.gcd n m)]
def qle(rs:List Run)(a b:Nat): List D:=[setD a,setD b,N' (cn rs (a ||| b)),yx (cn rs (a ||| b)) (cn rs a),yx (cn rs (a ||| b)*cn rs 0) (cn rs a*cn rs b)]
theorem qnl{K:List Nat}{rs:List Run}(h:KOk K rs)(hr:zt rs)(hB:Bd rs)(h32:∀k∈K,k<256){a b:Nat}(ha:a∈K)(hb:b∈K)(hin:1<=cM rs (a ||| b)->(a ||| b)∈K): yu [setD a,setD b,yh K rs]=some (.tup (qle rs a b)):=by
 have h0:0∈K:=h.zero fun e=>by rw [e] at ha;cases ha
 have en:=get_eq h hr (fun _ _ _ _=>.inr trivial) (h32 a ha) (h32 b hb) hin;have hj:=qdl (qj 12 a) (qj 12 b) (qh6 a) (qh6 b);have q:=q9l hr hB;have pos:∀k∈K,1<=cn rs k:=fun k hk=>by have:=h.pos k hk;have:=q2e hr k;omega
 have i0:=q8x h h0;have ia:=q8x h ha;have ib:=q8x h hb;rw [q2e hr] at i0 ia ib;rw [show setD 0=D.tup [] from rfl] at i0;have tm:∀x y:Nat,y<100000000000000->zv (N' x) (N' y)=some (N' (x*y)):=fun x y hy=>by
  rw [vq _ _ ⟨by omega,by omega⟩];show _=some (D.int ((x*y:Nat):Int))
  push_cast
  rfl
 have pa:=pos a ha;have pb:=pos b hb;have hpos:0<cn rs a*cn rs b:=g60 (by omega) (by omega);have hlt:cn rs a*cn rs b<2 ^ 128:=g03 (Nat.mul_le_mul (g0w (q a)) (g0w (q b))) (by decide);have s1:=qal (cn rs (a ||| b)*cn rs 0) (cn rs a*cn rs b) hpos hlt;have s2:=qal (cn rs (a ||| b)) (cn rs a) (by omega) (g0z (q a) (by decide));exact jz (ze (j7 (d:=N' (cn rs (a ||| b))) (qxk (x_v rfl) (qg (zq (qg (x_v rfl) (qg (x_v rfl) qr)) rfl hj) (qg x_c qr)) en)) (ze (j7 (zq (qg (qu (x_v rfl) (qu (x_v rfl) (v5 qr (by decide)) i0) (tm _ _ (q 0))) (qg (qu (qu (x_v rfl) (x_v rfl) ia) (qu (x_v rfl) (x_v rfl) ib) (tm _ _ (q b))) qr)) rfl s1)) (y_ret (v5 (qg (x_v rfl) (qg (x_v rfl) (qg (x_v rfl) (qg (zq (qg (x_v rfl) (qg (qu (x_v rfl) (x_v rfl) ia) qr)) rfl s2) (qg (x_v rfl) qr))))) (show 5<=1000000 by decide)))))
def BndOk(d:D)(t e:Nat): Prop:=(d=.non/\t=1/\e=2)\/(d=.tup [N' t,N' e]/\0<e/\t<2 ^ 60/\e<2 ^ 60)
theorem BndOk.lt{d:D}{t e:Nat}(h:BndOk d t e): 0<e/\t<2 ^ 60/\e<2 ^ 60:=by
 rcases h with⟨_,rfl,rfl⟩|⟨_,h⟩
 ·decide
 ·exact h
theorem qqd{d:D}{t e:Nat}(h:BndOk d t e): q41 [d]=some (yx t e):=by
 rcases h with⟨rfl,rfl,rfl⟩|⟨rfl,he,hc,he2⟩
 ·rfl
 ·have s:=qal t e he (g0z he2 (by decide))
  exact jz (ze (je (jd (x_v rfl) x_c (c:=false) rfl) rfl jf) (ze (je (vg (q08 (q07 (q35 (x_v rfl)) rfl)) rfl (jd (x_call (qg (x_v rfl) qr) (q5d _)) x_c (q1p _ _))) rfl jf) (y_ret (zq (qg (qu (x_v rfl) x_c (z:=N' t) rfl) (qg (qu (x_v rfl) x_c (z:=N' e) rfl) qr)) rfl s))))
theorem red{n m t e:Nat}(hm:0<m)(he:0<e): (t / Nat.gcd t e)*(m / Nat.gcd n m)<=(n / Nat.gcd n m)*(e / Nat.gcd t e)↔t*m<=n*e:=by
 have g1:0<Nat.gcd n m:=g1p _ hm;have g2:0<Nat.gcd t e:=g1p _ he;have en:n=Nat.gcd n m*(n / Nat.gcd n m):=(g2l (Nat.gcd_dvd_left n m)).symm;have em:m=Nat.gcd n m*(m / Nat.gcd n m):=(g2l (Nat.gcd_dvd_right n m)).symm;have et:t=Nat.gcd t e*(t / Nat.gcd t e):=(g2l (Nat.gcd_dvd_left t e)).symm;have ee:e=Nat.gcd t e*(e / Nat.gcd t e):=(g2l (Nat.gcd_dvd_right t e)).symm;generalize Nat.gcd n m=g at *;generalize Nat.gcd t e=k at *;generalize n / g=n' at *;generalize m / g=m' at *;generalize t / k=t' at *;generalize e / k=e' at *;rw [en,em,et,ee];have r1:k*t'*(g*m')=(k*g)*(t'*m'):=by rw [g3h,g3h,g50 t' g m']
 have r2:g*n'*(k*e')=(k*g)*(n'*e'):=by rw [g3h,g50 n' k e', <- g3h,g6f g k]
 rw [r1,r2];exact(Nat.mul_le_mul_left_iff (g60 g2 g1)).symm
theorem qw4{n m t e:Nat}(hn:n<2 ^ 60)(hm:0<m)(he:0<e)(ht:t<2 ^ 60): yq [yx n m,yx t e]=some (.bl (decide (t*m<=n*e))):=by
 rw [qqa _ _ _ _ (g03 (Nat.div_le_self _ _) (g0z hn (by decide))) (g03 (Nat.div_le_self _ _) (g0z ht (by decide)))]
 congr 2
 refine g2e.mpr ?_;rw [<- red (n:=n) (t:=t) hm he]
 exact_mod_cast Iff.rfl
def good(rs:List Run)(L:Int)(t e a b:Nat): Bool:=apart a b&&(decide (L<=cM rs (a ||| b))&&decide (t*cn rs a<=cn rs (a ||| b)*e))
def prs(K:List Nat)(g:Nat->Nat->Bool): List (Nat×Nat):=K.flatMap fun a=>(K.filter (g a)).map fun b=>(a,b)
abbrev x5(rs:List Run)(p:Nat×Nat): D:=.tup (qle rs p.1 p.2)
structure KIn(w:Nat)(K:List Nat)(rs:List Run): Prop where
 ok:KOk K rs
 lt:∀k∈K,k<2 ^ w
 all:∀k,k<2 ^ w->1<=cM rs k->k∈K
theorem q7o{w:Nat}(hw:w<=8): 2 ^ w<=256:=mq (ur (by decide) hw) (by decide)
theorem q8y:∀w:Nat,w<9->∀k:Nat,k<2 ^ w->k∈jg w:=by decide +kernel
theorem kin(w:Nat)(hw:w<=8)(rs:List Run)(h:zt rs): KIn w (oft w rs 1) rs:=
 ⟨qw1 w (by omega) rs h,fun k hk=>(wo w (by omega)).1 k (mn.mp hk).1,fun k hk hp=>mn.mpr ⟨q8y w (by omega) k hk,gv hp⟩⟩
theorem qdn{w:Nat}(hw:w<=8){K:List Nat}{rs:List Run}(h:KIn w K rs)(hr:zt rs)(hB:Bd rs){a:Nat}(ha:a∈K): ∀(Q:List Nat),(∀b∈Q,b∈K) ->
  z9 (bN 0) zr (qi (qq 3 [] yu) (qc (eV 1) (qc (eV 0) (qc (eV 2) qf)))) [none,some (.fz (setD a)),some (.fz (yh K rs))] (Q.map setD)=some (Q.map fun b=>x5 rs (a,b))
 | [],_=>rfl
 | b :: Q,hQ=>by
  have h32:∀k∈K,k<256:=fun k hk=>gr (h.lt k hk) (q7o hw);have hb:=hQ b gc;have e:=qnl h.ok hr hB h32 ha hb fun z=>h.all _ (qr8 w (by omega) a (h.lt a ha) b (h.lt b hb)) z;have ih:=qdn hw h hr hB ha Q fun b hb=>hQ b (gf _ hb);have e2:qi (qq 3 [] yu) (qc (eV 1) (qc (eV 0) (qc (eV 2) qf))) [some (.fz (setD b)),some (.fz (setD a)),some (.fz (yh K rs))]=some (x5 rs (a,b)):=zq (qg (x_v rfl) (qg (x_v rfl) (qg (x_v rfl) qr))) rfl e;rw [gd,gd];unfold z9;show Option.bind (some _) _=_;rw [g9];show Option.bind (some true) _=_;rw [g9];simp only [tf];show Option.bind (qi (qq 3 [] yu) (qc (eV 1) (qc (eV 0) (qc (eV 2) qf))) [some (.fz (setD b)),some (.fz (setD a)),some (.fz (yh K rs))]) _=_;rw [e2,g9,ih];rfl
theorem q9z{K:List Nat}{rs:List Run}(h:KOk K rs)(hr:zt rs)(hB:Bd rs){t e:Nat}(he:0<e)(ht:t<2 ^ 60)(L:Int){a:Nat}(ha:a∈K): ∀(Q:List Nat),
  z9 (bN 0) (ku (zb oGe (eOp oIx (eV 0) (eC (.int 2))) (eV 1)) (bT (qi (qq 2 [] yq) (qc (eOp oIx (eV 0) (eC (.int 3))) (qc (eV 2) qf))))) (eV 0) [none,some (.fz (.int L)),some (.fz (yx t e))] (Q.map fun b=>x5 rs (a,b)) =
   some ((Q.filter fun b=>decide (L<=cM rs (a ||| b))&&decide (t*cn rs a<=cn rs (a ||| b)*e)).map fun b=>x5 rs (a,b))
 | []=>rfl
 | b :: Q=>by
  have ih:=q9z h hr hB he ht L ha Q;have pa:0<cn rs a:=by have:=h.pos a ha;have:=q2e hr a;omega
  have qn:=q9l hr hB (a ||| b);have t1:zb oGe (eOp oIx (eV 0) (eC (.int 2))) (eV 1) [some (.fz (x5 rs (a,b))),some (.fz (.int L)),some (.fz (yx t e))]=some (decide (L<=cM rs (a ||| b))):=by
   rw [q2e hr];exact jd (qu (x_v rfl) x_c (z:=N' (cn rs (a ||| b))) rfl) (x_v rfl) (q6k _ _)
  have t2:bT (qi (qq 2 [] yq) (qc (eOp oIx (eV 0) (eC (.int 3))) (qc (eV 2) qf))) [some (.fz (x5 rs (a,b))),some (.fz (.int L)),some (.fz (yx t e))]=some (decide (t*cn rs a<=cn rs (a ||| b)*e)):=
   q07 (zq (qg (qu (x_v rfl) x_c (z:=yx (cn rs (a ||| b)) (cn rs a)) rfl) (qg (x_v rfl) qr)) rfl (qw4 (by omega) pa he ht)) rfl
  have tt:ku (zb oGe (eOp oIx (eV 0) (eC (.int 2))) (eV 1)) (bT (qi (qq 2 [] yq) (qc (eOp oIx (eV 0) (eC (.int 3))) (qc (eV 2) qf)))) [some (.fz (x5 rs (a,b))),some (.fz (.int L)),some (.fz (yx t e))]=some (decide (L<=cM rs (a ||| b))&&decide (t*cn rs a<=cn rs (a ||| b)*e)):=by
   cases hq:decide (L<=cM rs (a ||| b)) with
   | false=>rw [hq] at t1;exact q7m t1 rfl
   | true=>rw [hq] at t1;exact q7l t1 rfl t2
  rw [gd];unfold z9;show Option.bind (some [some (B.fz (x5 rs (a,b))),some (B.fz (.int L)),some (B.fz (yx t e))]) _=_;rw [g9,tt,g9,nt];cases hq:decide (L<=cM rs (a ||| b))&&decide (t*cn rs a<=cn rs (a ||| b)*e) with
  | false=>
   simp only [m8,p8];exact ih
  | true=>
   simp only [tf];show Option.bind (some (x5 rs (a,b))) _=_;rw [g9,ih];rfl
theorem qh7{α β : Type}{g : α -> List β}{B:Nat}: ∀ {q:List α},(∀a∈q,(g a).length<=B)->(q.flatMap g).length<=q.length*B
 | [],_=>by simp
 | a :: q,h=>by
  have h1:=h a gc;have h2:=qh7 (g:=g) (q:=q) fun a ha=>h a (gf _ ha);rw [tw,ng,p5,Nat.succ_mul];omega
abbrev stS(K:List Nat)(rs:List Run)(L:Int)(t e:Nat)(x0 x2:Option B)(acc:List (Nat×Nat))(b6 b7:Option B): Rho:=[x0,some (.fz (.int L)),x2,some (.fz (yx t e)),some (.fz (yh K rs)),some (.ow (acc.map (x5 rs))),b6,b7]
theorem q8z{w:Nat}(hw:w<=8){K:List Nat}{rs:List Run}(h:KIn w K rs)(hr:zt rs)(hB:Bd rs){t e:Nat}(he:0<e)(ht:t<2 ^ 60)(L:Int)(x0 x2:Option B): ∀(q:List Nat) (acc:List (Nat×Nat)) (b6 b7:Option B),(∀a∈q,a∈K)->acc.length+q.length*256<=100000 ->
  ∃(b6' b7':Option B),runFor (bN 6) q4x (q.map setD) (stS K rs L t e x0 x2 acc b6 b7) =
   some (.nx,stS K rs L t e x0 x2 (acc++q.flatMap fun a=>(K.filter (good rs L t e a)).map fun b=>(a,b)) b6' b7')/\((b7'=none\/∃d,b7'=some (.fz d))\/b7'=b7)
 | [],acc,b6,b7,_,_=>⟨b6,b7,by simp [runFor],.inr rfl⟩
 | a :: q,acc,b6,b7,hq,hl=>by
  have h32:∀k∈K,k<256:=fun k hk=>gr (h.lt k hk) (q7o hw);have ha:=hq a gc;have hKl:=h.ok.len;have ew:=qqc h.ok h32 (h32 a ha);have t3:=qdn hw h hr hB ha (K.filter (apart a)) fun b hb=>(mn.mp hb).1;have hp:=q9z h.ok hr hB he ht L ha (K.filter (apart a));have eg:(K.filter (apart a)).filter (fun b=>decide (L<=cM rs (a ||| b))&&decide (t*cn rs a<=cn rs (a ||| b)*e))=K.filter (good rs L t e a):=by
   rw [g1x];refine uy fun b _=>?_;unfold good;rw [Bool.and_comm]
  rw [eg] at hp;have hfl:=nh (apart a) K;have hgl:=nh (good rs L t e a) K;rw [p5,Nat.succ_mul] at hl;obtain⟨c6,c7,ih,i3⟩:=q8z hw h hr hB he ht L x0 x2 q (acc++(K.filter (good rs L t e a)).map fun b=>(a,b)) (some (.fz (setD a))) (some (.fz (.lst ((K.filter (apart a)).map fun b=>x5 rs (a,b))))) (fun a ha=>hq a (gf _ ha)) (by rw [ng,gh];omega);refine⟨c6,c7,?_,?_⟩
  ·rw [gd]
   refine(xp (ρ1:=stS K rs L t e x0 x2 acc (some (.fz (setD a))) b7) (ρ2:=stS K rs L t e x0 x2 (acc++(K.filter (good rs L t e a)).map fun b=>(a,b)) (some (.fz (setD a))) (some (.fz (.lst ((K.filter (apart a)).map fun b=>x5 rs (a,b)))))) rfl ?_).trans (ih.trans ?_)
   ·refine q44 (qef (ds:=(K.filter (apart a)).map fun b=>x5 rs (a,b)) (wj (ds:=(K.filter (apart a)).map setD) (ki (zq (qg (x_v rfl) (qg (x_v rfl) qr)) rfl ew) rfl) (by rw [gh];show _<=1000000;omega) t3)) ?_
    unfold wy;show qc7 5 _ (stS K rs L t e x0 x2 acc (some (.fz (setD a))) (some (.fz (.lst ((K.filter (apart a)).map fun b=>x5 rs (a,b))))))=_;have hl2:eL (zp (jm (eV 7)) [none,some 1,some 3] (bN 0) (ku (zb oGe (eOp oIx (eV 0) (eC (.int 2))) (eV 1)) (bT (qi (qq 2 [] yq) (qc (eOp oIx (eV 0) (eC (.int 3))) (qc (eV 2) qf))))) (eV 0)) (stS K rs L t e x0 x2 acc (some (.fz (setD a))) (some (.fz (.lst ((K.filter (apart a)).map fun b=>x5 rs (a,b))))))=some (.lst ((K.filter (good rs L t e a)).map fun b=>x5 rs (a,b))):=
     x_l (wj (ds:=(K.filter (apart a)).map fun b=>x5 rs (a,b)) (ki (x_v rfl) rfl) (by rw [gh];show _<=1000000;omega) hp)
    unfold qc7;rw [hl2];show Option.bind (some (acc.map (x5 rs))) _=_;rw [g9,g9];simp only [gh];rw [gq (by show _<=1000000;omega)];unfold stS;rw [ti,mv];rfl
   ·rw [tw,g0k]
  ·rcases i3 with i3|i3
   ·exact .inl i3
   ·exact .inl (.inr ⟨_,i3⟩)
def clr(a i:Nat): Nat:=a &&& (a ^^^ 2 ^ i)
theorem qt8(a i j:Nat): (clr a i).testBit j=(a.testBit j && !decide (i=j)):=by
 unfold clr;rw [g1a,Nat.testBit_xor,Nat.testBit_two_pow];cases a.testBit j <;> cases decide (i=j) <;> rfl
theorem qh8:∀a:Nat,a<256->∀i:Nat,i<8->((qj 12 a).filter fun y=> !decide (y=(i:Int)))=qj 12 (clr a i)/\clr a i<256:=fun a ha i hi=>by
 refine⟨?_,g03 g5r ha⟩;unfold qj;rw [uz,g1x]
 congr 1
 refine uy fun j _=>?_;show(!decide ((j:Int)=(i:Int))&&bit a j)=bit (clr a i) j;rw [q6o,q6o,qt8,Bool.and_comm]
 congr 2
 rw [p6,ny,ny];omega
theorem qh9:∀b:Nat,b<256->∀i:Nat,i<8->uni (qj 12 b) [(i:Int)]=qj 12 (b ||| 2 ^ i)/\b ||| 2 ^ i<256/\((i:Int)∈qj 12 b↔b.testBit i=true):=fun b hb i hi=>by
 refine⟨?_,g37 (n:=8) hb (Nat.pow_lt_pow_right (by decide) hi),by rw [mem_bits];exact⟨fun h=>h.2,fun h=>⟨by omega,h⟩⟩⟩;unfold uni;rw [uz];show _=((List.range 12).filter fun j=>bit (b ||| 2 ^ i) j).map fun i:Nat=>(i:Int)
 congr 1
 refine uy fun j hj=>?_;have hj':=n9.mp hj;show decide ((j:Int)∈qj 12 b\/(j:Int)∈[(i:Int)])=bit (b ||| 2 ^ i) j;rw [q6o,g0r,Nat.testBit_two_pow,p6,ny,mem_bits,g0f,ny,nv]
 constructor
 ·rintro(h|h)
  ·exact .inl h.2
  ·exact .inr (by omega)
 ·rintro(h|h)
  ·exact .inl ⟨hj',h⟩
  ·exact .inr (by omega)
theorem qlf(a:List Int)(x:Int)(ha:a.length<=1000): q3k [TI a,.int x]=some (TI (a.filter fun y=> !decide (y=x))):=by
 have hc:=vp (b:=bN 0) (c:=zb q1r (eV 0) (eV 1)) (f:=eV 0) (ρ :=[none,some (.fz (.int x))]) (fun d=>match d with | .int y=> !decide (y=x)|_=>false) id (ds:=a.map D.int) fun d hd=>by
  obtain⟨y,hy,rfl⟩:=md.mp hd;exact⟨_,rfl,jd (x_v rfl) (x_v rfl) (q1p y x),fun _=>x_v rfl⟩
 rw [g3a,uz] at hc;exact jz (y_ret (x_call (qg (x_l (wj (ds:=a.map D.int) (ki (x_v rfl) rfl) (by rw [gh];show _<=1000000;omega) hc)) qr) (jq _)))
def steps(w a b:Nat): List (Nat×Nat):=((List.range w).filter fun i=> !b.testBit i).map fun i=>(clr a i,b ||| 2 ^ i)
abbrev q2f(p:Nat×Nat): D:=.tup [setD p.1,setD p.2]
theorem qi7{a b w:Nat}(ha:a<256)(hb:b<256)(hw:w<=8): yc [setD a,setD b,.int (w:Int)]=some (.lst ((steps w a b).map q2f)):=by
 have la:=q2s 12 a;have inn:∀(x:Int),oIn true (.int x) (setD b)=some (.bl (!decide (x∈qj 12 b))):=fun x=>by
  show(if(flat (.int x)&&((qj 12 b).map D.int).all flat)=true then some (D.bl (if true=true then !inF (.int x) ((qj 12 b).map D.int) else inF (.int x) ((qj 12 b).map D.int))) else none)=_;rw [qdj,qcw];rfl
 have hc:=vp (b:=bN 0) (c:=zb (oIn true) (eV 0) (eV 2)) (f:=zc (qc (qi (qq 2 [] q3k) (qc (eV 1) (qc (eV 0) qf))) (qc (qi (qq 2 [] q1k) (qc (eV 2) (qc (zc (qc (eV 0) qf)) qf))) qf))) (ρ :=[none,some (.fz (setD a)),some (.fz (setD b))])
  (fun d=>match d with | .int x=> !b.testBit x.toNat|_=>false) (fun d=>match d with | .int x=>q2f (clr a x.toNat,b ||| 2 ^ x.toNat)|_=>.non) (ds:=z6 0 w) fun d hd=>by
  obtain⟨i,hi,rfl⟩:=md.mp hd;have hi:=n9.mp hi;rw [show(0:Int)+(i:Int)=(i:Int) by omega];obtain⟨c1,c2⟩:=qh8 a ha i (by omega);obtain⟨s1,s2,s3⟩:=qh9 b hb i (by omega);have hx:=qlf (qj 12 a) (i:Int) (by omega);have hy:=qdl (qj 12 b) [(i:Int)] (qh6 b) (by intro z hz;rw [nv.mp hz];omega);rw [c1] at hx;rw [s1] at hy;refine⟨_,rfl,?_,fun _=>v5 (qg (zq (qg (x_v rfl) (qg (x_v rfl) qr)) rfl hx) (qg (zq (qg (x_v rfl) (qg (v5 (qg (x_v rfl) qr) (show 1<=1000000 by decide)) qr)) rfl hy) qr)) (show 2<=1000000 by decide)⟩;rw [jd (c:= !decide ((i:Int)∈qj 12 b)) (x_v rfl) (x_v rfl) (inn _)];show _=some (!b.testBit (i:Int).toNat);have hb2:decide ((i:Int)∈qj 12 b)=b.testBit i:=by rw [p6,ny];exact s3
  rw [my,hb2]
 refine(jz (y_ret (x_l (wj (ds:=z6 0 w) (q6l _ _ (w:Int) (qg (x_v rfl) qr) (by omega) (by omega)) (by rw [q0g];show _<=1000000;omega) hc)))).trans ?_
 congr 2
 unfold z6 steps;rw [uz,mv,mv];have ef:((fun d=>match d with | .int x=> !b.testBit x.toNat|_=>false) ∘ fun i:Nat=>D.int (0+(i:Int)))=fun i=> !b.testBit i:=by
  funext i
  show(!b.testBit (0+(i:Int)).toNat)=_;rw [g41,my]
 rw [ef];refine g1s fun i _=>?_;show q2f (clr a (0+(i:Int)).toNat,b ||| 2 ^ (0+(i:Int)).toNat)=_;rw [g41,my];rfl
abbrev bb(p:Nat×Nat): List Int×List Int:=(qj 12 p.1,qj 12 p.2)
theorem qnm{p q:Nat×Nat}(hp:p.1<256/\p.2<256)(hq:q.1<256/\q.2<256)(e:bb p=bb q): p=q:=by
 injection e with e1 e2
 exact Prod.ext (q2r _ hp.1 _ hq.1 e1) (q2r _ hp.2 _ hq.2 e2)
theorem qqe{P:List (Nat×Nat)}(hP:∀p∈P,p.1<256/\p.2<256){q:Nat×Nat}(hq:q.1<256/\q.2<256): q76 (q2f q) (.dt2 (P.map bb))=some (.bl (decide (q∈P))):=by
 have hx:zx ((qj 12 q.1).map D.int)=some (qj 12 q.1):=xb _;have hy:zx ((qj 12 q.2).map D.int)=some (qj 12 q.2):=xb _;show(zx ((qj 12 q.1).map D.int)).bind (fun k1=>(zx ((qj 12 q.2).map D.int)).map fun k2=>D.bl (decide ((k1,k2)∈P.map bb)))=_;rw [hx,hy];show some (D.bl (decide (bb q∈P.map bb)))=_
 congr 2
 refine g2e.mpr ⟨fun h=>?_,fun h=>tu h⟩;obtain⟨p,hp,e⟩:=md.mp h;exact qnm (hP p hp) hq e ▸ hp
def qlg(w:Nat)(P:List (Nat×Nat))(p:Nat×Nat): Bool:=(steps w p.1 p.2).any fun q=>decide (q∈P)
theorem qqf{w a b:Nat}(ha:a<256)(hb:b<256)(hw:w<=8): ∀q∈steps w a b,q.1<256/\q.2<256:=fun q hq=>by
 obtain⟨i,hi,rfl⟩:=md.mp hq;have hi:=n9.mp (mn.mp hi).1;have h1:=(qh8 a ha i (by omega)).2;have h2:=(qh9 b hb i (by omega)).2.1;exact⟨by show clr a i<256;omega,by show b ||| 2 ^ i<256;omega⟩
theorem qlh{rs:List Run}{P:List (Nat×Nat)}(hP:∀p∈P,p.1<256/\p.2<256){p:Nat×Nat}(h1:p.1<256)(h2:p.2<256){w:Nat}(hw:w<=8): q3m [x5 rs p,.dt2 (P.map bb),.int (w:Int)]=some (.bl (qlg w P p)):=by
 have el:=qi7 h1 h2 hw;have hs:=qqf h1 h2 hw;have hc:z9 (bN 0) zr (eOp q76 (eV 0) (eV 1)) [none,some (.fz (.dt2 (P.map bb)))] ((steps w p.1 p.2).map q2f)=some (((steps w p.1 p.2).map fun q=>decide (q∈P)).map D.bl):=by
  clear el;generalize steps w p.1 p.2=S at hs
  induction S with
  | nil=>rfl
  | cons q S ih=>
   have ih:=ih fun q hq=>hs q (gf _ hq);have e2:eOp q76 (eV 0) (eV 1) [some (.fz (q2f q)),some (.fz (.dt2 (P.map bb)))]=some (.bl (decide (q∈P))):=qu (x_v rfl) (x_v rfl) (qqe hP (hs q gc));rw [gd,gd,gd];unfold z9;show Option.bind (some _) _=_;rw [g9];show Option.bind (some true) _=_;rw [g9];simp only [tf];show Option.bind (eOp q76 (eV 0) (eV 1) [some (.fz (q2f q)),some (.fz (.dt2 (P.map bb)))]) _=_;rw [e2,g9,ih];rfl
 have hsl:(steps w p.1 p.2).length<=12:=by
  unfold steps;rw [gh];have:=nh (fun i=> !p.2.testBit i) (List.range w);rw [g1f] at this;omega
 refine(jz (y_ret (x_call (qg (x_l (wj (ds:=(steps w p.1 p.2).map q2f) (ki (zq (qg (qu (x_v rfl) x_c (z:=setD p.1) rfl) (qg (qu (x_v rfl) x_c (z:=setD p.2) rfl) (qg (x_v rfl) qr))) rfl el) rfl) (by rw [gh];show _<=1000000;omega) hc)) qr) (ql1 _)))).trans ?_;unfold qlg;rw [List.any_map];rfl
theorem qnn:∀P:List (Nat×Nat),q75 (P.map fun p=>D.tup [q2f p,.bl true])=some (P.map bb)
 | []=>rfl
 | p :: P=>by
  have h1:zx ((qj 12 p.1).map D.int)=some (qj 12 p.1):=xb _;have h2:zx ((qj 12 p.2).map D.int)=some (qj 12 p.2):=xb _;rw [gd];show(zx ((qj 12 p.1).map D.int)).bind (fun k1=>(zx ((qj 12 p.2).map D.int)).bind fun k2=>(q75 (P.map fun p=>D.tup [q2f p,.bl true])).map fun q=>(k1,k2) :: q)=_;rw [h1,h2,qnn P];rfl
def six(rs:List Run)(w:Nat)(P:List (Nat×Nat))(p:Nat×Nat): D:=.tup (qle rs p.1 p.2++[.bl (qlg w P p)])
theorem qam{ρ : Rho}{f:FE}(g h:Nat×Nat->D): ∀(P:List (Nat×Nat)),(∀p∈P,f (some (.fz (g p)) :: ρ)=some (h p))->z9 (bN 0) zr f (none :: ρ) (P.map g)=some (P.map h)
 | [],_=>rfl
 | p :: P,hP=>by
  have ih:=qam g h P fun p hp=>hP p (gf _ hp);rw [gd,gd];unfold z9;show Option.bind (some _) _=_;rw [g9];show Option.bind (some true) _=_;rw [g9];simp only [tf];show Option.bind (f (some (.fz (g p)) :: ρ)) _=_;rw [hP p gc,g9,ih];rfl
theorem qi8{rs:List Run}(P:List (Nat×Nat))(hP:∀p∈P,p.1<256/\p.2<256)(hn:P.Nodup)(hl:P.length<=100000){w:Nat}(hw:w<=8): ve [.lst (P.map (x5 rs)),.int (w:Int)]=some (.tup (P.map (six rs w P))):=by
 have hP64:∀p∈P,p.1<256/\p.2<256:=fun p hp=>by have:=hP p hp;omega
 have c1:z9 (bN 0) zr (zc (qc (zc (qc (eOp oIx (eV 0) (eC (.int 0))) (qc (eOp oIx (eV 0) (eC (.int 1))) qf))) (qc (eC (.bl true)) qf))) [none] (P.map (x5 rs))=some (P.map fun p=>D.tup [q2f p,.bl true]):=
  qam _ _ P fun p hp=>v5 (qg (v5 (qg (qu (x_v rfl) x_c (z:=setD p.1) rfl) (qg (qu (x_v rfl) x_c (z:=setD p.2) rfl) qr)) (show 2<=1000000 by decide)) (qg x_c qr)) (show 2<=1000000 by decide)
 have hnd:(P.map bb).Nodup:=by
  rw [List.Nodup,mx];exact pd (fun {p q} hp hq hne e=>hne (qnm (hP64 p hp) (hP64 q hq) e)) hn
 have hd:qbf [.lst (P.map fun p=>D.tup [q2f p,.bl true])]=some (.dt2 (P.map bb)):=by
  show(q75 (P.map fun p=>D.tup [q2f p,.bl true])).bind (fun q=>if q.Nodup/\(P.map fun p=>D.tup [q2f p,.bl true]).length<=lim then some (D.dt2 q) else none)=_;rw [qnn,g9,gq ⟨hnd,by rw [gh];show _<=1000000;omega⟩]
 have c2:z9 (bN 0) zr (eOp zh (eV 0) (zc (qc (qi (qq 3 [] q3m) (qc (eV 0) (qc (eV 1) (qc (eV 2) qf)))) qf))) [none,some (.fz (.dt2 (P.map bb))),some (.fz (.int (w:Int)))] (P.map (x5 rs))=some (P.map (six rs w P)):=
  qam _ _ P fun p hp=>qu (x_v rfl) (v5 (qg (zq (qg (x_v rfl) (qg (x_v rfl) (qg (x_v rfl) qr))) rfl (qlh hP64 (hP p hp).1 (hP p hp).2 hw)) qr) (show 1<=1000000 by decide)) rfl
 exact jz (ze (j7 (x_call (qg (x_l (wj (ds:=P.map (x5 rs)) (ki (x_v rfl) rfl) (by rw [gh];show _<=1000000;omega) c1)) qr) hd)) (y_ret (x_call (qg (x_l (wj (ds:=P.map (x5 rs)) (ki (x_v rfl) rfl) (by rw [gh];show _<=1000000;omega) c2)) qr) (jq _))))
theorem q90{K:List Nat}{g:Nat->Nat->Bool}(h:K.Nodup): (prs K g).Nodup:=by
 have key:∀q:List Nat,q.Nodup->(q.flatMap fun a=>(K.filter (g a)).map fun b=>(a,b)).Nodup:=by
  intro q
  induction q with
  | nil=>intro _;simp
  | cons a q ih=>
   intro hq;rw [tw,List.nodup_append];refine⟨?_,ih (g09.mp hq).2,fun x hx y hy e=>?_⟩
   ·rw [List.Nodup,mx]
    exact(u7 _ h).imp fun hne z=>hne (by injection z)
   ·obtain⟨b,_,rfl⟩:=md.mp hx
    obtain⟨a',ha',hy⟩:=List.mem_flatMap.mp hy;obtain⟨b',_,rfl⟩:=md.mp hy;injection e with e1 e2
    exact(g09.mp hq).1 (e1 ▸ ha')
 exact key K h
theorem prs_mem{K:List Nat}{g:Nat->Nat->Bool}{p:Nat×Nat}: p∈prs K g↔p.1∈K/\p.2∈K/\g p.1 p.2=true:=by
 unfold prs;rw [List.mem_flatMap]
 constructor
 ·rintro⟨a,ha,h⟩
  obtain⟨b,hb,rfl⟩:=md.mp h;exact⟨ha,(mn.mp hb).1,(mn.mp hb).2⟩
 ·rintro⟨h1,h2,h3⟩
  exact⟨p.1,h1,md.mpr ⟨p.2,mn.mpr ⟨h2,h3⟩,rfl⟩⟩
abbrev stQ(w:Nat)(rs:List Run)(L:Int)(d:D)(t e:Nat): Rho:=[some (.fz (jv w rs)),some (.fz (.int L)),some (.fz d),some (.fz (yx t e)),none,none,none,none]
theorem qli(w:Nat)(hw:w<=8)(rs:List Run)(h:zt rs)(hB:Bd rs)(L:Int){d:D}{t e:Nat}(hb:BndOk d t e): xh [jv w rs,.int L,d]=some (.tup ((prs (oft w rs 1) (good rs L t e)).map (six rs w (prs (oft w rs 1) (good rs L t e))))):=by
 have hK:=kin w hw rs h;obtain⟨he,ht,he2⟩:=hb.lt;have ho:=qq9 w (by omega) rs 1 h;have hkl:=hK.ok.len;obtain⟨b6,b7,el,h7⟩:=q8z hw hK h hB he ht L (some (.fz (jv w rs))) (some (.fz d)) (oft w rs 1) [] none none (fun a ha=>ha) (by rw [g5o];omega);rw [um] at el;have hP:∀p∈prs (oft w rs 1) (good rs L t e),p.1<256/\p.2<256:=fun p hp=>by
  obtain⟨h1,h2,_⟩:=prs_mem.mp hp;have:=hK.lt _ h1;have:=hK.lt _ h2;have:=q7o hw;omega
 have hPl:(prs (oft w rs 1) (good rs L t e)).length<=100000:=by
  have:=qh7 (B:=256) (g:=fun a=>((oft w rs 1).filter (good rs L t e a)).map fun b=>(a,b)) (q:=oft w rs 1) fun a _=>by
   rw [gh];exact mq (nh _ _) hkl
  unfold prs;omega
 have em:=qi8 (rs:=rs) (prs (oft w rs 1) (good rs L t e)) hP (q90 hK.ok.nd) hPl hw;have em2:qc8 "Growing" 3 yp (eC (.obj "Growing")) (qc (eV 0) (qc (eC (.int 1)) qf)) (stQ w rs L d t e)=some (.tup ((oft w rs 1).map (pairD rs))):=by
  unfold qc8;rw [show eC (D.obj "Growing") (stQ w rs L d t e)=some (D.obj "Growing") from rfl,g9,qg (ρ :=(stQ w rs L d t e)) (x_v (i:=0) rfl) (qg x_c qr),g9,qr7];exact ho
 have hit:qk0 (eV 4) [some (.fz (jv w rs)),some (.fz (.int L)),some (.fz d),some (.fz (yx t e)),some (.fz (yh (oft w rs 1) rs)),some (.ow []),none,none]=some ((oft w rs 1).map setD):=by
  show some (q9d _)=_;rw [qh3]
 refine jz ?_;refine ze (j7 (zq (qg (x_v rfl) qr) rfl (qqd hb))) ?_;refine ze (je (jd (qu (x_v rfl) x_c (z:=.int (w:Int)) rfl) x_c (qj2 _ _)) (mi (by omega)) jf) ?_;refine ze (j7 (x_call (qg em2 qr) (qlc hK.ok))) ?_;refine ze (qef (qr5 qr (by decide))) ?_;refine ze (q9i hit el) ?_;refine ql9 (ρ1:=[some (.fz (jv w rs)),some (.fz (.int L)),some (.fz d),some (.fz (yx t e)),some (.fz (yh (oft w rs 1) rs)),some (.ow ((prs (oft w rs 1) (good rs L t e)).map (x5 rs))),b6,b7]) ?_ (ql9 rfl ?_)
 ·rcases h7 with(rfl|⟨z,rfl⟩)|rfl <;> rfl
 ·exact y_ret (zq (qg (x_v rfl) (qg (qu (x_v rfl) x_c (z:=.int (w:Int)) rfl) qr)) rfl em)
end My
open PySem PyProof.Rows L2 DL
namespace My
open PySem PyProof.Rows L2 DL
theorem qqg(a b:Nat): (ku (zb oGt (eV 0) (eC (.int 0))) (zb oGt (eV 1) (eC (.int 0)))) [some (.fz (N' a)),some (.fz (N' b))]=some (decide (0<a/\0<b)):=by
 simp! [tf]
 by_cases h1:(0:Int)<(a:Int) <;> by_cases h2:(0:Int)<(b:Int) <;> simp [h1,h2] <;> lia
theorem qyg(a b:Nat)(ha:0<a)(hb:0<b): yr [some (.fz (N' a)),some (.fz (N' b))]=some (.nx,if b<=a then [some (.fz (N' (a%b))),some (.fz (N' b))] else [some (.fz (N' a)),some (.fz (N' (b%a)))]):=by
 unfold yr
 by_cases h:b<=a
 ·have h':(b:Int)<=(a:Int):=by lia
  simp! [qaj a b hb,gv h',gq h]
 ·have h':¬(b:Int)<=(a:Int):=by lia
  simp! [qaj b a ha,mi h',m6 h]
theorem qha{a b:Nat}(hb:0<b)(h:b<=a): 2*(a%b)<a+1:=by
 have h2:a%b<b:=g3w _ hb;have:=Nat.div_add_mod a b;have h4:1<=a / b:=(Nat.one_le_div_iff hb).mpr h;have h5:b*1<=b*(a / b):=g44 b h4;lia
theorem qt9:∀(k n a b:Nat),a*b<2 ^ k->k+1<=n->∃c d:Nat,c+d=Nat.gcd a b/\jk (ku (zb oGt (eV 0) (eC (.int 0))) (zb oGt (eV 1) (eC (.int 0)))) yr n [some (.fz (N' a)),some (.fz (N' b))]=some (.nx,[some (.fz (N' c)),some (.fz (N' d))]):=by
 intro k
 induction k with
 | zero=>
  intro n a b hb hn;obtain⟨n,rfl⟩:∃m,n=m+1:=⟨n-1,by lia⟩
  have h0:a*b=0:=by lia
  have h1:¬(0<a/\0<b):=fun⟨x,y⟩=>absurd (g60 x y) (by lia);refine⟨a,b,?_,q3p (by rw [qqg,mi h1])⟩;rcases Nat.mul_eq_zero.mp h0 with rfl|rfl
  ·rw [Nat.gcd_zero_left,g28]
  ·rw [g1y,g5f]
 | succ k ih=>
  intro n a b hb hn;obtain⟨n,rfl⟩:∃m,n=m+1:=⟨n-1,by lia⟩
  have h6:2 ^ (k+1)=2*2 ^ k:=by rw [g6h];lia
  by_cases h1:0<a/\0<b
  ·obtain⟨ha,hb0⟩:=h1
   rw [qak (by rw [qqg,gv ⟨ha,hb0⟩]) (qyg a b ha hb0)]
   by_cases h:b<=a
   ·rw [gq h]
    have e1:Nat.gcd a b=Nat.gcd (a%b) b:=by rw [g2z a b,g5y b a]
    rw [e1];refine ih n (a%b) b ?_ (by lia);have h2:2*(a%b)<=a:=by have:=qha hb0 h;lia
    have h3:2*(a%b)*b<=a*b:=Nat.mul_le_mul_right b h2;rw [g3h] at h3;lia
   ·rw [m6 h]
    have h':a<=b:=by lia
    have e1:Nat.gcd a b=Nat.gcd a (b%a):=by rw [g5y a b,g2z]
    rw [e1];refine ih n a (b%a) ?_ (by lia);have h2:2*(b%a)<=b:=by have:=qha ha h';lia
    have h3:a*(2*(b%a))<=a*b:=g44 a h2;rw [g50] at h3;lia
  ·refine⟨a,b,?_,q3p (by rw [qqg,mi h1])⟩
   have h0:a=0\/b=0:=by lia
   rcases h0 with rfl|rfl
   ·rw [Nat.gcd_zero_left,g28]
   ·rw [g1y,g5f]
theorem qxl(a b:Nat)(h:a<2 ^ 100)(h2:b<2 ^ 100): q2c [N' a,N' b]=some (N' (Nat.gcd a b)):=by
 refine jb ?_;have h3:a*b<2 ^ 200:=by
  have:=Nat.mul_lt_mul'' h h2;rw [<- Nat.pow_add] at this;exact this
 obtain⟨c,d,e0,e⟩:=qt9 200 100000 a b h3 (by decide);unfold q06;simp! [e];rw [<- e0];rfl
theorem q91(n m:Nat)(hn:n<2 ^ 100)(hm:0<m)(hm2:m<2 ^ 100): q1a [N' n,N' m]=some (yx n m):=by
 have hg:0<Nat.gcd n m:=g1p _ hm;have hl:Nat.gcd n m<=m:=Nat.gcd_le_right _ hm;have d:∀a:Nat,oDivB (N' a) (N' (Nat.gcd n m))=some (N' (a / Nat.gcd n m)):=fun a=>by
  have hq:(Nat.gcd n m:Int)<2 ^ 100:=by exact_mod_cast g03 hl hm2
  rw [q5e _ _ (by lia) (Int.lt_trans hq (by decide))];rfl
 exact jz (ze (j7 (zq (qg (x_v rfl) (qg (x_v rfl) qr)) rfl (qxl n m hn hm2))) (y_ret (v5 (qg (qu (x_v rfl) (x_v rfl) (d n)) (qg (qu (x_v rfl) (x_v rfl) (d m)) qr)) (show 2<=1000000 by decide))))
theorem qan(a:Int): yw [.int a,.int a]=some (.bl true):=
 jz (y_ret (qcv (q35 (x_v rfl)) rfl (qcv (qxd (q35 (x_v rfl))) rfl (qu (x_v rfl) (x_v rfl) (by rw [q0f,gv rfl])))))
theorem qno(n m:Nat): y8 [yx n m,yx n m]=some (.bl true):=
 jz (ze (je (vg (q08 (q07 (q35 (x_v rfl)) rfl)) rfl (jd (x_call (qg (x_v rfl) qr) (q5d _)) x_c (q1p _ _))) rfl jf) (y_ret (qcv (zq (qg (qu (x_v rfl) x_c (z:=N' (n / Nat.gcd n m)) rfl) (qg (qu (x_v rfl) x_c (z:=N' (n / Nat.gcd n m)) rfl) qr)) rfl (qan _)) rfl (zq (qg (qu (x_v rfl) x_c (z:=N' (m / Nat.gcd n m)) rfl) (qg (qu (x_v rfl) x_c (z:=N' (m / Nat.gcd n m)) rfl) qr)) rfl (qan _)))))
theorem qw5(a b:Nat): Builtin.bitOr (a:Int) (b:Int)=((a ||| b:Nat):Int):=by
 have e:∀n:Nat,Builtin.bitNot (Builtin.bitNot (n:Int))=n:=fun n=>by unfold Builtin.bitNot;omega
 have f:∀n:Nat,decide ((0:Int)<=Builtin.bitNot (n:Int))=false:=fun n=>mi (by unfold Builtin.bitNot;omega);unfold Builtin.bitOr Builtin.bitAnd;rw [f a,f b];simp only [e,my]
theorem qqh(a b:Nat): oBor (.int (a:Int)) (.int (b:Int))=some (.int ((a ||| b:Nat):Int)):=by
 show some (D.int (Builtin.bitOr a b))=_;rw [qw5]
abbrev cL(w:Nat)(rs:List Run): D:=.lst ((List.range (2 ^ w)).map fun i:Nat=>.int (cM rs i))
theorem ixc{w:Nat}{rs:List Run}(h:zt rs){k:Nat}(hk:k<2 ^ w): oIx (cL w rs) (.int (k:Int))=some (N' (cn rs k)):=by
 rw [qpx,q50,mj,List.getElem?_range hk,mw,q2e h]
theorem qdo{d:D}{t e:Nat}(hb:BndOk d t e){n m:Nat}(hn:n<2 ^ 60): xo [N' n,N' m,d]=some (.bl (decide (t*m<=n*e))):=by
 obtain⟨he,ht,he2⟩:=hb.lt;have hi:∃q,qi qjq (qc (eOp (oIs false) (eV 2) (eC .non)) qf) [some (.fz (N' n)),some (.fz (N' m)),some (.fz d),none,none]=some (.int q)/\oIx (.lst [d,.tup [N' 1,N' 2]]) (.int q)=some (.tup [N' t,N' e]):=by
  rcases hb with⟨rfl,rfl,rfl⟩|⟨rfl,_⟩
  ·exact⟨1,rfl,rfl⟩
  ·exact⟨0,rfl,rfl⟩
 obtain⟨q,h1,h2⟩:=hi;refine jz (ze (ρ1:=[some (.fz (N' n)),some (.fz (N' m)),some (.fz d),some (.fz (N' t)),some (.fz (N' e))]) (qvx (qu (x_l (qr5 (qg (x_v rfl) (qg (v5 (qg x_c (qg x_c qr)) (show 2<=1000000 by decide)) qr)) (show 2<=1000000 by decide))) h1 h2) rfl) (y_ret (qu (qu (x_v rfl) (x_v rfl) (v7 _ _ ⟨by omega,by omega⟩)) (qu (x_v rfl) (x_v rfl) (v7 _ _ ⟨by omega,by omega⟩)) ?_)));rw [q6k]
 congr 2
 exact g2e.mpr (by exact_mod_cast Iff.rfl)
theorem good_iff{rs:List Run}{L:Int}{t e a b:Nat}: good rs L t e a b=true↔b≠0/\a &&& b=0/\L<=cM rs (a ||| b)/\t*cn rs a<=cn rs (a ||| b)*e:=by
 unfold good apart;simp only [gm,ny]
 constructor
 ·rintro⟨⟨h1,h2⟩,h3,h4⟩;exact⟨h1,h2,h3,h4⟩
 ·rintro⟨h1,h2,h3,h4⟩;exact⟨⟨h1,h2⟩,h3,h4⟩
theorem qta{w:Nat}(hw:w<=8){rs:List Run}(h:zt rs){L:Int}(hL:1<=L)(t e:Nat): prs (oft w rs 1) (good rs L t e)=prs (jg w) (good rs L t e):=by
 unfold prs oft;have inner:∀a,((jg w).filter fun k=>decide (1<=cM rs k)).filter (good rs L t e a)=(jg w).filter (good rs L t e a):=fun a=>by
  rw [g1x];refine uy fun b _=>?_;cases hg:good rs L t e a b with
  | false=>rfl
  | true=>
   have:=(good_iff.mp hg).2.2.1;have:=mono rs h (a ||| b) b (qh4 a b);rw [gv (show 1<=cM rs b by omega)];rfl
 simp only [inner];refine q63 _ _ _ fun a _ hq=>?_;rw [List.map_eq_nil_iff,g3b];intro b _ hg;have:=(good_iff.mp hg).2.2.1;have:=mono rs h (a ||| b) a (qcx a b);rw [gv (show 1<=cM rs a by omega)] at hq;cases hq
theorem qdp(x0:Option B)(w:Nat)(hw:w<=8): ∀(q:List Int) (last m:Int) (b4:Option B),q.Pairwise (· < ·)->(∀x∈q,last<x/\0<=x/\x<w)->∃l' b4',runFor (bN 4) q3u (q.map D.int) [x0,some (.fz (N' w)),some (.fz (.int last)),some (.fz (.int m)),b4]=some (.nx,[x0,some (.fz (N' w)),some (.fz (.int l')),some (.fz (.int (m+mk q))),b4'])
 | [],last,m,b4,_,_=>⟨last,b4,by simp only [mk,g02,List.sum_nil,Int.add_zero];rfl⟩
 | y :: q,last,m,b4,hp,hq=>by
  obtain⟨h1,h2,h3⟩:=hq y gc;obtain⟨p1,p2⟩:=g0d.mp hp;obtain⟨l',b4',ih⟩:=qdp x0 w hw q y (m+2 ^ y.toNat) (some (.fz (.int y))) p2 fun x hx=>⟨p1 x hx,(hq x (gf _ hx)).2⟩
  refine⟨l',b4',?_⟩;rw [gd];refine(xp (ρ1:=[x0,some (.fz (N' w)),some (.fz (.int last)),some (.fz (.int m)),some (.fz (.int y))]) (ρ2:=[x0,some (.fz (N' w)),some (.fz (.int y)),some (.fz (.int (m+2 ^ y.toNat))),some (.fz (.int y))]) rfl ?_).trans (ih.trans ?_)
  ·refine q44 (je (vg (q08 (q07 (q35 (x_v rfl)) rfl)) rfl (vg (q07 (q35 (x_v rfl)) rfl) rfl (vg (jd (x_v rfl) (x_v rfl) (qj1 _ _)) (mi (by omega)) (jd (x_v rfl) (x_v rfl) (q6k _ _))))) (mi (by omega)) jf) (q44 (j7 (x_v rfl)) (j7 (qu (x_v rfl) (qu x_c (x_v rfl) (q7j 1 y h2 (by omega) (by decide))) ?_)))
   rw [g5x];exact kr _ _
  ·unfold mk
   rw [gd,g2j,Int.add_assoc]
theorem qdq(n a:Nat): (qj n a).Pairwise (· < ·):=by
 unfold qj;rw [mx];exact(u7 _ g39).imp fun h=>by omega
theorem qr9{x w i:Nat}(h:x<2 ^ w)(hx:x.testBit i=true): i<w:=by
 by_cases hh:i<w
 ·exact hh
 ·rw [g5z (gr h (ur (by decide) (by omega)))] at hx;cases hx
theorem qa0{a w:Nat}(hw:w<=8)(ha:a<2 ^ w): q2b [setD a,N' w]=some (N' a):=by
 obtain⟨l',b4',e⟩:=qdp (some (.fz (setD a))) w hw (qj 12 a) (-1) 0 none (qdq 12 a) fun x hx=>by
  obtain⟨i,rfl,hi⟩:=q2t hx;have:=qr9 ha (mem_bits.mp hx).2;omega
 rw [g41,(vt a (gr ha (qr6 hw))).2] at e;exact jz (ze (je (q08 (q07 (q35 (x_v rfl)) rfl)) rfl jf) (ze (j7 (qvw x_c rfl)) (ze (j7 x_c) (ze (q9i (ki (x_v rfl) rfl) e) (y_ret (x_v rfl))))))
theorem qqi{w:Nat}(hw:w<=8){rs:List Run}(h:zt rs)(hB:Bd rs){L:Int}(hL:1<=L){d:D}{t e:Nat}(hbd:BndOk d t e){a b:Nat}(ha:a<2 ^ w)(hb:b<2 ^ w)(hg:good rs L t e a b=true)(P:List (Nat×Nat)):
  q34 [six rs w P (a,b),N' w,cL w rs,d]=some (.bl true):=by
 have h32:=q7o hw;have ho:=qqh a b;have hn:=q8r a b;have hlt:=qr8 w (by omega) a ha b hb;have hpos:0<2 ^ w:=g61 (by decide);have i1:=ixc h hlt;have ia:=ixc h ha;have ib:=ixc h hb;have i0:=ixc h hpos;have q:=q9l h hB;obtain⟨g1,g2,hl2,g4⟩:=good_iff.mp hg;have pa:1<=cn rs a:=by have:=(mono rs h (a ||| b) a (qcx a b));have:=q2e h a;omega
 have pb:1<=cn rs b:=by have:=(mono rs h (a ||| b) b (qh4 a b));have:=q2e h b;omega
 have tm:∀x y:Nat,y<100000000000000->zv (N' x) (N' y)=some (N' (x*y)):=fun x y hy=>by
  rw [vq _ _ ⟨by omega,by omega⟩];show _=some (D.int ((x*y:Nat):Int))
  push_cast
  rfl
 have big:∀x y:Nat,x<100000000000000->y<100000000000000->x*y<2 ^ 100:=fun x y hx hy=>g03 (Nat.mul_le_mul (g0w hx) (g0w hy)) (by decide);have s1:=q91 (cn rs (a ||| b)) (cn rs a) (g0z (q _) (by decide)) (by omega) (g0z (q _) (by decide));have s2:=q91 (cn rs (a ||| b)*cn rs 0) (cn rs a*cn rs b) (big _ _ (q _) (q _)) (g60 (by omega) (by omega)) (big _ _ (q _) (q _));have rc:=qdo hbd (n:=cn rs (a ||| b)) (m:=cn rs a) (g0z (q _) (by decide));rw [gv g4] at rc;unfold six;refine jz ?_;refine ze (je (vg (q08 (q07 (q35 (x_v rfl)) rfl)) rfl (vg (jd (x_call (qg (x_v rfl) qr) (q5d _)) x_c (q1p _ _)) rfl (q08 (q07 (q35 (qu (x_v rfl) x_c (z:=.bl (qlg w P (a,b))) rfl)) rfl)))) rfl jf) ?_;refine ze (j7 (zq (qg (qu (x_v rfl) x_c (z:=setD a) rfl) (qg (x_v rfl) qr)) rfl (qa0 hw ha))) ?_;refine ze (j7 (zq (qg (qu (x_v rfl) x_c (z:=setD b) rfl) (qg (x_v rfl) qr)) rfl (qa0 hw hb))) ?_;refine ze (je (vg (jd (c:=false) (x_v rfl) x_c rfl) rfl (vg (jd (c:=false) (x_v rfl) x_c rfl) rfl (vg (jd (x_v rfl) x_c (q0f _ _)) (mi (by omega)) (jd (qu (x_v rfl) (x_v rfl) hn) x_c (q1p _ _))))) (by rw [g2];rfl) jf) ?_;refine ze (j7 (qu (x_v rfl) (qu (x_v rfl) (x_v rfl) ho) i1)) ?_;refine ze (je (vg (q08 (q07 (zq (qg (qu (x_v rfl) x_c (z:=N' (cn rs (a ||| b))) rfl) (qg (x_v rfl) qr)) rfl (qan _)) rfl)) rfl (q08 (q07 (zq (qg (x_v rfl) (qg (qu (x_v rfl) (x_v rfl) ia) (qg (x_v rfl) qr))) rfl rc) rfl))) rfl jf) ?_;refine ze (je (q08 (q07 (zq (qg (qu (x_v rfl) x_c (z:=yx (cn rs (a ||| b)) (cn rs a)) rfl) (qg (zq (qg (x_v rfl) (qg (qu (x_v rfl) (x_v rfl) ia) qr)) rfl s1) qr)) rfl (qno _ _)) rfl)) rfl jf) ?_;exact y_ret (zq (qg (qu (x_v rfl) x_c (z:=yx (cn rs (a ||| b)*cn rs 0) (cn rs a*cn rs b)) rfl) (qg (zq (qg (qu (x_v rfl) (qu (x_v rfl) x_c i0) (tm _ _ (q 0))) (qg (qu (qu (x_v rfl) (x_v rfl) ia) (qu (x_v rfl) (x_v rfl) ib) (tm _ _ (q b))) qr)) rfl s2) qr)) rfl (qno _ _))
def dq(rs:List Run)(t e c a:Nat): Bool:= !decide (a=c)&&(decide (a &&& c=a)&&decide (t*cn rs a<=cn rs c*e))
def q92(w:Nat)(rs:List Run)(L:Int): List Nat:=(List.range (2 ^ w)).filter fun k=>decide (L<=cM rs k)
abbrev stM(w:Nat)(rs:List Run)(L:Int)(d:D)(n:Nat)(b5 b6:Option B): Rho:=[some (.fz (cL w rs)),some (.fz (.int L)),some (.fz d),some (.fz (N' n)),some (.fz (.lst ((q92 w rs L).map N'))),b5,b6]
theorem qhb{w:Nat}{rs:List Run}(h:zt rs)(hB:Bd rs)(L:Int){d:D}{t e:Nat}(hb:BndOk d t e){c:Nat}(hc:c<2 ^ w): ∀(q:List Nat),(∀a∈q,a<2 ^ w)->∀(n:Nat) (b6:Option B),∃b6',
  runFor (bN 6) q0m (q.map N') (stM w rs L d n (some (.fz (N' c))) b6)=some (.nx,stM w rs L d (n+(q.filter (dq rs t e c)).length) (some (.fz (N' c))) b6')
 | [],_,n,b6=>⟨b6,rfl⟩
 | a :: q,hq,n,b6=>by
  have ha:=hq a gc;have rc:=qdo hb (n:=cn rs c) (m:=cn rs a) (g0z (q9l h hB _) (by decide));have hcond:(ku (zb q1r (eV 6) (eV 5)) (ku (zb oEq (eOp oBand (eV 6) (eV 5)) (eV 6)) (bT (qi (qq 3 [] xo) (qc (eOp oIx (eV 0) (eV 5)) (qc (eOp oIx (eV 0) (eV 6)) (qc (eV 2) qf))))))) (stM w rs L d n (some (.fz (N' c))) (some (.fz (N' a))))=some (dq rs t e c a):=by
   unfold dq;have c1:zb q1r (eV 6) (eV 5) (stM w rs L d n (some (.fz (N' c))) (some (.fz (N' a))))=some (!decide (a=c)):=jd (x_v rfl) (x_v rfl) (by rw [q1p];congr 3;rw [p6,ny,ny];omega);have c2:zb oEq (eOp oBand (eV 6) (eV 5)) (eV 6) (stM w rs L d n (some (.fz (N' c))) (some (.fz (N' a))))=some (decide (a &&& c=a)):=jd (qu (x_v rfl) (x_v rfl) (q8r a c)) (x_v rfl) (by rw [q0f];congr 2;rw [p6,ny,ny];omega);have c3:bT (qi (qq 3 [] xo) (qc (eOp oIx (eV 0) (eV 5)) (qc (eOp oIx (eV 0) (eV 6)) (qc (eV 2) qf)))) (stM w rs L d n (some (.fz (N' c))) (some (.fz (N' a))))=some (decide (t*cn rs a<=cn rs c*e)):=q07 (zq (qg (qu (x_v rfl) (x_v rfl) (ixc h hc)) (qg (qu (x_v rfl) (x_v rfl) (ixc h ha)) (qg (x_v rfl) qr))) rfl rc) rfl;cases e1:(!decide (a=c)) with
   | false=>rw [e1] at c1;exact q7m c1 rfl
   | true=>
    rw [e1] at c1;refine q7l c1 rfl ?_;rw [g2i];cases e2:decide (a &&& c=a) with
    | false=>rw [e2] at c2;exact q7m c2 rfl
    | true=>rw [e2] at c2;exact q7l c2 rfl c3
  cases hd:dq rs t e c a with
  | false=>
   obtain⟨b6',ih⟩:=qhb h hB L hb hc q (fun x hx=>hq x (gf _ hx)) n (some (.fz (N' a)));refine⟨b6',?_⟩;rw [gd,nt,m6 (by rw [hd];decide)];exact(xp (ρ1:=stM w rs L d n (some (.fz (N' c))) (some (.fz (N' a)))) (ρ2:=stM w rs L d n (some (.fz (N' c))) (some (.fz (N' a)))) rfl (je hcond hd jf)).trans ih
  | true=>
   obtain⟨b6',ih⟩:=qhb h hB L hb hc q (fun x hx=>hq x (gf _ hx)) (n+1) (some (.fz (N' a)));refine⟨b6',?_⟩;rw [gd,nt,gq hd,p5];refine(xp (ρ1:=stM w rs L d n (some (.fz (N' c))) (some (.fz (N' a)))) (ρ2:=stM w rs L d (n+1) (some (.fz (N' c))) (some (.fz (N' a)))) rfl (qgu hcond hd ?_)).trans (ih.trans ?_)
   ·exact j7 (qu (x_v rfl) x_c (kr _ _))
   ·rw [show n+1+(q.filter (dq rs t e c)).length=n+((q.filter (dq rs t e c)).length+1) by omega]
theorem qj7{w:Nat}{rs:List Run}(h:zt rs)(hB:Bd rs)(L:Int){d:D}{t e:Nat}(hb:BndOk d t e): ∀(q:List Nat),(∀a∈q,a<2 ^ w)->∀(n:Nat) (b5 b6:Option B),∃b5' b6',
  runFor (bN 5) q0n (q.map N') (stM w rs L d n b5 b6)=some (.nx,stM w rs L d (n+(q.flatMap fun c=>((q92 w rs L).filter (dq rs t e c)).map fun a=>(c,a)).length) b5' b6')
 | [],_,n,b5,b6=>⟨b5,b6,rfl⟩
 | c :: q,hq,n,b5,b6=>by
  obtain⟨b6',e1⟩:=qhb h hB L hb (hq c gc) (q92 w rs L) (fun a ha=>n9.mp (mn.mp ha).1) n b6;obtain⟨c5,c6,ih⟩:=qj7 h hB L hb q (fun x hx=>hq x (gf _ hx)) (n+((q92 w rs L).filter (dq rs t e c)).length) (some (.fz (N' c))) b6';refine⟨c5,c6,?_⟩;rw [gd,tw,ng,gh, <- g3g];exact(xp (ρ1:=stM w rs L d n (some (.fz (N' c))) b6) rfl (q9i (ki (x_v rfl) rfl) e1)).trans ih
theorem qi9{w:Nat}(hw:w<=8){rs:List Run}(h:zt rs)(hB:Bd rs)(L:Int){d:D}{t e:Nat}(hb:BndOk d t e): q0e [cL w rs,.int L,d]=some (N' (prs (q92 w rs L) (dq rs t e)).length):=by
 have hp:=q7o hw;obtain⟨b5,b6,e1⟩:=qj7 h hB L hb (q92 w rs L) (fun a ha=>n9.mp (mn.mp ha).1) 0 none none;rw [g28] at e1;have hc:=vp (b:=bN 0) (c:=zb oGe (eOp oIx (eV 2) (eV 0)) (eV 1)) (f:=eV 0) (ρ :=[none,some (.fz (.int L)),some (.fz (cL w rs))]) (fun x=>match x with | .int k=>decide (L<=cM rs k.toNat)|_=>false) id (ds:=z6 0 (2 ^ w)) fun x hx=>by
  rw [q1q] at hx;obtain⟨k,hk,rfl⟩:=md.mp hx;refine⟨_,rfl,jd (qu (x_v rfl) (x_v rfl) (ixc h (n9.mp hk))) (x_v rfl) ?_,fun _=>x_v rfl⟩;rw [q6k];show some (D.bl (decide (L<=((cn rs k:Nat):Int))))=some (D.bl (decide (L<=cM rs (k:Int).toNat)));rw [my,q2e h k]
 rw [g3a,q1q,uz] at hc;have hr:iR1 (qc (qi ye (qc (eV 0) qf)) qf) [some (.fz (cL w rs)),some (.fz (.int L)),some (.fz d),some (.fz (.int 0)),none,none,none]=some (z6 0 (2 ^ w)):=by
  rw [q6l _ _ ((2 ^ w:Nat):Int) (qg (x_call (qg (x_v rfl) qr) (by rw [ql2];simp)) qr) (g6g (by decide) (g4e _)) (Int.lt_of_le_of_lt (show((2 ^ w:Nat):Int)<=256 by exact_mod_cast hp) (by decide)),my]
 refine jz (ze (j7 x_c) (ze (qef (ds:=(q92 w rs L).map N') (wj (ds:=z6 0 (2 ^ w)) hr (by rw [q0g];show _<=1000000;omega) ?_)) (ql9 rfl (ze (q9i (ki (x_v rfl) rfl) e1) (y_ret (x_v rfl))))));rw [q1q];exact hc
theorem uniq{a b c:Nat}(h1:a &&& b=0)(h2:a &&& c=0)(h3:a ||| b=a ||| c): b=c:=by
 apply g05;intro i;have e1:=pk (fun n=>n.testBit i) h1;have e2:=pk (fun n=>n.testBit i) h2;have e3:=pk (fun n=>n.testBit i) h3;simp only [g1a,g0r,g3k] at e1 e2 e3
 revert e1 e2 e3
 cases a.testBit i <;> cases b.testBit i <;> cases c.testBit i <;> simp
theorem qnp{a c:Nat}(h:a &&& c=a): a ||| (c ^^^ a)=c/\a &&& (c ^^^ a)=0:=by
 constructor
 all_goals
  apply g05;intro i;have e1:=pk (fun n=>n.testBit i) h;simp only [g1a,g0r,Nat.testBit_xor,g3k] at e1 ⊢
  revert e1
  cases a.testBit i <;> cases c.testBit i <;> simp
theorem qtb{w:Nat}(hw:w<=8){rs:List Run}(h:zt rs){L:Int}(t e:Nat): (prs (jg w) (good rs L t e)).length=(prs (q92 w rs L) (dq rs t e)).length:=by
 obtain⟨m1,m2,_⟩:=wo w (by omega);rw [<- gh (f:=fun p:Nat×Nat=>(p.1 ||| p.2,p.1))];refine((g2g ?_ (q90 (u7 _ g2d))).mpr fun p=>?_).length_eq
 ·rw [List.Nodup,mx]
  refine pd (fun {x y} hx hy hne e1=>hne ?_) (q90 m2);obtain⟨x1,x2⟩:=x;obtain⟨y1,y2⟩:=y;obtain⟨e2,e3⟩:=Prod.mk.inj e1;simp only at e2 e3;subst e3;have gx:=(good_iff.mp (prs_mem.mp hx).2.2).2.1;have gy:=(good_iff.mp (prs_mem.mp hy).2.2).2.1;have e4:x2=y2:=uniq gx gy e2;rw [e4]
 ·obtain⟨c,a⟩:=p
  rw [prs_mem,md]
  constructor
  ·rintro⟨⟨a',b⟩,hp,e1⟩
   obtain⟨rfl,rfl⟩:=Prod.mk.inj e1;obtain⟨ha,hb,hg⟩:=prs_mem.mp hp;obtain⟨g1,g2,g3,g4⟩:=good_iff.mp hg;have ha':=m1 a' ha;have hb':=m1 b hb;have hm:=mono rs h (a' ||| b) a' (qcx a' b);refine⟨mn.mpr ⟨n9.mpr (g37 ha' hb'),gv g3⟩,mn.mpr ⟨n9.mpr ha',gv (show L<=cM rs a' from g6g g3 hm)⟩,?_⟩;unfold dq;have n1:¬a'=a' ||| b:=fun z=>g1 (uniq (a:=a') g2 (Nat.and_zero _) (by rw [Nat.or_zero];exact z.symm))
   have n2:a' &&& (a' ||| b)=a':=by
    apply g05;intro i;simp only [g1a,g0r];cases a'.testBit i <;> simp
   show(!decide (a'=a' ||| b)&&(decide (a' &&& (a' ||| b)=a')&&decide (t*cn rs a'<=cn rs (a' ||| b)*e)))=true;rw [mi n1,gv n2,gv g4]
   rfl
  ·rintro⟨hc,ha,hd⟩
   have hc':=mn.mp hc;have ha':=mn.mp ha;unfold dq at hd;simp only [gm,Bool.not_eq_true',p7,ny] at hd;obtain⟨d1,d2,d3⟩:=hd;obtain⟨x1,x2⟩:=qnp d2;have hc2:=n9.mp hc'.1;have ha2:=n9.mp ha'.1;refine⟨(a,c ^^^ a),prs_mem.mpr ⟨q8y w (by omega) a ha2,q8y w (by omega) _ (Nat.xor_lt_two_pow hc2 ha2),good_iff.mpr ⟨fun z=>d1 ?_,x2,?_,?_⟩⟩,?_⟩
   ·simp only at z
    rw [z,Nat.or_zero] at x1;exact x1
   ·show L<=cM rs (a ||| (c ^^^ a))
    rw [x1];exact td hc'.2
   ·show t*cn rs a<=cn rs (a ||| (c ^^^ a))*e
    rw [x1];exact d3
   ·show(a ||| (c ^^^ a),a)=(c,a)
    rw [x1]
def j4(k:Nat): D:=.tup [.int (((qj 12 k).map D.int).length:Int),setD k]
def q2g(p:Nat×Nat): D:=.tup [j4 p.1,j4 p.2]
def pwB:List D->Bool
 | []=>true
 | x :: r=>(r.all fun y=>ltT x y)&&pwB r
theorem qnq:∀ {l:List D},pwB l=true->l.Pairwise fun x y=>ltT x y=true
 | [],_=>.nil
 | x :: r,h=>by
  simp only [pwB,gm,n6] at h;exact .cons (fun y hy=>h.1 y hy) (qnq h.2)
theorem qlj:∀w:Nat,w<9->pwB ((jg w).map j4)=true:=by decide +kernel
theorem qhc:∀ns ms:List Int,shL (ns.map D.int) (ms.map D.int)=true
 | [],ms=>by cases ms <;> rfl
 | n :: ns,[]=>rfl
 | n :: ns,m :: ms=>by simp only [gd,shL,shD,qhc ns ms,g2h]
theorem qw6(a b:Nat): shD (j4 a) (j4 b)=true:=by simp only [j4,setD,TI,shD,shL,qhc,g3f]
theorem qw7{x x' y y':D}(h:ltT x x'=true): ltT (.tup [x,y]) (.tup [x',y'])=true:=by
 unfold ltT at h ⊢;simp only [v9,vm];cases e:v9 x x' with
 | lt=>rfl
 | eq=>rw [e] at h;cases h
 | gt=>rw [e] at h;cases h
theorem qhd:∀l:List Int,vm (l.map D.int) (l.map D.int)=.eq
 | []=>rfl
 | x :: l=>by simp only [gd,vm,v9,g6c,p8,qhd l]
theorem qtc(a:Nat): v9 (j4 a) (j4 a)=.eq:=by simp only [j4,setD,TI,v9,vm,g6c,p8,qhd]
theorem qw8{a:Nat}{y y':D}(h:ltT y y'=true): ltT (.tup [j4 a,y]) (.tup [j4 a,y'])=true:=by
 unfold ltT at h ⊢;simp only [v9,vm,qtc];cases e:v9 y y' with
 | lt=>rfl
 | eq=>rw [e] at h;cases h
 | gt=>rw [e] at h;cases h
theorem qqj{w:Nat}(hw:w<=8)(g:Nat->Nat->Bool): (prs (jg w) g).Pairwise fun p q=>ltT (q2g p) (q2g q)=true:=by
 have hm:=qnq (qlj w (by omega));rw [mx] at hm;unfold prs;rw [List.pairwise_flatMap];refine⟨fun a _=>?_,hm.imp fun {a b} hab x hx y hy=>?_⟩
 ·rw [mx]
  exact(hm.filter _).imp fun h=>qw8 h
 ·obtain⟨x2,_,rfl⟩:=md.mp hx
  obtain⟨y2,_,rfl⟩:=md.mp hy;exact qw7 hab
theorem q7p(a:Nat): vy (j4 a)<=2:=by simp only [j4,setD,TI,vy,jn,qld];decide
theorem qw9{p q:Nat×Nat}(h:ltT (q2g q) (q2g p)=true): qfq (q2g p) (q2g q)=some (.bl false):=by
 have hs:shL [j4 p.1,j4 p.2] [j4 q.1,j4 q.2]=true:=by simp only [shL,qw6,g2h]
 have hd:jn [j4 p.1,j4 p.2]<=60:=by
  have:=q7p p.1;have:=q7p p.2;simp only [jn];omega
 have h':vn [j4 q.1,j4 q.2] [j4 p.1,j4 p.2]=true:=h;show(none:Option D).or (if shL [j4 p.1,j4 p.2] [j4 q.1,j4 q.2]&&decide (jn [j4 p.1,j4 p.2]<=60) then some (.bl (!vn [j4 q.1,j4 q.2] [j4 p.1,j4 p.2])) else none)=_;rw [hs,gv hd,h']
 rfl
theorem qtd(a:Nat)(x:Int): ∃k:Nat,oBand (.int (a:Int)) (.int x)=some (N' k)/\k<=a:=by
 rw [q8s];unfold Builtin.bitAnd;rw [gv (show(0:Int)<=(a:Int) by omega)];cases decide (0<=x) with
 | true=>exact⟨a &&& x.toNat,rfl,g5r⟩
 | false=>
  have hl:a &&& (Builtin.bitNot x).toNat<=a:=g5r;refine⟨a-(a &&& (Builtin.bitNot x).toNat),?_,Nat.sub_le _ _⟩;show some (D.int ((a:Int)-((a &&& (Builtin.bitNot x).toNat:Nat):Int)))=some (D.int ((a-(a &&& (Builtin.bitNot x).toNat):Nat):Int))
  congr 2
  omega
theorem qqk(ns:List Int){w:Nat}(hw:w<=8){rs:List Run}(h:zt rs)(hB:Bd rs): ∃(d:D) (t e:Nat),q2w [.lst (ns.map .int),cL w rs]=some d/\BndOk d t e:=by
 obtain⟨c,ec⟩:=q36 ns 2;have hp15:oPow (.int 10) (.int 15)=some (.int 1000000000000000):=by
  rw [q7k 10 15 (by decide) (by decide) (by decide)];rfl
 have h32:=q7o hw;have hpos:0<2 ^ w:=g61 (by decide);have tst:∀(k:Int) (q:Rho),zb oEq (eOp oMod (eV 2) (eC (.int 5))) (eC (.int k)) (some (.fz (.lst (ns.map .int))) :: some (.fz (cL w rs)) :: some (.fz (.int c)) :: q)=some (decide (c%5=k)):=fun k q=>jd (qu (x_v rfl) x_c (xu _ _ (by decide))) x_c (q0f _ _);have s1:zo 2 (qi (qq 2 [] xl) (qc (eV 0) (qc (eC (.int 2)) qf))) [some (.fz (.lst (ns.map .int))),some (.fz (cL w rs)),none,none,none,none]=some (.nx,[some (.fz (.lst (ns.map .int))),some (.fz (cL w rs)),some (.fz (.int c)),none,none,none]):=j7 (zq (qg (x_v rfl) (qg x_c qr)) rfl ec);have s2:zo 3 (eOp oDiv (eV 2) (eC (.int 5))) [some (.fz (.lst (ns.map .int))),some (.fz (cL w rs)),some (.fz (.int c)),none,none,none]=some (.nx,[some (.fz (.lst (ns.map .int))),some (.fz (cL w rs)),some (.fz (.int c)),some (.fz (.int (c / 5))),none,none]):=j7 (qu (x_v rfl) x_c (q4z _ _ (by decide) (by decide)))
 by_cases h0:c%5=0
 ·obtain⟨t,ht⟩:=t9 (g0a (c / 5) (show(11:Int)≠0 by decide))
  obtain⟨e,he⟩:=t9 (show 0<=1+c / 5 / 11%10 by omega);refine⟨.tup [N' t,N' e],t,e,jz (ze s1 (ze s2 (q8u (q8v (tst 0 _) (gv h0) (y_ret (v5 (qg (qu (x_v rfl) x_c (by rw [xu _ _ (by decide),ht])) (qg (qu x_c (qu (qu (x_v rfl) x_c (q4z _ _ (by decide) (by decide))) x_c (xu _ _ (by decide))) (by rw [kr,he])) qr)) (show 2<=1000000 by decide))))))),.inr ⟨rfl,by omega,by omega,by omega⟩⟩
 ·by_cases h1:c%5=1
  ·obtain⟨t,ht⟩:=t9 (g0a (c / 5) (show(1000000000000000:Int)≠0 by decide))
   obtain⟨e,he⟩:=t9 (show 0<=1+c / 5 / 1000000000000000%1000000000000000 by omega);refine⟨.tup [N' t,N' e],t,e,jz (ze s1 (ze s2 (ze (je (tst 0 _) (mi h0) jf) (q8u (q8v (tst 1 _) (gv h1) (y_ret (v5 (qg (qu (x_v rfl) (qu x_c x_c hp15) (by rw [xu _ _ (by decide),ht])) (qg (qu x_c (qu (qu (x_v rfl) (qu x_c x_c hp15) (q5e _ _ (by decide) (by decide))) (qu x_c x_c hp15) (xu _ _ (by decide))) (by rw [kr,he])) qr)) (show 2<=1000000 by decide)))))))),.inr ⟨rfl,by omega,by omega,by omega⟩⟩
  ·by_cases h4:c%5=4
   ·exact⟨.non,1,2,jz (ze s1 (ze s2 (ze (je (tst 0 _) (mi h0) jf) (ze (je (tst 1 _) (mi h1) jf) (q8u (q8v (tst 4 _) (gv h4) (y_ret x_c))))))),.inl ⟨rfl,rfl,rfl⟩⟩
   ·have hlen:ye [cL w rs]=some (.int ((2 ^ w:Nat):Int)):=(ql2 _).trans (by rw [gh,g1f])
    obtain⟨o,ho,eo⟩:=q9j (x:=c / 5) (n:=2 ^ w) hpos;obtain⟨m,em,hm⟩:=qtd o (c / 5 / 4096);have io:=ixc h ho;have im:=ixc h (g03 hm ho);obtain⟨r,hr⟩:=t9 (g0a c (show(5:Int)≠0 by decide));have hr2:2<=r/\r<=3:=by omega
    have qo:=q9l h hB o;have qm:=q9l h hB m;have pre:∀ {x:Option Fl},g1 ((qz (sIf (zb oEq (eOp oIx (eV 1) (eV 5)) (eC (.int 0))) (zg (zc (qc (eC (.int 1)) (qc (eC (.int 3)) qf)))) jw) (zg (zc (qc (eOp oSub (eOp zh (eOp zv (eC (.int 3)) (eOp oIx (eV 1) (eV 4))) (eOp oMod (eV 2) (eC (.int 5)))) (eC (.int 2))) (qc (eOp zv (eC (.int 3)) (eOp oIx (eV 1) (eV 5))) qf))))) [some (.fz (.lst (ns.map .int))),some (.fz (cL w rs)),some (.fz (.int c)),some (.fz (.int (c / 5))),some (.fz (N' o)),some (.fz (N' m))])=x->g1 (q10 ([D.lst (ns.map .int),cL w rs].map (fun d=>some (.fz d))++List.replicate 4 none))=x:=fun hx=>
     ze s1 (ze s2 (ze (je (tst 0 _) (mi h0) jf) (ze (je (tst 1 _) (mi h1) jf) (ze (je (tst 4 _) (mi h4) jf) (ze (j7 (qu (x_v rfl) (x_call (qg (x_v rfl) qr) hlen) eo)) (ze (j7 (qu (x_v rfl) (qu (x_v rfl) x_c (q4z _ _ (by decide) (by decide))) em)) hx))))))
    have tz:zb oEq (eOp oIx (eV 1) (eV 5)) (eC (.int 0)) [some (.fz (.lst (ns.map .int))),some (.fz (cL w rs)),some (.fz (.int c)),some (.fz (.int (c / 5))),some (.fz (N' o)),some (.fz (N' m))]=some (decide ((cn rs m:Int)=0)):=jd (qu (x_v rfl) (x_v rfl) im) x_c (q0f _ _)
    by_cases hz:(cn rs m:Int)=0
    ·exact⟨.tup [N' 1,N' 3],1,3,jz (pre (q8u (q8v tz (gv hz) (y_ret (v5 (qg x_c (qg x_c qr)) (show 2<=1000000 by decide)))))),.inr ⟨rfl,by decide,by decide,by decide⟩⟩
    ·refine⟨.tup [N' (3*cn rs o+r-2),N' (3*cn rs m)],_,_,jz (pre (ze (je tz (mi hz) jf) (y_ret (v5 (qg (qu (qu (qu x_c (qu (x_v rfl) (x_v rfl) io) (v7 _ _ (by decide))) (qu (x_v rfl) x_c (xu _ _ (by decide))) (kr _ _)) x_c ?_) (qg (qu x_c (qu (x_v rfl) (x_v rfl) im) ?_) qr)) (show 2<=1000000 by decide))))),.inr ⟨rfl,by omega,by omega,by omega⟩⟩
     ·rw [qgs,hr]
      show some (D.int _)=some (D.int ((3*cn rs o+r-2:Nat):Int))
      congr 2
      omega
     ·rw [v7 _ _ (by decide)]
      show some (D.int _)=some (D.int ((3*cn rs m:Nat):Int))
      congr 2
theorem qte{p d r:D}{L:Int}(h:xh [p,.int L,d]=some r): q28 [p,.int L,d]=some r:=by
 have hd:∃c,oIs false d .non=some (.bl c)/\(c=true->d=.non):=by cases d <;> first|exact⟨_,rfl,fun _=>rfl⟩|exact⟨false,rfl,fun h=>(nomatch h)⟩
 obtain⟨c,h1,h2⟩:=hd;have t1:zb (oIs false) (eV 2) (eC .non) [some (.fz p),some (.fz (.int L)),some (.fz d)]=some c:=jd (x_v rfl) x_c h1;cases c with
 | false=>
  refine jz (ze (je t1 rfl jf) (y_ret (x_call (ds:=[p,.int L,d]) rfl ?_)));show(if _ then xh [p,.int L,d] else none)=_;exact h
 | true=>
  have hn:=h2 rfl;subst hn;refine jz (q8u (q8v t1 rfl (y_ret (x_call (qg (x_v rfl) (qg (x_v rfl) qr)) ?_))));show(if([p,D.int L]++[D.non]).length=3 then xh ([p,D.int L]++[D.non]) else none)=_;rw [gq (by rfl:([p,D.int L]++[D.non]).length=3)];exact h
def qlk:D:=.tup [.tup [.int (-1),.tup []],.tup [.int (-1),.tup []]]
theorem qql(p:Nat×Nat): qfq (q2g p) qlk=some (.bl false):=by
 have hs:shL [j4 p.1,j4 p.2] [.tup [.int (-1),.tup []],.tup [.int (-1),.tup []]]=true:=by
  have h0:∀ns:List Int,shL (ns.map D.int) []=true:=fun ns=>by cases ns <;> rfl
  simp only [j4,setD,TI,shL,shD,h0,g2h]
 have hd:jn [j4 p.1,j4 p.2]<=60:=by
  have:=q7p p.1;have:=q7p p.2;simp only [jn];omega
 have h':vn [.tup [.int (-1),.tup []],.tup [.int (-1),.tup []]] [j4 p.1,j4 p.2]=true:=by
  have:v9 (.tup [.int (-1),.tup []]) (j4 p.1)=.lt:=by
   have hh:(-1:Int)<(((qj 12 p.1).map D.int).length:Int):=by omega
   simp only [j4,v9,vm,hh,tf]
  unfold vn;simp only [vm,this]
  rfl
 show(none:Option D).or (if shL [j4 p.1,j4 p.2] [.tup [.int (-1),.tup []],.tup [.int (-1),.tup []]]&&decide (jn [j4 p.1,j4 p.2]<=60) then some (.bl (!vn [.tup [.int (-1),.tup []],.tup [.int (-1),.tup []]] [j4 p.1,j4 p.2])) else none)=_;rw [hs,gv hd,h']
 rfl
theorem qdr{w:Nat}(hw:w<=8){rs:List Run}(h:zt rs)(hB:Bd rs){L:Int}(hL:1<=L){d:D}{t e:Nat}(hbd:BndOk d t e)(P:List (Nat×Nat))(x0 x1 x6 x10:Option B): ∀(q:List (Nat×Nat)) (last:D) (b8 b9:Option B),(∀p∈q,p.1<2 ^ w/\p.2<2 ^ w/\good rs L t e p.1 p.2=true) ->
  q.Pairwise (fun p r=>ltT (q2g p) (q2g r)=true)->(∀p∈q,qfq (q2g p) last=some (.bl false))->∃last' b8' b9',runFor (bN 8) qai (q.map (six rs w P)) [x0,x1,some (.fz (N' w)),some (.fz (cL w rs)),some (.fz (.int L)),some (.fz d),x6,some (.fz last),b8,b9,x10] =
   some (.nx,[x0,x1,some (.fz (N' w)),some (.fz (cL w rs)),some (.fz (.int L)),some (.fz d),x6,some (.fz last'),b8',b9',x10])
 | [],last,b8,b9,_,_,_=>⟨last,b8,b9,rfl⟩
 | (a,b) :: q,last,b8,b9,hq,hp,hl=>by
  obtain⟨ha,hb,hg⟩:=hq (a,b) gc;obtain⟨p1,p2⟩:=g0d.mp hp;obtain⟨l',c8,c9,ih⟩:=qdr hw h hB hL hbd P x0 x1 x6 x10 q (q2g (a,b)) (some (.fz (six rs w P (a,b)))) (some (.fz (q2g (a,b)))) (fun p hp=>hq p (gf _ hp)) p2 fun p hp=>qw9 (p1 p hp);refine⟨l',c8,c9,?_⟩;rw [gd];have so:=qqi hw h hB hL hbd ha hb hg P;have hle:=hl (a,b) gc;have g3:=(good_iff.mp hg).2.2.1;have e3:=q2e h (a ||| b);refine(xp (ρ1:=[x0,x1,some (.fz (N' w)),some (.fz (cL w rs)),some (.fz (.int L)),some (.fz d),x6,some (.fz last),some (.fz (six rs w P (a,b))),b9,x10]) (ρ2:=[x0,x1,some (.fz (N' w)),some (.fz (cL w rs)),some (.fz (.int L)),some (.fz d),x6,some (.fz (q2g (a,b))),some (.fz (six rs w P (a,b))),some (.fz (q2g (a,b))),x10]) rfl ?_).trans ih;refine q44 (je (vg (q08 (q07 (zq (qg (x_v rfl) (qg (x_v rfl) (qg (x_v rfl) (qg (x_v rfl) qr)))) rfl so) rfl)) rfl (jd (qu (x_v rfl) x_c (z:=N' (cn rs (a ||| b))) rfl) (x_v rfl) (qj0 _ _))) (mi (by show ¬((cn rs (a ||| b):Nat):Int)<L;simp only at g3;omega)) jf) ?_;exact q44 (j7 (v5 (qg (v5 (qg (x_call (qg (qu (x_v rfl) x_c (z:=setD a) rfl) qr) (q5d _)) (qg (qu (x_v rfl) x_c (z:=setD a) rfl) qr)) (show 2<=1000000 by decide)) (qg (v5 (qg (x_call (qg (qu (x_v rfl) x_c (z:=setD b) rfl) qr) (q5d _)) (qg (qu (x_v rfl) x_c (z:=setD b) rfl) qr)) (show 2<=1000000 by decide)) qr)) (show 2<=1000000 by decide))) (q44 (je (jd (x_v rfl) (x_v rfl) hle) rfl jf) (j7 (x_v rfl)))
theorem qds:∀(n k:Nat) (l:List Int),l.length=n->k<=8->l.Pairwise (· < ·)->(∀x∈l,0<=x/\x<k)->∃t:Nat,t<2 ^ k/\l=qj 12 t
 | 0,k,l,hn,hk,_,_=>⟨0,g61 (by decide),by rw [g5j.mp hn];rfl⟩
 | n+1,k,l,hn,hk,hp,hl=>by
  have hne:l≠[]:=fun z=>by rw [z] at hn;cases hn
  have e:=(g4a hne).symm;obtain⟨h1,h2⟩:=hl _ (List.getLast_mem hne);obtain⟨i,hi⟩:=t9 h1;rw [hi] at e h2;rw [e] at hp;obtain⟨p1,p2,p3⟩:=g1g.mp hp;have hik:i<k:=by omega
  obtain⟨t,ht,et⟩:=qds n i l.dropLast (by rw [List.length_dropLast,hn];rfl) (by omega) p1 fun x hx=>⟨(hl x ((List.dropLast_sublist l).subset hx)).1,p3 x hx _ gc⟩
  refine⟨t+2 ^ i,?_,by rw [e,et,qdf i (by omega) t ht]⟩;have:2 ^ (i+1)<=2 ^ k:=ur (by decide) hik;rw [g6h] at this;omega
theorem qbv(k n:Nat): z6 (k:Int) (n+1)=.int (k:Int) :: z6 ((k+1:Nat):Int) n:=by
 unfold z6;rw [g0v,gd,mv]
 congr 1
 simp;intro a _;omega
theorem qbw(ns:List Int)(hl:ns.length<=63): ∀(n k:Nat),k+n<=1000->∃ms:List Int,k5 (qbi (qi (qq 2 [] zk) (qc (eV 1) (qc (eOp zh (eC (.int 80)) (eV 0)) qf))) [some 0] [some (.fz (.lst (ns.map .int)))]) (z6 (k:Int) n)=some (ms.map D.int)/\ms.length=n
 | 0,k,_=>⟨[],rfl,rfl⟩
 | n+1,k,h=>by
  obtain⟨m,em,_⟩:=y9 ns hl (80+(k:Int)) (by omega) (by omega);obtain⟨ms,e,len⟩:=qbw ns hl n (k+1) (by omega);refine⟨m :: ms,?_,by simp [len]⟩;rw [qbv];have h1:qbi (qi (qq 2 [] zk) (qc (eV 1) (qc (eOp zh (eC (.int 80)) (eV 0)) qf))) [some 0] [some (.fz (.lst (ns.map .int)))] [.int (k:Int)]=some (.int m):=
   zq (qg (x_v rfl) (qg (qu x_c (x_v rfl) (kr _ _)) qr)) rfl em
  simp only [k5,h1,e,g9,mw]
  rfl
theorem qdt:∀(n k:Nat),isR k (z6 (k:Int) n)=true
 | 0,k=>rfl
 | n+1,k=>by
  rw [qbv];simp only [isR,qdt n (k+1),g4c,g2h]
theorem qbx(l:List Int): q3y (l.map D.int)=true/\(l.map D.int).all isI=true:=by
 have h:∀x∈l.map D.int,∃i,x=D.int i:=fun x hx=>let⟨i,_,e⟩:=md.mp hx; ⟨i,e.symm⟩
 have hi:(l.map D.int).all isI=true:=n6.mpr fun x hx=>by obtain⟨i,rfl⟩:=h x hx;rfl
 refine⟨?_,hi⟩;unfold q3y;rw [hi,Bool.true_or,g3f,gm];refine⟨n6.mpr fun x hx=>?_,n6.mpr fun x hx=>n6.mpr fun y hy=>?_⟩
 ·obtain⟨i,rfl⟩:=h x hx;simp only [kD]
 ·obtain⟨i,rfl⟩:=h x hx
  obtain⟨j,rfl⟩:=h y hy;simp only [shD]
theorem qnr(ns:List Int)(hl:ns.length<=63)(n:Nat)(hn:n<=8): ∃T:List Int,q4l (qbi (qi (qq 2 [] zk) (qc (eV 1) (qc (eOp zh (eC (.int 80)) (eV 0)) qf))) [some 0] [some (.fz (.lst (ns.map .int)))]) (.lst (z6 0 n))=some (T.map D.int)/\T.Perm ((List.range n).map fun i:Nat=>(i:Int)):=by
 obtain⟨ms,e,len⟩:=qbw ns hl n 0 (by omega);obtain⟨s1,s2⟩:=qbx ms;have hR:=qdt n 0;have e':k5 (qbi (qi (qq 2 [] zk) (qc (eV 1) (qc (eOp zh (eC (.int 80)) (eV 0)) qf))) [some 0] [some (.fz (.lst (ns.map .int)))]) (z6 0 n)=some (ms.map D.int):=e;have hR':isR 0 (z6 0 n)=true:=hR;have hp:((q09 (((ms.map D.int).zip (z6 0 n)).map qbh)).map Prod.snd).Perm (z6 0 n):=by
  refine((q1w _).map _).trans ?_;rw [mv];have:(Prod.snd ∘ qbh)=(Prod.snd:D×D->D):=rfl;rw [this,g3i (by rw [q0g,gh,len];exact gi _)]
 haveI:DL.Lam:=⟨[]⟩
 obtain⟨T,tp,te⟩:=q56 D.int hp (L:=(List.range n).map fun i:Nat=>(i:Int)) (by rw [q1q,mv];rfl);refine⟨T,?_,tp⟩;unfold q4l;dsimp only;rw [e',g9,gq (by rw [s1,s2,hR',q0g,gv (show n<64 by omega)];rfl),te]
theorem sorted_ints(l:List Int)(hl:l.length<64): ∃S:List Int,q8d [.lst (l.map D.int)]=some (S.map D.int)/\S.Perm l/\S.Pairwise (· <= ·):=by
 have hp:((q09 ((l.map D.int).map fun d=>(d,d))).map Prod.snd).Perm (l.map D.int):=by
  refine((q1w _).map _).trans ?_;rw [mv];have:(Prod.snd ∘ fun d:D=>(d,d))=id:=rfl;rw [this,g3a]
 haveI:DL.Lam:=⟨[]⟩
 obtain⟨S,sp,se⟩:=q56 D.int hp (L:=l) rfl;refine⟨S,?_,sp,?_⟩
 ·unfold q8d
  dsimp only;rw [gq (by rw [(qbx l).1,gh,gv hl];rfl),se]
 ·have hr:=q72 ((l.map D.int).map fun d=>(d,d))
  have hm:∀x∈q09 ((l.map D.int).map fun d=>(d,d)),x.1=x.2:=fun x hx=>by
   obtain⟨d,_,rfl⟩:=md.mp ((q1w _).mem_iff.mp hx)
   rfl
  have h2:((q09 ((l.map D.int).map fun d=>(d,d))).map Prod.snd).Pairwise fun x y=>ltT y x=false:=by
   rw [mx];refine pd (fun {x y} hx hy h=>?_) hr;have h':ltT y.1 x.1=false:=h;rw [hm x hx,hm y hy] at h';exact h'
  rw [se,mx] at h2;refine h2.imp fun {x y} h=>?_;rw [xr] at h;have:=of_decide_eq_false h;omega
def spo(S:List Int)(x:Int): Int:=(S[x.toNat]?).getD 0
theorem qns(S:List Int)(b:List Int)(hb:∀x∈b,0<=x/\x<S.length): z9 (bN 0) zr (eOp oIx (eV 1) (eV 0)) [none,some (.fz (.lst (S.map D.int)))] (b.map D.int)=some ((b.map (spo S)).map D.int):=by
 have hc:=vp (b:=bN 0) (c:=zr) (f:=eOp oIx (eV 1) (eV 0)) (ρ :=[none,some (.fz (.lst (S.map D.int)))]) (fun _=>true) (fun d=>match d with | .int x=>.int (spo S x)|_=>d) (ds:=b.map D.int) fun d hd=>by
  obtain⟨x,hx,rfl⟩:=md.mp hd;obtain⟨h1,h2⟩:=hb x hx;obtain⟨i,rfl⟩:=t9 h1;refine⟨_,rfl,rfl,fun _=>qu (x_v rfl) (x_v rfl) ?_⟩;have hi:i<S.length:=by omega
  show oIx (.lst (S.map D.int)) (.int (i:Int))=some (.int (spo S (i:Int)));rw [qpx,q50,mj];unfold spo;rw [my,mm hi]
  rfl
 rw [hc,List.filter_eq_self.mpr (fun _ _=>rfl),mv,mv]
 rfl
def qqm(S:List Int)(r:Run): Run:=(r.1,r.2.map (spo S))
theorem qqn(S:List Int)(rs:List Run)(h:∀r∈rs,(∀x∈r.2,0<=x/\x<S.length)/\r.2.length<=1000): z9 (q0j 2 (jy (bN 0) (jy (bN 1) q0i))) zr (zc (qc (eV 0) (qc (qi vi (qc (eL (zp (jm (eV 1)) [none,some 2] (bN 0) zr (eOp oIx (eV 1) (eV 0)))) qf)) qf)))
  [none,none,some (.fz (.lst (S.map D.int)))] (rs.map wt)=some ((rs.map (qqm S)).map wt):=by
 induction rs with
 | nil=>rfl
 | cons r rs ih=>
  have ih:=ih fun r hr=>h r (gf _ hr);obtain⟨h1,h2⟩:=h r gc;have hx:zc (qc (eV 0) (qc (qi vi (qc (eL (zp (jm (eV 1)) [none,some 2] (bN 0) zr (eOp oIx (eV 1) (eV 0)))) qf)) qf)) [some (.fz (.int r.1)),some (.fz (TI r.2)),some (.fz (.lst (S.map D.int)))]=some (wt (qqm S r)):=
   v5 (qg (x_v rfl) (qg (x_call (qg (x_l (wj (ds:=r.2.map D.int) (ki (x_v rfl) rfl) (by rw [gh];show _<=1000000;omega) (qns S r.2 h1))) qr) (jq _)) qr)) (show 2<=1000000 by decide)
  simp only [gd,z9];have hb:q0j 2 (jy (bN 0) (jy (bN 1) q0i)) (wt r) [none,none,some (.fz (.lst (S.map D.int)))]=some [some (.fz (.int r.1)),some (.fz (TI r.2)),some (.fz (.lst (S.map D.int)))]:=rfl;rw [hb,g9];show(some true).bind _=_;rw [g9,gq rfl,hx,g9,ih]
  rfl
theorem qqo(ns:List Int)(hl:ns.length<=63)(w:Nat)(hw:w<=5)(rs:List Run)(hrl:rs.length<=63)(hr:∀r∈rs,q5g w r): ∃(n:Nat) (rs':List Run),q17 [.lst (ns.map .int),jv w rs]=some (jv n rs')/\n<=8/\rs'.length<=63/\∀r∈rs',q5g n r:=by
 obtain⟨m,em,m0,_⟩:=y9 ns hl 4 (by decide) (by decide);obtain⟨n,en⟩:=t9 (show(0:Int)<=6+m%3 by omega);have hn:6<=n/\n<=8:=by omega
 obtain⟨T,eT,pT⟩:=qnr ns hl n hn.2;have lT:T.length=n:=by rw [pT.length_eq,gh,g1f]
 have ndT:T.Nodup:=pT.nodup_iff.mpr (by rw [List.Nodup,mx];exact g2d.imp fun h e=>h (by omega));have hc:oSl (.lst (T.map D.int)) none (some ((w:Nat):Int))=some (.lst ((T.take w).map D.int)):=by
  show some (D.lst (DL.cutD _ none (some ((w:Nat):Int))))=_;rw [q61 (α :=D),g3d]
 obtain⟨S,eS,pS,rS⟩:=sorted_ints (T.take w) (by rw [pq];omega);have lS:S.length=w:=by rw [pS.length_eq,pq];omega
 have ndS:S.Nodup:=pS.nodup_iff.mpr (ndT.sublist (g4p _ _));have riS:S.Pairwise (· < ·):=(rS.and ndS).imp fun⟨h1,h2⟩=>by omega
 have inS:∀x∈S,0<=x/\x<n:=fun x hx=>by
  have:=pT.mem_iff.mp ((g4p _ _).subset (pS.mem_iff.mp hx));obtain⟨i,hi,rfl⟩:=md.mp this;have:=n9.mp hi;omega
 have inB:∀r∈rs,∀x∈r.2,0<=x/\x<S.length:=fun r hrr x hx=>by
  obtain⟨_,_,_,_,t,ht,e⟩:=hr r hrr;rw [e] at hx;obtain⟨i,rfl,_⟩:=q2t hx;have:=qr9 ht (mem_bits.mp hx).2;omega
 have sp:∀x:Int,0<=x/\x<S.length->∃(i:Nat) (h:i<S.length),x=(i:Int)/\spo S x=S[i]:=fun x ⟨h1,h2⟩=>by
  obtain⟨i,rfl⟩:=t9 h1;have hi:i<S.length:=by omega
  exact⟨i,hi,rfl,by unfold spo;rw [my,mm hi];rfl⟩
 have wc:=qqn S rs fun r hrr=>⟨inB r hrr,(hr r hrr).2.1⟩
 refine⟨n,rs.map (qqm S),?_,hn.2,by rw [gh];exact hrl,fun r' hr'=>?_⟩
 ·have e3:eL (qbj (qi (qq 2 [] zk) (qc (eV 1) (qc (eOp zh (eC (.int 80)) (eV 0)) qf))) [some 0] (qc (qeb (eV 2)) qf)) [some (.fz (.lst (ns.map .int))),some (.fz (jv w rs)),some (.fz (N' n)),none,none]=some (.lst (T.map D.int)):=by
   refine x_l ?_;have er:qeb (eV 2) [some (.fz (.lst (ns.map .int))),some (.fz (jv w rs)),some (.fz (N' n)),none,none]=some (.lst (z6 0 n)):=by
    show(if decide (0<=(n:Int))&&decide ((n:Int)<=1000) then some (D.lst (z6 0 (n:Int).toNat)) else none)=_;rw [gv (by omega:0<=(n:Int)),gv (by omega:(n:Int)<=1000),my]
    rfl
   unfold qbj;rw [qg er qr,g9];exact eT
  refine jz (ze (j7 (qu x_c (qu (zq (qg (x_v rfl) (qg x_c qr)) rfl em) x_c (xu _ _ (by decide))) (kr _ _))) ?_);rw [en];refine ze (j7 e3) (ze (j7 (x_l (qsu (qg (qpv (x_v rfl) qpu (x_at (qu (x_v rfl) x_c (z:=.int (w:Int)) rfl)) hc) qr) eS))) (y_ret (v5 (qg (x_v rfl) (qg (x_call (qg (x_l (wj (ds:=rs.map wt) (ki (qu (x_v rfl) x_c (z:=.tup (rs.map wt)) rfl) rfl) (by rw [gh];show _<=1000000;omega) wc)) qr) (jq _)) qr)) (show 2<=1000000 by decide))))
 ·obtain⟨r,hrr,rfl⟩:=md.mp hr'
  obtain⟨_,h2,h3,h4,t,ht,e⟩:=hr r hrr;have hri:(r.2.map (spo S)).Pairwise (· < ·):=by
   rw [mx];have:=qdq 12 t;rw [<- e] at this;refine pd (fun {x y} hx hy hxy=>?_) this;obtain⟨i,hi,rfl,ei⟩:=sp x (inB r hrr x hx);obtain⟨j,hj,rfl,ej⟩:=sp y (inB r hrr y hy);rw [ei,ej];exact ud.mp riS i j hi hj (by omega)
  have hin:∀x∈r.2.map (spo S),0<=x/\x<n:=fun x hx=>by
   obtain⟨y,hy,rfl⟩:=md.mp hx;obtain⟨i,hi,rfl,ei⟩:=sp y (inB r hrr y hy);rw [ei];exact inS _ (g1k hi)
  obtain⟨t',ht',et'⟩:=qds _ n (r.2.map (spo S)) rfl hn.2 hri hin;exact⟨fun x hx=>by have:=hin x hx;omega,by show(r.2.map (spo S)).length<=1000;rw [gh];exact h2,h3,h4,t',ht',et'⟩
structure Self(d:D)(m:Nat): Prop where
 ok:okE d d=true
 eq:eqD d d=true
 dep:vy d<=m
theorem q7q(i:Int)(m:Nat): Self (.int i) m:=⟨rfl,by show(i==i)=true;simp,t6 _⟩
theorem q93{m:Nat}: ∀ds:List D,(∀d∈ds,Self d m)->v8 ds ds=true/\eqL ds ds=true/\jn ds<=m
 | [],_=>⟨by simp [v8],by simp [eqL],t6 _⟩
 | d :: ds,h=>by
  obtain⟨a,b,c⟩:=q93 ds fun e he=>h e (gf _ he);have s:=h d gc;refine⟨by simp only [v8,s.ok,a,g3f],by simp only [eqL,s.eq,b,g3f],?_⟩;simp only [jn];have:=s.dep;omega
theorem qao{m:Nat}(ds:List D)(h:∀d∈ds,Self d m): Self (.tup ds) (m+1):=by
 obtain⟨a,b,c⟩:=q93 ds h;exact⟨by simp only [okE];exact a,by simp only [eqD];exact b,by simp only [vy];omega⟩
theorem qtf(b:Bool)(m:Nat): Self (.bl b) m:=⟨rfl,by show(b==b)=true;simp,t6 _⟩
theorem qhe(k:Nat): Self (setD k) 1:=qao _ fun d hd=>by obtain⟨i,_,rfl⟩:=md.mp hd;exact q7q i 0
theorem qhf(n m:Nat): Self (yx n m) 1:=qao _ fun d hd=>by
 rcases ml.mp hd with rfl|hd
 ·exact q7q _ 0
 ·rw [nv.mp hd];exact q7q _ 0
theorem qqp(rs:List Run)(w:Nat)(P:List (Nat×Nat))(p:Nat×Nat): Self (six rs w P p) 2:=qao _ fun d hd=>by
 simp only [qle,g1l,um,ml,g1j,g5d] at hd;rcases hd with rfl|rfl|rfl|rfl|rfl|rfl
 ·exact qhe _
 ·exact qhe _
 ·exact q7q _ _
 ·exact qhf _ _
 ·exact qhf _ _
 ·exact qtf _ _
theorem eq_self(ds:List D)(h:∀d∈ds,Self d 2): oEq (.tup ds) (.tup ds)=some (.bl true):=by
 obtain⟨a,b,c⟩:=q93 ds h;show(none:Option D).or (if v8 ds ds&&decide (jn ds<=60) then some (D.bl (eqL ds ds)) else none)=_;rw [a,b,gv (show jn ds<=60 by omega)]
 rfl
def qyh:Option D->Bool
 | some (.bl false)=>true
 | _=>false
theorem qj8{x:Option D}{g:D->Option D}(h:qyh (x.bind g)=true): ∃r,x=some r/\g r=some (.bl false):=by
 cases x with
 | none=>cases h
 | some r=>
  refine⟨r,rfl,?_⟩;rw [g9] at h;cases e:g r with
  | none=>rw [e] at h;cases h
  | some d=>
   rw [e] at h;cases d with
   | bl b=>cases b with
    | false=>rfl
    | true=>cases h
   | _=>cases h
theorem qwa:∃r,xh [.tup [.int 1,.tup [.tup [.int 2,.tup [.int 0]],.tup [.int 1,.tup []]]],.int 2,.tup [.int 2,.int 3]]=some r/\q4f r (.tup [.tup [.tup [],.tup [.int 0],.int 2,.tup [.int 2,.int 3],.tup [.int 1,.int 1],.bl false]])=some (.bl false):=
 qj8 (g:=fun r=>q4f r (.tup [.tup [.tup [],.tup [.int 0],.int 2,.tup [.int 2,.int 3],.tup [.int 1,.int 1],.bl false]])) (by decide +kernel)
theorem qwb:∃r,xh [.tup [.int 0,.tup [.tup [.int 3,.tup []]]],.int 1,.non]=some r/\q4f r (.tup [])=some (.bl false):=
 qj8 (g:=fun r=>q4f r (.tup [])) (by decide +kernel)
theorem qtg(ns ms:List Int)(hlen:ns.length<=63)(hml:ms.length<=63)(w:Nat)(hw:w<=5): ∃(p:D) (n:Nat) (rs:List Run),q1z [.lst (ms.map .int),.int (w:Int),.int (60:Int)]=some p/\n<=8/\rs.length<=63/\(∀r∈rs,q5g n r) /\
  ∀q:Rho,sIf (zb oEq (eOp oMod (qi (qq 2 [] zk) (qc (eV 0) (qc (eC (.int 3)) qf))) (eC (.int 4))) (eC (.int 0))) (zo 1 (qi (qq 2 [] q17) (qc (eV 0) (qc (eV 1) qf)))) jw (some (.fz (.lst (ns.map .int))) :: some (.fz p) :: q)=some (.nx,some (.fz (.lst (ns.map .int))) :: some (.fz (jv n rs)) :: q):=by
 obtain⟨rs,hp,hl,hr⟩:=qi4 ms hml w (by omega) 60 (by decide);obtain⟨m,em,_⟩:=y9 ns hlen 3 (by decide) (by decide)
 by_cases h4:m%4=0
 ·obtain⟨n,rs',ew,hn,hl',hr'⟩:=qqo ns hlen w hw rs hl hr
  exact⟨_,n,rs',hp,hn,hl',hr',fun q=>qgu (jd (qu (zq (qg (x_v rfl) (qg x_c qr)) rfl em) x_c (xu _ _ (by decide))) x_c (q0f _ _)) (gv h4) (j7 (zq (qg (x_v rfl) (qg (x_v rfl) qr)) rfl ew))⟩
 ·exact⟨_,w,rs,hp,by omega,hl,hr,fun q=>je (jd (qu (zq (qg (x_v rfl) (qg x_c qr)) rfl em) x_c (xu _ _ (by decide))) x_c (q0f _ _)) (mi h4) jf⟩
theorem qqq(ns:List Int)(hlen:ns.length<=63): qkz [.lst (ns.map .int)]=some (.bl true):=by
 obtain⟨c0,e0⟩:=q36 ns 0;obtain⟨w0,ew,hw0⟩:∃w:Nat,c0 / 2%6=(w:Int)/\w<=5:=⟨(c0 / 2%6).toNat,by omega,by omega⟩
 have hsl:∃ms:List Int,(∀q:Rho,eOp zh (eSl (eV 0) oNo (oAt (eC (.int 2)))) (eSl (eV 0) (oAt (eC (.int 3))) oNo) (some (.fz (.lst (ns.map .int))) :: q)=some (.lst (ms.map .int)))/\ms.length<=63:=by
  refine⟨ns.take 2++ns.drop 3,fun q=>?_,by rw [ng,pq,g0p];omega⟩;refine qu (x:=.lst ((ns.take 2).map .int)) (y:=.lst ((ns.drop 3).map .int)) (qpv (x_v rfl) qpu (x_at x_c) ?_) (qpv (x_v rfl) (x_at x_c) qpu ?_) ?_
  ·rw [g3d]
   exact pk (fun l=>some (D.lst l)) (q61 (α :=Unit) (ns.map D.int) 2)
  ·rw [g4o]
   exact pk (fun l=>some (D.lst l)) (qgt (α :=Unit) (ns.map D.int) 3)
  ·rw [qnf _ _ (by simp only [gh,pq,g0p];omega),ti]
 obtain⟨ms,hms,hml⟩:=hsl;obtain⟨p0,w,rs,hp,hw,hl,hr,hif⟩:=qtg ns ms hlen hml w0 hw0;have hR:=qt0 hw hl hr;have hB:Bd rs:=qxj hl fun r h=>⟨(hr r h).2.2.1,(hr r h).2.2.2.1⟩
 have h32:=q7o hw;have hpos:0<2 ^ w:=g61 (by decide);have hc:=qe4 w rs hR hw;obtain⟨L,eL,hL⟩:=qgy ns ((List.range (2 ^ w)).map fun i=>cM rs i) (by rw [gh,g1f];exact hpos) (by rw [gh,g1f];omega);rw [mv] at eL;obtain⟨d,t,e,ed,hb⟩:=qqk ns hw hR hB;have hs:=qte (qli w hw rs hR hB L hb);rw [qta hw hR hL t e] at hs;have hdue:=qi9 hw hR hB L hb;have hlen2:=qtb hw hR (L:=L) t e;obtain⟨m1,_,_⟩:=wo w (by omega);obtain⟨l',b8,b9,et⟩:=qdr hw hR hB hL hb (prs (jg w) (good rs L t e)) (some (.fz (.lst (ns.map .int)))) (some (.fz (jv w rs))) (some (.fz (.tup ((prs (jg w) (good rs L t e)).map (six rs w (prs (jg w) (good rs L t e))))))) none (prs (jg w) (good rs L t e)) qlk none none
  (fun p hp=>by obtain⟨h1,h2,h3⟩:=prs_mem.mp hp;exact⟨m1 _ h1,m1 _ h2,h3⟩) (qqj hw _) fun p _=>qql p
 obtain⟨r1,f1,n1⟩:=qwa;obtain⟨r2,f2,n2⟩:=qwb;have hself:=eq_self ((prs (jg w) (good rs L t e)).map (six rs w (prs (jg w) (good rs L t e)))) fun d hd=>by obtain⟨p,_,rfl⟩:=md.mp hd;exact qqp _ _ _ _
 refine jz ?_;refine ze (j7 (zq (qg (hms _) (qg (qu (qu (zq (qg (x_v rfl) (qg x_c qr)) rfl e0) x_c (q4z _ _ (by decide) (by decide))) x_c (by rw [xu _ _ (by decide),ew])) (qg x_c qr))) rfl hp)) ?_;refine ze (hif _) ?_;refine ze (j7 (qu (x_v rfl) x_c (z:=.int (w:Int)) rfl)) ?_;refine ze (j7 (zq (qg (x_v rfl) qr) rfl hc)) ?_;refine ze (j7 (zq (qg (x_v rfl) (qg (x_v rfl) qr)) rfl eL)) ?_;refine ze (j7 (zq (qg (x_v rfl) (qg (x_v rfl) qr)) rfl ed)) ?_;refine ze (j7 (zq (qg (x_v rfl) (qg (x_v rfl) (qg (x_v rfl) qr))) rfl hs)) ?_;refine ze (je (vg (q08 (q07 (q35 (x_v rfl)) rfl)) rfl (jd (x_call (qg (x_v rfl) qr) (q5d _)) (zq (qg (x_v rfl) (qg (x_v rfl) (qg (x_v rfl) qr))) rfl hdue) (q1p _ _))) (by rw [gh,hlen2];simp) jf) ?_;refine ze (j7 (d:=qlk) rfl) ?_;refine ze (q9i (ki (x_v rfl) rfl) et) ?_;refine ze (j7 (x_call (ds:=[.tup [.int 1,.tup [.tup [.int 2,.tup [.int 0]],.tup [.int 1,.tup []]]],.int 2,.tup [.int 2,.int 3]]) rfl f1)) ?_;refine ze (je (vg (jd (x_v rfl) (y:=.tup [.tup [.tup [],.tup [.int 0],.int 2,.tup [.int 2,.int 3],.tup [.int 1,.int 1],.bl false]]) rfl n1) rfl (jd (x_call (ds:=[.tup [.int 0,.tup [.tup [.int 3,.tup []]]],.int 1]) rfl f2) (y:=.tup []) rfl n2)) rfl jf) ?_;exact y_ret (qu (zq (qg (x_v rfl) (qg (x_v rfl) (qg (x_v rfl) qr))) rfl hs) (x_v rfl) hself)
end My
namespace My
open PySem PySem.Spec PyProof.Rows L2 DL
open PySem.W (nsIn fnOf keepIn codeIn mg_of subIn mg_none_of findIn plainGet)
theorem ln1{s:Shared}{fd:FuncData}{ps:List Str}(h:∀a0,BindsTo s fd ⟨[a0],[]⟩ (ps.zip ([a0]++[]))): ∀us:List Value,(us++[]).length=1->BindsTo s fd ⟨us,[]⟩ (ps.zip (us++[]))
 | [a0],_=>h a0
theorem ln2{s:Shared}{fd:FuncData}{ps:List Str}(h:∀a0 a1,BindsTo s fd ⟨[a0,a1],[]⟩ (ps.zip ([a0,a1]++[]))): ∀us:List Value,(us++[]).length=2->BindsTo s fd ⟨us,[]⟩ (ps.zip (us++[]))
 | [a0,a1],_=>h a0 a1
theorem ln3{s:Shared}{fd:FuncData}{ps:List Str}(h:∀a0 a1 a2,BindsTo s fd ⟨[a0,a1,a2],[]⟩ (ps.zip ([a0,a1,a2]++[]))): ∀us:List Value,(us++[]).length=3->BindsTo s fd ⟨us,[]⟩ (ps.zip (us++[]))
 | [a0,a1,a2],_=>h a0 a1 a2
theorem ln4{s:Shared}{fd:FuncData}{ps:List Str}(h:∀a0 a1 a2 a3,BindsTo s fd ⟨[a0,a1,a2,a3],[]⟩ (ps.zip ([a0,a1,a2,a3]++[]))): ∀us:List Value,(us++[]).length=4->BindsTo s fd ⟨us,[]⟩ (ps.zip (us++[]))
 | [a0,a1,a2,a3],_=>h a0 a1 a2 a3
theorem all_mk{q:Program}{l:PySem.W.OpenLaw}{w:World}{K:Frag}{h:Heap}{mg:Str->Option Value}{fa:Addr}(X:K.In h)(G:h.Ns mainGlobals mg)(hfa:mg "law" = some (.ref fa))(hm:∀ns:List Int,ns.length<=63->qkz [.lst (ns.map .int)]=some (.bl true))
  {aa:Addr}
  (cD:nsIn K mainGlobals "Growing" = some (some (.ref aa)))
  (cX:PySem.W.makesIn K aa=true)
  (cZ:findIn K (.ref aa) "__init__" = some (some (.builtin "object.__init__")))
  (cY:keepIn K (.ref aa)=true)
  (cW:plainGet K aa Str.empty=true)
  (bG:PySem.W.hasDictIn K aa=true)
  (cV:PySem.W.plainOver K aa=true)
  (cU:findIn K (.ref aa) "__setattr__" = some (some (.builtin "object.__setattr__")))
  (dh:plainGet K aa "__class__" = true)
  (di:findIn K (.ref aa) "__class__" = some (some (.builtin "object.__class__")))
  (df:PySem.W.specialIn K (.builtin "object.__class__") "__get__" = some (some (.builtin "getset_descriptor.__get__")))
  (dc:PySem.W.takesIn K (.builtin "object.__class__")=some true)
  (dg:PySem.W.mroIn K aa (.type "object")=some true)
  (bx:subIn K (.ref aa) (.type "int")=some false)
  (bh:subIn K (.ref aa) (.type "bool")=some false)
  (aU:subIn K (.ref aa) (.type "tuple")=some false)
  (bf:subIn K (.ref aa) (.type "list")=some false)
  (bw:subIn K (.ref aa) (.type "str")=some false)
  (bg:subIn K (.ref aa) (.type "dict")=some false)
  {fa_19:Addr} {fm:FuncData} (bV:nsIn K mainGlobals "_law_mixed" = some (some (.ref fa_19))) (cx:Fun2 K "_law_mixed" "_law_mixed" q0v .none fa_19 fm)
  {fa_11:Addr} {fP:FuncData} (cR:nsIn K mainGlobals "_law_cell" = some (some (.ref fa_11))) (dz:Fun2 K "_law_cell" "_law_cell" q1x .none fa_11 fP)
  {fa_20:Addr} {eJ:FuncData} (bu:nsIn K mainGlobals "_law_of_mark" = some (some (.ref fa_20))) (bA:Fun2 K "_law_of_mark" "_law_of_mark" wb .none fa_20 eJ)
  {fa_23:Addr} {fX:FuncData} (dR:nsIn K mainGlobals "_law_run" = some (some (.ref fa_23))) (d6:Fun2 K "_law_run" "_law_run" q3e .none fa_23 fX)
  {fa_21:Addr} {fN:FuncData} (cP:nsIn K mainGlobals "_law_pile" = some (some (.ref fa_21))) (dw:Fun2 K "_law_pile" "_law_pile" q1y .none fa_21 fN)
  {fa_18:Addr} {fq:FuncData} (bW:nsIn K mainGlobals "_law_marks" = some (some (.ref fa_18))) (cy:Fun2 K "_law_marks" "_law_marks" q0w .none fa_18 fq)
  {fa_13:Addr} {eR:FuncData} (bE:nsIn K mainGlobals "_law_counts" = some (some (.ref fa_13))) (bL:Fun2 K "_law_counts" "_law_counts" q02 .none fa_13 eR)
  {fa_15:Addr} {ft:FuncData} (bX:nsIn K mainGlobals "_law_least" = some (some (.ref fa_15))) (cz:Fun2 K "_law_least" "_law_least" q0y .none fa_15 ft)
  {fa_10:Addr} {fw:FuncData} (bZ:nsIn K mainGlobals "_law_bound" = some (some (.ref fa_10))) (cB:Fun2 K "_law_bound" "_law_bound" q0z .none fa_10 fw)
  {fa_6:Addr} {ah:FuncData} (aG:nsIn K mainGlobals "greatest_divisor" = some (some (.ref fa_6))) (aJ:Fun2 K "greatest_divisor" "greatest_divisor" va .none fa_6 ah)
  {fa_8:Addr} {aY:FuncData} (cf:nsIn K mainGlobals "is_number" = some (some (.ref fa_8))) (cC:Fun2 K "is_number" "is_number" q11 .none fa_8 aY)
  {fa_39:Addr} {a8:FuncData} (fb:nsIn K mainGlobals "share" = some (some (.ref fa_39))) (fH:Fun2 K "share" "share" q6f .none fa_39 a8)
  {fa_3:Addr} {br:FuncData} (cS:nsIn K mainGlobals "bound_of" = some (some (.ref fa_3))) (dA:Fun2 K "bound_of" "bound_of" q22 .none fa_3 br)
  {fa_2:Addr} {av:FuncData} (cT:nsIn K mainGlobals "at_least" = some (some (.ref fa_2))) (dB:Fun2 K "at_least" "at_least" q23 .none fa_2 av)
  {fa_29:Addr} {aI:FuncData} (dQ:nsIn K mainGlobals "mark_of" = some (some (.ref fa_29))) (d5:Fun2 K "mark_of" "mark_of" q3h .none fa_29 aI)
  {fa_30:Addr} {cE:FuncData} (eG:nsIn K mainGlobals "marked" = some (some (.ref fa_30))) (eP:Fun2 K "marked" "marked" q4o .none fa_30 cE)
  {fa_35:Addr} {ax:FuncData} (aR:nsIn K mainGlobals "one_ware_more" = some (some (.ref fa_35))) (aV:Fun2 K "one_ware_more" "one_ware_more" ym .none fa_35 ax)
  {fa_34:Addr} {aq:FuncData} (aL:nsIn K mainGlobals "one_ware_fewer" = some (some (.ref fa_34))) (aP:Fun2 K "one_ware_fewer" "one_ware_fewer" vz .none fa_34 aq)
  {fa_7:Addr} {dD:FuncData} (fe:nsIn K mainGlobals "grown" = some (some (.ref fa_7))) (fI:Fun2 K "grown" "grown" q6h .none fa_7 dD)
  {fa_4:Addr} {aF:FuncData} (a7:nsIn K mainGlobals "count_marked" = some (some (.ref fa_4))) (bp:Fun2 K "count_marked" "count_marked" k9 .none fa_4 aF)
  {fa_0:Addr} {od_0 an_0:Option Addr} {sl_0:Array (Option Value)} {oc_0 kV_0 dc_0 pm_0 cd_0 ct_0:Value}
  (aK:findIn K (.ref aa) "counted" = some (some (.ref fa_0))) (i_0:PySem.W.isFn K (.ref fa_0)=true)
  (l_0:K.lookup fa_0=some ⟨oc_0,od_0,.func (fnOf "counted" "Growing.counted" (vx jh) (qw jh) (qh jh) .none kV_0 dc_0 pm_0 an_0 cd_0 ct_0),sl_0⟩)
  (q_0:codeIn K cd_0 "Growing.counted" = true) (k_0:keepIn K (.ref fa_0)=true)
  {fa_1:Addr} {od_1 an_1:Option Addr} {sl_1:Array (Option Value)} {oc_1 kV_1 dc_1 pm_1 cd_1 ct_1:Value}
  (aS:findIn K (.ref aa) "often" = some (some (.ref fa_1))) (i_1:PySem.W.isFn K (.ref fa_1)=true)
  (l_1:K.lookup fa_1=some ⟨oc_1,od_1,.func (fnOf "often" "Growing.often" (vx ju) (qw ju) (qh ju) .none kV_1 dc_1 pm_1 an_1 cd_1 ct_1),sl_1⟩)
  (q_1:codeIn K cd_1 "Growing.often" = true) (k_1:keepIn K (.ref fa_1)=true)
  {fa_41:Addr} {bH:FuncData} (dM:nsIn K mainGlobals "without" = some (some (.ref fa_41))) (dZ:Fun2 K "without" "without" q3j .none fa_41 bH)
  {fa_9:Addr} {aN:FuncData} (eH:nsIn K mainGlobals "joined" = some (some (.ref fa_9))) (eQ:Fun2 K "joined" "joined" q4s .none fa_9 aN)
  {fa_33:Addr} {ag:FuncData} (aB:nsIn K mainGlobals "one_step_stronger" = some (some (.ref fa_33))) (aC:Fun2 K "one_step_stronger" "one_step_stronger" xq .none fa_33 ag)
  {fa_5:Addr} {bJ:FuncData} (dS:nsIn K mainGlobals "follows" = some (some (.ref fa_5))) (d7:Fun2 K "follows" "follows" q3l .none fa_5 bJ)
  {fa_31:Addr} {af:FuncData} (ak:nsIn K mainGlobals "marked_by_following" = some (some (.ref fa_31))) (ao:Fun2 K "marked_by_following" "marked_by_following" xg .none fa_31 af)
  {fa_37:Addr} {aX:FuncData} (bR:nsIn K mainGlobals "saying_of" = some (some (.ref fa_37))) (cq:Fun2 K "saying_of" "saying_of" q15 .none fa_37 aX)
  {fa_32:Addr} {fg:FuncData} (gB:nsIn K mainGlobals "met" = some (some (.ref fa_32))) (gE:Fun2 K "met" "met" qbm .none fa_32 fg)
  {fa_40:Addr} {aW:FuncData} (bQ:nsIn K mainGlobals "whats_for" = some (some (.ref fa_40))) (cp:Fun2 K "whats_for" "whats_for" q16 .none fa_40 aW)
  {fa_36:Addr} {bI:FuncData} (dP:nsIn K mainGlobals "reaches" = some (some (.ref fa_36))) (d4:Fun2 K "reaches" "reaches" q3n .none fa_36 bI)
  {fa_38:Addr} {od_38 an_38:Option Addr} {sl_38:Array (Option Value)} {oc_38 kV_38 dc_38 pm_38 cd_38 ct_38:Value} {eZ:Addr}
  (dN:nsIn K mainGlobals "sayings" = some (some (.ref fa_38)))
  (l_38:K.lookup fa_38=some ⟨oc_38,od_38,.func (fnOf "sayings" "sayings" (vx kq) (qw kq) (qh kq) (.ref eZ) kV_38 dc_38 pm_38 an_38 cd_38 ct_38),sl_38⟩)
  (q_38:codeIn K cd_38 "sayings" = true) (k_38:keepIn K (.ref fa_38)=true)
  {fL:Value} {fK:Option Addr} {au:Nat} {fJ:Array (Option Value)} (bD:K.lookup eZ=some ⟨fL,fK,.seq #[.none] au,fJ⟩)
  {fa_24:Addr} {fM:FuncData} (cO:nsIn K mainGlobals "_law_said" = some (some (.ref fa_24))) (du:Fun2 K "_law_said" "_law_said" q27 .none fa_24 fM)
  {fa_28:Addr} {od_28 an_28:Option Addr} {sl_28:Array (Option Value)} {oc_28 kV_28 dc_28 pm_28 ct_28:Value}
  {cL_law_wider TL_law_wider:Addr}
  (bq:nsIn K mainGlobals "_law_wider" = some (some (.ref fa_28)))
  (l_28:K.lookup fa_28=some ⟨oc_28,od_28,.func (fnOf "_law_wider" "_law_wider" (vx xj) (qw xj) (qh xj) .none kV_28 dc_28 pm_28 an_28 (.ref cL_law_wider) ct_28),sl_28⟩)
  (q_28:codeIn K (.ref cL_law_wider) "_law_wider" = true) (k_28:keepIn K (.ref fa_28)=true)
  {oL_law_wider:Obj} (o_28:K.lookup cL_law_wider=some oL_law_wider) (p_28:tabOf oL_law_wider=some TL_law_wider) (hh_28:PySem.W.codeHdIn [(cL_law_wider,oL_law_wider)] cL_law_wider TL_law_wider=true) (nl_28:K.lookup TL_law_wider=none) (r_28:((recsOf q).find? (fun e=>e.name==("_law_wider" : Str))).isSome=true)
  {fa_22:Addr} {eI:FuncData} (bt:nsIn K mainGlobals "_law_reaches" = some (some (.ref fa_22))) (bz:Fun2 K "_law_reaches" "_law_reaches" wg .none fa_22 eI)
  {fa_16:Addr} {d9:FuncData} (aZ:nsIn K mainGlobals "_law_many_due" = some (some (.ref fa_16))) (bo:Fun2 K "_law_many_due" "_law_many_due" kg .none fa_16 d9)
  {fa_17:Addr} {fO:FuncData} (cQ:nsIn K mainGlobals "_law_mark" = some (some (.ref fa_17))) (dy:Fun2 K "_law_mark" "_law_mark" q2a .none fa_17 fO)
  {fa_27:Addr} {fi:FuncData} (bS:nsIn K mainGlobals "_law_whole" = some (some (.ref fa_27))) (cu:Fun2 K "_law_whole" "_law_whole" q18 .none fa_27 fi)
  {fa_26:Addr} {dC:FuncData} (aM:nsIn K mainGlobals "_law_two_shares" = some (some (.ref fa_26))) (aQ:Fun2 K "_law_two_shares" "_law_two_shares" y6 .none fa_26 dC)
  {fa_12:Addr} {eU:FuncData} (bF:nsIn K mainGlobals "_law_common" = some (some (.ref fa_12))) (bM:Fun2 K "_law_common" "_law_common" q05 .none fa_12 eU)
  {fa_25:Addr} {fj:FuncData} (bU:nsIn K mainGlobals "_law_share" = some (some (.ref fa_25))) (cw:Fun2 K "_law_share" "_law_share" q19 .none fa_25 fj)
  {fa_14:Addr} {fu:FuncData} (bY:nsIn K mainGlobals "_law_is_so" = some (some (.ref fa_14))) (cA:Fun2 K "_law_is_so" "_law_is_so" q1b .none fa_14 fu)
  {fa_law:Addr} {gI:FuncData} (gC:nsIn K mainGlobals "law" = some (some (.ref fa_law))) (gF:Fun2 K "law" "law" qbp .none fa_law gI)
  (z_len:nsIn K mainGlobals "len" = some none)
  (z_tuple:nsIn K mainGlobals "tuple" = some none)
  (z_range:nsIn K mainGlobals "range" = some none)
  (z_sum:nsIn K mainGlobals "sum" = some none)
  (z_max:nsIn K mainGlobals "max" = some none)
  (z_isinstance:nsIn K mainGlobals "isinstance" = some none)
  (z_int:nsIn K mainGlobals "int" = some none)
  (z_bool:nsIn K mainGlobals "bool" = some none)
  (z_dict:nsIn K mainGlobals "dict" = some none)
  (z_all:nsIn K mainGlobals "all" = some none)
  (z_sorted:nsIn K mainGlobals "sorted" = some none)
  (z_set:nsIn K mainGlobals "set" = some none)
  (z_any:nsIn K mainGlobals "any" = some none)
  (z_list:nsIn K mainGlobals "list" = some none)
  {tk_MOST_WARES_SAID:Tok} (y_MOST_WARES_SAID:nsIn K mainGlobals "MOST_WARES_SAID" = some (some (.int 8 tk_MOST_WARES_SAID)))
  : ∃(L:Lam) (tabs:List (Addr×Addr)) (fd:FuncData),(∀p∈L.tab,p.1∈tabs.map (·.2))/\(∀p∈tabs,K.lookup p.2=none/\∃y:Str,((recsOf q).find? (fun e=>e.name==y)).isSome=true/\PySem.W.tabIn K y=some p)/\(∀(s:Shared) (v:Value),BindsTo s fd ⟨[v],[]⟩ [("_law_script",v)])/\∀base:Heap,K.In base->base.Ns mainGlobals mg->q3z mg base->FnOk l.prog w K mg base CX0 7 fa fd ["_law_script"] (qe8 K):=by
 letI L:Lam:=⟨[(TL_law_wider,"_law_wider.<locals>.<lambda>")]⟩
 have aO:ClsOk K "Growing" aa:=⟨cD,cX,cZ,cY,⟨cW,bG,cV,cU⟩,dh,bG,di,df,dc,dg,qs8 bx bh aU bf bw bg⟩
 have dU:=mg_of X G cD;have k_19:=cx.kp;have k_11:=dz.kp;have k_20:=bA.kp;have k_23:=d6.kp;have k_21:=dw.kp;have k_18:=cy.kp;have k_13:=bL.kp;have k_15:=cz.kp;have k_10:=cB.kp;have k_6:=aJ.kp;have k_8:=cC.kp;have k_39:=fH.kp;have k_3:=dA.kp;have k_2:=dB.kp;have k_29:=d5.kp;have k_30:=eP.kp;have k_35:=aV.kp;have k_34:=aP.kp;have k_7:=fI.kp;have k_4:=bp.kp;have dJ:=q9b (st:=jh) l_0 q_0 k_0;have eF:=q9b (st:=ju) l_1 q_1 k_1;have k_41:=dZ.kp;have k_9:=eQ.kp;have k_33:=aC.kp;have k_5:=d7.kp;have k_31:=ao.kp;have k_37:=cq.kp;have k_32:=gE.kp;have k_40:=cp.kp;have k_36:=d4.kp;have gA:=q9b (st:=kq) l_38 q_38 k_38;have k_24:=du.kp;have h_law_wider:=qhm o_28 hh_28;have t_law_wider:=qpk bq l_28 rfl o_28 p_28;have fW:=qsp (st:=xj) l_28 q_28 h_law_wider k_28;have k_22:=bz.kp;have k_16:=bo.kp;have k_17:=dy.kp;have k_27:=cu.kp;have k_26:=aQ.kp;have k_12:=bM.kp;have k_25:=cw.kp;have k_14:=cA.kp;have k_law:=gF.kp;have n_len:=mg_none_of X G z_len;have n_tuple:=mg_none_of X G z_tuple;have n_range:=mg_none_of X G z_range;have n_sum:=mg_none_of X G z_sum;have n_max:=mg_none_of X G z_max;have n_isinstance:=mg_none_of X G z_isinstance;have n_int:=mg_none_of X G z_int;have n_bool:=mg_none_of X G z_bool;have n_dict:=mg_none_of X G z_dict;have n_all:=mg_none_of X G z_all;have n_sorted:=mg_none_of X G z_sorted;have n_set:=mg_none_of X G z_set;have n_any:=mg_none_of X G z_any;have n_list:=mg_none_of X G z_list;have g_MOST_WARES_SAID:∃t,mg "MOST_WARES_SAID" = some (.int 8 t):=⟨_,mg_of X G y_MOST_WARES_SAID⟩
 have hP_L:(TL_law_wider,("_law_wider.<locals>.<lambda>" : Str))∈Lam.tab:=nv.mpr rfl;have hU_L:∀p∈Lam.tab,p.1=TL_law_wider->p.2="_law_wider.<locals>.<lambda>" :=fun p hp _=>by rw [nv.mp hp]
 have e:=hfa.symm.trans (mg_of X G gC);cases e;have b_19:Binds K _ ["_law_script","_law_k"] []:=cx.bindsTo (P:=fun fd=>Binds K fd ["_law_script","_law_k"] []) fun _ _ _ _ _ _ s us hk hl=>ln2 (fun _ _=>.of_eq rfl) us hl;have b_11:Binds K _ ["_law_script","_law_k"] []:=dz.bindsTo (P:=fun fd=>Binds K fd ["_law_script","_law_k"] []) fun _ _ _ _ _ _ s us hk hl=>ln2 (fun _ _=>.of_eq rfl) us hl;have b_20:Binds K _ ["_law_mark_here"] []:=bA.bindsTo (P:=fun fd=>Binds K fd ["_law_mark_here"] []) fun _ _ _ _ _ _ s us hk hl=>ln1 (fun _=>.of_eq rfl) us hl;have b_23:Binds K _ ["_law_number","_law_wares","_law_great"] []:=d6.bindsTo (P:=fun fd=>Binds K fd ["_law_number","_law_wares","_law_great"] []) fun _ _ _ _ _ _ s us hk hl=>ln3 (fun _ _ _=>.of_eq rfl) us hl;have b_21:Binds K _ ["_law_script","_law_wares","_law_most_runs"] []:=dw.bindsTo (P:=fun fd=>Binds K fd ["_law_script","_law_wares","_law_most_runs"] []) fun _ _ _ _ _ _ s us hk hl=>ln3 (fun _ _ _=>.of_eq rfl) us hl;have b_18:Binds K _ ["_law_pile_here"] []:=cy.bindsTo (P:=fun fd=>Binds K fd ["_law_pile_here"] []) fun _ _ _ _ _ _ s us hk hl=>ln1 (fun _=>.of_eq rfl) us hl;have b_13:Binds K _ ["_law_pile_here"] []:=bL.bindsTo (P:=fun fd=>Binds K fd ["_law_pile_here"] []) fun _ _ _ _ _ _ s us hk hl=>ln1 (fun _=>.of_eq rfl) us hl;have b_15:Binds K _ ["_law_script","_law_counts_here"] []:=cz.bindsTo (P:=fun fd=>Binds K fd ["_law_script","_law_counts_here"] []) fun _ _ _ _ _ _ s us hk hl=>ln2 (fun _ _=>.of_eq rfl) us hl;have b_10:Binds K _ ["_law_script","_law_counts_here"] []:=cB.bindsTo (P:=fun fd=>Binds K fd ["_law_script","_law_counts_here"] []) fun _ _ _ _ _ _ s us hk hl=>ln2 (fun _ _=>.of_eq rfl) us hl;have b_6:Binds K _ ["one","other"] []:=aJ.bindsTo (P:=fun fd=>Binds K fd ["one","other"] []) fun _ _ _ _ _ _ s us hk hl=>ln2 (fun _ _=>.of_eq rfl) us hl;have b_8:Binds K _ ["thing"] []:=cC.bindsTo (P:=fun fd=>Binds K fd ["thing"] []) fun _ _ _ _ _ _ s us hk hl=>ln1 (fun _=>.of_eq rfl) us hl;have b_39:Binds K _ ["top","bottom"] []:=fH.bindsTo (P:=fun fd=>Binds K fd ["top","bottom"] []) fun _ _ _ _ _ _ s us hk hl=>ln2 (fun _ _=>.of_eq rfl) us hl;have b_3:Binds K _ ["thing"] []:=dA.bindsTo (P:=fun fd=>Binds K fd ["thing"] []) fun _ _ _ _ _ _ s us hk hl=>ln1 (fun _=>.of_eq rfl) us hl;have b_2:Binds K _ ["pairs","least"] []:=dB.bindsTo (P:=fun fd=>Binds K fd ["pairs","least"] []) fun _ _ _ _ _ _ s us hk hl=>ln2 (fun _ _=>.of_eq rfl) us hl;have b_29:Binds K _ ["some"] []:=d5.bindsTo (P:=fun fd=>Binds K fd ["some"] []) fun _ _ _ _ _ _ s us hk hl=>ln1 (fun _=>.of_eq rfl) us hl;have b_30:Binds K _ ["pile"] []:=eP.bindsTo (P:=fun fd=>Binds K fd ["pile"] []) fun _ _ _ _ _ _ s us hk hl=>ln1 (fun _=>.of_eq rfl) us hl;have b_35:Binds K _ ["some","wares"] []:=aV.bindsTo (P:=fun fd=>Binds K fd ["some","wares"] []) fun _ _ _ _ _ _ s us hk hl=>ln2 (fun _ _=>.of_eq rfl) us hl;have b_34:Binds K _ ["some"] []:=aP.bindsTo (P:=fun fd=>Binds K fd ["some"] []) fun _ _ _ _ _ _ s us hk hl=>ln1 (fun _=>.of_eq rfl) us hl;have b_7:Binds K _ ["layer","wares"] []:=fI.bindsTo (P:=fun fd=>Binds K fd ["layer","wares"] []) fun _ _ _ _ _ _ s us hk hl=>ln2 (fun _ _=>.of_eq rfl) us hl;have b_4:Binds K _ ["marked_runs","some"] []:=bp.bindsTo (P:=fun fd=>Binds K fd ["marked_runs","some"] []) fun _ _ _ _ _ _ s us hk hl=>ln2 (fun _ _=>.of_eq rfl) us hl;have b_0:Binds K _ ["self","pile","least"] []:=dJ.bindsTo (P:=fun fd=>Binds K fd ["self","pile","least"] []) fun _ _ _ _ _ _ s us hk hl=>ln3 (fun _ _ _=>.of_eq rfl) us hl;have b_1:Binds K _ ["self","pile","least"] []:=eF.bindsTo (P:=fun fd=>Binds K fd ["self","pile","least"] []) fun _ _ _ _ _ _ s us hk hl=>ln3 (fun _ _ _=>.of_eq rfl) us hl;have b_41:Binds K _ ["some","ware"] []:=dZ.bindsTo (P:=fun fd=>Binds K fd ["some","ware"] []) fun _ _ _ _ _ _ s us hk hl=>ln2 (fun _ _=>.of_eq rfl) us hl;have b_9:Binds K _ ["one","other"] []:=eQ.bindsTo (P:=fun fd=>Binds K fd ["one","other"] []) fun _ _ _ _ _ _ s us hk hl=>ln2 (fun _ _=>.of_eq rfl) us hl;have b_33:Binds K _ ["whom","what","wares"] []:=aC.bindsTo (P:=fun fd=>Binds K fd ["whom","what","wares"] []) fun _ _ _ _ _ _ s us hk hl=>ln3 (fun _ _ _=>.of_eq rfl) us hl;have b_5:Binds K _ ["saying","known","wares"] []:=d7.bindsTo (P:=fun fd=>Binds K fd ["saying","known","wares"] []) fun _ _ _ _ _ _ s us hk hl=>ln3 (fun _ _ _=>.of_eq rfl) us hl;have b_31:Binds K _ ["told","wares"] []:=ao.bindsTo (P:=fun fd=>Binds K fd ["told","wares"] []) fun _ _ _ _ _ _ s us hk hl=>ln2 (fun _ _=>.of_eq rfl) us hl;have b_37:Binds K _ ["whom","what","counts"] []:=cq.bindsTo (P:=fun fd=>Binds K fd ["whom","what","counts"] []) fun _ _ _ _ _ _ s us hk hl=>ln3 (fun _ _ _=>.of_eq rfl) us hl;have b_32:Binds K _ ["one","other"] []:=gE.bindsTo (P:=fun fd=>Binds K fd ["one","other"] []) fun _ _ _ _ _ _ s us hk hl=>ln2 (fun _ _=>.of_eq rfl) us hl;have b_40:Binds K _ ["whom","counts"] []:=cp.bindsTo (P:=fun fd=>Binds K fd ["whom","counts"] []) fun _ _ _ _ _ _ s us hk hl=>ln2 (fun _ _=>.of_eq rfl) us hl;have b_36:Binds K _ ["one","other"] []:=d4.bindsTo (P:=fun fd=>Binds K fd ["one","other"] []) fun _ _ _ _ _ _ s us hk hl=>ln2 (fun _ _=>.of_eq rfl) us hl;have b_38:Binds K _ ["pile","least","bound"] []:=gA.bindsTo (P:=fun fd=>Binds K fd ["pile","least","bound"] []) fun _ _ _ _ _ _ s us hk hl=>ln3 (fun _ _ _=>g45 rfl (hk _ _ bD) rfl rfl rfl) us hl;have kb_sayings:KB K _ ["pile","least","bound"] ["bound"] 2 1:=gA.bindsTo (P:=fun fd=>KB K fd ["pile","least","bound"] ["bound"] 2 1) fun _ _ _ _ _ _=>qx6 (by decide) fun s us ws hk h1 h2=>match us,ws,h1,h2 with | [_,_],[_],_,_=>g45 rfl (hk _ _ bD) rfl rfl rfl
 have aA:Binds K _ ["pile","least","bound"] [.none]:=gA.bindsTo (P:=fun fd=>Binds K fd ["pile","least","bound"] [.none]) fun _ _ _ _ _ _=>qx7 2 rfl fun s us hk hl=>match us,hl with | [_,_],_=>g45 rfl (hk _ _ bD) rfl rfl rfl
 have ay:Vals [V.non] [.none]:=.cons rfl (.nil);have az:∀ {H:Hp},RepL K H [.non] [V.non]:=fun {H}=>RepL.cons (by simp only [Rep]) (RepL.nil);have b_24:Binds K _ ["_law_pile_here","_law_least_here","_law_edge"] []:=du.bindsTo (P:=fun fd=>Binds K fd ["_law_pile_here","_law_least_here","_law_edge"] []) fun _ _ _ _ _ _ s us hk hl=>ln3 (fun _ _ _=>.of_eq rfl) us hl;have b_28:Binds K _ ["_law_script","_law_pile_here"] []:=fW.bindsTo (P:=fun fd=>Binds K fd ["_law_script","_law_pile_here"] []) fun _ _ _ _ _ _ s us hk hl=>ln2 (fun _ _=>.of_eq rfl) us hl;have b_22:Binds K _ ["_law_one","_law_other","_law_edge"] []:=bz.bindsTo (P:=fun fd=>Binds K fd ["_law_one","_law_other","_law_edge"] []) fun _ _ _ _ _ _ s us hk hl=>ln3 (fun _ _ _=>.of_eq rfl) us hl;have b_16:Binds K _ ["_law_counts_here","_law_least_here","_law_edge"] []:=bo.bindsTo (P:=fun fd=>Binds K fd ["_law_counts_here","_law_least_here","_law_edge"] []) fun _ _ _ _ _ _ s us hk hl=>ln3 (fun _ _ _=>.of_eq rfl) us hl;have b_17:Binds K _ ["_law_some","_law_wares"] []:=dy.bindsTo (P:=fun fd=>Binds K fd ["_law_some","_law_wares"] []) fun _ _ _ _ _ _ s us hk hl=>ln2 (fun _ _=>.of_eq rfl) us hl;have b_27:Binds K _ ["_law_found","_law_due"] []:=cu.bindsTo (P:=fun fd=>Binds K fd ["_law_found","_law_due"] []) fun _ _ _ _ _ _ s us hk hl=>ln2 (fun _ _=>.of_eq rfl) us hl;have b_26:Binds K _ ["_law_found","_law_due"] []:=aQ.bindsTo (P:=fun fd=>Binds K fd ["_law_found","_law_due"] []) fun _ _ _ _ _ _ s us hk hl=>ln2 (fun _ _=>.of_eq rfl) us hl;have b_12:Binds K _ ["_law_one","_law_other"] []:=bM.bindsTo (P:=fun fd=>Binds K fd ["_law_one","_law_other"] []) fun _ _ _ _ _ _ s us hk hl=>ln2 (fun _ _=>.of_eq rfl) us hl;have b_25:Binds K _ ["_law_top","_law_bottom"] []:=cw.bindsTo (P:=fun fd=>Binds K fd ["_law_top","_law_bottom"] []) fun _ _ _ _ _ _ s us hk hl=>ln2 (fun _ _=>.of_eq rfl) us hl;have b_14:Binds K _ ["_law_saying","_law_wares","_law_counts_here","_law_edge"] []:=cA.bindsTo (P:=fun fd=>Binds K fd ["_law_saying","_law_wares","_law_counts_here","_law_edge"] []) fun _ _ _ _ _ _ s us hk hl=>ln4 (fun _ _ _ _=>.of_eq rfl) us hl;refine⟨L,[(cL_law_wider,TL_law_wider)],_,fun p hp=>(by rw [nv.mp hp];exact nv.mpr rfl),fun p hp=>(by rw [nv.mp hp];exact⟨nl_28,_,r_28,t_law_wider⟩),gF.bindsTo (P:=fun fd=>∀(s:Shared) (v:Value),BindsTo s fd ⟨[v],[]⟩ [("_law_script",v)]) (fun _ _ _ _ _ _ s v=>.of_eq rfl),fun base _ _ B_L=>?_⟩;have o_19:=qfw (P:=l.prog) (w:=w) (mg:=mg) (base:=base) cx n_len;have c_19:=Cal.mk o_19 (mg_of X G bV) k_19;have o_11:=qhp (P:=l.prog) (w:=w) (mg:=mg) (base:=base) dz n_len;have c_11:=Cal.mk o_11 (mg_of X G cR) k_11;have o_20:=qcn (P:=l.prog) (w:=w) (mg:=mg) (base:=base) bA n_tuple n_range;have c_20:=Cal.mk o_20 (mg_of X G bu) k_20;have o_23:=qkg (P:=l.prog) (w:=w) (mg:=mg) (base:=base) d6 c_20 b_20;have c_23:=Cal.mk o_23 (mg_of X G dR) k_23;have o_21:=qhr (P:=l.prog) (w:=w) (mg:=mg) (base:=base) dw c_19 b_19 c_11 b_11 c_23 b_23 n_range n_tuple;have c_21:=Cal.mk o_21 (mg_of X G cP) k_21;have o_18:=qfz (P:=l.prog) (w:=w) (mg:=mg) (base:=base) cy n_sum;have c_18:=Cal.mk o_18 (mg_of X G bW) k_18;have o_13:=qe0 (P:=l.prog) (w:=w) (mg:=mg) (base:=base) bL c_18 b_18 n_range n_sum;have c_13:=Cal.mk o_13 (mg_of X G bE) k_13;have o_15:=qg1 (P:=l.prog) (w:=w) (mg:=mg) (base:=base) cz c_11 b_11 n_max n_len;have c_15:=Cal.mk o_15 (mg_of X G bX) k_15;have o_10:=qg3 (P:=l.prog) (w:=w) (mg:=mg) (base:=base) cB c_11 b_11 n_len;have c_10:=Cal.mk o_10 (mg_of X G bZ) k_10;have o_6:=q7t (P:=l.prog) (w:=w) (mg:=mg) (base:=base) aJ;have c_6:=Cal.mk o_6 (mg_of X G aG) k_6;have o_8:=qg6 (P:=l.prog) (w:=w) (mg:=mg) (base:=base) cC n_isinstance n_int n_bool;have c_8:=Cal.mk o_8 (mg_of X G cf) k_8;have o_39:=qpo (P:=l.prog) (w:=w) (mg:=mg) (base:=base) fH c_6 b_6 c_8 b_8;have c_39:=Cal.mk o_39 (mg_of X G fb) k_39;have o_3:=qhu (P:=l.prog) (w:=w) (mg:=mg) (base:=base) dA c_39 b_39 n_isinstance n_tuple n_len;have c_3:=Cal.mk o_3 (mg_of X G cS) k_3;have o_2:=qhx (P:=l.prog) (w:=w) (mg:=mg) (base:=base) dB n_tuple;have c_2:=Cal.mk o_2 (mg_of X G cT) k_2;have o_29:=qkj (P:=l.prog) (w:=w) (mg:=mg) (base:=base) d5 n_sum;have c_29:=Cal.mk o_29 (mg_of X G dQ) k_29;have o_30:=qnb (P:=l.prog) (w:=w) (mg:=mg) (base:=base) eP c_29 b_29;have c_30:=Cal.mk o_30 (mg_of X G eG) k_30;have o_35:=qad (P:=l.prog) (w:=w) (mg:=mg) (base:=base) aV n_range;have c_35:=Cal.mk o_35 (mg_of X G aR) k_35;have o_34:=q9o (P:=l.prog) (w:=w) (mg:=mg) (base:=base) aP n_range n_len;have c_34:=Cal.mk o_34 (mg_of X G aL) k_34;have o_7:=qpq (P:=l.prog) (w:=w) (mg:=mg) (base:=base) fI c_35 b_35 c_34 b_34 n_dict n_all;have c_7:=Cal.mk o_7 (mg_of X G fe) k_7;have o_4:=qbl (P:=l.prog) (w:=w) (mg:=mg) (base:=base) bp c_29 b_29 n_sum;have c_4:=Cal.mk o_4 (mg_of X G a7) k_4;have o_0:=q8k (P:=l.prog) (w:=w) (mg:=mg) (base:=base) dJ c_30 b_30 c_7 b_7 c_4 b_4 c_2 b_2 n_tuple;have c_0:CalM l.prog w K mg base "Growing" "counted" aa _ _ _ _ _ _:=⟨o_0,⟨aK,i_0,k_0⟩⟩
 have o_1:=qag (P:=l.prog) (w:=w) (mg:=mg) (base:=base) eF aO c_2 b_2 c_0 b_0;have c_1:CalM l.prog w K mg base "Growing" "often" aa _ _ _ _ _ _:=⟨o_1,⟨aS,i_1,k_1⟩⟩
 have o_41:=qko (P:=l.prog) (w:=w) (mg:=mg) (base:=base) dZ n_tuple;have c_41:=Cal.mk o_41 (mg_of X G dM) k_41;have o_9:=qne (P:=l.prog) (w:=w) (mg:=mg) (base:=base) eQ n_tuple n_sorted n_set;have c_9:=Cal.mk o_9 (mg_of X G eH) k_9;have o_33:=q7g (P:=l.prog) (w:=w) (mg:=mg) (base:=base) aC c_41 b_41 c_9 b_9 n_range;have c_33:=Cal.mk o_33 (mg_of X G aB) k_33;have o_5:=qkr (P:=l.prog) (w:=w) (mg:=mg) (base:=base) d7 c_33 b_33 n_any;have c_5:=Cal.mk o_5 (mg_of X G dS) k_5;have o_31:=q5t (P:=l.prog) (w:=w) (mg:=mg) (base:=base) ao c_5 b_5 n_dict n_tuple;have c_31:=Cal.mk o_31 (mg_of X G ak) k_31;have o_37:=qgc (P:=l.prog) (w:=w) (mg:=mg) (base:=base) cq c_39 b_39 c_9 b_9;have c_37:=Cal.mk o_37 (mg_of X G bR) k_37;have o_32:=qvs (P:=l.prog) (w:=w) (mg:=mg) (base:=base) gE n_tuple;have c_32:=Cal.mk o_32 (mg_of X G gB) k_32;have o_40:=qgf (P:=l.prog) (w:=w) (mg:=mg) (base:=base) cp c_32 b_32;have c_40:=Cal.mk o_40 (mg_of X G bQ) k_40;have o_36:=qkv (P:=l.prog) (w:=w) (mg:=mg) (base:=base) d4;have c_36:=Cal.mk o_36 (mg_of X G dP) k_36;have o_38:=qkx (P:=l.prog) (w:=w) (mg:=mg) (base:=base) gA aO dU c_3 b_3 c_1 b_1 c_31 b_31 c_37 b_37 c_40 b_40 c_36 b_36 n_dict g_MOST_WARES_SAID;have c_38:=Cal.mk o_38 (mg_of X G dN) k_38;have o_24:=qi0 (P:=l.prog) (w:=w) (mg:=mg) (base:=base) du c_38 kb_sayings aA ay az;have c_24:=Cal.mk o_24 (mg_of X G cO) k_24;have o_28:=qgj (P:=l.prog) (w:=w) (mg:=mg) (base:=base) c_19 b_19 n_sorted n_list n_tuple n_range fW hP_L hU_L B_L;have c_28:=Cal.mk o_28 (mg_of X G bq) k_28;have o_22:=qcu (P:=l.prog) (w:=w) (mg:=mg) (base:=base) bz n_int;have c_22:=Cal.mk o_22 (mg_of X G bt) k_22;have o_16:=qbo (P:=l.prog) (w:=w) (mg:=mg) (base:=base) bo c_22 b_22 n_range n_len;have c_16:=Cal.mk o_16 (mg_of X G aZ) k_16;have o_17:=qi2 (P:=l.prog) (w:=w) (mg:=mg) (base:=base) dy n_isinstance n_tuple n_bool n_int;have c_17:=Cal.mk o_17 (mg_of X G cQ) k_17;have o_27:=qgm (P:=l.prog) (w:=w) (mg:=mg) (base:=base) cu n_isinstance n_int n_bool;have c_27:=Cal.mk o_27 (mg_of X G bS) k_27;have o_26:=q9s (P:=l.prog) (w:=w) (mg:=mg) (base:=base) aQ c_27 b_27 n_isinstance n_tuple n_len;have c_26:=Cal.mk o_26 (mg_of X G aM) k_26;have o_12:=qe3 (P:=l.prog) (w:=w) (mg:=mg) (base:=base) bM;have c_12:=Cal.mk o_12 (mg_of X G bF) k_12;have o_25:=qgo (P:=l.prog) (w:=w) (mg:=mg) (base:=base) cw c_12 b_12;have c_25:=Cal.mk o_25 (mg_of X G bU) k_25;have o_14:=qgq (P:=l.prog) (w:=w) (mg:=mg) (base:=base) cA c_17 b_17 c_26 b_26 c_25 b_25 c_27 b_27 c_22 b_22 n_isinstance n_tuple n_len n_bool;have c_14:=Cal.mk o_14 (mg_of X G bY) k_14;exact qv3 (qvu (P:=l.prog) (w:=w) (mg:=mg) (base:=base) gF c_21 b_21 c_13 b_13 c_15 b_15 c_10 b_10 c_24 b_24 c_38 b_38 aA ay az c_28 b_28 c_19 b_19 c_16 b_16 c_11 b_11 c_14 b_14 n_isinstance n_tuple n_len) hm
end My
structure PySem.W.Fast:Prop where(tw18400514287096827137 tw7342200887176496997 tw17350173810193471008 tw2902697488137710441 tw12549611472874641382 tw7515122032188389760 tw16574292937992798753 tw11493344338907707908 tw14953110518788760925 tw10343883116170054179 tw8586193473038340005 tw2032487381340234311 tw5156491258946891446 tw2601054704666292990 tw18355211344949358309 tw3761008754663522871 tw2640167450087428879 tw17697054151178353710 tw10616202655721515876 tw989156753963731898 tw9638863059067704612 tw5956726301450646013 tw15725613979718052981 tw3105117752524021134 tw13566524614711250057 tw7202939429222021093 tw971652119427318573 tw14090532857286109218 tw17188706002696520667 tw12431108287681493271 tw17413665067578064592 tw334352635079971427 tw6601010857499242814 tw2335735557710640345 tw750734401099953354 tw12904352156004174104 tw14840757868982239568 tw12035489794057340751 tw14303600419169831214 tw16671182307269756741 tw7389488095089615826 tw1047508532654505360 tw12237211487524304264 tw3533583342813662469 tw920516491456300848 tw943288248772877731 tw7882196256604169536 tw9976659060347442403:True)
open PySem PySem.W PyProof.Rows
local macro_rules | `(tactic| walk_at "F")=> `(tactic| (letI:DL.Lam:=⟨[]⟩;exact DL.q9b (by k_is) (by k_is) (by k_is)))
set_option maxHeartbeats 0 in
theorem PySem.Challenge.cw_oftentogether_k32_sayings_are_so_holds : PySem.Challenge.rw_oftentogether_k32_sayings_are_so.Holds := by
 w_on;o_law;k_head;(case hw=>w_witness2)
 k_fill
 refine DL.qsq (l:=PySem.Challenge.rw_oftentogether_k32_sayings_are_so) (k:=7) (x:="_law_script") rfl rfl ⟨rfl,by decide,by decide⟩ (fun w h Y=>by first|exact PySem.W.kIn_of Y|exact PySem.W.km_in_of Y) ?F
 case F=>
  intro w mg fa h KX G hmg;refine' My.all_mk KX G hmg My.qqq ?cD ?cX ?cZ ?cY ?cW ?bG ?cV ?cU ?dh ?di ?df ?dc ?dg ?bx ?bh ?aU ?bf ?bw ?bg ?bV ?cx ?cR ?dz ?bu ?bA ?dR ?d6 ?cP ?dw ?bW ?cy ?bE ?bL ?bX ?cz ?bZ ?cB ?aG ?aJ ?cf ?cC ?fb ?fH ?cS ?dA ?cT ?dB ?dQ ?d5 ?eG ?eP ?aR ?aV ?aL ?aP ?fe ?fI ?a7 ?bp ?aK ?i_0 ?l_0 ?q_0 ?k_0 ?aS ?i_1 ?l_1 ?q_1 ?k_1 ?dM ?dZ ?eH ?eQ ?aB ?aC ?dS ?d7 ?ak ?ao ?bR ?cq ?gB ?gE ?bQ ?cp ?dP ?d4 ?dN ?l_38 ?q_38 ?k_38 ?bD ?cO ?du ?bq ?l_28 ?q_28 ?k_28 ?o_28 ?p_28 ?hh_28 ?nl_28 ?r_28 ?bt ?bz ?aZ ?bo ?cQ ?dy ?bS ?cu ?aM ?aQ ?bF ?bM ?bU ?cw ?bY ?cA ?gC ?gF ?z_len ?z_tuple ?z_range ?z_sum ?z_max ?z_isinstance ?z_int ?z_bool ?z_dict ?z_all ?z_sorted ?z_set ?z_any ?z_list ?y_MOST_WARES_SAID
  (case cD=>k_is)
  (case cX=>k_is)
  (case cZ=>k_is)
  (case cY=>k_is)
  (case cW=>k_is)
  (case bG=>k_is)
  (case cV=>k_is)
  (case cU=>k_is)
  (case dh=>k_is)
  (case di=>k_is)
  (case df=>k_is)
  (case dc=>k_is)
  (case dg=>k_is)
  (case bx=>k_is)
  (case bh=>k_is)
  (case aU=>k_is)
  (case bf=>k_is)
  (case bw=>k_is)
  (case bg=>k_is)
  (case bV=>k_is)
  (case cx=>walk_at "F")
  (case cR=>k_is)
  (case dz=>walk_at "F")
  (case bu=>k_is)
  (case bA=>walk_at "F")
  (case dR=>k_is)
  (case d6=>walk_at "F")
  (case cP=>k_is)
  (case dw=>walk_at "F")
  (case bW=>k_is)
  (case cy=>walk_at "F")
  (case bE=>k_is)
  (case bL=>walk_at "F")
  (case bX=>k_is)
  (case cz=>walk_at "F")
  (case bZ=>k_is)
  (case cB=>walk_at "F")
  (case aG=>k_is)
  (case aJ=>walk_at "F")
  (case cf=>k_is)
  (case cC=>walk_at "F")
  (case fb=>k_is)
  (case fH=>walk_at "F")
  (case cS=>k_is)
  (case dA=>walk_at "F")
  (case cT=>k_is)
  (case dB=>walk_at "F")
  (case dQ=>k_is)
  (case d5=>walk_at "F")
  (case eG=>k_is)
  (case eP=>walk_at "F")
  (case aR=>k_is)
  (case aV=>walk_at "F")
  (case aL=>k_is)
  (case aP=>walk_at "F")
  (case fe=>k_is)
  (case fI=>walk_at "F")
  (case a7=>k_is)
  (case bp=>walk_at "F")
  (case aK=>k_is)
  (case i_0=>k_is)
  (case l_0=>k_is)
  (case q_0=>k_is)
  (case k_0=>k_is)
  (case aS=>k_is)
  (case i_1=>k_is)
  (case l_1=>k_is)
  (case q_1=>k_is)
  (case k_1=>k_is)
  (case dM=>k_is)
  (case dZ=>walk_at "F")
  (case eH=>k_is)
  (case eQ=>walk_at "F")
  (case aB=>k_is)
  (case aC=>walk_at "F")
  (case dS=>k_is)
  (case d7=>walk_at "F")
  (case ak=>k_is)
  (case ao=>walk_at "F")
  (case bR=>k_is)
  (case cq=>walk_at "F")
  (case gB=>k_is)
  (case gE=>walk_at "F")
  (case bQ=>k_is)
  (case cp=>walk_at "F")
  (case dP=>k_is)
  (case d4=>walk_at "F")
  (case dN=>k_is)
  (case l_38=>k_is)
  (case q_38=>k_is)
  (case k_38=>k_is)
  (case bD=>k_is)
  (case cO=>k_is)
  (case du=>walk_at "F")
  (case bq=>k_is)
  (case l_28=>k_is)
  (case q_28=>k_is)
  (case k_28=>k_is)
  (case o_28=>k_is)
  (case p_28=>first|rfl|decide +kernel)
  (case hh_28=>first|rfl|decide +kernel)
  (case nl_28=>first|kernel_rfl|rfl)
  (case r_28=>first|rfl|decide +kernel)
  (case bt=>k_is)
  (case bz=>walk_at "F")
  (case aZ=>k_is)
  (case bo=>walk_at "F")
  (case cQ=>k_is)
  (case dy=>walk_at "F")
  (case bS=>k_is)
  (case cu=>walk_at "F")
  (case aM=>k_is)
  (case aQ=>walk_at "F")
  (case bF=>k_is)
  (case bM=>walk_at "F")
  (case bU=>k_is)
  (case cw=>walk_at "F")
  (case bY=>k_is)
  (case cA=>walk_at "F")
  (case gC=>k_is)
  (case gF=>walk_at "F")
  (case z_len=>k_is)
  (case z_tuple=>k_is)
  (case z_range=>k_is)
  (case z_sum=>k_is)
  (case z_max=>k_is)
  (case z_isinstance=>k_is)
  (case z_int=>k_is)
  (case z_bool=>k_is)
  (case z_dict=>k_is)
  (case z_all=>k_is)
  (case z_sorted=>k_is)
  (case z_set=>k_is)
  (case z_any=>k_is)
  (case z_list=>k_is)
  (case y_MOST_WARES_SAID=>k_is)
