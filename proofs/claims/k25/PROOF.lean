import PyProof.Rows.All
import Wide.All
import OpenK.AllK
import Wide.FinOn
import Lean
import PyProof.EqAt
import PyProof.EqKinds
import PyProof.TupleCall
import PyProof.NeKinds
import PyProof.Rows.SortRuns
import PyProof.Rows.SortShell
import KE.KSortTup
import KE.KLam
import KE.KNestM
import PySem.SetOps
import PyProof.SetKind
import PyProof.DictKinds
import PyProof.DictStraight
import PyProof.FactsAll.set_0
import PyProof.FactsAll.set_1
import PyProof.FactsAll.set_2
import PyProof.FactsAll.set_3
import PyProof.Slots
import PyProof.Rows.SetFrom
import PyProof.TupleIter
import PyProof.Walks
import PyProof.CollectWalk
import PyProof.CollectIter
import PyProof.IsiH_list
import PyProof.AttrMiss
import KE.KDictOf
import KE.KDictList
import PyProof.DictRoadsH
import PyProof.AutoSeq1
import PyProof.TupleOfGen
import KE.KRevIter
import PyProof.ListNew
import PyProof.IsiH_tuple
import PySem.Challenge.RW_oftentogether_k25_whole_borders
set_option maxRecDepth 100000
set_option maxHeartbeats 4000000
set_option Elab.async false
set_option linter.all false
abbrev g0:=@PySem.wpAny_bind
abbrev g9:=@PySem.wpAny_pure
abbrev gc:=@PySem.Heap.get?_push_of_some
abbrev gd:=@Option.bind_eq_some_iff
abbrev gf:=@List.map_cons
abbrev gh:=@Nat.lt_of_lt_of_le
abbrev gj:=@PySem.Heap.get?_push_size
abbrev gm:=@List.size_toArray
abbrev gq:=@List.mem_cons_self
abbrev gr:=@Bool.false_eq_true
abbrev gu:=@List.mem_cons_of_mem
abbrev gv:=@Nat.le_refl
abbrev gw:=@PyProof.Rows.wpS_bind
abbrev gz:=@PySem.Heap.lt_size
abbrev m4:=@Option.bind_some
abbrev m5:=@Bool.false_ne_true
abbrev m6:=@List.getElem?_set_ne
abbrev m8:=@Bool.and_eq_true
abbrev m9:=@Nat.ne_of_lt
abbrev ma:=@Option.some.inj
abbrev md:=@Nat.le_trans
abbrev mf:=@List.mem_cons
abbrev mh:=@if_pos
abbrev mi:=@if_neg
abbrev mj:=@Option.map_eq_some_iff
abbrev ml:=@PyProof.Rows.wpS_pure
abbrev mm:=@List.append_assoc
abbrev mn:=@List.length_map
abbrev mq:=@decide_eq_true
abbrev mr:=@List.getElem?_map
abbrev mv:=@List.mem_singleton
abbrev mw:=@List.mem_filter
abbrev mx:=@List.all_eq_true
abbrev my:=@List.getElem?_eq_getElem
abbrev n8:=@List.mem_append_right
abbrev n9:=@Ne.symm
abbrev ng:=@Array.length_toList
abbrev nh:=@List.length_filter_le
abbrev ni:=@List.map_map
abbrev nj:=@if_true
abbrev nk:=@decide_eq_false
abbrev nt:=@List.mem_append
abbrev nu:=@List.getElem?_eq_some_iff
abbrev nv:=@List.pairwise_append
abbrev ny:=@List.mem_map
abbrev nz:=@List.take_append_drop
abbrev p0:=@Int.toNat_natCast
abbrev p5:=@decide_eq_true_eq
abbrev p6:=@Option.map_some
abbrev p7:=@PySem.Heap.size_push
abbrev p8:=@if_false
abbrev p9:=@PySem.wpAny_call_entry
abbrev pb:=@List.filter_cons
abbrev pd:=@Bool.eq_iff_iff
abbrev pf:=@List.length_append
abbrev ph:=@Nat.not_lt_zero
abbrev pj:=@Array.toList_append
abbrev pk:=@List.length_take
abbrev pz:=@List.length_cons
abbrev t5:=@List.take_succ_eq_append_getElem
abbrev t6:=@List.drop_eq_getElem_cons
abbrev t7:=@PySem.wpAny_holding
abbrev t9:=@List.lookup_cons
abbrev td:=@PySem.wpAny_ite_split
abbrev tf:=@of_decide_eq_true
abbrev tm:=@PySem.wpAny_callSpecial?_slot
abbrev tq:=@List.getElem?_append_left
abbrev tu:=@Nat.lt_succ_self
abbrev tw:=@List.mem_iff_getElem
abbrev tx:=@PyProof.Rows.wpS_mono
abbrev u0:=@PySem.wpAny_mono
abbrev u6:=@List.perm_append_comm
abbrev u9:=@Array.getElem?_toList
abbrev uc:=@PySem.Heap.SameBut.update
abbrev ud:=@List.getElem?_append_right
abbrev ue:=@PySem.wpAny_askSetting
abbrev uf:=@List.any_eq_true
abbrev ug:=@decide_eq_false_iff_not
abbrev uh:=@Nat.ne_of_gt
abbrev ui:=@PySem.wpAny_newObj_type
abbrev uj:=@Nat.zero_le
abbrev uk:=@List.mem_range
abbrev um:=@PySem.PassesOwn.never
abbrev uo:=@List.length_drop
abbrev uq:=@List.not_mem_nil
abbrev ur:=@PyProof.Rows.wpS_forRange
abbrev uw:=@List.Perm.append_left
abbrev ux:=@ite_congr
abbrev uy:=@PyProof.Rows.slot_tuple_getitem
abbrev uz:=@congrArg
abbrev g00:=@List.mem_of_getElem?
abbrev g01:=@PySem.wpAny_rule
abbrev g02:=@PySem.Around.under_plainId
abbrev g03:=@List.take_of_length_le
abbrev g04:=@PySem.Heap.size_update
abbrev g05:=@PySem.Heap.get?_update_ne
abbrev g06:=@PySem.AutoSeq1.wpAny_loadPart'
abbrev g07:=@PySem.builtinLookup_eq_fast
abbrev g08:=@PySem.wpAny_field
abbrev g09:=@PySem.codeAny_builtin
abbrev g0a:=@List.map_append
abbrev g0b:=@PyProof.Rows.callWith_type1
abbrev g0c:=@List.Pairwise.filter
abbrev g0d:=@Nat.lt_irrefl
abbrev g0e:=@PySem.wpAny_seqItems
abbrev g0f:=@PySem.Heap.get?_update_self
abbrev g0g:=@PySem.wpAny_typeNameOfWhole_keyiter
abbrev g0h:=@Array.toList_extract
abbrev g0i:=@PySem.F.slot_dict_keyiterator_next
abbrev g0j:=@List.getElem?_replicate
abbrev g0k:=@PySem.Heap.get?_push_ne
abbrev g0l:=@List.nil_append
abbrev g0m:=@PySem.Heap.get?_update_other
abbrev g0n:=@PySem.wpAny_attempt
abbrev g0o:=@Bool.not_true
abbrev g0p:=@List.nodup_cons
abbrev g0q:=@Option.isSome_iff_exists
abbrev g0r:=@PySem.wpAny_typeOf
abbrev g0s:=@List.map_nil
abbrev g0t:=@List.length_set
abbrev g0u:=@List.mem_of_mem_take
abbrev g0v:=@PyProof.Rows.size_push'
abbrev g0w:=@PySem.typeLookup_type
abbrev g0x:=@PySem.wpAny_typeNameOf_keyiter
abbrev g0y:=@Nat.le_of_succ_le
abbrev g0z:=@List.filter_congr
abbrev g10:=@List.flatMap_cons
abbrev g11:=@PySem.plainId_quiet
abbrev g12:=@List.filterMap_cons
abbrev g13:=@List.replicate_succ
abbrev g14:=@PySem.wpAny_Call_Name_kw
abbrev g15:=@List.all_map
abbrev g16:=@PySem.wpAny_setField_rec
abbrev g17:=@List.pairwise_cons
abbrev g18:=@PyProof.Rows.F.plain_set_update_loop
abbrev g19:=@Int.emod_lt_of_pos
abbrev g1a:=@List.filter_filter
abbrev g1b:=@PySem.wpAny_passesOwn
abbrev g1c:=@Bool.or_eq_true
abbrev g1d:=@PySem.wpAny_isOneOf_keyiter
abbrev g1e:=@Int.emod_nonneg
abbrev g1f:=@PySem.F.slot_tuple_iterator_next
abbrev g1g:=@Array.perm_iff_toList_perm
abbrev g1h:=@PySem.wpAny_truthy_bool
abbrev g1i:=@Bool.not_eq_true'
abbrev g1j:=@Nat.lt_succ_of_lt
abbrev g1k:=@List.pairwise_map
abbrev g1l:=@Classical.byContradiction
abbrev g1m:=@PySem.isSubtype_type
abbrev g1n:=@PySem.wpAny_isInstance
abbrev g1o:=@or_false
abbrev g1p:=@PySem.AutoSeq1.sub_tuple_tuple
abbrev g1q:=@getElem?_pos
abbrev g1r:=@List.nodup_range
abbrev g1s:=@PySem.F.called_set
abbrev g1t:=@PySem.mem_of_lookup
abbrev g1u:=@List.forIn_cons
abbrev g1v:=@PyProof.Rows.get?_update_seq
abbrev g1w:=@List.length_nil
abbrev g1x:=@Nat.le_succ
abbrev g1y:=@List.range_succ_eq_map
abbrev g1z:=@List.getElem_cons_succ
abbrev g20:=@PySem.Heap.SameBut.refl
abbrev g21:=@PySem.wpAny_pyIter_list
abbrev g22:=@List.flatten_cons
abbrev g23:=@List.reverse_cons
abbrev g24:=@PySem.wpAny_storeSet_of
abbrev g25:=@List.cons.sizeOf_spec
abbrev g26:=@Bool.not_false
abbrev g27:=@List.mem_append_left
abbrev g28:=@PySem.codeAny_call_builtin
abbrev g29:=@PySem.F.slot_tuple_mul
abbrev g2a:=@Nat.le_add_right
abbrev g2b:=@decide_eq_decide
abbrev g2c:=@List.any_cons
abbrev g2d:=@Bool.and_true
abbrev g2e:=@PySem.sizeLine_eq
abbrev g2f:=@Int.toNat_of_nonneg
abbrev g2g:=@List.mem_map_of_mem
abbrev g2h:=@List.length_reverse
abbrev g2i:=@List.map_congr_left
abbrev g2j:=@List.append_nil
abbrev g2k:=@List.of_mem_zip
abbrev g2l:=@PySem.wpAny_loadPart'
abbrev g2m:=@List.length_zip
abbrev g2n:=@Array.getElem?_eq_getElem
abbrev g2o:=@PySem.F.slot_tuple_getattribute
abbrev g2p:=@PySem.codeAny_mono
abbrev g2q:=@List.getElem?_take_of_lt
abbrev g2r:=@PySem.F.args_tuple_add_2
abbrev g2s:=@List.filterMap_map
abbrev g2t:=@PySem.wpAny_pyIter_tuple
abbrev g2u:=@PySem.Obj.data_mapFields
abbrev g2v:=@Bool.not_eq_false'
abbrev g2w:=@List.Pairwise.drop
abbrev g2x:=@List.Pairwise.take
abbrev g2y:=@List.Pairwise.imp_of_mem
abbrev g2z:=@PyProof.Rows.F.entry_set_update_loop
abbrev g30:=@PySem.F.slot_list_getattribute
abbrev g31:=@beq_iff_eq
abbrev g32:=@List.forIn_nil
abbrev g33:=@PySem.wpAny_setField
abbrev g34:=@PyProof.Rows.wpS_get
abbrev g35:=@PySem.F.entry_tuple_add
abbrev g36:=@List.pairwise_singleton
abbrev g37:=@List.eraseIdx_cons_succ
abbrev g38:=@List.getElem?_cons_succ
abbrev g39:=@List.getElem?_cons_zero
abbrev g3a:=@Option.some.injEq
abbrev g3b:=@PySem.wpAny_setState_of
abbrev g3c:=@PySem.W.cellsFrom_some
abbrev g3d:=@PySem.F.slot_tuple_add
abbrev g3e:=@List.all_cons
abbrev g3f:=@Bool.false_or
abbrev g3g:=@Option.join_some
abbrev g3h:=@List.mem_reverse
abbrev g3i:=@List.cons_append
abbrev g3j:=@List.getElem_mem
abbrev g3k:=@List.length_singleton
abbrev g3l:=@List.getElem?_eq_none
abbrev g3m:=@PySem.wpAny_notOrdered_dict
abbrev g3n:=@PySem.wpAny_execs_nil
abbrev g3o:=@PySem.wpAny_call
abbrev g3p:=@PySem.call_meets
abbrev g3q:=@PySem.wpAny_updateSeq_pair
abbrev g3r:=@PySem.F.slot_zip_next
abbrev g3s:=@PySem.wpAny_ite_false
abbrev g3t:=@PyProof.Rows.wpS_modify
abbrev g3u:=@List.mem_of_mem_drop
abbrev g3v:=@Array.getElem_toList
abbrev g3w:=@Array.toList_reverse
abbrev g3x:=@PySem.wpAny_updateSeq
abbrev g3y:=@PySem.intKind_is
abbrev g3z:=@PySem.F.args_dict_keyiterator_next_1
abbrev g40:=@List.eq_nil_of_length_eq_zero
abbrev g41:=@PySem.F.entry_dict_keyiterator_next
abbrev g42:=@beq_eq_false_iff_ne
abbrev g43:=@Bool.false_and
abbrev g44:=@List.drop_zero
abbrev g45:=@PySem.F.args_tuple_iterator_next_1
abbrev g46:=@List.Perm.refl
abbrev g47:=@List.drop_drop
abbrev g48:=@List.take_succ
abbrev g49:=@PySem.wpAny_fieldsOf
abbrev g4a:=@PySem.wpAny_letGo
abbrev g4b:=@List.mem_filterMap
abbrev g4c:=@Int.natCast_nonneg
abbrev g4d:=@List.lookup_append
abbrev g4e:=@PySem.F.attrBase_ValueError
abbrev g4f:=@PySem.F.entry_tuple_iterator_next
abbrev g4g:=@PySem.F.args_tuple_mul_2
abbrev g4h:=@decide_eq_true_iff
abbrev g4i:=@PySem.Paired.length
abbrev g4j:=@Int.fdiv_eq_ediv_of_nonneg
abbrev g4k:=@PySem.mem_of_lookup
abbrev g4l:=@PySem.wpAny_handled
abbrev g4m:=@PySem.wpAny_onRaise
abbrev g4n:=@Array.toList_setIfInBounds
abbrev g4o:=@List.zip_map'
abbrev g4p:=@List.perm_ext_iff_of_nodup
abbrev g4q:=@Bool.and_self
abbrev g4r:=@List.getElem?_set
abbrev g4s:=@PySem.F.entry_tuple_mul
abbrev g4t:=@Function.comp_def
abbrev g4u:=@PySem.wpAny_pyIter_slot
abbrev g4v:=@PySem.wpAny_dictEntries
abbrev g4w:=@List.pairwise_iff_getElem
abbrev g4x:=@List.getElem_append_right
abbrev g4y:=@List.findIdx?_eq_none_iff
abbrev g4z:=@Nat.le_of_lt
abbrev g50:=@List.getElem_inj
abbrev g51:=@PySem.concat_meets
abbrev g52:=@PySem.noFill_tuple_add
abbrev g53:=@List.drop_length
abbrev g54:=@List.take_length
abbrev g55:=@Nat.min_self
abbrev g56:=@List.zipIdx_cons
abbrev g57:=@PySem.AutoSeq1.idx_int
abbrev g58:=@List.getElem_append_left
abbrev g59:=@Nat.min_eq_right
abbrev g5a:=@decide_false
abbrev g5b:=@Nat.and_comm
abbrev g5c:=@PySem.F.plainAttrs_list
abbrev g5d:=@List.length_eq_zero_iff
abbrev g5e:=@PySem.SeqAt.EqAt.same
abbrev g5f:=@PySem.pushCells_keeps
abbrev g5g:=@PySem.W.kia_one
abbrev g5h:=@List.foldl_cons
abbrev g5i:=@PySem.wpAny_specialOf
abbrev g5j:=@PySem.wpAny_dictEpoch
abbrev g5k:=@Nat.min_eq_left
abbrev g5l:=@Nat.two_pow_pos
abbrev g5m:=@List.getElem?_set_self
abbrev g5n:=@PySem.wpAny_of_eq
abbrev g5o:=@List.sum_replicate_nat
abbrev g5p:=@List.drop_of_length_le
abbrev g5q:=@List.getElem_cons_zero
abbrev g5r:=@List.length_pos_of_mem
abbrev g5s:=@List.pairwise_lt_range
abbrev g5t:=@Array.getElem?_eq_none
abbrev g5u:=@decide_true
abbrev g5v:=@List.length_replicate
abbrev g5w:=@List.mem_iff_getElem?
abbrev g5x:=@not_or
abbrev g5y:=@Bool.and_eq_false_iff
abbrev g5z:=@Option.some_or
abbrev g60:=@Nat.not_lt
abbrev g61:=@Bool.true_and
abbrev g62:=@List.map_drop
abbrev g63:=@Bool.and_comm
abbrev g64:=@List.sum_cons
abbrev g65:=@Nat.le_of_eq
abbrev g66:=@Nat.lt_or_ge
abbrev g67:=@Int.zero_add
namespace L2
open PySem PySem.Spec PyProof.Rows
abbrev Key:=Sum Int Str
def qos:Key->Value->Bool
 | .inl k,v=>Value.isInt k v
 | .inr x,v=>Value.isStrOf x v
def qv8(w:World): Key->Int
 | .inl k=>hashInt k
 | .inr x=>hashStr w x
theorem xg:∀ {k:Key} {v:Value},qos k v=true->(∃i t,k=Sum.inl i/\v=Value.int i t)\/(∃x t,k=Sum.inr x/\v=Value.str x t)
 | .inl i,v,h=>by
  obtain⟨t,e⟩:=Value.isInt_shape (k:=i) (v:=v) h;exact .inl ⟨i,t,rfl,e⟩
 | .inr x,v,h=>by
  obtain⟨t,e⟩:=Value.isStrOf_shape (x:=x) (v:=v) h;exact .inr ⟨x,t,rfl,e⟩
theorem qrm(a b:Int): decide ((Sum.inl a:Key)=Sum.inl b)=(a==b):=by
 by_cases e:a=b
 ·subst e;simp
 ·have h:¬(Sum.inl a:Key)=Sum.inl b:=fun q=>e (Sum.inl.inj q)
  rw [nk h];exact(g42.mpr e).symm
theorem qrn(a b:Str): decide ((Sum.inr a:Key)=Sum.inr b)=decide (a=b):=by
 by_cases e:a=b
 ·subst e;simp
 ·have h:¬(Sum.inr a:Key)=Sum.inr b:=fun q=>e (Sum.inr.inj q)
  rw [nk h,nk e]
theorem qro(a:Int)(b:Str): decide ((Sum.inl a:Key)=Sum.inr b)=false:=nk (fun q=>nomatch q)
theorem qrp(a:Str)(b:Int): decide ((Sum.inr a:Key)=Sum.inl b)=false:=nk (fun q=>nomatch q)
def mixKind(prog:Program)(w:World): PySem.KeyKind prog w Key where
 is:=qos
 hash:=qv8 w
 inj:=fun v a b ha hb=>by
  rcases xg ha with⟨i,t,rfl,rfl⟩|⟨x,t,rfl,rfl⟩
  ·rcases xg hb with⟨j,u,rfl,e⟩|⟨y,u,rfl,e⟩
   ·injection e with e1 _;rw [e1]
   ·exact nomatch e
  ·rcases xg hb with⟨j,u,rfl,e⟩|⟨y,u,rfl,e⟩
   ·exact nomatch e
   ·injection e with e1 _;rw [e1]
 byValue:=fun k v h=>by
  rcases xg h with⟨i,t,rfl,rfl⟩|⟨x,t,rfl,rfl⟩ <;> rfl
 pyHash:=fun hv h=>by
  rcases xg hv with⟨i,t,rfl,rfl⟩|⟨x,t,rfl,rfl⟩
  ·exact wpAny_pyHash_int h
  ·exact wpAny_pyHash_str h
 eqBool:=fun hu hv h=>by
  rcases xg hu with⟨i,t,rfl,rfl⟩|⟨x,t,rfl,rfl⟩
  ·rcases xg hv with⟨j,u,rfl,rfl⟩|⟨y,u,rfl,rfl⟩
   ·rw [qrm] at h;exact wpAny_eqBool_int h
   ·rw [qro] at h;exact SeqAt.EqAt.int_str i t y u _ _ _ _ h
  ·rcases xg hv with⟨j,u,rfl,rfl⟩|⟨y,u,rfl,rfl⟩
   ·rw [qrp] at h;exact SeqAt.EqAt.str_int x t j u _ _ _ _ h
   ·rw [qrn] at h;exact wpAny_eqBool_str h
 «strs» :=fun k x t v h=>by
  rcases xg h with⟨i,u,rfl,e⟩|⟨y,u,rfl,e⟩
  ·exact nomatch e
  ·injection e with e1 _
   subst e1;cases v <;> rfl
inductive V where
 | non|bl (b:Bool)|int (i:Int)|str (x:Str)|byt (b:Array UInt8)|flt (b:UInt64)|ref (a:Addr)|ty (n:String)
 deriving DecidableEq
def RelV:V->Value->Prop
 | .non,u=>u=Value.none
 | .bl b,u=>u=Value.bool b
 | .int i,u=>∃t,u=Value.int i t
 | .str x,u=>∃t,u=Value.str x t
 | .byt b,u=>∃t,u=Value.bytes b t
 | .flt b,u=>∃t,u=Value.float b t
 | .ref a,u=>u=Value.ref a
 | .ty n,u=>u=Value.type n
abbrev Vals:List V->List Value->Prop:=Paired RelV
theorem Vals.length{xs:List V}{us:List Value}(r:Vals xs us): xs.length=us.length:=g4i r
theorem Vals.get:∀ {xs:List V} {us:List Value} {i:Nat} {x:V},Vals xs us->xs[i]? = some x->∃u,us[i]? = some u/\RelV x u
 | _,_,_,_,.nil,e=>by simp at e
 | _,_,0,_,.cons r _,e=>by simp at e;subst e;exact⟨_,rfl,r⟩
 | _,_,i+1,x,.cons _ t,e=>by
  obtain⟨u,h1,h2⟩:=Vals.get (i:=i) (x:=x) t (by simpa using e);exact⟨u,by simpa using h1,h2⟩
theorem Vals.append:∀ {xs ys:List V} {us ws:List Value},Vals xs us->Vals ys ws->Vals (xs++ys) (us++ws)
 | _,_,_,_,.nil,s=>s
 | _,_,_,_,.cons r t,s=>.cons r (Vals.append t s)
theorem Vals.take:∀ {xs:List V} {us:List Value} (n:Nat),Vals xs us->Vals (xs.take n) (us.take n)
 | _,_,0,_=>.nil
 | _,_,_+1,.nil=>.nil
 | _,_,n+1,.cons r t=>.cons r (Vals.take n t)
theorem Vals.drop:∀ {xs:List V} {us:List Value} (n:Nat),Vals xs us->Vals (xs.drop n) (us.drop n)
 | _,_,0,r=>r
 | _,_,_+1,.nil=>.nil
 | _,_,n+1,.cons _ t=>Vals.drop n t
def RelO:Option V->Option Value->Prop
 | some v,some u=>RelV v u
 | none,none=>True
 | _,_=>False
def KV{κ : Type}: List (κ × V)->List (κ × Value)->Prop:=Paired fun(p : κ × V) (q : κ × Value)=>p.1=q.1/\RelV p.2 q.2
def kV:Key->V
 | .inl i=>.int i
 | .inr x=>.str x
inductive HO where
 /-- a list -/
 | lst (xs:List V)
 /-- a tuple (never changes) -/
 | tup (xs:List V)
 /-- a dict whose keys are ints and texts; one whose keys are tuples of ints and texts (the empty one is both) -/
 | dK (kvs:List (Key×V))|dT (kvs:List (List Key×V))
 /-- a set of ints: its members, its size -/
 | set (S:Int->Bool) (n:Nat)
 /-- an instance of the class at C, its dict at dx, its attributes -/
 | ins (C dx:Addr) (fs:List (Str×V))
 /-- the dict of the instance at x -/
 | own (x:Addr)
 /-- the dict of an exception -/
 | xd (fs:List (Str×V))
 /-- a bound method, f of x -/
 | met (f x:Addr)
 /-- a range object lo, lo + 1, .. below hi -/
 | rng (lo hi:Int)
 /-- a thing that is known to the object (the script; a dict while a loop walks it): read, never written while it is so -/
 | frz (o:Obj) (u:HO)
 /-- a code object's table -/
 | tbl (ps:Array Value)
 /-- any other thing, by what is true of its one object (a def of one's own: SetO a S n := HO.ext fun h => ..) -/
 | ext (φ : Heap->Prop)
abbrev Hp:=Addr->Option HO
def upd(H:Hp)(a:Addr)(o:HO): Hp:=fun b=>if b=a then some o else H b
theorem qz{H:Hp}{a:Addr}{o:HO}: upd H a o a=some o:=by unfold upd;rw [mh rfl]
theorem qo{H:Hp}{a b:Addr}{o:HO}(h:b≠a): upd H a o b=H b:=by unfold upd;rw [mi h]
theorem jt{H:Hp}{a b:Addr}{o:HO}(h:H a=some o)(h':H b=none): a≠b:=by
 intro e;subst e;rw [h] at h';cases h'
def TupX(h:Heap)(a:Addr)(items:Array Value): Prop:=∃o,h.get? a=some o/\o.cls=.type "tuple" /\ o.dict=none/\∃n,o.data=.seq items n
theorem TupX.up{h:Heap}{a:Addr}{items:Array Value}(p:TupX h a items): IsTup h a items:=let⟨o,x,y,_,z⟩:=p; ⟨o,x,y,z⟩
theorem TupX.new(h:Heap)(items:Array Value): TupX (h.push {cls:=.type "tuple",data:=.seq items}) h.objs.size items:=⟨_,gj _ rfl,rfl,rfl,_,rfl⟩
section
variable(P:Program)(w:World)
def ObjOk(H:Hp)(h:Heap)(a:Addr): HO->Prop
 | .lst xs=>xs.length<=sizeLine/\∃(its:List Value) (n:Nat),Vals xs its/\h.get? a=some {cls:=.type "list",data:=.seq its.toArray n}
 | .tup xs=>xs.length<=sizeLine/\∃its:List Value,Vals xs its/\TupX h a its.toArray
 | .dK kvs=>kvs.length<=sizeLine/\(a==sysModules)=false/\∃vs,KV kvs vs/\h.DictOf (mixKind P w) a vs
 | .dT kvs=>kvs.length<=sizeLine/\(a==sysModules)=false/\∃xs:List (List Key×Addr×Value),
   Paired (fun(p:List Key×V) (q:List Key×Addr×Value)=>p.1=q.1/\H q.2.1=some (.tup (p.1.map kV))/\RelV p.2 q.2.2) kvs xs /\
   ∃o es ep,h.get? a=some o/\o.ExactDict/\o.data=.dict es ep/\es.toList=xs.map (entryOfKey (tupleKind (mixKind P w)))/\(xs.map (·.1)).Nodup
 | .set S n=>h.SetOf (intKind P w) a S n
 | .ins C dx fs=>H dx=some (.own a)/\fs.length<=1000/\dx≠a/\h.get? a=some (PySem.W.instObj C dx) /\
   ∃mA,h.Ns1 dx mA/\(∀f,RelO (fs.lookup f) (mA f))/\PySem.Within mA (fs.map (·.1))
 | .own _=>∃o,h.get? a=some o
 | .xd fs=>∃mA,h.Ns1 a mA/\∀f,RelO (fs.lookup f) (mA f)
 | .rng lo hi=>∃t u v,h.get? a=some {cls:=.type "range",data:=.fields #[.int lo t,.int hi u,.int 1 v]}
 | .frz o u=>h.get? a=some o/\ObjOk H h a u
 | .tbl ps=>h.get? a=some {cls:=.none,data:=.fields ps}
 | .met f x=>h.get? a=some (PySem.W.methodObj (.ref f) (.ref x))
 | .ext φ => φ h/\(∃o,h.get? a=some o)/\∀h1 h2:Heap, φ h1->(∀o,h1.get? a=some o->h2.get? a=some o) -> φ h2
def HOk(H:Hp)(h:Heap): Prop:=∀a o,H a=some o->ObjOk P w H h a o
end
section
variable{P:Program}{w:World}{H H':Hp}{h h':Heap}{a:Addr}{o:HO}
theorem ObjOk.lt(x:ObjOk P w H h a o): a<h.objs.size:=by
 cases o with
 | lst xs=>obtain⟨_,_,_,_,e⟩:=x;exact gz e
 | tup xs=>obtain⟨_,_,_,p⟩:=x;exact p.up.lt
 | dK kvs=>obtain⟨_,_,_,_,o,_,_,e,_⟩:=x;exact gz e
 | dT kvs=>obtain⟨_,_,_,_,o,_,_,e,_⟩:=x;exact gz e
 | set S n=>obtain⟨o,_,_,_,e,_⟩:=x;exact gz e
 | ins C dx fs=>obtain⟨_,_,_,e,_⟩:=x;exact gz e
 | own y=>obtain⟨_,e⟩:=x;exact gz e
 | xd fs=>obtain⟨_,⟨_,_,_,e,_⟩,_⟩:=x;exact gz e
 | rng lo hi=>obtain⟨_,_,_,e⟩:=x;exact gz e
 | frz ob u=>obtain⟨e,_⟩:=x;exact gz e
 | tbl ps=>exact gz (show h.get? a=some _ from x)
 | met f y=>exact gz (show h.get? a=some _ from x)
 | ext φ =>obtain⟨_,⟨_,e⟩,_⟩:=x;exact gz e
theorem Paired.mapP{α β : Type}{F G : α -> β -> Prop}: ∀ {l₁:List α} {l₂:List β},Paired F l₁ l₂->(∀a b,F a b->G a b)->Paired G l₁ l₂
 | _,_,.nil,_=>.nil
 | _,_,.cons r t,f=>.cons (f _ _ r) (Paired.mapP t f)
theorem ObjOk.stay(x:ObjOk P w H h a o)(k:∀b u,(b=a\/H b=some (.own a))->h.get? b=some u->h'.get? b=some u)
  (ho:∀b,H b=some (.own a)->H' b=some (.own a)) (ht:∀b xs,H b=some (.tup xs)->H' b=some (.tup xs)):ObjOk P w H' h' a o:=by
 induction o with
 | lst xs=>obtain⟨z,its,n,r,e⟩:=x;exact⟨z,its,n,r,k _ _ (.inl rfl) e⟩
 | tup xs=>obtain⟨z,its,r,ob,e,c⟩:=x;exact⟨z,its,r,ob,k _ _ (.inl rfl) e,c⟩
 | dK kvs=>obtain⟨z,y,vs,r,ob,es,ep,e,c⟩:=x;exact⟨z,y,vs,r,ob,es,ep,k _ _ (.inl rfl) e,c⟩
 | dT kvs=>
  obtain⟨z,y,xs,r,ob,es,ep,e,c⟩:=x;exact⟨z,y,xs,Paired.mapP r fun p q z=>⟨z.1,ht _ _ z.2.1,z.2.2⟩,ob,es,ep,k _ _ (.inl rfl) e,c⟩
 | set S n=>obtain⟨ob,es,ep,t,e,c⟩:=x;exact⟨ob,es,ep,t,k _ _ (.inl rfl) e,c⟩
 | ins C dx fs=>
  obtain⟨d,z,ne,e,mA,⟨od,es,ep,e2,c⟩,r⟩:=x;exact⟨ho _ d,z,ne,k _ _ (.inl rfl) e,mA,⟨od,es,ep,k _ _ (.inr d) e2,c⟩,r⟩
 | own y=>obtain⟨ob,e⟩:=x;exact⟨ob,k _ _ (.inl rfl) e⟩
 | xd fs=>obtain⟨mA,⟨od,es,ep,e,c⟩,r⟩:=x;exact⟨mA,⟨od,es,ep,k _ _ (.inl rfl) e,c⟩,r⟩
 | rng lo hi=>obtain⟨t,u,v,e⟩:=x;exact⟨t,u,v,k _ _ (.inl rfl) e⟩
 | frz ob u ih=>obtain⟨e,q⟩:=x;exact⟨k _ _ (.inl rfl) e,ih q⟩
 | tbl ps=>
  have e:h.get? a=some {cls:=.none,data:=.fields ps}:=x;show h'.get? a=some {cls:=.none,data:=.fields ps};exact k a _ (.inl rfl) e
 | met f y=>
  have e:h.get? a=some (PySem.W.methodObj (.ref f) (.ref y)):=x;show h'.get? a=some (PySem.W.methodObj (.ref f) (.ref y));exact k a _ (.inl rfl) e
 | ext φ =>obtain⟨p,⟨o,e⟩,st⟩:=x;exact⟨st _ _ p fun o q=>k _ _ (.inl rfl) q,⟨o,k _ _ (.inl rfl) e⟩,st⟩
theorem HOk.lt(x:HOk P w H h)(e:H a=some o): a<h.objs.size:=(x a o e).lt
theorem HOk.fresh(x:HOk P w H h)(e:h.objs.size<=a): H a=none:=by
 cases q:H a with
 | none=>rfl
 | some u=>exact absurd (gh (x.lt q) e) (g0d _)
theorem HOk.kept(x:HOk P w H h)(k:∀b u,h.get? b=some u->h'.get? b=some u): HOk P w H h':=fun a o e=>
 (x a o e).stay (fun b u _ q=>k b u q) (fun _ q=>q) fun _ _ q=>q
theorem HOk.laid(x:HOk P w H h)(k:∀b u,h.get? b=some u->h'.get? b=some u)(hp:h.objs.size<=a)(new:ObjOk P w (upd H a o) h' a o): HOk P w (upd H a o) h':=fun b u e=>by
 have hn:=x.fresh hp
 by_cases hb:b=a
 ·subst hb;rw [qz] at e;cases e;exact new
 ·rw [qo hb] at e
  exact(x b u e).stay (fun c v _ q=>k c v q) (fun c q=>by rw [qo (jt q hn)];exact q) fun c xs q=>by rw [qo (jt q hn)];exact q
end
def Rd(H:Hp)(a:Addr)(u:HO): Prop:=H a=some u\/∃o,H a=some (.frz o u)
theorem Rd.ok{P:Program}{w:World}{H:Hp}{h:Heap}{a:Addr}{u:HO}(r:Rd H a u)(x:HOk P w H h): ObjOk P w H h a u:=by
 rcases r with r|⟨o,r⟩
 ·exact x a u r
 ·obtain⟨_,q⟩:=x a _ r
  exact q
def Mut:Option HO->Prop
 | some (.lst _)=>True
 | some (.dK _)=>True
 | some (.dT _)=>True
 | some (.set _ _)=>True
 | some (.ins _ _ _)=>True
 | some (.ext _)=>True
 | _=>False
section
variable{P:Program}{w:World}{H:Hp}{h h':Heap}{x e:Addr}{o':HO}
theorem HOk.write(ok:HOk P w H h)(mu:Mut (H x))(he:e=x\/H e=some (.own x))(k:∀b u,b≠e->h.get? b=some u->h'.get? b=some u)(heo:∃u,h'.get? e=some u)
  (new:ObjOk P w (upd H x o') h' x o'):HOk P w (upd H x o') h':=fun b u q=>by
 have nown:∀c y,H c=some (.own y)->c≠x:=fun c y r z=>by subst z;rw [r] at mu;exact mu
 have ntup:∀c xs,H c=some (.tup xs)->c≠x:=fun c xs r z=>by subst z;rw [r] at mu;exact mu
 by_cases hb:b=x
 ·subst hb;rw [qz] at q;cases q;exact new
 ·rw [qo hb] at q
  by_cases hbe:b=e
  ·have q':H b=some (.own x):=by
    rcases he with z|z
    ·exact absurd (hbe.trans z) hb
    ·rw [hbe];exact z
   rw [q] at q';cases q';obtain⟨v,hv⟩:=heo;exact⟨v,by rw [hbe];exact hv⟩
  ·refine(ok b u q).stay (fun c v hc r=>k c v ?_ r) (fun c r=>by rw [qo (nown c b r)];exact r) fun c xs r=>by rw [qo (ntup c xs r)];exact r
   rcases hc with rfl|hc
   ·exact hbe
   ·rintro rfl
    rcases he with z|z
    ·exact nown c b hc z
    ·rw [hc] at z;cases z;exact hb rfl
end
structure Un(fs ex:List Addr)(H H':Hp)(h h':Heap): Prop where
 keep:∀b o,h.get? b=some o->H b=none->b∉fs->b∉ex->h'.get? b=some o
 slot:∀b o,h.get? b=some o->H b=none->b∈fs->b∉ex->∃sl,h'.get? b=some {o with slots:=sl}
 free:∀b o,h.get? b=some o->H b=none->b∉ex->H' b=none
 there:∀b o,h.get? b=some o->b∉ex->∃o',h'.get? b=some o'
 tups:∀b xs,H b=some (.tup xs)->H' b=some (.tup xs)
 frzs:∀b o u,H b=some (.frz o u)->H' b=some (.frz o u)
 tbls:∀b ps,H b=some (.tbl ps)->∃more,H' b=some (.tbl (ps++more))
section
variable{fs fs' ex ex':List Addr}{H H1 H2:Hp}{h h1 h2 h':Heap}{a x e:Addr}{o:HO}
theorem Un.any(u:Un fs ex H H1 h h1){b:Addr}{ob:Obj}(q:h.get? b=some ob)(n:H b=none)(hx:b∉ex): ∃sl,h1.get? b=some {ob with slots:=sl}:=by
 by_cases hb:b∈fs
 ·exact u.slot b ob q n hb hx
 ·exact⟨ob.slots,u.keep b ob q n hb hx⟩
theorem Un.trans(a:Un fs ex H H1 h h1)(b:Un fs ex H1 H2 h1 h2): Un fs ex H H2 h h2 where
 keep:=fun c ob q n hc hx=>b.keep c ob (a.keep c ob q n hc hx) (a.free c ob q n hx) hc hx
 slot:=fun c ob q n hc hx=>by
  obtain⟨sl,e1⟩:=a.slot c ob q n hc hx;obtain⟨sl',e2⟩:=b.slot c _ e1 (a.free c ob q n hx) hc hx;exact⟨sl',e2⟩
 free:=fun c ob q n hx=>by
  obtain⟨o',e1⟩:=a.there c ob q hx;exact b.free c o' e1 (a.free c ob q n hx) hx
 there:=fun c ob q hx=>by
  obtain⟨o',e1⟩:=a.there c ob q hx;exact b.there c o' e1 hx
 tups:=fun c xs q=>b.tups c xs (a.tups c xs q)
 frzs:=fun c ob xs q=>b.frzs c ob xs (a.frzs c ob xs q)
 tbls:=fun c ps q=>by
  obtain⟨m1,e1⟩:=a.tbls c ps q;obtain⟨m2,e2⟩:=b.tbls c _ e1;exact⟨m1++m2,by rw [e2,Array.append_assoc]⟩
theorem Un.kept(k:∀b u,h.get? b=some u->h'.get? b=some u): Un fs ex H H h h':=
 ⟨fun b ob q _ _ _=>k b ob q,fun b ob q _ _ _=>⟨ob.slots,k b ob q⟩,fun _ _ _ n _=>n,fun b ob q _=>⟨ob,k b ob q⟩,fun _ _ q=>q,fun _ _ _ q=>q,fun _ ps q=>⟨#[],by rw [q];simp⟩⟩
theorem Un.refl:Un fs ex H H h h:=Un.kept fun _ _ q=>q
theorem Un.laid(k:∀b u,h.get? b=some u->h'.get? b=some u)(hp:h.objs.size<=a)(hn:H a=none): Un fs ex H (upd H a o) h h' where
 keep:=fun b u q _ _ _=>k b u q
 slot:=fun b u q _ _ _=>⟨u.slots,k b u q⟩
 free:=fun b u q n _=>by rw [qo (m9 (gh (gz q) hp))];exact n
 there:=fun b u q _=>⟨u,k b u q⟩
 tups:=fun b xs q=>by rw [qo (jt q hn)];exact q
 frzs:=fun b u xs q=>by rw [qo (jt q hn)];exact q
 tbls:=fun b ps q=>⟨#[],by rw [qo (jt q hn),q];simp⟩
theorem Un.write(mu:Mut (H x))(he:e=x\/H e=some (.own x))(k:∀b u,b≠e->h.get? b=some u->h'.get? b=some u)(heo:∃u,h'.get? e=some u): Un fs ex H (upd H x o) h h':=by
 have hx:∀b,H b=none->b≠x:=fun b n z=>by subst z;rw [n] at mu;exact mu
 have hb:∀b,H b=none->b≠e:=fun b n z=>by
  subst z;rcases he with r|r
  ·exact hx b n r
  ·rw [n] at r;cases r
 have hm:∀b u,H b=some u->¬Mut (some u)->b≠x:=fun b u q nm z=>by subst z;rw [q] at mu;exact nm mu
 refine⟨fun b u q n _ _=>k b u (hb b n) q,fun b u q n _ _=>⟨u.slots,k b u (hb b n) q⟩,fun b u q n _=>by rw [qo (hx b n)];exact n,fun b u q _=>?_,
  fun b xs q=>by rw [qo (hm b _ q fun z=>z)];exact q,fun b u xs q=>by rw [qo (hm b _ q fun z=>z)];exact q,fun b ps q=>⟨#[],by rw [qo (hm b _ q fun z=>z),q];simp⟩⟩
 by_cases hbe:b=e
 ·subst hbe;exact heo
 ·exact⟨u,k b u hbe q⟩
end
def trk(h:Heap)(H:Hp): List Addr:=(List.range h.objs.size).filter fun a=>(H a).isSome
def q3u(h:Heap)(H:Hp): Heap:=PySem.W.hideAll h (trk h H)
theorem qj8(h:Heap)(H:Hp): (q3u h H).objs.size=h.objs.size:=PySem.W.hideAll_size _ _
theorem qlv{h:Heap}{H:Hp}{b:Addr}{o:Obj}(e:h.get? b=some o)(n:H b=none): (q3u h H).get? b=some o:=
 PySem.W.hideAll_get _ e fun hm=>by
  have q:(H b).isSome=true:=(mw.mp hm).2;rw [n] at q;simp at q
theorem qp8{h:Heap}{H:Hp}{b:Addr}{o:Obj}(e:(q3u h H).get? b=some o): h.get? b=some o/\H b=none:=by
 have e':h.get? b=some o:=PySem.W.of_hideAll (trk h H) e;refine⟨e',?_⟩;cases q:H b with
 | none=>rfl
 | some x=>
  have hm:b∈trk h H:=mw.mpr ⟨uk.mpr (gz e'),by simp [q]⟩;have z:(q3u h H).get? b=none:=PySem.W.hideAll_none (trk h H) hm;rw [z] at e;cases e
def qp9(g h:Heap)(L:Addr): List (Addr×Obj):=(List.range h.objs.size).filterMap fun a=>if a=L\/(g.get? a).isSome=true then none else(h.get? a).map fun o=>(a,o)
def rest(g h:Heap)(L d:Addr): List (Addr×Obj):=(qp9 g h L).filter fun p=>decide (p.1≠d)
structure Mod(K:PySem.W.Frag)(mg:Str->Option Value)(base:Heap): Prop where
 kin:K.In base
 glob:base.Ns mainGlobals mg
 blt:∃mb,base.Ns builtinsNs mb/\∀x:Str,x≠"__name__" -> mb x=bootBuiltins x
 nolimit:base.NoLimit
structure Cx where
 prog:Program
 w:World
 K:PySem.W.Frag
 mg:Str->Option Value
 base:Heap
 A:Around
 N:List Str
 s₀:Shared
 H₀:Hp
 env:Env
 outer:List Env
 stack:List Env
 ex:List Addr
 fn:Str->Bool
 calm:Bool
 pn:List (Addr×Obj)
 xe:Value->Shared->Prop
def frs(l:List Env): List Addr:=l.filterMap (·.frame)
abbrev Cx.fs(X:Cx): List Addr:=frs X.outer
def Vis(sc:Scope)(x:Str): Prop:=sc.names.lookup x=some .local\/sc.names.lookup x=some .cell\/sc.names.lookup x=some .free
def Loc(sc:Scope)(x:Str): Prop:=sc.names.lookup x=some .local\/sc.names.lookup x=some .cell
def Look(env:Env)(h:Heap)(m:Str->Option Value)(x:Str)(u:Value): Prop:=
 (env.kindOf x=some .local/\m x=some u)\/((env.kindOf x=some .cell\/env.kindOf x=some .free)/\∃c,env.cells.lookup x=some c/\h.IsCell c (some u))
structure Cx.Ok(X:Cx): Prop where
 mod:Mod X.K X.mg X.base
 kind:X.env.scope.kind=.function
 glob:X.env.globals=mainGlobals
 blt:X.env.builtins=builtinsNs
 above:X.s₀.heap.objs.size<=X.env.locals
 inj:∀x y c,X.env.cells.lookup x=some c->X.env.cells.lookup y=some c->x=y
 has:∀x,(X.env.kindOf x=some .cell\/X.env.kindOf x=some .free)->∃c,X.env.cells.lookup x=some c
 cab:∀x c,X.fn x=true->X.env.cells.lookup x=some c->X.s₀.heap.objs.size<=c
 hd:X.calm=true->X.A.handled=none
 frames:X.A.frames=some X.stack
 stk:X.stack=X.outer\/(X.stack=X.env :: X.outer/\X.env.frame=some X.env.locals)
 exf:∀b∈X.ex,b≠X.env.locals/\∀x c,X.env.cells.lookup x=some c->c≠b
 bs:∀b o,X.base.get? b=some o->X.s₀.heap.get? b=some o/\X.H₀ b=none
 bsz:X.base.objs.size<=X.s₀.heap.objs.size
 noex:∀b o,X.base.get? b=some o->b∉X.ex
 exfs:∀b∈X.ex,b∉X.fs
 funs:X.s₀.heap.FunFrames X.base X.outer
 frf:∀b∈X.fs,X.H₀ b=none
structure Inv(X:Cx)(pins:List (Addr×Obj))(σ : List (Option V))(H:Hp)(s:Shared): Prop where
 ok:X.Ok
 os:s.os=X.s₀.os
 bare:AllBare s.gens
 base:Un X.fs X.ex X.H₀ H X.s₀.heap s.heap
 loc:∃m,s.heap.Ns X.env.locals m/\∀(i:Nat) (x:Str) (v:V),X.N[i]? = some x -> σ[i]? = some (some v)->Vis X.env.scope x->∃u,RelV v u/\Look X.env s.heap m x u
 cell:∀x c,X.env.cells.lookup x=some c->∃v,s.heap.IsCell c v
 free:H X.env.locals=none
 freeC:∀x c,X.env.cells.lookup x=some c->H c=none
 pin:∀p∈X.pn++pins,s.heap.get? p.1=some p.2/\H p.1=none/\p.1≠X.env.locals/\p.1∉X.fs/\∀v,p.2.data ≠ .cell v
 hok:HOk X.prog X.w H s.heap
 len : σ.length=X.N.length
section
variable{X:Cx}{pins:List (Addr×Obj)}{σ : List (Option V)}{H H':Hp}{s:Shared}{h':Heap}
theorem Cx.Ok.nofr(ok:X.Ok){b:Addr}{o:Obj}(e:X.base.get? b=some o): b∉X.fs:=fun hb=>by
 have:=(ok.funs.mem hb).1;rw [e] at this;cases this
theorem Inv.bs(I:Inv X pins σ H s): ∀b o,X.base.get? b=some o->s.heap.get? b=some o/\H b=none:=fun b o e=>
 ⟨I.base.keep b o (I.ok.bs b o e).1 (I.ok.bs b o e).2 (I.ok.nofr e) (I.ok.noex b o e),I.base.free b o (I.ok.bs b o e).1 (I.ok.bs b o e).2 (I.ok.noex b o e)⟩
theorem Inv.bk(I:Inv X pins σ H s): ∀b o,X.base.get? b=some o->s.heap.get? b=some o:=fun b o e=>(I.bs b o e).1
theorem Inv.mod(I:Inv X pins σ H s): Mod X.K X.mg X.base:=I.ok.mod
theorem Inv.kIn(I:Inv X pins σ H s): X.K.In s.heap:=I.ok.mod.kin.keeps I.bk
theorem Inv.lt(I:Inv X pins σ H s): X.env.locals<s.heap.objs.size:=let⟨_,hn,_⟩:=I.loc;hn.lt
theorem Inv.sz(I:Inv X pins σ H s): X.s₀.heap.objs.size<=s.heap.objs.size:=md I.ok.above (g4z I.lt)
theorem Inv.nofs(I:Inv X pins σ H s){a:Addr}(h:s.heap.objs.size<=a): a∉X.fs:=fun hb=>by
 obtain⟨_,o,ho,_⟩:=I.ok.funs.mem hb;exact absurd (gh (gz ho) (md I.sz h)) (g0d _)
theorem Inv.cne(I:Inv X pins σ H s): ∀x c,X.env.cells.lookup x=some c->c≠X.env.locals:=fun x c e z=>by
 obtain⟨v,o,ho,hd⟩:=I.cell x c e;obtain⟨m,⟨o',es,ep,ho',hd',_⟩,_⟩:=I.loc;rw [z,ho'] at ho;cases ho;rw [hd'] at hd;cases hd
theorem Inv.funs(I:Inv X pins σ H s): s.heap.FunFrames X.base X.outer:=by
 have all:∀(l:List Env),(∀b∈frs l,b∈X.fs)->X.s₀.heap.FunFrames X.base l->s.heap.FunFrames X.base l:=by
  intro l
  induction l with
  | nil=>intro _ _;trivial
  | cons env r ih=>
   intro hs hl;obtain⟨hk,⟨L,o,hf,hn,ho,hd⟩,hr⟩:=hl;have hL:L∈X.fs:=hs L (by unfold frs;rw [g12,hf];exact gq);obtain⟨sl,e⟩:=I.base.slot L o ho (I.ok.frf L hL) hL fun z=>I.ok.exfs L z hL;exact⟨hk,⟨L,_,hf,hn,e,hd⟩,ih (fun b hb=>hs b (by unfold frs;rw [g12,hf];exact gu _ hb)) hr⟩
 exact all X.outer (fun _ hb=>hb) I.ok.funs
theorem Inv.stack(I:Inv X pins σ H s): s.heap.FunFrames X.base X.stack:=by
 rcases I.ok.stk with e|⟨e,hf⟩
 ·rw [e];exact I.funs
 ·rw [e]
  obtain⟨m,hn,_⟩:=I.loc;refine .cons (by rw [I.ok.kind];decide) hf hn ?_ I.funs;exact Heap.get?_none_of_le (md I.ok.bsz I.ok.above)
theorem Inv.stkSub(I:Inv X pins σ H s): ∀b∈frs X.stack,b∈X.env.locals :: X.fs:=fun b hb=>by
 rcases I.ok.stk with e|⟨e,hf⟩
 ·rw [e] at hb;exact gu _ hb
 ·rw [e] at hb
  unfold frs at hb;rw [g12,hf] at hb;exact hb
theorem Inv.stkFree(I:Inv X pins σ H s): ∀b∈frs X.stack,H b=none:=fun b hb=>by
 rcases mf.mp (I.stkSub b hb) with e|hb
 ·rw [e];exact I.free
 ·obtain⟨_,o,ho,_⟩:=I.ok.funs.mem hb
  exact I.base.free b o ho (I.ok.frf b hb) fun z=>I.ok.exfs b z hb
theorem Inv.step{g':Array GenState}{t':Nat}{d':Drawn}{ch:List Addr}(I:Inv X pins σ H s)
  (hch:∀b∈ch,(b∈X.ex\/X.s₀.heap.objs.size<=b)/\b≠X.env.locals/\(∀x c,X.env.cells.lookup x=some c->c≠b)/\∀p∈X.pn++pins,p.1≠b)
  (keep:∀b o,b≠X.env.locals->b∉X.fs->b∉ch->s.heap.get? b=some o->H b=none->h'.get? b=some o)
  (slot:∀b o,b≠X.env.locals->b∈X.fs->b∉ch->s.heap.get? b=some o->H b=none->∃sl,h'.get? b=some {o with slots:=sl}) (free:∀b o,b∉ch->s.heap.get? b=some o->H b=none->H' b=none)
  (there:∀b o,b∉ch->s.heap.get? b=some o->∃o',h'.get? b=some o')
  (tups:∀b xs,H b=some (.tup xs)->H' b=some (.tup xs)) (frzs:∀b o u,H b=some (.frz o u)->H' b=some (.frz o u)) (tbls:∀b ps,H b=some (.tbl ps)->∃more,H' b=some (.tbl (ps++more)))
  (ns:∀m,s.heap.Ns X.env.locals m->h'.Ns X.env.locals m) (hok:HOk X.prog X.w H' h') (hg:AllBare g') :
  Inv X pins σ H' {s with heap:=h',gens:=g',drawn:=d',toks:=t'}:=by
 have neL:∀b o,X.s₀.heap.get? b=some o->b≠X.env.locals:=fun b o e=>m9 (gh (gz e) I.ok.above);have neC:∀b o,X.s₀.heap.get? b=some o->b∉X.ex->b∉ch:=fun b o e hx hb=>by
  rcases(hch b hb).1 with z|z
  ·exact hx z
  ·exact absurd (gh (gz e) z) (g0d _)
 have cellK:∀x c,X.env.cells.lookup x=some c->∀v,s.heap.IsCell c v->h'.IsCell c v:=fun x c e v ⟨o,ho,hd⟩=>by
  have nch:c∉ch:=fun z=>(hch c z).2.2.1 x c e rfl
  by_cases hc:c∈X.fs
  ·obtain⟨sl,q⟩:=slot c o (I.cne x c e) hc nch ho (I.freeC x c e)
   exact⟨_,q,hd⟩
  ·exact⟨o,keep c o (I.cne x c e) hc nch ho (I.freeC x c e),hd⟩
 refine⟨I.ok,I.os,hg,⟨fun b o e n hb hx=>?_,fun b o e n hb hx=>?_,fun b o e n hx=>?_,fun b o e hx=>?_,fun b xs e=>tups b xs (I.base.tups b xs e),fun b o xs e=>frzs b o xs (I.base.frzs b o xs e),fun b ps e=>?_⟩,?_,fun x c e=>?_,?_,fun x c e=>?_,fun p hp=>?_,hok,I.len⟩
 ·exact keep b o (neL b o e) hb (neC b o e hx) (I.base.keep b o e n hb hx) (I.base.free b o e n hx)
 ·obtain⟨sl,e1⟩:=I.base.slot b o e n hb hx
  obtain⟨sl',e2⟩:=slot b _ (neL b o e) hb (neC b o e hx) e1 (I.base.free b o e n hx);exact⟨sl',e2⟩
 ·obtain⟨o',e1⟩:=I.base.there b o e hx
  exact free b o' (neC b o e hx) e1 (I.base.free b o e n hx)
 ·obtain⟨o',e1⟩:=I.base.there b o e hx
  exact there b o' (neC b o e hx) e1
 ·obtain⟨m1,e1⟩:=I.base.tbls b ps e
  obtain⟨m2,e2⟩:=tbls b _ e1;exact⟨m1++m2,by rw [e2,Array.append_assoc]⟩
 ·obtain⟨m,hn,hl⟩:=I.loc
  refine⟨m,ns m hn,fun i x v e1 e2 e3=>?_⟩;obtain⟨u,r,l⟩:=hl i x v e1 e2 e3;refine⟨u,r,?_⟩;rcases l with l|⟨k,c,e,z⟩
  ·exact .inl l
  ·exact .inr ⟨k,c,e,cellK x c e _ z⟩
 ·obtain⟨v,z⟩:=I.cell x c e
  exact⟨v,cellK x c e v z⟩
 ·obtain⟨m,⟨o,_,_,ho,_⟩,_⟩:=I.loc
  exact free _ o (fun z=>(hch _ z).2.1 rfl) ho I.free
 ·obtain⟨v,o,ho,hd⟩:=I.cell x c e
  exact free c o (fun z=>(hch c z).2.2.1 x c e rfl) ho (I.freeC x c e)
 ·obtain⟨e,n,ne,nf,d⟩:=I.pin p hp
  have nch:p.1∉ch:=fun z=>(hch p.1 z).2.2.2 p hp rfl;exact⟨keep p.1 p.2 ne nf nch e n,free p.1 p.2 nch e n,ne,nf,d⟩
theorem Inv.un{t':Nat}(I:Inv X pins σ H s)(u:Un X.fs [] H H' s.heap h')(hok:HOk X.prog X.w H' h'): Inv X pins σ H' {s with heap:=h',toks:=t'}:=by
 obtain⟨m,⟨o,es,ep,ho,r⟩,_⟩:=id I.loc;obtain⟨sl,hL⟩:=u.any ho I.free (by simp);exact I.step (g':=s.gens) (d':=s.drawn) (ch:=[]) (fun _ z=>nomatch z) (fun b o _ hb _ e n=>u.keep b o e n hb (by simp)) (fun b o _ hb _ e n=>u.slot b o e n hb (by simp)) (fun b o _ e n=>u.free b o e n (by simp)) (fun b o _ e=>u.there b o e (by simp)) u.tups u.frzs u.tbls (fun m' hm=>by
  obtain⟨o',es',ep',ho',r'⟩:=hm;rw [ho] at ho';cases ho';exact⟨_,es',ep',hL,r'⟩) hok I.bare
theorem Inv.call{g':Array GenState}{t':Nat}{d':Drawn}{ch:List Addr}(I:Inv X pins σ H s)(u:Un (frs X.stack) ch H H' s.heap h')(hok:HOk X.prog X.w H' h')(hg:AllBare g')
  (hch:∀b∈ch,(b∈X.ex\/X.s₀.heap.objs.size<=b)/\b≠X.env.locals/\(∀x c,X.env.cells.lookup x=some c->c≠b)/\∀p∈X.pn++pins,p.1≠b) :
  Inv X pins σ H' {s with heap:=h',gens:=g',drawn:=d',toks:=t'}:=by
 obtain⟨m,⟨o,es,ep,ho,r⟩,_⟩:=id I.loc;obtain⟨sl,hL⟩:=u.any ho I.free fun z=>(hch _ z).2.1 rfl;exact I.step (ch:=ch) hch (fun b o hL hb hc e n=>u.keep b o e n (fun z=>(mf.mp (I.stkSub b z)).elim hL hb) hc) (fun b o _ _ hc e n=>u.any e n hc) (fun b o hc e n=>u.free b o e n hc) (fun b o hc e=>u.there b o e hc) u.tups u.frzs u.tbls (fun m' hm=>by
  obtain⟨o',es',ep',ho',r'⟩:=hm;rw [ho] at ho';cases ho';exact⟨_,es',ep',hL,r'⟩) hok hg
theorem Inv.turned{t':Nat}{it:Addr}(I:Inv X pins σ H s)(k:∀b o,b≠it->s.heap.get? b=some o->h'.get? b=some o)(hn:H it=none)(hL:it≠X.env.locals)
  (h1:it∈X.ex\/X.s₀.heap.objs.size<=it) (h2:∀x c,X.env.cells.lookup x=some c->c≠it) (h3:∀p∈X.pn++pins,p.1≠it):Inv X pins σ H {s with heap:=h',toks:=t'}:=by
 have nit:∀b u,H b=some u->b≠it:=fun b u e z=>by rw [z,hn] at e;cases e
 refine I.step (g':=s.gens) (d':=s.drawn) (ch:=[it]) (fun b hb=>?_) (fun b o _ _ hc e _=>k b o (fun z=>hc (by simp [z])) e) (fun b o _ _ hc e _=>⟨o.slots,k b o (fun z=>hc (by simp [z])) e⟩) (fun _ _ _ _ n=>n)
  (fun b o hc e=>⟨o,k b o (fun z=>hc (by simp [z])) e⟩) (fun _ _ e=>e) (fun _ _ _ e=>e) (fun b ps e=>⟨#[],by rw [e];simp⟩) (fun m hm=>?_) (fun b u e=>?_) I.bare
 ·have e:b=it:=by simpa using hb
  subst e;exact⟨h1,hL,h2,h3⟩
 ·obtain⟨o,es,ep,ho,r⟩:=hm
  exact⟨o,es,ep,k _ o (n9 hL) ho,r⟩
 ·refine(I.hok b u e).stay (fun c v hc q=>k c v ?_ q) (fun _ q=>q) fun _ _ q=>q
  rcases hc with z|z
  ·rw [z];exact nit b u e
  ·exact nit c _ z
theorem Inv.tok(I:Inv X pins σ H s)(t:Nat): Inv X pins σ H {s with toks:=t}:=I.un (h':=s.heap) (t':=t) Un.refl I.hok
theorem Inv.kept{t':Nat}(I:Inv X pins σ H s)(k:∀b u,s.heap.get? b=some u->h'.get? b=some u): Inv X pins σ H {s with heap:=h',toks:=t'}:=I.un (Un.kept k) (I.hok.kept k)
theorem Inv.laid{a:Addr}{o:HO}{t':Nat}(I:Inv X pins σ H s)(k:∀b u,s.heap.get? b=some u->h'.get? b=some u)(hp:s.heap.objs.size<=a)(new:ObjOk X.prog X.w (upd H a o) h' a o):
  Inv X pins σ (upd H a o) {s with heap:=h',toks:=t'}:=I.un (Un.laid k hp (I.hok.fresh hp)) (I.hok.laid k hp new)
theorem Inv.write{x e:Addr}{o:HO}{t':Nat}(I:Inv X pins σ H s)(mu:Mut (H x))(he:e=x\/H e=some (.own x))(k:∀b u,b≠e->s.heap.get? b=some u->h'.get? b=some u)(heo:∃u,h'.get? e=some u)
  (new:ObjOk X.prog X.w (upd H x o) h' x o):Inv X pins σ (upd H x o) {s with heap:=h',toks:=t'}:=I.un (Un.write mu he k heo) (I.hok.write mu he k heo new)
theorem Inv.pins_of{pins':List (Addr×Obj)}(I:Inv X pins σ H s)(h:∀p∈pins',s.heap.get? p.1=some p.2/\H p.1=none/\p.1≠X.env.locals/\p.1∉X.fs/\∀v,p.2.data ≠ .cell v): Inv X pins' σ H s:=
 ⟨I.ok,I.os,I.bare,I.base,I.loc,I.cell,I.free,I.freeC,fun p hp=>(nt.mp hp).elim (fun z=>I.pin p (g27 _ z)) (h p),I.hok,I.len⟩
theorem qcv{N:List Str}(hN:N.Nodup){i j:Nat}{x:Str}(a:N[i]? = some x)(b:N[j]? = some x): i=j:=by
 obtain⟨h1,e1⟩:=nu.mp a;obtain⟨h2,e2⟩:=nu.mp b;exact(g50 hN).mp (e1.trans e2.symm)
theorem qj9{M:Model}{A:Around}{E:Value->Shared->Prop}{i:Nat}{x:Str}{v:V}{u:Value}{Q:Unit->Shared->Prop}(I:Inv X pins σ H s)(hN:X.N.Nodup)(hi:X.N[i]? = some x)(hx:Loc X.env.scope x)(r:RelV v u)
  (h:∀s',Inv X pins (σ.set i (some v)) H s'->(∃a,Heap.SameBut a s.heap s'.heap/\(a=X.env.locals\/X.env.cells.lookup x=some a))->Q () s') (hf:X.fn x=true\/X.env.scope.names.lookup x=some .local:=by first|exact .inl rfl|exact .inr rfl|assumption):wpAny M A (storeName X.env x u) Q E s:=by
 obtain⟨m,hn,hl⟩:=id I.loc;have hcls:(X.env.scope.kind == .class || (X.env.scope.kind == .module&&X.env.locals != X.env.globals))=false:=by rw [I.ok.kind];rfl
 have hiσ : i < σ.length:=by rw [I.len];exact(nu.mp hi).1
 have cne:=I.cne;have tracked:∀ {a:Addr} {h':Heap},(∃o,s.heap.get? a=some o/\H a=none)->Heap.SameBut a s.heap h'->HOk X.prog X.w H h':=fun {a h'} ha hs b ob e=>by
  obtain⟨_,_,hfree⟩:=ha;refine(I.hok b ob e).stay (fun c w' hc q=>(hs.2 c ?_).trans q) (fun _ q=>q) fun _ _ q=>q
  rintro rfl
  rcases hc with rfl|hc
  ·rw [hfree] at e;cases e
  ·rw [hfree] at hc;cases hc
 rcases hx with hk|hk
 ·refine wpAny_storeName_local hk hn (fun h' hn' hs=>?_) hcls
  obtain⟨oL,_,_,hoL,_⟩:=id hn;refine h _ ⟨I.ok,I.os,I.bare,⟨fun b o e n hb hx=>?_,fun b o e n hb hx=>?_,I.base.free,fun b o e hx=>?_,I.base.tups,I.base.frzs,I.base.tbls⟩,⟨_,hn',fun j y v' e1 e2 e3=>?_⟩,fun y c e=>?_,I.free,I.freeC,fun p hp=>?_,tracked ⟨oL,hoL,I.free⟩ hs,by simpa using I.len⟩ ⟨_,hs,.inl rfl⟩
  ·exact(hs.2 b (m9 (gh (gz e) I.ok.above))).trans (I.base.keep b o e n hb hx)
  ·obtain⟨sl,e1⟩:=I.base.slot b o e n hb hx
   exact⟨sl,(hs.2 b (m9 (gh (gz e) I.ok.above))).trans e1⟩
  ·obtain⟨o',e1⟩:=I.base.there b o e hx
   exact⟨o',(hs.2 b (m9 (gh (gz e) I.ok.above))).trans e1⟩
  ·by_cases hj:j=i
   ·subst hj
    rw [hi] at e1;cases e1;rw [g5m hiσ] at e2;cases e2;exact⟨u,r,.inl ⟨hk,by simp⟩⟩
   ·rw [m6 (n9 hj)] at e2
    obtain⟨u',r',q⟩:=hl j y v' e1 e2 e3;refine⟨u',r',?_⟩;rcases q with⟨k,e⟩|⟨k,c,e,z⟩
    ·refine .inl ⟨k,?_⟩
     have:y≠x:=fun e=>hj (qcv hN e1 (e ▸ hi));simp [this,e]
    ·exact .inr ⟨k,c,e,z.sameBut hs (cne y c e)⟩
  ·obtain⟨w',z⟩:=I.cell y c e
   exact⟨w',z.sameBut hs (cne y c e)⟩
  ·obtain⟨e,n,ne,nf,d⟩:=I.pin p hp
   exact⟨(hs.2 p.1 ne).trans e,n,ne,nf,d⟩
 ·have hfn:X.fn x=true:=by
   rcases hf with z|z
   ·exact z
   ·rw [z] at hk;cases hk
  obtain⟨c,hc⟩:=I.ok.has x (.inl hk);obtain⟨w',z⟩:=I.cell x c hc;refine wpAny_storeName_cell I.ok.kind hk hc z (fun h' hc' hs=>?_);obtain⟨oc,hoc,hocd⟩:=id z;refine h {s with heap:=h'} ⟨I.ok,I.os,I.bare,⟨fun b o e n hb hx=>?_,fun b o e n hb hx=>?_,I.base.free,fun b o e hx=>?_,I.base.tups,I.base.frzs,I.base.tbls⟩,⟨m,hn.sameBut hs (n9 (cne x c hc)),fun j y v' e1 e2 e3=>?_⟩,fun y c' e=>?_,I.free,I.freeC,fun p hp=>?_,tracked ⟨oc,hoc,I.freeC x c hc⟩ hs,by simpa using I.len⟩ ⟨c,hs,.inr hc⟩
  ·exact(hs.2 b (m9 (gh (gz e) (I.ok.cab x c hfn hc)))).trans (I.base.keep b o e n hb hx)
  ·obtain⟨sl,e1⟩:=I.base.slot b o e n hb hx
   exact⟨sl,(hs.2 b (m9 (gh (gz e) (I.ok.cab x c hfn hc)))).trans e1⟩
  ·obtain⟨o',e1⟩:=I.base.there b o e hx
   exact⟨o',(hs.2 b (m9 (gh (gz e) (I.ok.cab x c hfn hc)))).trans e1⟩
  ·by_cases hj:j=i
   ·subst hj
    rw [hi] at e1;cases e1;rw [g5m hiσ] at e2;cases e2;exact⟨u,r,.inr ⟨.inl hk,c,hc,hc'⟩⟩
   ·rw [m6 (n9 hj)] at e2
    obtain⟨u',r',q⟩:=hl j y v' e1 e2 e3;refine⟨u',r',?_⟩;rcases q with q|⟨k,c',e,z'⟩
    ·exact .inl q
    ·refine .inr ⟨k,c',e,z'.sameBut hs ?_⟩
     rintro rfl
     exact hj (qcv hN e1 (I.ok.inj _ _ _ e hc ▸ hi))
  ·by_cases hcc:c'=c
   ·subst hcc;exact⟨_,hc'⟩
   ·obtain⟨w2,z2⟩:=I.cell y c' e
    exact⟨w2,z2.sameBut hs hcc⟩
  ·obtain⟨e,n,ne,nf,d⟩:=I.pin p hp
   refine⟨(hs.2 p.1 ?_).trans e,n,ne,nf,d⟩;intro q;rw [q,hoc] at e;have q':oc=p.2:=ma e;exact d w' (by rw [<- q'];exact hocd)
theorem q7z{M:Model}{A:Around}{E:Value->Shared->Prop}{i:Nat}{x:Str}{v:V}{u:Value}{Q:Unit->Shared->Prop}(I:Inv X pins σ H s)(hN:X.N.Nodup)(hi:X.N[i]? = some x)(hx:Loc X.env.scope x)(r:RelV v u)
  (h:∀s',Inv X pins (σ.set i (some v)) H s'->Q () s') (hf:X.fn x=true\/X.env.scope.names.lookup x=some .local:=by first|exact .inl rfl|exact .inr rfl|assumption):wpAny M A (storeName X.env x u) Q E s:=
 qj9 I hN hi hx r (fun s' I' _=>h s' I') hf
theorem Inv.call'{s':Shared}{ch:List Addr}(I:Inv X pins σ H s)(ho:s'.os=s.os)(u:Un (frs X.stack) ch H H' s.heap s'.heap)(hok:HOk X.prog X.w H' s'.heap)(hg:AllBare s'.gens)
  (hch:∀b∈ch,(b∈X.ex\/X.s₀.heap.objs.size<=b)/\b≠X.env.locals/\(∀x c,X.env.cells.lookup x=some c->c≠b)/\∀p∈X.pn++pins,p.1≠b):Inv X pins σ H' s':=by
 obtain⟨h',g',d',t',o'⟩:=s';have e:o'=s.os:=ho;subst e;exact I.call (g':=g') (t':=t') (d':=d') u hok hg hch
end
abbrev XK:=Value->Option Addr->Hp->Prop
abbrev St:=List (Option V)
abbrev VK:=V->Hp->Prop
abbrev TE:=St->Hp->VK->Prop
abbrev TT:=St->Hp->(Bool->Hp->Prop)->Prop
abbrev TA:=St->Hp->(List V->Hp->Prop)->Prop
structure Ends where
 nx:St->Hp->Prop
 rt:VK
 bk:St->Hp->Prop:=fun _ _=>False
 ct:St->Hp->Prop:=fun _ _=>False
abbrev TS:=Ends->St->Hp->Prop
def EP(X:Cx)(pins:List (Addr×Obj))(σ : St)(Q:VK)(u:Value)(s':Shared): Prop:=∃v H',Inv X pins σ H' s'/\RelV v u/\Q v H'
def TP(X:Cx)(pins:List (Addr×Obj))(σ : St)(Q:Bool->Hp->Prop)(b:Bool)(s':Shared): Prop:=∃H',Inv X pins σ H' s'/\Q b H'
def AP(X:Cx)(pins:List (Addr×Obj))(σ : St)(Q:List V->Hp->Prop)(us:List Value)(s':Shared): Prop:=∃vs H',Inv X pins σ H' s'/\Vals vs us/\Q vs H'
def SP(X:Cx)(pins:List (Addr×Obj))(D:Ends)(f:Flow)(s':Shared): Prop:=
 match f with
 | .next=>∃ σ' H',Inv X pins σ' H' s'/\D.nx σ' H'
 | .brk=>∃ σ' H',Inv X pins σ' H' s'/\D.bk σ' H'
 | .cont=>∃ σ' H',Inv X pins σ' H' s'/\D.ct σ' H'
 | .ret u=>∃v σ' H',Inv X pins σ' H' s'/\RelV v u/\D.rt v H'
def PE(X:Cx)(e:Expr)(t:TE): Prop:=
 ∀(pins:List (Addr×Obj)) (s:Shared) (σ : St) (H:Hp) (Q:VK),Inv X pins σ H s->t σ H Q->wpAny (model X.prog X.w) X.A (eval e X.env) (EP X pins σ Q) X.xe s
def PT(X:Cx)(e:Expr)(t:TT): Prop:=
 ∀(pins:List (Addr×Obj)) (s:Shared) (σ : St) (H:Hp) (Q:Bool->Hp->Prop),Inv X pins σ H s->t σ H Q->wpAny (model X.prog X.w) X.A (isTrue e X.env (eval e X.env)) (TP X pins σ Q) X.xe s
def PW(X:Cx)(e:Expr)(t:TT): Prop:=
 ∀(whole:Sem Value) (pins:List (Addr×Obj)) (s:Shared) (σ : St) (H:Hp) (Q:Bool->Hp->Prop),Inv X pins σ H s->t σ H Q->wpAny (model X.prog X.w) X.A (isTrue e X.env whole) (TP X pins σ Q) X.xe s
theorem PW.pt{X:Cx}{e:Expr}{t:TT}(h:PW X e t): PT X e t:=h _
def PA(X:Cx)(es:List Expr)(t:TA): Prop:=
 ∀(pos:Pos) (pins:List (Addr×Obj)) (s:Shared) (σ : St) (H:Hp) (Q:List V->Hp->Prop),Inv X pins σ H s->t σ H Q->wpAny (model X.prog X.w) X.A (spliced (backTo pos (starEach es X.env))) (AP X pins σ Q) X.xe s
def PS(X:Cx)(st:Stmt)(t:TS): Prop:=
 ∀(pins:List (Addr×Obj)) (s:Shared) (σ : St) (H:Hp) (D:Ends),Inv X pins σ H s->t D σ H->wpAny (model X.prog X.w) X.A (exec st X.env) (SP X pins D) X.xe s
def PSs(X:Cx)(st:List Stmt)(t:TS): Prop:=
 ∀(pins:List (Addr×Obj)) (s:Shared) (σ : St) (H:Hp) (D:Ends),Inv X pins σ H s->t D σ H->wpAny (model X.prog X.w) X.A (execs st X.env) (SP X pins D) X.xe s
theorem thn{α : Type}{t:Sem α}{Q Q' : α -> Shared->Prop}{M:Model}{A:Around}{E:Value->Shared->Prop}{s:Shared}(h:wpAny M A t Q E s)(hQ:∀a s,Q a s->Q' a s): wpAny M A t Q' E s:=u0 h hQ fun _ _ x=>x
section
variable{X:Cx}
theorem bin{a b:Expr}{ta tb:TE}(ha:PE X a ta)(hb:PE X b tb){pins:List (Addr×Obj)}{s:Shared}{σ : St}{H:Hp}{R:V->V->Hp->Prop}(I:Inv X pins σ H s)(h:ta σ H fun x H1=>tb σ H1 fun y H2=>R x y H2)
  {α : Type} {Q : α -> Shared->Prop} {f:Value->Value->Sem α}
  (hf:∀v u s2 x y H2,Inv X pins σ H2 s2->RelV x v->RelV y u->R x y H2->wpAny (model X.prog X.w) X.A (f v u) Q X.xe s2) :
  wpAny (model X.prog X.w) X.A (eval a X.env) (fun v s₁=>wpAny (model X.prog X.w) X.A (eval b X.env) (fun u s₂=>wpAny (model X.prog X.w) X.A (f v u) Q X.xe s₂) X.xe s₁) X.xe s:=by
 refine thn (ha pins s σ H _ I h) fun v s1 ⟨x,H1,I1,r1,q1⟩=>?_;refine thn (hb pins s1 σ H1 _ I1 q1) fun u s2 ⟨y,H2,I2,r2,q2⟩=>?_;exact hf v u s2 x y H2 I2 r1 r2 q2
def qcw(i:Nat): TE:=fun σ H Q=>∃v, σ[i]? = some (some v)/\Q v H
def tC(v:V): TE:=fun _ H Q=>Q v H
theorem qrq{i:Nat}{x:Str}{pos:Pos}(hN:X.N[i]? = some x)(hv:Vis X.env.scope x)(hd:(x==("__debug__" : Str))=false:=by decide)(hcd:(x==("__classdict__" : Str))=false:=by decide): PE X (.Name x pos) (qcw i):=by
 intro pins s σ H Q I h;obtain⟨v,e,h⟩:=h;obtain⟨m,hn,hl⟩:=I.loc;obtain⟨u,r,l⟩:=hl i x v hN e hv;have fin:EP X pins σ Q u s:=⟨v,H,I,r,h⟩
 rcases l with⟨hk,hm⟩|⟨hk,c,hc,hcell⟩
 ·exact wpAny_Name (wpAny_loadName_local I.ok.kind hk hn hm fin) hd
 ·rcases hk with hk|hk
  ·exact wpAny_Name (wpAny_loadName_cell I.ok.kind hk hc hcell fin) hd
  ·exact wpAny_Name (wpAny_loadName_free I.ok.kind hk hc hcell fin hcd) hd
theorem qrr{i j pos}: PE X (.Constant (.int i) j pos) (tC (.int i)):=fun _ _ _ H _ I h=>wpAny_Constant_int ⟨.int i,H,I.tok _,⟨_,rfl⟩,h⟩
theorem qu2{b j pos}: PE X (.Constant (.bool b) j pos) (tC (.bl b)):=fun _ _ _ H _ I h=>Constant_bool ⟨.bl b,H,I,rfl,h⟩
theorem qrs{j pos}: PE X (.Constant .none j pos) (tC .non):=fun _ _ _ H _ I h=>Constant_none ⟨.non,H,I,rfl,h⟩
def Gl(X:Cx)(x:Str): Prop:=X.env.kindOf x=some .globalImplicit
theorem qa7{E:Value->Shared->Prop}{pins:List (Addr×Obj)}{s:Shared}{σ : St}{H:Hp}{x:Str}{u:Value}{pos:Pos}{Q:Value->Shared->Prop}(I:Inv X pins σ H s)(hg:Gl X x)(hm:X.mg x=some u)(h:Q u s)
  (hd:(x==("__debug__" : Str))=false:=by decide):wpAny (model X.prog X.w) X.A (eval (.Name x pos) X.env) Q E s:=
 Calls.Name_function_global I.ok.kind hg (Calls.loadGlobal_global (by rw [I.ok.glob];exact I.mod.glob.keeps I.bk) hm h) hd
theorem q06{E:Value->Shared->Prop}{pins:List (Addr×Obj)}{s:Shared}{σ : St}{H:Hp}{x:Str}{u:Value}{pos:Pos}{Q:Value->Shared->Prop}(I:Inv X pins σ H s)(hg:Gl X x)(hm:X.mg x=none)(hv:bootBuiltins x=some u)(h:Q u s)
  (hn:x≠"__name__" :=by decide) (hd:(x==("__debug__" : Str))=false:=by decide):wpAny (model X.prog X.w) X.A (eval (.Name x pos) X.env) Q E s:=by
 obtain⟨mb,h1,h2⟩:=I.mod.blt;exact Calls.Name_function_global I.ok.kind hg (Calls.loadGlobal_builtin (by rw [I.ok.glob];exact I.mod.glob.keeps I.bk) hm (by rw [I.ok.blt];exact h1.keeps I.bk) ((h2 x hn).trans hv) h) hd
theorem qpa{x:Str}{v:V}{u:Value}{pos:Pos}(hg:Gl X x)(hm:X.mg x=none)(hv:bootBuiltins x=some u)(r:RelV v u)(hn:x≠"__name__" :=by decide)(hd:(x==("__debug__" : Str))=false:=by decide): PE X (.Name x pos) (tC v):=
 fun _ _ _ H _ I h=>q06 I hg hm hv ⟨v,H,I,r,h⟩ hn hd
variable{a b:Expr}{ta tb:TE}{pos:Pos}
theorem qcx(b:Expr){op:CmpOp}(h:op ≠ .In)(h2:op ≠ .NotIn): behindInMarks op b=false:=by
 have e1:(op==CmpOp.In)=false:=by cases op <;> first|rfl|exact absurd rfl h
 have e2:(op==CmpOp.NotIn)=false:=by cases op <;> first|rfl|exact absurd rfl h2
 cases b <;> simp [behindInMarks,e1,e2]
variable{tA tB':TT}{rest:List Expr}
def qv9(t u:TT): TT:=fun σ H Q=>t σ H fun c H1=>if c=true then u σ H1 Q else Q false H1
def tOr(t u:TT): TT:=fun σ H Q=>t σ H fun c H1=>if c=true then Q true H1 else u σ H1 Q
def qva(t:TT): TT:=fun σ H Q=>t σ H fun c H1=>Q (!c) H1
theorem qpb(ha:PT X a tA): PW X (.BoolOp .And [a] pos) tA:=by
 intro wh pins s σ H Q I h;refine isTrue_and (thn (ha pins s σ H Q I h) fun c s1 e=>?_);cases c with
 | true=>exact isTrue_and_nil e
 | false=>exact e
theorem qrt(ha:PT X a tA): PW X (.BoolOp .Or [a] pos) tA:=by
 intro wh pins s σ H Q I h;refine isTrue_or (thn (ha pins s σ H Q I h) fun c s1 e=>?_);cases c with
 | false=>exact isTrue_or_nil e
 | true=>exact e
theorem qru(ha:PT X a tA)(hb:PW X (.BoolOp .And (b :: rest) pos) tB'): PW X (.BoolOp .And (a :: b :: rest) pos) (qv9 tA tB'):=by
 intro wh pins s σ H Q I h;refine isTrue_and (thn (ha pins s σ H _ I h) fun c s1 ⟨H1,I1,q1⟩=>?_);cases c with
 | true=>exact hb wh pins s1 σ H1 Q I1 q1
 | false=>exact⟨H1,I1,q1⟩
theorem qu3(ha:PT X a tA)(hb:PW X (.BoolOp .Or (b :: rest) pos) tB'): PW X (.BoolOp .Or (a :: b :: rest) pos) (tOr tA tB'):=by
 intro wh pins s σ H Q I h;refine isTrue_or (thn (ha pins s σ H _ I h) fun c s1 ⟨H1,I1,q1⟩=>?_);cases c with
 | true=>exact⟨H1,I1,q1⟩
 | false=>exact hb wh pins s1 σ H1 Q I1 q1
theorem qrv(ha:PT X a tA): PT X (.UnaryOp .Not a pos) (qva tA):=by
 intro pins s σ H Q I h;exact isTrue_not (ha pins s σ H (fun c H1=>Q (!c) H1) I h)
def qu4(ta tb:TE): TE:=fun σ H Q=>ta σ H fun x H1=>∃c,x=.bl c/\if c=true then tb σ H1 Q else Q (.bl false) H1
def qu5(ta:TE): TE:=fun σ H Q=>ta σ H fun x H1=>∃c,x=.bl c/\Q (.bl (!c)) H1
theorem qrw{op}{t:TE}(h:PE X a t): PE X (.BoolOp op [a] pos) t:=fun pins s σ H Q I hw=>BoolOp_one (h pins s σ H Q I hw)
theorem qrx(ha:PE X a ta)(hb:PE X (.BoolOp .And (b :: rest) pos) tb): PE X (.BoolOp .And (a :: b :: rest) pos) (qu4 ta tb):=by
 intro pins s σ H Q I h;refine BoolOp_and (thn (ha pins s σ H _ I h) fun v s1 ⟨x,H1,I1,r1,q1⟩=>?_);obtain⟨c,rfl,q1⟩:=q1;cases r1;refine g1h ?_;cases c with
 | true=>exact hb pins s1 σ H1 Q I1 q1
 | false=>exact⟨.bl false,H1,I1,rfl,q1⟩
theorem qry(ha:PE X a ta): PE X (.UnaryOp .Not a pos) (qu5 ta):=by
 intro pins s σ H Q I h;refine UnaryOp_ (thn (ha pins s σ H _ I h) fun v s1 ⟨x,H1,I1,r1,q1⟩=>?_);obtain⟨c,rfl,q1⟩:=q1;cases r1;exact not_of (g1h ⟨.bl (!c),H1,I1,rfl,q1⟩)
def tIf(t:TT)(ta tb:TE): TE:=fun σ H Q=>t σ H fun c H1=>if c=true then ta σ H1 Q else tb σ H1 Q
theorem qlw{c:Expr}(hc:PT X c tA)(ha:PE X a ta)(hb:PE X b tb): PE X (.IfExp c a b pos) (tIf tA ta tb):=by
 intro pins s σ H Q I h;refine wpAny_IfExp (thn (hc pins s σ H _ I h) fun d s1 ⟨H1,I1,q1⟩=>?_);cases d with
 | true=>exact ha pins s1 σ H1 Q I1 q1
 | false=>exact hb pins s1 σ H1 Q I1 q1
end
def SqL(K:PySem.W.Frag)(H:Hp)(a:Addr)(xs:List V): Prop:=
 Rd H a (.lst xs) \/
  ∃(o:Obj) (its:Array Value) (n:Nat),K.lookup a=some o/\o.cls=.type "list" /\ o.dict=none/\o.data=.seq its n/\its.size<=sizeLine/\Vals xs its.toList
def SqT(K:PySem.W.Frag)(H:Hp)(a:Addr)(xs:List V): Prop:=
 Rd H a (.tup xs) \/
  ∃(o:Obj) (its:Array Value) (n:Nat),K.lookup a=some o/\o.cls=.type "tuple" /\ o.dict=none/\o.data=.seq its n/\its.size<=sizeLine/\Vals xs its.toList
def qvb:Value->Option V
 | .none=>some .non
 | .bool b=>some (.bl b)
 | .int i _=>some (.int i)
 | .str x _=>some (.str x)
 | .bytes b _=>some (.byt b)
 | .float b _=>some (.flt b)
 | .ref a=>some (.ref a)
 | .type n=>some (.ty n)
 | _=>none
theorem RelV.abs{x:V}{u:Value}(r:RelV x u): qvb u=some x:=by
 cases x with
 | non=>cases r;rfl
 | bl _=>cases r;rfl
 | int _=>obtain⟨t,rfl⟩:=r;rfl
 | str _=>obtain⟨t,rfl⟩:=r;rfl
 | byt _=>obtain⟨t,rfl⟩:=r;rfl
 | flt _=>obtain⟨t,rfl⟩:=r;rfl
 | ref _=>cases r;rfl
 | ty _=>cases r;rfl
theorem RelV.inj{x y:V}{u:Value}(r:RelV x u)(q:RelV y u): x=y:=ma (r.abs.symm.trans q.abs)
theorem Vals.inj:∀ {xs ys:List V} {us:List Value},Vals xs us->Vals ys us->xs=ys
 | _,_,_,.nil,.nil=>rfl
 | _,_,_,.cons r t,.cons r' t'=>by rw [r.inj r',Vals.inj t t']
section
variable{X:Cx}{pins:List (Addr×Obj)}{σ : St}{H:Hp}{s:Shared}{a:Addr}{xs ys:List V}
theorem SqL.of{K:PySem.W.Frag}(h:H a=some (.lst xs)): SqL K H a xs:=.inl (.inl h)
theorem SqT.of{K:PySem.W.Frag}(h:H a=some (.tup xs)): SqT K H a xs:=.inl (.inl h)
theorem Inv.list(I:Inv X pins σ H s)(h:SqL X.K H a xs): ∃its:List Value,Vals xs its/\PlainL s.heap a its.toArray/\xs.length<=sizeLine:=by
 rcases h with h|⟨o,its,n,hk,hc,hd,hs,hz,r⟩
 ·obtain⟨z,its,n,r,e⟩:=h.ok I.hok
  exact⟨its,r,⟨_,n,e,rfl,rfl,rfl⟩,z⟩
 ·refine⟨its.toList,r,⟨o,n,I.kIn a o hk,hc,hd,by simpa using hs⟩,?_⟩
  have e:=r.length;simp only [ng] at e;omega
theorem Inv.tupleX(I:Inv X pins σ H s)(h:SqT X.K H a xs): ∃its:List Value,Vals xs its/\TupX s.heap a its.toArray/\xs.length<=sizeLine:=by
 rcases h with h|⟨o,its,n,hk,hc,hd,hs,hz,r⟩
 ·obtain⟨z,its,r,p⟩:=h.ok I.hok
  exact⟨its,r,p,z⟩
 ·refine⟨its.toList,r,⟨o,I.kIn a o hk,hc,hd,n,by simpa using hs⟩,?_⟩
  have e:=r.length;simp only [ng] at e;omega
theorem Inv.tuple(I:Inv X pins σ H s)(h:SqT X.K H a xs): ∃its:List Value,Vals xs its/\IsTup s.heap a its.toArray/\xs.length<=sizeLine:=let⟨its,r,p,z⟩:=I.tupleX h; ⟨its,r,p.up,z⟩
theorem Inv.list_inj(I:Inv X pins σ H s)(h:SqL X.K H a xs)(h':SqL X.K H a ys): xs=ys:=by
 obtain⟨its,r,⟨o,n,e,_,_,d⟩,_⟩:=I.list h;obtain⟨its',r',⟨o',n',e',_,_,d'⟩,_⟩:=I.list h';rw [e] at e';cases e';rw [d] at d';injection d' with d1 _
 have:its=its':=by simpa using uz Array.toList d1
 subst this;exact r.inj r'
theorem Inv.tuple_inj(I:Inv X pins σ H s)(h:SqT X.K H a xs)(h':SqT X.K H a ys): xs=ys:=by
 obtain⟨its,r,⟨o,e,_,n,d⟩,_⟩:=I.tuple h;obtain⟨its',r',⟨o',e',_,n',d'⟩,_⟩:=I.tuple h';rw [e] at e';cases e';rw [d] at d';injection d' with d1 _
 have:its=its':=by simpa using uz Array.toList d1
 subst this;exact r.inj r'
end
abbrev Cx.wish(X:Cx)(E:Value->Shared->Prop): Cx:={X with xe:=E}
abbrev Cx.nox(X:Cx): Cx:=X.wish fun _ _=>False
theorem Cx.Ok.wish{X:Cx}(ok:X.Ok)(E:Value->Shared->Prop): (X.wish E).Ok:=
 ⟨ok.mod,ok.kind,ok.glob,ok.blt,ok.above,ok.inj,ok.has,ok.cab,ok.hd,ok.frames,ok.stk,ok.exf,ok.bs,ok.bsz,ok.noex,ok.exfs,ok.funs,ok.frf⟩
theorem Cx.Ok.unwish{X:Cx}{E:Value->Shared->Prop}(ok:(X.wish E).Ok): X.Ok:=
 ⟨ok.mod,ok.kind,ok.glob,ok.blt,ok.above,ok.inj,ok.has,ok.cab,ok.hd,ok.frames,ok.stk,ok.exf,ok.bs,ok.bsz,ok.noex,ok.exfs,ok.funs,ok.frf⟩
section
variable{X:Cx}{pins:List (Addr×Obj)}{σ : St}{H:Hp}{s:Shared}{E:Value->Shared->Prop}
theorem Inv.wish(I:Inv X pins σ H s)(E:Value->Shared->Prop): Inv (X.wish E) pins σ H s:=⟨I.ok.wish E,I.os,I.bare,I.base,I.loc,I.cell,I.free,I.freeC,I.pin,I.hok,I.len⟩
theorem Inv.unwish(I:Inv (X.wish E) pins σ H s): Inv X pins σ H s:=⟨I.ok.unwish,I.os,I.bare,I.base,I.loc,I.cell,I.free,I.freeC,I.pin,I.hok,I.len⟩
theorem SP.unwish{D:Ends}{f:Flow}{s':Shared}(h:SP (X.wish E) pins D f s'): SP X pins D f s':=by
 cases f with
 | next=>obtain⟨σ',H',I,q⟩:=h;exact⟨σ',H',I.unwish,q⟩
 | brk=>obtain⟨σ',H',I,q⟩:=h;exact⟨σ',H',I.unwish,q⟩
 | cont=>obtain⟨σ',H',I,q⟩:=h;exact⟨σ',H',I.unwish,q⟩
 | ret u=>obtain⟨v, σ',H',I,r,q⟩:=h;exact⟨v, σ',H',I.unwish,r,q⟩
theorem PE.nox{e:Expr}{t:TE}(h:PE X.nox e t): PE X e t:=fun pins s σ H Q I hw=>
 u0 (h pins s σ H Q (I.wish _) hw) (fun _ _ ⟨v,H',I',r,q⟩=>⟨v,H',I'.unwish,r,q⟩) fun _ _ z=>False.elim z
theorem PSs.nox{st:List Stmt}{t:TS}(h:PSs X.nox st t): PSs X st t:=fun pins s σ H D I hw=>
 u0 (h pins s σ H D (I.wish _) hw) (fun _ _ q=>q.unwish) fun _ _ z=>False.elim z
end
section
variable{X:Cx}{st:Stmt}{rest:List Stmt}{t u:TS}{e:Expr}{te:TE}{pos:Pos}
def tNext:TS:=fun D σ H=>D.nx σ H
def qvc(t u:TS): TS:=fun D σ H=>t {D with nx:=u D} σ H
theorem qpc:PSs X [] tNext:=fun _ _ σ H _ I h=>g3n ⟨σ,H,I,h⟩
theorem qlx(h1:PS X st t)(h2:PSs X rest u): PSs X (st :: rest) (qvc t u):=by
 intro pins s σ H D I h;refine wpAny_execs_cons (thn (h1 pins s σ H {D with nx:=u D} I h) fun f s1 q=>?_);cases f with
 | next=>
  obtain⟨σ',H',I',q⟩:=q;exact h2 pins s1 σ' H' D I' q
 | ret v=>exact q
 | brk=>exact q
 | cont=>exact q
theorem qpd(h1:PS X st t): PSs X [st] t:=by
 intro pins s σ H D I h;refine wpAny_execs_cons (thn (h1 pins s σ H D I h) fun f s1 q=>?_);cases f with
 | next=>exact g3n q
 | ret v=>exact q
 | brk=>exact q
 | cont=>exact q
theorem Inv.quiet{pins:List (Addr×Obj)}{σ : St}{H:Hp}{s:Shared}(I:Inv X pins σ H s): interactive X.env=false:=by simp [interactive,I.ok.kind]
def qu6(te:TE): TS:=fun D σ H=>te σ H fun _ H1=>D.nx σ H1
theorem qgq(he:PE X e te)(hs:swapsWith e none pos.line X.env=pure false:=by rfl): PS X (.Expr e pos) (qu6 te):=by
 intro pins s σ H D I h;exact wpAny_Expr_any (thn (he pins s σ H _ I h) fun v s1 ⟨x,H1,I1,r1,q1⟩=>⟨σ,H1,I1,q1⟩) I.quiet hs
def qvd(te:TE): TS:=fun D σ H=>te σ H D.rt
theorem qrz(he:PE X e te): PS X (.Return (some e) pos) (qvd te):=by
 intro pins s σ H D I h;exact wpAny_Return_some (thn (he pins s σ H _ I h) fun v s1 ⟨x,H1,I1,r1,q1⟩=>⟨x, σ,H1,I1,r1,q1⟩)
def qve(c:TT)(t u:TS): TS:=fun D σ H=>c σ H fun b H1=>if b=true then t D σ H1 else u D σ H1
theorem qu7{c:Expr}{a b:List Stmt}{tc:TT}(hc:PT X c tc)(ha:PSs X a t)(hb:PSs X b u): PS X (.If c a b pos) (qve tc t u):=by
 intro pins s σ H D I h;refine wpAny_If (thn (hc pins s σ H _ I h) fun d s1 ⟨H1,I1,q1⟩=>?_);cases d with
 | true=>exact ha pins s1 σ H1 D I1 q1
 | false=>exact hb pins s1 σ H1 D I1 q1
end
abbrev TG:=V->St->Hp->(St->Hp->Prop)->Prop
abbrev TGs:=List V->St->Hp->(St->Hp->Prop)->Prop
def PG(X:Cx)(target:Expr)(t:TG): Prop:=
 ∀(pins:List (Addr×Obj)) (s:Shared) (σ : St) (H:Hp) (v:V) (u:Value) (Q:St->Hp->Prop),Inv X pins σ H s->RelV v u->t v σ H Q ->
  wpAny (model X.prog X.w) X.A (assign target X.env u) (fun _ s'=>∃ σ' H',Inv X pins σ' H' s'/\Q σ' H') X.xe s
def PGs(X:Cx)(ts:List Expr)(t:TGs): Prop:=
 ∀(pins:List (Addr×Obj)) (s:Shared) (σ : St) (H:Hp) (vs:List V) (us:List Value) (Q:St->Hp->Prop),Inv X pins σ H s->Vals vs us->t vs σ H Q ->
  wpAny (model X.prog X.w) X.A (assignInOrder ((assignEach ts X.env).map (·.2)) us) (fun _ s'=>∃ σ' H',Inv X pins σ' H' s'/\Q σ' H') X.xe s
section
variable{X:Cx}{pos:Pos}
def q74(i:Nat): TG:=fun v σ H Q=>Q (σ.set i (some v)) H
theorem qpe{i:Nat}{x:Str}(hN:X.N.Nodup)(hi:X.N[i]? = some x)(hx:Loc X.env.scope x)(hf:X.fn x=true\/X.env.scope.names.lookup x=some .local:=by first|exact .inl rfl|exact .inr rfl|assumption): PG X (.Name x pos) (q74 i):=by
 intro pins s σ H v u Q I r h;exact wpAny_assign_Name (q7z I hN hi hx r (fun s' I'=>⟨_,H,I',h⟩) hf)
def gNil:TGs:=fun vs σ H Q=>vs=[]/\Q σ H
def qu8(t:TG)(u:TGs): TGs:=fun vs σ H Q=>∃v r,vs=v :: r/\t v σ H fun σ' H'=>u r σ' H' Q
theorem qpf:PGs X [] gNil:=by
 intro pins s σ H vs us Q I r h;obtain⟨e,h⟩:=h;subst e;cases r;exact assignInOrder_nil ⟨σ,H,I,h⟩
theorem qly{e:Expr}{es:List Expr}{t:TG}{u:TGs}(h1:PG X e t)(h2:PGs X es u)
  (hs:(assignEach (e :: es) X.env).map (·.2)=assign e X.env :: (assignEach es X.env).map (·.2):=by rfl):PGs X (e :: es) (qu8 t u):=by
 intro pins s σ H vs us Q I r h;obtain⟨v,vr,e1,h⟩:=h;subst e1;cases r with
 | cons r rr=>
  rw [hs];refine assignInOrder_cons (thn (h1 pins s σ H _ _ _ I r h) fun _ s1 ⟨σ1,H1,I1,q1⟩=>?_);exact h2 pins s1 σ1 H1 _ _ Q I1 rr q1
def qvf(K:PySem.W.Frag)(n:Nat)(t:TGs): TG:=fun v σ H Q=>∃a xs,v=.ref a/\SqT K H a xs/\xs.length=n/\t xs σ H Q
theorem qs0{es:List Expr}{k:Nat}{t:TGs}{n:Nat}(hc:X.calm=true)(h:PGs X es t)
  (hn:(assignEach es X.env).length=n:=by rfl) (hst:(assignEach es X.env).findIdx? (·.1)=none:=by rfl):PG X (.Tuple es k pos) (qvf X.K n t):=by
 intro pins s σ H v u Q I r hw;obtain⟨a,xs,e1,hq,hl,hw⟩:=hw;subst e1;cases r;obtain⟨its,rv,ht,hz⟩:=I.tuple hq;refine assign_Tuple_tuple (I.ok.hd hc) ht (by simp [hn, <- hl,rv.length]) hst fun h' hx=>?_;have I1:Inv X pins σ H {s with heap:=h'}:=I.kept (t':=s.toks) fun b o e=>hx b o (m9 (gz e)) e;exact h pins _ σ H xs _ Q I1 (by simpa using rv) hw
def qs1(te:TE)(g:TG): TS:=fun D σ H=>te σ H fun x H1=>g x σ H1 D.nx
theorem qja{i:Nat}{x:Str}{e:Expr}{te:TE}{pos':Pos}(hN:X.N.Nodup)(hi:X.N[i]? = some x)(hx:Loc X.env.scope x)(he:PE X e te)(hs:swapsWith e (some (.Name x pos')) pos.line X.env=pure false:=by rfl)(hf:X.fn x=true\/X.env.scope.names.lookup x=some .local:=by first|exact .inl rfl|exact .inr rfl|assumption):
  PS X (.Assign [.Name x pos'] e pos) (qs1 te (q74 i)):=by
 intro pins s σ H D I h;refine wpAny_Assign_Name (thn (he pins s σ H _ I h) fun v s1 ⟨y,H1,I1,r1,q1⟩=>?_) hs;exact q7z I1 hN hi hx r1 (fun s2 I2=>⟨_,H1,I2,q1⟩) hf
end
section
variable{X:Cx}{pos:Pos}
def qs2(c:TT)(tb:TS): TS:=fun D σ H=>∃W:Nat->St->Hp->Prop,(∃m,W m σ H)/\∀m σ H,W m σ H ->
 c σ H fun b H1=>if b=true then ∃N:St->Hp->Prop,(∀ σ' H',N σ' H'->∃m',m'<m/\W m' σ' H')/\tb {D with nx:=N,ct:=N,bk:=D.nx} σ H1 else D.nx σ H1
theorem qlz{c:Expr}{body:List Stmt}{tc:TT}{tb:TS}(hp:PassesOwn (model X.prog X.w) X.A X.env X.xe)(hc:PT X c tc)(hb:PSs X body tb): PS X (.While c body [] pos) (qs2 tc tb):=by
 intro pins s σ H D I h;obtain⟨W,⟨m0,w0⟩,turn⟩:=h;refine wpAny_While (codeAny_whileLoop (fun n s'=>∃ σ' H',Inv X pins σ' H' s'/\W n σ' H') ?_ m0 ⟨σ,H,I,w0⟩)
 rintro n s1 ⟨σ1,H1,I1,w1⟩
 refine g1b hp (thn (hc pins s1 σ1 H1 _ I1 (turn n σ1 H1 w1)) fun b s2 ⟨H2,I2,q2⟩=>?_);cases b with
 | true=>
  obtain⟨N,hN,q2⟩:=q2;rw [mh rfl];refine g1b hp (thn (hb pins s2 σ1 H2 _ I2 q2) fun f s3 q3=>?_);cases f with
  | next=>
   obtain⟨σ3,H3,I3,n3⟩:=q3;obtain⟨m',hm,w3⟩:=hN σ3 H3 n3;exact⟨m',hm, σ3,H3,I3,w3⟩
  | cont=>
   obtain⟨σ3,H3,I3,n3⟩:=q3;obtain⟨m',hm,w3⟩:=hN σ3 H3 n3;exact⟨m',hm, σ3,H3,I3,w3⟩
  | brk=>exact q3
  | ret v=>exact q3
 | false=>
  rw [mi m5];exact g3n ⟨σ1,H2,I2,q2⟩
end
structure It where
 go:Nat->Hp->Prop
 yld:Nat->Hp->V->Hp->Prop
 stop:Nat->Hp->Prop
def q0f(X:Cx)(pins:List (Addr×Obj))(H:Hp)(b:Addr): Prop:=
 H b=none/\b≠X.env.locals/\b∉X.fs/\(b∈X.ex\/X.s₀.heap.objs.size<=b)/\(∀x c,X.env.cells.lookup x=some c->c≠b)/\∀p∈X.pn++pins,p.1≠b
theorem Inv.fpOk{X:Cx}{pins:List (Addr×Obj)}{σ : St}{H H':Hp}{s:Shared}{b:Addr}(I:Inv X pins σ H s)(hb:s.heap.objs.size<=b)(hn:H' b=none): q0f X pins H' b:=by
 refine⟨hn,uh (gh I.lt hb),I.nofs hb,.inr (md I.sz hb),fun x c e z=>?_,fun p hp z=>?_⟩
 ·obtain⟨v,q⟩:=I.cell x c e
  exact absurd (gh q.lt (by rw [z];exact hb)) (g0d _)
 ·exact absurd (gh (gz (I.pin p hp).1) (by rw [z];exact hb)) (g0d _)
structure Turn(P:Program)(w:World)(K:PySem.W.Frag)(tg:Expr)(J:It)(fp:List Addr)(it:Addr)(tn:Nat->Heap->Prop): Prop where
 mem:it∈fp
 obj:∀i h,tn i h->∀b∈fp,∃o,h.get? b=some o/\∀v,o.data ≠ .cell v
 keep:∀i h h',tn i h->(∀b∈fp,∀o,h.get? b=some o->h'.get? b=some o)->tn i h'
 item:∀(X:Cx),X.prog=P->X.w=w->X.K=K->X.calm=true->∀(i:Nat) (pins:List (Addr×Obj)) (s:Shared) (σ : St) (H:Hp) (E:Value->Shared->Prop),Inv X pins σ H s->(∀b∈fp,q0f X pins H b)->tn i s.heap->J.go i H ->
  wpAny (model P w) X.A (pyNext (.ref it)) (fun r s1=>∃u,r=some u /\
   wpAny (model P w) X.A (letOwnedTupleGo tg (.ref it) u) (fun _ s2=>∃x H',Inv X pins σ H' s2/\RelV x u/\J.yld i H x H'/\tn (i+1) s2.heap/\∀b∈fp,H' b=none) E s1) E s
 done:∀(X:Cx),X.prog=P->X.w=w->X.K=K->X.calm=true->∀(i:Nat) (pins:List (Addr×Obj)) (s:Shared) (σ : St) (H:Hp) (E:Value->Shared->Prop),Inv X pins σ H s->(∀b∈fp,q0f X pins H b)->tn i s.heap->J.stop i H ->
  wpAny (model P w) X.A (pyNext (.ref it)) (fun r s1=>r=none/\Inv X pins σ H s1) E s
 self:∀(A:Around) (i:Nat) (s:Shared) (Q:Value->Shared->Prop) (E:Value->Shared->Prop),tn i s.heap->Q (.ref it) s->wpAny (model P w) A (pyIter (.ref it)) Q E s
abbrev TI:=St->Hp->(It->Hp->Prop)->Prop
def PIE(X:Cx)(pins:List (Addr×Obj))(σ : St)(tg:Expr)(R:It->Hp->Prop)(itv:Value)(s2:Shared): Prop:=
 ∃(it:Addr) (fp:List Addr) (tn:Nat->Heap->Prop) (J:It) (H':Hp),itv=.ref it/\Inv X pins σ H' s2/\Turn X.prog X.w X.K tg J fp it tn/\tn 0 s2.heap/\(∀b∈fp,q0f X pins H' b)/\R J H'
def PI(X:Cx)(tg iter:Expr)(wi:TI): Prop:=
 ∀(pins:List (Addr×Obj)) (s:Shared) (σ : St) (H:Hp) (R:It->Hp->Prop),Inv X pins σ H s->wi σ H R ->
  wpAny (model X.prog X.w) X.A (eval iter X.env) (fun v s1=>wpAny (model X.prog X.w) X.A (pyIter v) (PIE X pins σ tg R) X.xe s1) X.xe s
theorem qcq{M:Model}{A:Around}{E:Value->Shared->Prop}{s:Shared}{tg:Expr}{it:Addr}{u:Value}{o:Obj}{n:String}{vs:Array Value}{Q:Unit->Shared->Prop}(ho:s.heap.get? it=some o)(hc:o.cls=.type n)(hd:o.data=.fields vs)
  (hn:["enumerate","zip","dict_itemiterator","dict_reverseitemiterator","odict_iterator","itertools.zip_longest","itertools.pairwise"].contains n=false) (hQ:Q () s):wpAny M A (letOwnedTupleGo tg (.ref it) u) Q E s:=by
 unfold letOwnedTupleGo;cases tg <;> first
  | exact g9 hQ
  | (cases u <;> first
    | exact g9 hQ
    | (refine g0 (wpAny_load ho ?_);rw [hc,hd];show wpAny M A (if(["enumerate","zip","dict_itemiterator","dict_reverseitemiterator","odict_iterator","itertools.zip_longest","itertools.pairwise"].contains n&&vs[0]? == some (rawInt _))=true then _ else _) Q E s;rw [mi (by intro h;rw [hn,g43] at h;cases h)];exact g9 hQ))
def Itl(K:PySem.W.Frag)(a:Addr): It:=
 ⟨fun i H=>∃xs x,SqL K H a xs/\xs[i]? = some x,fun i H x H'=>H'=H/\∀xs,SqL K H a xs->xs[i]? = some x,fun i H=>∃xs,SqL K H a xs/\xs.length<=i⟩
def Itt(K:PySem.W.Frag)(a:Addr): It:=
 ⟨fun i H=>∃xs x,SqT K H a xs/\xs[i]? = some x,fun i H x H'=>H'=H/\∀xs,SqT K H a xs->xs[i]? = some x,fun i H=>∃xs,SqT K H a xs/\xs.length<=i⟩
def Itr(lo:Int)(n:Nat): It:=⟨fun i _=>i<n,fun i H x H'=>H'=H/\x=.int (lo+i),fun i _=>n<=i⟩
theorem qjb{P:Program}{w:World}{K:PySem.W.Frag}{tg:Expr}(a it:Addr): Turn P w K tg (Itl K a) [it] it (fun i h=>h.IsListIter it a i) where
 mem:=by simp
 obj:=fun i h st b hb=>by
  have e:b=it:=by simpa using hb
  subst e;obtain⟨o,e,c,d⟩:=st;exact⟨o,e,fun v z=>by rw [d] at z;cases z⟩
 keep:=fun i h h' st k=>st.at fun o e=>k it (by simp) o e
 item:=by
  intro X hP hw hK hc i pins s σ H E I hf st hg;subst hP hw hK;obtain⟨xs,x,hq,hx⟩:=hg;obtain⟨its,rv,p,hz⟩:=I.list hq;obtain⟨u,hu,ru⟩:=rv.get hx;obtain⟨f0,f1,f2,f3,f4,f5⟩:=hf it (by simp);refine wpAny_pyNext_list_item st p.isList (x:=u) (by simpa using hu) fun h' st' sb=>?_;have I1:Inv X pins σ H {s with heap:=h'}:=I.turned (t':=s.toks) (fun b o hb e=>(sb.2 b hb).trans e) f0 f1 f3 f4 f5;obtain⟨o,e,c,d⟩:=id st';exact⟨u,rfl,qcq (s:={s with heap:=h'}) e c d (by decide) ⟨x,H,I1,ru,⟨rfl,fun ys hy=>by rw [I.list_inj hy hq];exact hx⟩,st',fun b hb=>(hf b hb).1⟩⟩
 done:=by
  intro X hP hw hK hc i pins s σ H E I hf st hg;subst hP hw hK;obtain⟨xs,hq,hx⟩:=hg;obtain⟨its,rv,p,hz⟩:=I.list hq;obtain⟨f0,f1,f2,f3,f4,f5⟩:=hf it (by simp);have hl:=rv.length;exact wpAny_pyNext_list_end (I.ok.hd hc) st p.isList (by simp;omega) fun h' eb=>⟨rfl,I.turned (t':=s.toks) (fun b o hb e=>eb b o hb e) f0 f1 f3 f4 f5⟩
 self:=fun _ _ _ _ _ st h=>wpAny_pyIter_listiter st h
theorem qhr{P:Program}{w:World}{K:PySem.W.Frag}{tg:Expr}(a it:Addr): Turn P w K tg (Itt K a) [it] it (fun i h=>h.IsTupleIter it a i) where
 mem:=by simp
 obj:=fun i h st b hb=>by
  have e:b=it:=by simpa using hb
  subst e;obtain⟨o,e,c,d⟩:=st;exact⟨o,e,fun v z=>by rw [d] at z;cases z⟩
 keep:=fun i h h' st k=>st.at fun o e=>k it (by simp) o e
 item:=by
  intro X hP hw hK hc i pins s σ H E I hf st hg;subst hP hw hK;obtain⟨xs,x,hq,hx⟩:=hg;obtain⟨its,rv,p,hz⟩:=I.tuple hq;obtain⟨u,hu,ru⟩:=rv.get hx;obtain⟨f0,f1,f2,f3,f4,f5⟩:=hf it (by simp);refine wpAny_pyNext_tuple_item st (show s.heap.IsTuple a its.toArray from p) (x:=u) (by simpa using hu) fun h' st' sb=>?_;have I1:Inv X pins σ H {s with heap:=h'}:=I.turned (t':=s.toks) (fun b o hb e=>(sb.2 b hb).trans e) f0 f1 f3 f4 f5;obtain⟨o,e,c,d⟩:=id st';exact⟨u,rfl,qcq (s:={s with heap:=h'}) e c d (by decide) ⟨x,H,I1,ru,⟨rfl,fun ys hy=>by rw [I.tuple_inj hy hq];exact hx⟩,st',fun b hb=>(hf b hb).1⟩⟩
 done:=by
  intro X hP hw hK hc i pins s σ H E I hf st hg;subst hP hw hK;obtain⟨xs,hq,hx⟩:=hg;obtain⟨its,rv,p,hz⟩:=I.tuple hq;obtain⟨f0,f1,f2,f3,f4,f5⟩:=hf it (by simp);have hl:=rv.length;exact wpAny_pyNext_tuple_end (I.ok.hd hc) st (show s.heap.IsTuple a its.toArray from p) (by simp;omega) fun h' eb=>⟨rfl,I.turned (t':=s.toks) (fun b o hb e=>eb b o hb e) f0 f1 f3 f4 f5⟩
 self:=fun _ _ _ _ _ st h=>wpAny_pyIter_tupleiter st h
theorem qhs{P:Program}{w:World}{K:PySem.W.Frag}{tg:Expr}(it:Addr)(lo:Int)(n:Nat): Turn P w K tg (Itr lo n) [it] it (fun i h=>IsRangeIter h it (lo+(i:Nat)*1) ((n:Int)-(i:Nat)) 1) where
 mem:=by simp
 obj:=fun i h st b hb=>by
  have e:b=it:=by simpa using hb
  subst e;exact⟨_,st,fun v z=>by
   have z':Data.fields _=Data.cell v:=z;cases z'⟩
 keep:=fun i h h' st k=>k it (by simp) _ st
 item:=by
  intro X hP hw hK hc i pins s σ H E I hf st hg;subst hP hw hK;obtain⟨f0,f1,f2,f3,f4,f5⟩:=hf it (by simp);have W:=Walks.range (prog:=X.prog) (w:=X.w) (I.ok.hd hc) it lo 1 n;refine W.item i s _ _ hg st fun v h' tk hv st' kk=>?_;obtain⟨t,rfl⟩:=hv;have I1:Inv X pins σ H {s with heap:=h',toks:=tk}:=I.turned (fun b o hb e=>kk b o (by simpa using hb) e) f0 f1 f3 f4 f5;refine⟨_,rfl,qcq (s:={s with heap:=h',toks:=tk}) (n:="range_iterator") st' rfl rfl (by decide) ⟨.int (lo+i),H,I1,⟨t,?_⟩,⟨rfl,rfl⟩,st',fun b hb=>(hf b hb).1⟩⟩;rw [Int.mul_one]
 done:=by
  intro X hP hw hK hc i pins s σ H E I hf st hg;subst hP hw hK;obtain⟨f0,f1,f2,f3,f4,f5⟩:=hf it (by simp);exact wpAny_pyNext_range_end (I.ok.hd hc) st (by have:n<=i:=hg;omega) fun h' eb=>⟨rfl,I.turned (t':=s.toks) (fun b o hb e=>eb b o hb e) f0 f1 f3 f4 f5⟩
 self:=fun _ _ _ _ _ st h=>wpAny_pyIter_rangeiter st h
section
variable{X:Cx}{tg:Expr}
theorem qcy{pins:List (Addr×Obj)}{σ : St}{H:Hp}{s:Shared}{R:It->Hp->Prop}{E:Value->Shared->Prop}{lo hi:Int}{t u v:Tok}{tk:Nat}(I:Inv X pins σ H s)(h1 : -(2 ^ 62)<=lo)(h2:lo<2 ^ 62)(h3 : -(2 ^ 62)<=hi)(h4:hi<2 ^ 62)
  (q:R (Itr lo (hi-lo).toNat) H):wpAny (model X.prog X.w) X.A (pyIter (.ref s.heap.objs.size)) (PIE X pins σ tg R) E {s with heap:=s.heap.push {cls:=.type "range",data:=.fields #[.int lo t,.int hi u,.int 1 v]},toks:=tk}:=by
 refine wpAny_pyIter_range (IsRange.new ..) (small_one h1 h2 h3 h4) ?_;have I1:Inv X pins σ H {s with heap:=s.heap.push {cls:=.type "range",data:=.fields #[.int lo t,.int hi u,.int 1 v]},toks:=tk}:=I.kept fun b o e=>gc _ e;refine⟨(s.heap.push {cls:=.type "range",data:=.fields #[.int lo t,.int hi u,.int 1 v]}).objs.size,[(s.heap.push {cls:=.type "range",data:=.fields #[.int lo t,.int hi u,.int 1 v]}).objs.size],_,_,H,rfl,
  I1.kept (t':=tk) fun b o e=>gc _ e,qhs _ lo (hi-lo).toNat,?_,fun b hb=>?_,q⟩
 ·have e1:lo+((0:Nat):Int)*1=lo:=by simp
  have e2:(((hi-lo).toNat:Nat):Int)-((0:Nat):Int)=Builtin.Range.rangeSize lo hi 1:=by rw [rangeSize_one];split <;> omega
  show IsRangeIter _ _ (lo+((0:Nat):Int)*1) ((((hi-lo).toNat:Nat):Int)-((0:Nat):Int)) 1;rw [e1,e2];exact gj _ rfl
 ·have e:b=(s.heap.push {cls:=.type "range",data:=.fields #[.int lo t,.int hi u,.int 1 v]}).objs.size:=by simpa using hb
  subst e;exact I1.fpOk (gv _) (I1.hok.fresh (gv _))
def qu9(ta:TA): TI:=fun σ H R=>ta σ H fun vs H1=>∃j:Int,vs=[.int j] /\ -(2 ^ 62)<=j/\j<2 ^ 62/\R (Itr 0 j.toNat) H1
def qua(ta:TA): TI:=fun σ H R=>ta σ H fun vs H1=>∃i j:Int,vs=[.int i,.int j]/\(-(2 ^ 62)<=i/\i<2 ^ 62 /\ -(2 ^ 62)<=j/\j<2 ^ 62)/\R (Itr i (j-i).toNat) H1
theorem qjc{a:Expr}{ta:TA}{p pos:Pos}(hg:Gl X "range")(hm:X.mg "range" = none)(ha:PA X [a] ta)(hs:starEach [a] X.env=[(false,eval a X.env)]:=by rfl): PI X tg (.Call (.Name "range" p) [a] [] pos) (qu9 ta):=by
 intro pins s σ H R I h;refine Call_ (q06 I hg hm boot_range (g0b (thn (ha pos pins s σ H _ I h) fun us s1 ⟨vs,H1,I1,r1,q1⟩=>?_) hs rfl));obtain⟨j,e,q1,q2,q⟩:=q1;subst e;cases r1 with
 | cons r rr=>
  cases rr;obtain⟨t,rfl⟩:=r;exact call_range_1 (qcy I1 (by omega) (by omega) q1 q2 (by simpa using q))
theorem qjd{a b:Expr}{ta:TA}{p pos:Pos}(hg:Gl X "range")(hm:X.mg "range" = none)(ha:PA X [a,b] ta)(hs:starEach [a,b] X.env=[(false,eval a X.env),(false,eval b X.env)]:=by rfl)(hs2:starEach [b] X.env=[(false,eval b X.env)]:=by rfl):
  PI X tg (.Call (.Name "range" p) [a,b] [] pos) (qua ta):=by
 intro pins s σ H R I h;refine Call_ (q06 I hg hm boot_range (g0b (thn (ha pos pins s σ H _ I h) fun us s1 ⟨vs,H1,I1,r1,q1⟩=>?_) (by rw [hs,hs2]) (by rw [hs2];rfl)));obtain⟨i,j,e,⟨q1,q2,q3,q4⟩,q⟩:=q1;subst e;cases r1 with
 | cons r rr=>
  cases rr with
  | cons r' rr=>
   cases rr;obtain⟨t,rfl⟩:=r;obtain⟨t',rfl⟩:=r';exact call_range_2 (qcy I1 q1 q2 q3 q4 q)
def qvg(wi:TI)(g:TG)(tb:TS): TS:=fun D σ H=>wi σ H fun J H1=>∃W:Nat->Nat->St->Hp->Prop,(∃m,W 0 m σ H1)/\∀i m σ H,W i m σ H ->
 (J.stop i H/\D.nx σ H)\/(J.go i H/\∃N:St->Hp->Prop,(∀ σ' H',N σ' H'->∃m',m'<m/\W (i+1) m' σ' H')/\∀x H',J.yld i H x H'->g x σ H' fun σ2 H2=>tb {D with nx:=N,ct:=N,bk:=D.nx} σ2 H2)
def q4b(fp:List Addr)(h:Heap): List (Addr×Obj):=fp.filterMap fun b=>(h.get? b).map fun o=>(b,o)
theorem q2g{fp:List Addr}{h:Heap}{b:Addr}{o:Obj}(hb:b∈fp)(e:h.get? b=some o): (b,o)∈q4b fp h:=g4b.mpr ⟨b,hb,by rw [e];rfl⟩
theorem qje{fp:List Addr}{h:Heap}{p:Addr×Obj}(hp:p∈q4b fp h): p.1∈fp/\h.get? p.1=some p.2:=by
 obtain⟨b,hb,e⟩:=g4b.mp hp;cases q:h.get? b with
 | none=>rw [q] at e;cases e
 | some o=>
  rw [q] at e;have e':(b,o)=p:=ma e;subst e';exact⟨hb,q⟩
theorem Inv.pinned{pins:List (Addr×Obj)}{σ : St}{H:Hp}{s:Shared}{fp:List Addr}(I:Inv X pins σ H s)(hf:∀b∈fp,q0f X pins H b)(ho:∀b∈fp,∃o,s.heap.get? b=some o/\∀v,o.data ≠ .cell v): Inv X (pins++q4b fp s.heap) σ H s:=
 I.pins_of fun p hp=>(nt.mp hp).elim (fun z=>I.pin p (n8 _ z)) fun z=>by
  obtain⟨hb,e⟩:=qje z;obtain⟨f0,f1,f2,_⟩:=hf p.1 hb;obtain⟨o,e',d⟩:=ho p.1 hb;rw [e] at e';cases e';exact⟨e,f0,f1,f2,d⟩
theorem Inv.unpinned{pins pl:List (Addr×Obj)}{σ : St}{H:Hp}{s:Shared}(I:Inv X (pins++pl) σ H s): Inv X pins σ H s:=I.pins_of fun p hp=>I.pin p (n8 _ (g27 _ hp))
theorem qs3{iter:Expr}{body:List Stmt}{wi:TI}{g:TG}{tb:TS}{pos:Pos}(hp:PassesOwn (model X.prog X.w) X.A X.env X.xe)(hc:X.calm=true)(hi:PI X tg iter wi)(hg:PG X tg g)(hb:PSs X body tb)
  (hs:∀x,foldedSetIterable iter X.env x=pure x:=by intro _;rfl):PS X (.For tg iter body [] pos) (qvg wi g tb):=by
 intro pins s σ H D I h;refine wpAny_For (thn (hi pins s σ H _ I h) fun v s1 h1=>thn h1 fun itv s2 h2=>?_) hs;obtain⟨it,fp,tn,J,H2,e,I2,T,st2,f2,W,⟨m0,w0⟩,turn⟩:=h2;subst e
 -- what stays true of the iterator's objects through the loop
 have stat:∀ {H':Hp},(∀b∈fp,H' b=none)->∀b∈fp,q0f X pins H' b:=fun hn b hb=>⟨hn b hb,(f2 b hb).2⟩
 refine codeAny_forLoop_any (fun n s'=>∃i σ' H',Inv X pins σ' H' s'/\tn i s'.heap/\(∀b∈fp,H' b=none)/\W i n σ' H') ?_ m0 ⟨0, σ,H2,I2,st2,fun b hb=>(f2 b hb).1,w0⟩
 rintro n s3 ⟨i, σ3,H3,I3,st3,fr3,w3⟩
 rcases turn i n σ3 H3 w3 with⟨stop,qn⟩|⟨go,N,hN,step⟩
 ·refine g1b hp (thn (T.done X rfl rfl rfl hc i pins s3 σ3 H3 X.xe I3 (stat fr3) st3 stop) fun r s4 ⟨hr,I4⟩=>?_)
  subst hr;exact g3n ⟨σ3,H3,I4,qn⟩
 ·refine g1b hp (thn (T.item X rfl rfl rfl hc i pins s3 σ3 H3 X.xe I3 (stat fr3) st3 go) fun r s4 ⟨u,hr,h4⟩=>?_)
  subst hr;refine g1b hp (thn h4 fun _ s5 ⟨x,H5,I5,r5,y5,st5,fr5⟩=>?_);have I5':=I5.pinned (stat fr5) (T.obj _ _ st5);refine g1b hp (thn (hg _ s5 σ3 H5 x u _ I5' r5 (step x H5 y5)) fun _ s6 ⟨σ6,H6,I6,q6⟩=>?_);refine g1b hp (thn (hb _ s6 σ6 H6 _ I6 q6) fun f s7 q7=>?_);have again:∀ {σ7:St} {H7:Hp},Inv X (pins++q4b fp s5.heap) σ7 H7 s7->N σ7 H7->∃m,m<n/\∃i σ' H',Inv X pins σ' H' s7/\tn i s7.heap/\(∀b∈fp,H' b=none)/\W i m σ' H':=fun {σ7 H7} I7 n7=>by
   obtain⟨m',hm,w7⟩:=hN σ7 H7 n7;refine⟨m',hm,i+1, σ7,H7,I7.unpinned,T.keep _ _ _ st5 fun b hb o e=>(I7.pin (b,o) (n8 _ (n8 _ (q2g hb e)))).1,fun b hb=>?_,w7⟩;obtain⟨o,e,d⟩:=T.obj _ _ st5 b hb;exact(I7.pin (b,o) (n8 _ (n8 _ (q2g hb e)))).2.1
  cases f with
  | next=>obtain⟨σ7,H7,I7,n7⟩:=q7;exact again I7 n7
  | cont=>obtain⟨σ7,H7,I7,n7⟩:=q7;exact again I7 n7
  | brk=>obtain⟨σ7,H7,I7,q7⟩:=q7;exact⟨σ7,H7,I7.unpinned,q7⟩
  | ret v=>obtain⟨x7, σ7,H7,I7,r7,q7⟩:=q7;exact⟨x7, σ7,H7,I7.unpinned,r7,q7⟩
end
abbrev R2:=V->V->Hp->VK->Prop
def OpR(X:Cx)(f:Value->Value->Sem Value)(r:R2): Prop:=
 ∀(pins:List (Addr×Obj)) (s:Shared) (σ : St) (H:Hp) (x y:V) (v u:Value) (Q:VK),Inv X pins σ H s->RelV x v->RelV y u->r x y H Q ->
  wpAny (model X.prog X.w) X.A (f v u) (EP X pins σ Q) X.xe s
def xp(X:Cx)(f:Value)(r:List V->Hp->VK->Prop): Prop:=
 ∀(pins:List (Addr×Obj)) (s:Shared) (σ : St) (H:Hp) (xs:List V) (us:List Value) (Q:VK),Inv X pins σ H s->Vals xs us->r xs H Q ->
  wpAny (model X.prog X.w) X.A (call f us) (EP X pins σ Q) X.xe s
def qvh(X:Cx)(r:V->Hp->(Bool->Hp->Prop)->Prop): Prop:=
 ∀(pins:List (Addr×Obj)) (s:Shared) (σ : St) (H:Hp) (x:V) (v:Value) (Q:Bool->Hp->Prop),Inv X pins σ H s->RelV x v->r x H Q ->
  wpAny (model X.prog X.w) X.A (truthy v) (TP X pins σ Q) X.xe s
def tOp(r:R2)(ta tb:TE): TE:=fun σ H Q=>ta σ H fun x H1=>tb σ H1 fun y H2=>r x y H2 Q
def rI(C:Int->Int->Prop)(g:Int->Int->V): R2:=fun x y H Q=>∃i j,x=.int i/\y=.int j/\C i j/\Q (g i j) H
def rI0(g:Int->Int->V): R2:=fun x y H Q=>∃i j,x=.int i/\y=.int j/\Q (g i j) H
section
variable{X:Cx}{a b c:Expr}{ta tb tc:TE}{pos:Pos}
theorem qm0(ha:PE X a ta)(hb:PE X b tb){pins:List (Addr×Obj)}{s:Shared}{σ : St}{H:Hp}{R:V->V->Hp->Prop}(I:Inv X pins σ H s)
  (h:ta σ H fun x H1=>tb σ H1 fun y H2=>R x y H2) {Q:Value->Shared->Prop} {f:Value->Value->Sem Value}
  (hf:∀v u s2 x y H2,Inv X pins σ H2 s2->RelV x v->RelV y u->R x y H2->wpAny (model X.prog X.w) X.A (f v u) Q X.xe s2) :
  wpAny (model X.prog X.w) X.A (eval a X.env) (fun v s₁=>wpAny (model X.prog X.w) X.A (eval b X.env) (fun u s₂=>wpAny (model X.prog X.w) X.A (f v u) Q X.xe s₂) X.xe s₁) X.xe s:=by
 refine thn (ha pins s σ H _ I h) fun v s1 ⟨x,H1,I1,r1,q1⟩=>?_;refine thn (hb pins s1 σ H1 _ I1 q1) fun u s2 ⟨y,H2,I2,r2,q2⟩=>?_;exact hf v u s2 x y H2 I2 r1 r2 q2
theorem qot{op:Operator}{r:R2}(ho:OpR X (binaryOp op) r)(ha:PE X a ta)(hb:PE X b tb): PE X (.BinOp a op b pos) (tOp r ta tb):=by
 intro pins s σ H Q I h;exact wpAny_BinOp (qm0 ha hb I h fun v u s2 x y H2 I2 rx ry q=>ho pins s2 σ H2 x y v u Q I2 rx ry q)
theorem opI{f:Value->Value->Sem Value}{C:Int->Int->Prop}{g:Int->Int->Int}
  (rule:∀(i j:Int) (t u:Tok) (s:Shared) (Q:Value->Shared->Prop) (E:Value->Shared->Prop),C i j->Q (.int (g i j) s.toks) {s with toks:=s.toks+1}->wpAny (model X.prog X.w) X.A (f (.int i t) (.int j u)) Q E s) :
  OpR X f (rI C fun i j=>.int (g i j)):=by
 intro pins s σ H x y v u Q I rx ry h;obtain⟨i,j,rfl,rfl,hc,q⟩:=h;obtain⟨t,rfl⟩:=rx;obtain⟨t',rfl⟩:=ry;exact rule i j t t' s _ _ hc ⟨.int (g i j),H,I.tok _,⟨_,rfl⟩,q⟩
theorem qm1{f:Value->Value->Sem Value}{g:Int->Int->Int}
  (rule:∀(i j:Int) (t u:Tok) (s:Shared) (Q:Value->Shared->Prop) (E:Value->Shared->Prop),Q (.int (g i j) s.toks) {s with toks:=s.toks+1}->wpAny (model X.prog X.w) X.A (f (.int i t) (.int j u)) Q E s) :
  OpR X f (rI0 fun i j=>.int (g i j)):=by
 intro pins s σ H x y v u Q I rx ry h;obtain⟨i,j,rfl,rfl,q⟩:=h;obtain⟨t,rfl⟩:=rx;obtain⟨t',rfl⟩:=ry;exact rule i j t t' s _ _ ⟨.int (g i j),H,I.tok _,⟨_,rfl⟩,q⟩
theorem qm2{f:Value->Value->Sem Value}{g:Int->Int->Bool}
  (rule:∀(i j:Int) (t u:Tok) (s:Shared) (Q:Value->Shared->Prop) (E:Value->Shared->Prop),Q (.bool (g i j)) s->wpAny (model X.prog X.w) X.A (f (.int i t) (.int j u)) Q E s) :
  OpR X f (rI0 fun i j=>.bl (g i j)):=by
 intro pins s σ H x y v u Q I rx ry h;obtain⟨i,j,rfl,rfl,q⟩:=h;obtain⟨t,rfl⟩:=rx;obtain⟨t',rfl⟩:=ry;exact rule i j t t' s _ _ ⟨.bl (g i j),H,I,rfl,q⟩
def qvi(i j:Int): Prop:=0<j/\j<1073741824
def qs4(i j:Int): Prop:=0<=j/\j<=1000000/\i.natAbs<2 ^ 64
def CMul(i j:Int): Prop:=(-(2 ^ 64)<i/\i<2 ^ 64)\/(-(2 ^ 64)<j/\j<2 ^ 64)
theorem CMul.ok{i j:Int}(h:CMul i j): IntMulOk i j:=by
 rcases h with⟨h1,h2⟩|⟨h1,h2⟩
 ·exact .of_left (intBits_le_64 h1 h2)
 ·exact .of_right (intBits_le_64 h1 h2)
theorem qht(k:Nat): (0:Int)<=2 ^ k:=by
 rw [two_pow_cast];exact g4c _
theorem qs5:OpR X (binaryOp .Add) (rI0 fun i j=>.int (i+j)):=qm1 fun _ _ _ _ _ _ _ q=>add_int q
theorem qs6:OpR X (binaryOp .Sub) (rI0 fun i j=>.int (i-j)):=qm1 fun _ _ _ _ _ _ _ q=>sub_int q
theorem qs7:OpR X (binaryOp .Mult) (rI CMul fun i j=>.int (i*j)):=opI fun _ _ _ _ _ _ _ hc q=>mul_int q hc.ok
theorem qpg:OpR X (binaryOp .FloorDiv) (rI qvi fun i j=>.int (i / j)):=opI fun i j _ _ _ _ _ hc q=>by
 have h1:(0:Int)<j:=hc.1;have h2:j<1073741824:=hc.2;exact floordiv_int (by omega) (by rw [g4j i (by omega)];exact q) (.inl (PyProof.noPylong_small (by omega)))
theorem qs8:OpR X (binaryOp .Mod) (rI (fun _ j=>0<j) fun i j=>.int (i%j)):=opI fun i j _ _ _ _ _ hc q=>by
 have h1:(0:Int)<j:=hc;exact mod_int' (by omega) (by rw [Int.fmod_eq_emod_of_nonneg i (by omega)];exact q)
theorem qs9:OpR X (binaryOp .Pow) (rI qs4 fun i j=>.int (i ^ j.toNat)):=opI fun _ _ _ _ _ _ _ hc q=>pow_int_small hc.1 hc.2.1 hc.2.2 q
theorem qsa:OpR X (binaryOp .LShift) (rI qs4 fun i j=>.int (i*2 ^ j.toNat)):=opI fun _ _ _ _ _ _ _ hc q=>lshift_int_small hc.1 hc.2.1 hc.2.2 q
theorem qsb:OpR X (binaryOp .RShift) (rI (fun _ j=>0<=j) fun i j=>.int (i / 2 ^ j.toNat)):=opI fun i j _ _ _ _ _ hc q=>
 rshift_int hc (by rw [g4j i (qht _)];exact q)
theorem qsc:OpR X (binaryOp .BitAnd) (rI0 fun i j=>.int (Builtin.bitAnd i j)):=qm1 fun _ _ _ _ _ _ _ q=>and_int q
end
def qa8:V->V->Bool
 | .non,.non=>true | .non,.int _=>true | .int _,.non=>true | .non,.bl _=>true | .bl _,.non=>true | .non,.str _=>true | .str _,.non=>true
 | .int _,.int _=>true | .bl _,.bl _=>true | .str _,.str _=>true | .byt _,.byt _=>true
 | .int _,.str _=>true | .str _,.int _=>true | .bl _,.str _=>true | .str _,.bl _=>true
 | _,_=>false
def rEq:R2:=fun x y H Q=>qa8 x y=true/\Q (.bl (decide (x=y))) H
def rNe:R2:=fun x y H Q=>qa8 x y=true/\Q (.bl (!decide (x=y))) H
theorem qgr{i j:Int}: decide (V.int i=V.int j)=(i==j):=by
 rw [pd];simp
theorem qjf{i j:Bool}: decide (V.bl i=V.bl j)=(i==j):=by
 rw [pd];simp
theorem qgs{i j:Str}: decide (V.str i=V.str j)=(i==j):=by
 rw [pd];simp
theorem qgt{i j:Array UInt8}: decide (V.byt i=V.byt j)=(i.toList==j.toList):=by
 rw [pd];cases i;cases j;simp
section
variable{X:Cx}{a b c:Expr}{ta tb tc:TE}{pos:Pos}
theorem zl{pins:List (Addr×Obj)}{σ : St}{H:Hp}{s:Shared}{Q:VK}{k k':Bool}(I:Inv X pins σ H s)(q:Q (.bl k) H)(e:k=k'): EP X pins σ Q (.bool k') s:=by
 subst e;exact⟨.bl k,H,I,rfl,q⟩
theorem qub:OpR X (compareOp .Eq) rEq:=by
 intro pins s σ H x y v u Q I rx ry h;obtain⟨hs,q⟩:=h;cases x with
 | non=>
  cases rx;cases y with
  | non=>cases ry;exact PySem.EqNone.eq_none_none (zl I q (by simp))
  | bl j=>cases ry;exact PySem.EqNone.eq_none_bool (zl I q (by simp))
  | int j=>obtain⟨t',rfl⟩:=ry;exact PySem.EqNone.eq_none_int (zl I q (by simp))
  | str j=>obtain⟨t',rfl⟩:=ry;exact PySem.EqNone.eq_none_str (zl I q (by simp))
  | _=>exact absurd (show false=true from hs) m5
 | bl i=>
  cases rx;cases y with
  | non=>cases ry;exact PySem.EqNone.eq_bool_none (zl I q (by simp))
  | bl j=>cases ry;exact eq_bool (zl I q qjf)
  | str j=>obtain⟨t',rfl⟩:=ry;exact PySem.EqMixed.eq_bool_str (zl I q (by simp))
  | _=>exact absurd (show false=true from hs) m5
 | int i=>
  obtain⟨t,rfl⟩:=rx;cases y with
  | non=>cases ry;exact PySem.EqNone.eq_int_none (zl I q (by simp))
  | int j=>obtain⟨t',rfl⟩:=ry;exact eq_int (zl I q qgr)
  | str j=>obtain⟨t',rfl⟩:=ry;exact PySem.EqMixed.eq_int_str (zl I q (by simp))
  | _=>exact absurd (show false=true from hs) m5
 | str i=>
  obtain⟨t,rfl⟩:=rx;cases y with
  | non=>cases ry;exact PySem.EqNone.eq_str_none (zl I q (by simp))
  | bl j=>cases ry;exact PySem.EqMixed.eq_str_bool (zl I q (by simp))
  | int j=>obtain⟨t',rfl⟩:=ry;exact PySem.EqMixed.eq_str_int (zl I q (by simp))
  | str j=>obtain⟨t',rfl⟩:=ry;exact eq_str (zl I q qgs)
  | _=>exact absurd (show false=true from hs) m5
 | byt i=>
  obtain⟨t,rfl⟩:=rx;cases y with
  | byt j=>obtain⟨t',rfl⟩:=ry;exact PySem.W.eq_bytes (zl I q qgt)
  | _=>exact absurd (show false=true from hs) m5
 | _=>cases y <;> exact absurd (show false=true from hs) m5
theorem quc:OpR X (compareOp .NotEq) rNe:=by
 intro pins s σ H x y v u Q I rx ry h;obtain⟨hs,q⟩:=h;cases x with
 | non=>
  cases rx;cases y with
  | non=>cases ry;exact PySem.EqNone.ne_none_none (zl I q (by simp))
  | bl j=>cases ry;exact PySem.EqNone.ne_none_bool (zl I q (by simp))
  | int j=>obtain⟨t',rfl⟩:=ry;exact PySem.EqNone.ne_none_int (zl I q (by simp))
  | str j=>obtain⟨t',rfl⟩:=ry;exact PySem.EqNone.ne_none_str (zl I q (by simp))
  | _=>exact absurd (show false=true from hs) m5
 | bl i=>
  cases rx;cases y with
  | non=>cases ry;exact PySem.EqNone.ne_bool_none (zl I q (by simp))
  | bl j=>cases ry;exact ne_bool (zl I q (uz not qjf))
  | str j=>obtain⟨t',rfl⟩:=ry;exact PySem.EqMixed.ne_bool_str (zl I q (by simp))
  | _=>exact absurd (show false=true from hs) m5
 | int i=>
  obtain⟨t,rfl⟩:=rx;cases y with
  | non=>cases ry;exact PySem.EqNone.ne_int_none (zl I q (by simp))
  | int j=>obtain⟨t',rfl⟩:=ry;exact ne_int (zl I q (uz not qgr))
  | str j=>obtain⟨t',rfl⟩:=ry;exact PySem.EqMixed.ne_int_str (zl I q (by simp))
  | _=>exact absurd (show false=true from hs) m5
 | str i=>
  obtain⟨t,rfl⟩:=rx;cases y with
  | non=>cases ry;exact PySem.EqNone.ne_str_none (zl I q (by simp))
  | bl j=>cases ry;exact PySem.EqMixed.ne_str_bool (zl I q (by simp))
  | int j=>obtain⟨t',rfl⟩:=ry;exact PySem.EqMixed.ne_str_int (zl I q (by simp))
  | str j=>obtain⟨t',rfl⟩:=ry;exact ne_str (zl I q (uz not qgs))
  | _=>exact absurd (show false=true from hs) m5
 | byt i=>
  obtain⟨t,rfl⟩:=rx;cases y with
  | byt j=>obtain⟨t',rfl⟩:=ry;exact PySem.W.ne_bytes (zl I q (uz not qgt))
  | _=>exact absurd (show false=true from hs) m5
 | _=>cases y <;> exact absurd (show false=true from hs) m5
theorem qud:OpR X (compareOp .Lt) (rI0 fun i j=>.bl (decide (i<j))):=qm2 fun _ _ _ _ _ _ _ q=>lt_int q
theorem que:OpR X (compareOp .Gt) (rI0 fun i j=>.bl (decide (j<i))):=qm2 fun _ _ _ _ _ _ _ q=>gt_int q
theorem quf:OpR X (compareOp .GtE) (rI0 fun i j=>.bl (decide (j<=i))):=qm2 fun _ _ _ _ _ _ _ q=>ge_int q
theorem qph{op:CmpOp}{r:R2}(ho:OpR X (compareOp op) r)(ha:PE X a ta)(hb:PE X b tb)(hm:behindInMarks op b=false): PE X (.Compare a [op] [b] pos) (tOp r ta tb):=by
 intro pins s σ H Q I h;exact wpAny_Compare1 (qm0 ha hb I h fun v u s2 x y H2 I2 rx ry q=>ho pins s2 σ H2 x y v u Q I2 rx ry q) hm
def qug(t:TE): TT:=fun σ H Q=>t σ H fun x H'=>∃k,x=.bl k/\Q k H'
theorem qpi{op:CmpOp}{r:R2}(ho:OpR X (compareOp op) r)(ha:PE X a ta)(hb:PE X b tb)(hm:behindInMarks op b=false): PT X (.Compare a [op] [b] pos) (qug (tOp r ta tb)):=by
 intro pins s σ H Q I h;refine wpAny_isTrue_Compare1 (thn (ha pins s σ H _ I h) fun v s1 ⟨x,H1,I1,r1,q1⟩=>thn (hb pins s1 σ H1 _ I1 q1) fun u s2 ⟨y,H2,I2,r2,q2⟩=>
  thn (ho pins s2 σ H2 x y v u _ I2 r1 r2 q2) fun c s3 ⟨z,H3,I3,r3,k,e,q3⟩=>?_) hm
 subst e;cases r3;exact g1h ⟨H3,I3,q3⟩
def qm3(K:PySem.W.Frag)(x:V)(H:Hp)(k:Bool): Prop:=
 match x with
 | .non=>k=false
 | .bl b=>k=b
 | .int i=>k=(i != 0)
 | .str y=>y.length<=sizeLine/\k=((y.length:Int) != 0)
 | .byt y=>y.size<=sizeLine/\k=((y.size:Int) != 0)
 | .ref p=>(∃xs,SqL K H p xs/\k = !xs.isEmpty)\/(∃xs,SqT K H p xs/\k = !xs.isEmpty)\/∃kvs,H p=some (.dK kvs)/\k = !kvs.isEmpty
 | _=>False
theorem qhu{κ : Type}{kvs:List (κ × V)}{vs:List (κ × Value)}(r:KV kvs vs): (!vs.isEmpty) = !kvs.isEmpty:=by
 cases r <;> rfl
theorem q8t{xs:List V}{its:List Value}(r:Vals xs its): (!its.toArray.isEmpty) = !xs.isEmpty:=by
 cases r <;> simp
theorem q5z:(sizeLine:Nat)<2 ^ 63:=by rw [g2e];decide
theorem qsd:qvh X (fun x H Q=>∃k,qm3 X.K x H k/\Q k H):=by
 intro pins s σ H x v Q I rx h;obtain⟨k,e,q⟩:=h;have hl:=q5z;have hs:sizeLine=16777216:=g2e;cases x with
 | non=>
  cases rx;have e':k=false:=e;subst e';exact truthy_none ⟨H,I,q⟩
 | bl b=>
  cases rx;have e':k=b:=e;subst e';exact g1h ⟨H,I,q⟩
 | int i=>
  obtain⟨t,rfl⟩:=rx;have e':k=(i != 0):=e;subst e';exact PySem.P.truthy_int ⟨H,I,q⟩
 | str y=>
  obtain⟨t,rfl⟩:=rx;obtain⟨hy,e'⟩:y.length<=sizeLine/\k=((y.length:Int) != 0):=e;subst e';exact PySem.P.truthy_str (by omega) ⟨H,I.tok _,q⟩
 | byt y=>
  obtain⟨t,rfl⟩:=rx;obtain⟨hy,e'⟩:y.size<=sizeLine/\k=((y.size:Int) != 0):=e;subst e';exact PySem.W.truthy_bytes (by omega) ⟨H,I.tok _,q⟩
 | ref p=>
  cases rx;have e':(∃xs,SqL X.K H p xs/\k = !xs.isEmpty)\/(∃xs,SqT X.K H p xs/\k = !xs.isEmpty)\/∃kvs,H p=some (.dK kvs)/\k = !kvs.isEmpty:=e;rcases e' with⟨xs,hx,e'⟩|⟨xs,hx,e'⟩|⟨kvs,hx,e'⟩
  ·subst e'
   obtain⟨its,r,pl,hz⟩:=I.list hx;have hlen:=r.length;exact wpAny_truthy_list pl.isList (by simp only [gm];omega) ⟨H,I.tok _,by rw [q8t r];exact q⟩
  ·subst e'
   obtain⟨its,r,pl,hz⟩:=I.tuple hx;have hlen:=r.length;exact truthy_tuple pl (by simp only [gm];omega) ⟨H,I.tok _,by rw [q8t r];exact q⟩
  ·subst e'
   obtain⟨hz,hS,vs,r,m⟩:kvs.length<=sizeLine/\(p==sysModules)=false/\∃vs,KV kvs vs/\s.heap.DictOf (mixKind X.prog X.w) p vs:=I.hok p _ hx;have hlen:kvs.length=vs.length:=g4i r;exact wpAny_truthy_dict hS m (by omega) ⟨H,I.tok _,by rw [qhu r];exact q⟩
 | _=>exact(show False from e).elim
theorem qm4(ha:PE X a ta)(he:∀whole,isTrue a X.env whole=(do let v <- whole;standAt a.pos;holding [v] (truthy v))):
  PT X a (fun σ H Q=>ta σ H fun x H'=>∃k,qm3 X.K x H' k/\Q k H'):=by
 intro pins s σ H Q I h;exact isTrue_plain (thn (ha pins s σ H _ I h) fun v s1 ⟨x,H1,I1,r1,q1⟩=>qsd pins s1 σ H1 x v Q I1 r1 q1) (he _)
theorem vals1{x:V}{us:List Value}(r:Vals [x] us): ∃u,us=[u]/\RelV x u:=by
 cases r with
 | cons r1 r2=>cases r2;exact⟨_,rfl,r1⟩
theorem vals2{x y:V}{us:List Value}(r:Vals [x,y] us): ∃u w',us=[u,w']/\RelV x u/\RelV y w':=by
 cases r with
 | cons r1 r2=>
  cases r2 with
  | cons r3 r4=>cases r4;exact⟨_,_,rfl,r1,r3⟩
theorem qjg(hc:X.calm=true): xp X (.builtin "max") (fun xs H Q=>∃i j,xs=[.int i,.int j]/\Q (.int (if j>i then j else i)) H):=by
 intro pins s σ H xs us Q I r h;obtain⟨i,j,rfl,q⟩:=h;obtain⟨u,w',rfl,⟨t,rfl⟩,⟨t',rfl⟩⟩:=vals2 r;refine max_two_ints (I.ok.hd hc) fun h' tk k=>⟨_,H,I.kept k,?_,q⟩
 by_cases hj:j>i
 ·rw [mh hj,mh hj];exact⟨_,rfl⟩
 ·rw [mi hj,mi hj];exact⟨_,rfl⟩
def qvj(K:PySem.W.Frag)(x:V)(H:Hp)(n:Nat): Prop:=
 match x with
 | .str y=>y.length<=sizeLine/\n=y.length
 | .byt y=>y.size<=sizeLine/\n=y.size
 | .ref p=>(∃xs,SqL K H p xs/\n=xs.length)\/∃xs,SqT K H p xs/\n=xs.length
 | _=>False
theorem qm5:xp X (.builtin "len") (fun xs H Q=>∃x n,xs=[x]/\qvj X.K x H n/\Q (.int n) H):=by
 intro pins s σ H xs us Q I r h;obtain⟨x,n,rfl,e,q⟩:=h;obtain⟨u,rfl,rx⟩:=vals1 r;have hl:=q5z;have hs:sizeLine=16777216:=g2e;cases x with
 | str y=>
  obtain⟨t,rfl⟩:=rx;obtain⟨hy,e'⟩:y.length<=sizeLine/\n=y.length:=e;subst e';exact len_str (by omega) ⟨.int _,H,I.tok _,⟨_,rfl⟩,q⟩
 | byt y=>
  obtain⟨t,rfl⟩:=rx;obtain⟨hy,e'⟩:y.size<=sizeLine/\n=y.size:=e;subst e';exact PySem.W.len_bytes (by omega) ⟨.int _,H,I.tok _,⟨_,rfl⟩,q⟩
 | ref p=>
  cases rx;have e':(∃xs,SqL X.K H p xs/\n=xs.length)\/∃xs,SqT X.K H p xs/\n=xs.length:=e;rcases e' with⟨xs,hx,e'⟩|⟨xs,hx,e'⟩
  ·subst e'
   obtain⟨its,r',pl,hz⟩:=I.list hx;have hlen:=r'.length;exact Calls.call_len_list pl.isList (by simp only [gm];omega) ⟨.int xs.length,H,I.tok _,⟨_,by simp only [gm];rw [hlen]⟩,q⟩
  ·subst e'
   obtain⟨its,r',pl,hz⟩:=I.tuple hx;have hlen:=r'.length;exact len_tuple pl (by simp only [gm];omega) ⟨.int xs.length,H,I.tok _,⟨_,by simp only [gm];rw [hlen]⟩,q⟩
 | _=>exact(show False from e).elim
end
structure ObjM(h:Heap)(x dx C:Addr)(mA:Str->Option Value): Prop where
 obj:h.get? x=some (PySem.W.instObj C dx)
 ns:h.Ns1 dx mA
 ne:dx≠x
theorem qjh{h:Heap}{dx:Addr}{mA:Str->Option Value}(n:h.Ns1 dx mA): ∃od,h.get? dx=some od/\∀name,PySem.W.lookIn name od=some (mA name):=by
 obtain⟨o,es,ep,ho,hd,hk,_,hm⟩:=n;refine⟨o,ho,fun name=>?_⟩;have e:=hm name;unfold nsFind findBy at e;rw [<- Array.find?_toList] at e;unfold PySem.W.lookIn;rw [hd];dsimp only
 split
 ·rename_i y q
  rw [q] at e;exact uz some e
 ·rename_i q
  rw [q] at e;have a:es.toList.any (·.refKey)=false:=by
   rw [List.any_eq_false];intro y hy;obtain⟨z,t,hkey⟩:=hk y (Array.mem_toList_iff.mp hy);simp [DictEntry.refKey,hkey]
  have a':¬es.toList.any (·.refKey)=true:=by rw [a];exact m5
  rw [mi a'];exact uz some e
theorem ObjM.look{h:Heap}{x dx C:Addr}{mA:Str->Option Value}(I:ObjM h x dx C mA): ∃od,PySem.W.InstAt h x (PySem.W.instObj C dx) C (some od)/\∀name,PySem.W.lookIn name od=some (mA name):=
 let⟨od,ho,hl⟩:=qjh I.ns
 ⟨od,⟨I.obj,rfl,rfl,ho⟩,hl⟩
section
variable{prog:Program}{w:World}{A:Around}{E:Value->Shared->Prop}{s:Shared}{K:PySem.W.Frag}{x dx C f:Addr}{mA:Str->Option Value}{name:Str}{v:Value}
theorem qm6{pl:Sem Bool}{Q:Value×List Value->Shared->Prop}(X:K.In s.heap)(I:ObjM s.heap x dx C mA)(hg:PySem.W.plainGet K C name=true)
  (hf:PySem.W.findIn K (.ref C) name=some (some (.ref f))) (ht:PySem.W.isFn K (.ref f)=true) (hv:mA name=none) (h:Q (.ref f,[.ref x]) s) :
  wpAny (model prog w) A (getMethod (.ref x) name pl) Q E s:=by
 obtain⟨od,J,hl⟩:=I.look;exact PySem.W.method_fn X J (PySem.W.plainGet_of hg).1 (PySem.W.plainGet_of hg).2 hf (g31.mp ht) (by show(PySem.W.lookIn name od).map (·.isSome)=some false;rw [hl,hv];rfl) h
end
theorem RelO.none_of{o:Option Value}(r:RelO none o): o=none:=by
 cases o with
 | none=>rfl
 | some u=>exact(show False from r).elim
section
variable{P:Program}{w:World}{H H':Hp}{h h':Heap}{a C dx:Addr}{fs fs':List (Str×V)}
theorem qgu(hok:HOk P w H h)(e:H a=some (.ins C dx fs)): ∃mA,ObjM h a dx C mA/\(∀f,RelO (fs.lookup f) (mA f))/\PySem.Within mA (fs.map (·.1))/\fs.length<=1000/\H dx=some (.own a):=by
 obtain⟨d,z,ne,ob,mA,n,r,q⟩:=(show ObjOk P w H h a (.ins C dx fs) from hok a _ e)
 exact⟨mA,⟨ob,n,ne⟩,r,q,z,d⟩
end
structure Cls(K:PySem.W.Frag)(C:Addr): Prop where
 pg:PySem.W.plainGet K C Str.empty=true
 hd:PySem.W.hasDictIn K C=true
 po:PySem.W.plainOver K C=true
 sa:PySem.W.findIn K (.ref C) "__setattr__" = some (some (.builtin "object.__setattr__"))
theorem Cls.get{K:PySem.W.Frag}{C:Addr}(c:Cls K C)(f:Str): PySem.W.plainGet K C f=true:=c.pg
structure Meth(K:PySem.W.Frag)(C:Addr)(m:Str)(f:Addr): Prop where
 at_:PySem.W.findIn K (.ref C) m=some (some (.ref f))
 fn:PySem.W.isFn K (.ref f)=true
 kp:PySem.W.keepIn K (.ref f)=true
section
variable{X:Cx}{pins:List (Addr×Obj)}{σ : St}{H:Hp}{s:Shared}{a C dx:Addr}{fs:List (Str×V)}{f:Str}{v:V}{A:Around}{E:Value->Shared->Prop}
theorem qhv{m:Str}{g:Addr}{pl:Sem Bool}{Q:Value×List Value->Shared->Prop}(I:Inv X pins σ H s)(e:H a=some (.ins C dx fs))(c:Cls X.K C)(k:Meth X.K C m g)(l:fs.lookup m=none)
  (h:Q (.ref g,[.ref a]) s):wpAny (model X.prog X.w) A (getMethod (.ref a) m pl) Q E s:=by
 obtain⟨mA,O,r,_,_,_⟩:=qgu I.hok e;have hn:mA m=none:=RelO.none_of (by rw [<- l];exact r m);exact qm6 I.kIn O (c.get m) k.at_ k.fn hn h
theorem Inv.made(I:Inv X pins σ H s): Inv X pins σ (upd (upd H s.heap.objs.size (.own (s.heap.objs.size+1))) (s.heap.objs.size+1) (.ins C s.heap.objs.size []))
  {s with heap:=(s.heap.push PySem.W.emptyDict).push (PySem.W.instObj C s.heap.objs.size)}:=by
 have e1:(s.heap.push PySem.W.emptyDict).get? s.heap.objs.size=some PySem.W.emptyDict:=gj s.heap rfl;have e2:((s.heap.push PySem.W.emptyDict).push (PySem.W.instObj C s.heap.objs.size)).get? (s.heap.objs.size+1)=some (PySem.W.instObj C s.heap.objs.size):=by
  have:=gj (s.heap.push PySem.W.emptyDict) (o:=PySem.W.instObj C s.heap.objs.size) rfl;rwa [p7] at this
 have e3:(s.heap.push PySem.W.emptyDict).Ns s.heap.objs.size (fun _=>none):=⟨PySem.W.emptyDict, #[],_,e1,rfl,(fun e he=>absurd he (by simp)),fun _=>rfl⟩
 have I1:=I.laid (a:=s.heap.objs.size) (o:=.own (s.heap.objs.size+1)) (h':=s.heap.push PySem.W.emptyDict) (t':=s.toks) (fun b u q=>gc _ q) (gv _) ⟨_,e1⟩;refine I1.laid (a:=s.heap.objs.size+1) (o:=.ins C s.heap.objs.size []) (t':=s.toks) (fun b u q=>gc _ q) (g65 (p7 _ _)) ?_;have ne:s.heap.objs.size≠s.heap.objs.size+1:=m9 (tu _);refine⟨by rw [qo ne,qz],uj _,ne,e2,fun _=>none,(Heap.Ns1.of_empty e3).at fun o q=>gc _ q,fun _=>True.intro,fun y hy=>absurd rfl hy⟩
end
section
variable{X:Cx}{o e value:Expr}{f:Str}{pos pos' tpos:Pos}{ta tv:TE}
end
section
variable{X:Cx}{pins:List (Addr×Obj)}{σ : St}{H:Hp}{s:Shared}{A:Around}{E:Value->Shared->Prop}{Q:Value->Shared->Prop}{c:Value}{b:Bool}
end
structure Room(k:Nat)(A:Around): Prop where
 hd:A.handled=none
 dp:A.depth+3*k+5<recursionLimit
 un:A.units+16*k+200<cLine
theorem Room.mono{j k:Nat}{A:Around}(r:Room k A)(h:j<=k): Room j A:=⟨r.hd,by have:=r.dp;omega,by have:=r.un;omega⟩
theorem Room.deeper{k:Nat}{A:Around}(r:Room (k+1) A)(env:Env): Room k (A.deeper env):=
 ⟨r.hd,by have:=r.dp;show A.depth+1+3*k+5<_;omega,by have:=r.un;show A.units+3+16*k+200<_;omega⟩
theorem Room.in1{k:Nat}{A:Around}(r:Room (k+1) A): Room k A.in1:=
 ⟨r.hd,by have:=r.dp;show A.depth+3*k+5<_;omega,by have:=r.un;show A.units+1+16*k+200<_;omega⟩
theorem Room.depth{k:Nat}{A:Around}(r:Room k A): A.depth<recursionLimit:=by have:=r.dp;omega
theorem Room.units{k:Nat}{A:Around}(r:Room k A): A.units+64<cLine:=by have:=r.un;omega
def tNil:TA:=fun _ H Q=>Q [] H
def quh(ta:TE)(tr:TA): TA:=fun σ H Q=>ta σ H fun x H1=>tr σ H1 fun xs H2=>Q (x :: xs) H2
section
variable{X:Cx}{e:Expr}{es:List Expr}{te:TE}{t:TA}{pos:Pos}
theorem q2u:PA X [] tNil:=fun _ _ _ _ H Q I h=>Calls.spliced_nil ⟨[],H,I,.nil,h⟩
theorem q0l(ha:PE X e te)(hr:PA X es t)(hs:starEach (e :: es) X.env=(false,eval e X.env) :: starEach es X.env:=by rfl): PA X (e :: es) (quh te t):=by
 intro pos pins s σ H Q I h;rw [hs];show wpAny _ _ (spliced ((false,eval e X.env) :: backTo pos (starEach es X.env))) _ _ s;refine Calls.spliced_cons (thn (ha pins s σ H _ I h) fun u s1 ⟨x,H1,I1,r1,q1⟩=>?_);exact thn (hr pos pins s1 σ H1 _ I1 q1) fun us s2 ⟨xs,H2,I2,r2,q2⟩=>⟨x :: xs,H2,I2,.cons r1 r2,q2⟩
def qvk(t:TA): TE:=fun σ H Q=>t σ H fun xs H1=>xs.length<=sizeLine/\∀p,H1 p=none->Q (.ref p) (upd H1 p (.tup xs))
def qvl(t:TA): TE:=fun σ H Q=>t σ H fun xs H1=>xs.length<=sizeLine/\∀p,H1 p=none->Q (.ref p) (upd H1 p (.lst xs))
theorem qse{x1}(h:PA X es t): PE X (.Tuple es x1 pos) (qvk t):=by
 intro pins s σ H Q I hq;refine wpAny_Tuple_spliced (thn (h pos pins s σ H _ I hq) fun us s1 ⟨xs,H1,I1,r,z,q⟩=>⟨by rw [<- r.length];exact z,?_⟩);have hf:H1 s1.heap.objs.size=none:=I1.hok.fresh (gv _);refine⟨.ref s1.heap.objs.size,upd H1 s1.heap.objs.size (.tup xs),I1.laid (t':=s1.toks) (fun b u e=>gc _ e) (gv _) ?_,rfl,q _ hf⟩;exact⟨z,us,r,⟨_,gj _ rfl,rfl,rfl,_,rfl⟩⟩
theorem qsf(h:PA X es t): PE X (.List es pos) (qvl t):=by
 intro pins s σ H Q I hq;refine wpAny_List_spliced (thn (h pos pins s σ H _ I hq) fun us s1 ⟨xs,H1,I1,r,z,q⟩=>⟨by rw [<- r.length];exact z,?_⟩);have hf:H1 s1.heap.objs.size=none:=I1.hok.fresh (gv _);refine⟨.ref s1.heap.objs.size,upd H1 s1.heap.objs.size (.lst xs),I1.laid (t':=s1.toks) (fun b u e=>gc _ e) (gv _) ?_,rfl,q _ hf⟩;exact⟨z,us,0,r,gj _ rfl⟩
end
abbrev Sp:=List V->Hp->VK->XK->Prop
abbrev CXT:=List Env->Hp->Shared->XK->Value->Shared->Prop
structure Env0(P:Program)(w:World)(K:PySem.W.Frag)(mg:Str->Option Value)(base:Heap)(A:Around)(outer:List Env)(s:Shared)(H:Hp): Prop where
 frames:A.frames=some outer
 mod:Mod K mg base
 bs:∀b o,base.get? b=some o->s.heap.get? b=some o/\H b=none
 bsz:base.objs.size<=s.heap.objs.size
 funs:s.heap.FunFrames base outer
 frf:∀b∈frs outer,H b=none
 hok:HOk P w H s.heap
 bare:AllBare s.gens
def CE(outer:List Env)(P:Program)(w:World)(H:Hp)(s:Shared)(Q:VK)(u:Value)(s':Shared): Prop:=
 ∃v H',s'.os=s.os/\AllBare s'.gens/\Un (frs outer) [] H H' s.heap s'.heap/\HOk P w H' s'.heap/\RelV v u/\Q v H'
def CR(CX:CXT)(outer:List Env)(P:Program)(w:World)(H:Hp)(s:Shared)(Q:VK)(E:XK)(r:Result)(s':Shared): Prop:=
 match r with
 | .ok (.ret u)=>CE outer P w H s Q u s'
 | .ok _=>False
 | .error e=>CX outer H s E e s'
structure FnOk(P:Program)(w:World)(K:PySem.W.Frag)(mg:Str->Option Value)(base:Heap)(CX:CXT)(k:Nat)(f:Addr)(fd:FuncData)(ps:List Str)(sp:Sp): Prop where
 len:∀vs H Q E,sp vs H Q E->vs.length=ps.length
 run:∀(A:Around) (outer:List Env) (s:Shared) (H:Hp) (args:Args) (us:List Value) (vs:List V) (Q:VK) (E:XK),Room k A->Env0 P w K mg base A outer s H->BindsTo s fd args (ps.zip us)->Vals vs us->sp vs H Q E ->
  codeAny (model P w) A (.call (.ref f) args) (CR CX outer P w H s Q E) s
theorem FnOk.imp{P:Program}{w:World}{K:PySem.W.Frag}{mg:Str->Option Value}{base:Heap}{CX:CXT}{k:Nat}{f:Addr}{fd:FuncData}{ps:List Str}{sp sp':Sp}(F:FnOk P w K mg base CX k f fd ps sp)
  (h:∀vs H Q E,sp' vs H Q E->sp vs H Q E):FnOk P w K mg base CX k f fd ps sp':=
 ⟨fun vs H Q E q=>F.len vs H Q E (h _ _ _ _ q),fun A outer s H args us vs Q E hr he hb hv hs=>F.run A outer s H args us vs Q E hr he hb hv (h _ _ _ _ hs)⟩
section
variable{X:Cx}{pins:List (Addr×Obj)}{σ : St}{H:Hp}{s s':Shared}
theorem Inv.env0(I:Inv X pins σ H s): Env0 X.prog X.w X.K X.mg X.base X.A X.stack s H:=
 ⟨I.ok.frames,I.ok.mod,I.bs,md I.ok.bsz I.sz,I.stack,I.stkFree,I.hok,I.bare⟩
theorem Inv.after{Q:VK}{u:Value}(I:Inv X pins σ H s)(h:CE X.stack X.prog X.w H s Q u s'): EP X pins σ Q u s':=by
 obtain⟨v,H',os,bare,un,hok,r,q⟩:=h;obtain⟨hh,g,d,t,os'⟩:=s';obtain rfl:os'=s.os:=os;exact⟨v,H',I.call (h':=hh) (g':=g) (d':=d) (t':=t) (ch:=[]) un hok bare (fun b z=>absurd z (by simp)),r,q⟩
end
def qui(sp:Sp)(dvs:List V)(E:XK)(t:TA): TE:=fun σ H Q=>t σ H fun vs H1=>sp (vs++dvs) H1 Q E
def quj(C:Addr)(m:Str)(sp:Sp)(dvs:List V)(E:XK)(ta:TE)(t:TA): TE:=fun σ H Q=>ta σ H fun x H1=>∃a dx fs,x=.ref a/\H1 a=some (.ins C dx fs)/\fs.lookup m=none /\
 t σ H1 fun vs H2=>sp (x :: (vs++dvs)) H2 Q E
def Binds(K:PySem.W.Frag)(fd:FuncData)(ps:List Str)(ds:List Value): Prop:=
 ∀(s:Shared) (us:List Value),K.In s.heap->(us++ds).length=ps.length->BindsTo s fd ⟨us,[]⟩ (ps.zip (us++ds))
theorem Binds.all{K:PySem.W.Frag}{fd:FuncData}{ps:List Str}(h:∀us:List Value,us.length=ps.length->bindArgs fd ⟨us,[]⟩=pure (ps.zip us)): Binds K fd ps []:=fun s us _ hl=>by
 rw [g2j] at hl ⊢;exact .of_eq (h us hl)
def q8u(CX:CXT)(X:Cx)(E:XK): Prop:=∀(pins:List (Addr×Obj)) (σ : St) (H:Hp) (s:Shared) (e:Value) (s':Shared),Inv X pins σ H s->CX X.stack H s E e s'->X.xe e s'
section
variable{X:Cx}{CX:CXT}{k:Nat}{f C:Addr}{fd:FuncData}{ps:List Str}{sp:Sp}{dvs:List V}{ds:List Value}{E:XK}{x m:Str}{p pos apos:Pos}{e o:Expr}{es:List Expr}{ta:TE}{t:TA}
theorem qji{pins:List (Addr×Obj)}{σ : St}{H:Hp}{s:Shared}{Q:VK}{us:List Value}{vs:List V}(F:FnOk X.prog X.w X.K X.mg X.base CX k f fd ps sp)(hr:Room k X.A)(hb:Binds X.K fd ps ds)(hd:Vals dvs ds)(hx:q8u CX X E)
  (I:Inv X pins σ H s) (r:Vals vs us) (h:sp (vs++dvs) H Q E):wpAny (model X.prog X.w) X.A (call (.ref f) us) (EP X pins σ Q) X.xe s:=by
 have r2:Vals (vs++dvs) (us++ds):=r.append hd;have hl:(us++ds).length=ps.length:=by rw [<- r2.length];exact F.len _ _ _ _ h
 refine g3o (g2p (F.run X.A X.stack s H ⟨us,[]⟩ (us++ds) (vs++dvs) Q E hr I.env0 (hb s us I.kIn hl) r2 h) fun r s' hq=>?_);cases r with
 | error e=>exact hx pins σ H s e s' I hq
 | ok fl=>
  cases fl with
  | ret u=>exact I.after hq
  | next=>exact False.elim hq
  | brk=>exact False.elim hq
  | cont=>exact False.elim hq
theorem qpj(F:FnOk X.prog X.w X.K X.mg X.base CX k f fd ps sp)(hr:Room k X.A)(hg:Gl X x)(hm:X.mg x=some (.ref f))(hk:PySem.W.keepIn X.K (.ref f)=true)(hb:Binds X.K fd ps ds)(hd:Vals dvs ds)(hx:q8u CX X E)
  (ha:PA X (e :: es) t) (hdb:(x==("__debug__" : Str))=false:=by decide) (he:starEach (e :: es) X.env=(false,eval e X.env) :: starEach es X.env:=by rfl) (hpl:(backTo pos (starEach es X.env)).any (·.1)=false:=by rfl) :
  PE X (.Call (.Name x p) (e :: es) [] pos) (qui sp dvs E t):=by
 intro pins s σ H Q I h;refine g14 (qa7 I hg hm ?_ hdb);refine PySem.W.callWith_K (h₀:=X.base) I.ok.mod.kin hk (thn (ha pos pins s σ H _ I h) fun us s1 ⟨vs,H1,I1,r,q⟩=>⟨I1.kIn,?_⟩) he hpl;exact qji F hr hb hd hx I1 r q
theorem qpk{pl:Sem Bool}(he:PE X o ta)(c:Cls X.K C)(hm:Meth X.K C m f)(F:FnOk X.prog X.w X.K X.mg X.base CX k f fd ps sp)(hr:Room k X.A)(hb:Binds X.K fd ps ds)(hd:Vals dvs ds)(hx:q8u CX X E)(ha:PA X (e :: es) t)
  (hst:starEach (e :: es) X.env=(false,eval e X.env) :: starEach es X.env:=by rfl) (hpl:(backTo pos (starEach es X.env)).any (·.1)=false:=by rfl)
  (ht:eval (.Call (.Attribute o m apos) (e :: es) [] pos) X.env=(do
   let ov <- eval o X.env
   standAt apos.atName
   let(f,first) <- holding [ov] (getMethod ov m pl)
   callWith pos f first (backTo pos (starEach (e :: es) X.env)) (backToKw pos (keywordEach [] X.env))):=by rfl) :
  PE X (.Call (.Attribute o m apos) (e :: es) [] pos) (quj C m sp dvs E ta t):=by
 intro pins s σ H Q I h;refine PySem.W.methodCall_KW (pl:=pl) (thn (he pins s σ H _ I h) fun u s1 ⟨x,H1,I1,rx,a,dx,fs,ex,ea,l,q⟩=>?_) ht;subst ex;obtain rfl:u=Value.ref a:=rx;refine qhv I1 ea c hm l ?_;refine PySem.W.callWith_K (first:=[.ref a]) (h₀:=X.base) I.ok.mod.kin hm.kp (thn (ha pos pins s1 σ H1 _ I1 q) fun us s2 ⟨vs,H2,I2,r,q2⟩=>⟨I2.kIn,?_⟩) hst hpl;exact qji (us:=.ref a :: us) (vs:=.ref a :: vs) F hr hb hd hx I2 (.cons rfl r) q2
end
section
variable{X:Cx}{CX:CXT}{k:Nat}{f C:Addr}{fd:FuncData}{ps ks:List Str}{sp:Sp}{E:XK}{x m:Str}{p pos apos kpos:Pos}{e o:Expr}{es:List Expr}{kws:List Keyword}{te ta:TE}{t tk:TA}{nm:Option Str}
variable{g:List Value->List Value->List Value}{gV:List V->List V->List V}
end
structure FnScope(N P:List Str)(sc:Scope): Prop where
 kind:sc.kind=.function
 co:sc.isCoroutine=false
 gen:sc.isGenerator=false
 nd:N.Nodup
 pre:N.take P.length=P
 par:∀x∈P,sc.names.lookup x=some .local\/sc.names.lookup x=some .cell
 nofree:∀y∈sc.names,y.2 ≠ .free
theorem qb6{kindOf:Str->Option NameKind}{x:Str}: ∀ {binds:List (Str×Value)} {m:Str->Option Value},(∀v,(x,v)∉binds)->bindL kindOf binds m x=m x
 | [],_,_=>rfl
 | (n,v) :: r,m,h=>by
  unfold bindL;rw [qb6 fun w hw=>h w (gu _ hw)]
  split
  ·have:x≠n:=by rintro rfl;exact h v gq
   simp [this]
  ·rfl
theorem qb7{kindOf:Str->Option NameKind}{x:Str}: ∀ {binds:List (Str×Value)} {m:Str->Option Value},(∀v,(x,v)∉binds)->bindC kindOf binds m x=m x
 | [],_,_=>rfl
 | (n,v) :: r,m,h=>by
  unfold bindC;rw [qb7 fun w hw=>h w (gu _ hw)]
  split
  ·rfl
  ·have:x≠n:=by rintro rfl;exact h v gq
   simp [this]
theorem qb8{kindOf:Str->Option NameKind}{x:Str}{v:Value}: ∀ {P:List Str} {vs:List Value} {i:Nat} {m:Str->Option Value},P.Nodup->P[i]? = some x->vs[i]? = some v->kindOf x=some .local ->
  bindL kindOf (P.zip vs) m x=some v
 | [],_,_,_,_,h,_,_=>by simp at h
 | _ :: _,[],_,_,_,_,h,_=>by simp at h
 | p :: P,w :: vs,0,m,nd,h1,h2,hk=>by
  simp at h1 h2;subst h1;subst h2;show bindL kindOf ((p,w) :: P.zip vs) m p=_;unfold bindL;rw [qb6 fun v hv=>(g0p.mp nd).1 (g2k hv).1,mh hk];simp
 | p :: P,w :: vs,i+1,m,nd,h1,h2,hk=>by
  show bindL kindOf ((p,w) :: P.zip vs) m x=_;unfold bindL;exact qb8 (i:=i) (g0p.mp nd).2 (by simpa using h1) (by simpa using h2) hk
theorem qb9{kindOf:Str->Option NameKind}{x:Str}{v:Value}: ∀ {P:List Str} {vs:List Value} {i:Nat} {m:Str->Option Value},P.Nodup->P[i]? = some x->vs[i]? = some v->kindOf x≠some .local ->
  bindC kindOf (P.zip vs) m x=some v
 | [],_,_,_,_,h,_,_=>by simp at h
 | _ :: _,[],_,_,_,_,h,_=>by simp at h
 | p :: P,w :: vs,0,m,nd,h1,h2,hk=>by
  simp at h1 h2;subst h1;subst h2;show bindC kindOf ((p,w) :: P.zip vs) m p=_;unfold bindC;rw [qb7 fun v hv=>(g0p.mp nd).1 (g2k hv).1,mi hk];simp
 | p :: P,w :: vs,i+1,m,nd,h1,h2,hk=>by
  show bindC kindOf ((p,w) :: P.zip vs) m x=_;unfold bindC;exact qb9 (i:=i) (g0p.mp nd).2 (by simpa using h1) (by simpa using h2) hk
def start(N:List Str)(vs:List V): St:=vs.map some++List.replicate (N.length-vs.length) none
def zj(CX:CXT)(P:Program)(w:World)(K:PySem.W.Frag)(mg:Str->Option Value)(base:Heap)(N:List Str)(qual:Str)(scope:Scope)(f:Addr)(cd:Value)(A:Around)(outer:List Env)(s:Shared)(H:Hp)(E:XK): Cx where
 prog:=P
 w:=w
 K:=K
 mg:=mg
 base:=base
 A:=A.deeper (envOfC qual scope s.heap.objs.size f cd)
 N:=N
 s₀:=s
 H₀:=H
 env:=envOfC qual scope s.heap.objs.size f cd
 outer:=outer
 stack:=envOfC qual scope s.heap.objs.size f cd :: outer
 ex:=[]
 calm:=true
 fn:=fun _=>true
 pn:=[]
 xe:=fun e s'=>wpAny (model P w) (A.deeper (envOfC qual scope s.heap.objs.size f cd)) (leaving (envOfC qual scope s.heap.objs.size f cd) e) (fun _ s''=>CX outer H s E e s'') (fun e' s''=>CX outer H s E e' s'') s'
theorem qcz{sc:Scope}{n:Nat}{x:Str}(h:sc.names.lookup x=some .cell): ∃c,(cellsFrom n sc.names []).lookup x=some c:=by
 have q:=g3c sc.names n [] (.inl h);exact g0q.mp q
theorem qba{CX:CXT}{P:Program}{w:World}{K:PySem.W.Frag}{mg:Str->Option Value}{base:Heap}{N ps:List Str}{qual:Str}{scope:Scope}{f:Addr}{cd:Value}{A:Around}{outer:List Env}{s s1:Shared}{H:Hp}{E:XK}{us:List Value}{vs:List V}
  (S:FnScope N ps scope) (hd:A.handled=none) (e0:Env0 P w K mg base A outer s H) (hl:vs.length=ps.length) (r:Vals vs us)
  (x:InCallC s s.heap.objs.size (bindL (envOfC qual scope s.heap.objs.size f cd).kindOf (ps.zip us) fun _=>none) (cellsFrom (s.heap.objs.size+1) scope.names []) (bindC (envOfC qual scope s.heap.objs.size f cd).kindOf (ps.zip us) fun _=>none) s1) :
  Inv (zj CX P w K mg base N qual scope f cd A outer s H E) [] (start N vs) H s1:=by
 have hpl:ps.length<=N.length:=by have:=uz List.length S.pre;rw [pk] at this;omega
 obtain⟨h1,tk,rfl,hk⟩:=x.done;have noA:∀b:Addr,b∉(zj CX P w K mg base N qual scope f cd A outer s H E).ex:=fun b z=>absurd (show b∈([]:List Addr) from z) (by simp);refine⟨⟨e0.mod,S.kind,rfl,rfl,gv _,fun y z c h1 h2=>?_,fun y hy=>?_,fun y c _ h=>?_,fun _=>hd,Around.frames_deeper e0.frames,.inr ⟨rfl,rfl⟩,fun b z=>absurd z (noA b),e0.bs,e0.bsz,fun b _ _=>noA b,fun b z=>absurd z (noA b),e0.funs,e0.frf⟩,
  rfl,e0.bare,Un.kept hk,⟨_,x.toInCall.ns,fun i y v h1 h2 h3=>?_⟩,fun y c h=>⟨_,x.cell y c h⟩,e0.hok.fresh (gv _),fun y c h=>?_,fun p hp=>absurd (show p∈([]:List (Addr×Obj)) from hp) (by simp),e0.hok.kept hk,?_⟩
 ·exact name_of_addr x.apart (g1t h1) (g1t h2)
 ·have hy:scope.names.lookup y=some .cell\/scope.names.lookup y=some .free:=hy
  rcases hy with hy|hy
  ·exact qcz hy
  ·exact absurd rfl (S.nofree _ (g1t hy))
 ·exact g4z (x.above y c (g1t h))
 ·have hi:i<vs.length:=by
   unfold start at h2
   by_cases hi:i<vs.length
   ·exact hi
   ·rw [ud (by simpa using hi)] at h2
    rw [g0j] at h2
    split at h2 <;> cases h2
  have ha:vs[i]? = some v:=by
   unfold start at h2;rw [tq (by simpa using hi),mr] at h2;cases e:vs[i]? with
   | none=>rw [e] at h2;cases h2
   | some a=>rw [e] at h2;cases h2;rfl
  obtain⟨u,hu,rv⟩:=r.get ha;have hp:ps[i]? = some y:=by
   rw [<- S.pre,g2q (by omega)];exact h1
  have ndP:ps.Nodup:=by rw [<- S.pre];exact S.nd.sublist (List.take_sublist _ _)
  refine⟨u,rv,?_⟩;rcases S.par y (g00 hp) with k|k
  ·exact .inl ⟨k,qb8 ndP hp hu k⟩
  ·obtain⟨c,e⟩:=qcz (n:=s.heap.objs.size+1) k
   refine .inr ⟨.inl k,c,e,?_⟩;have q:=x.cell y c e;rw [qb9 ndP hp hu (by show scope.names.lookup y≠_;rw [k];decide)] at q;exact q
 ·exact e0.hok.fresh (g4z (x.above y c (g1t h)))
 ·unfold start
  show _=N.length;rw [pf,mn,g5v];omega
theorem quk{CX:CXT}{P:Program}{w:World}{K:PySem.W.Frag}{mg:Str->Option Value}{base:Heap}{k:Nat}{f:Addr}{name qual:Str}{params:Arguments}{body:List Stmt}{scope:Scope}{dV kV doc pm cdv ct oc:Value}{an od:Option Addr}
  {osl:Array (Option Value)} {N ps:List Str} {sp:Sp} (lk:K.lookup f=some ⟨oc,od,.func (PySem.W.fnOf name qual params body scope dV kV doc pm an cdv ct),osl⟩) (hcd:PySem.W.codeIn K cdv qual=true) (S:FnScope N ps scope)
  (len:∀vs H Q E,sp vs H Q E->vs.length=ps.length)
  (hbody:∀(A:Around) (outer:List Env) (s:Shared) (H:Hp) (vs:List V) (Q:VK) (E:XK),Room k (A.deeper (envOfC qual scope s.heap.objs.size f cdv))->sp vs H Q E ->
   ∃t,PSs (zj CX P w K mg base N qual scope f cdv A outer s H E) body t/\t {nx:=fun _ H'=>Q .non H',rt:=Q} (start N vs) H) :
  FnOk P w K mg base CX (k+1) f (PySem.W.fnOf name qual params body scope dV kV doc pm an cdv ct) ps sp:=by
 refine⟨len,fun A outer s H args us vs Q E hr e0 hb r hsp=>?_⟩;have hl:=len _ _ _ _ hsp;have KX:K.In s.heap:=e0.mod.kin.keeps fun b o e=>(e0.bs b o e).1;have lim:s.heap.NoLimit:=e0.mod.nolimit.keeps fun b o e=>(e0.bs b o e).1;have hkind:∀y∈ps.zip us,scope.names.lookup y.1=some .local\/(scope.names.lookup y.1=some .cell/\((cellsFrom (s.heap.objs.size+1) scope.names []).lookup y.1).isSome=true):=fun⟨n,v⟩ hy=>by
  rcases S.par n (g2k hy).1 with q|q
  ·exact .inl q
  ·exact .inr ⟨q,g3c _ _ _ (.inl q)⟩
 refine codeAny_call_function hr.depth (KX _ _ lk) rfl S.co S.gen rfl (PySem.W.codeRec_of KX hcd) (hb _ _ _ _ ?_);refine wpAny_newFunctionEnv_cells S.kind hkind fun env he s1 x=>?_;subst he;refine⟨lim.keeps x.toInCall.keep,codeAny_func ?_⟩;obtain⟨t,ht,hq⟩:=hbody A outer s H vs Q E (hr.deeper _) hsp;have I:Inv (zj CX P w K mg base N qual scope f cdv A outer s H E) [] (start N vs) H s1:=qba S hr.hd e0 hl r x;refine u0 (ht [] s1 (start N vs) H _ I hq) (fun fl s' hs=>?_) fun e s' hs=>hs;have fin:∀ {σ':St} {H':Hp} {v:V} {u:Value},Inv (zj CX P w K mg base N qual scope f cdv A outer s H E) [] σ' H' s'->RelV v u->Q v H'->CE outer P w H s Q u s':=
  fun {σ' H' v u} J rv q=>⟨v,H',J.os,J.bare,J.base,J.hok,rv,q⟩
 cases fl with
 | ret u=>
  obtain⟨v, σ',H',J,rv,q⟩:=hs;exact fin J rv q
 | next=>
  obtain⟨σ',H',J,q⟩:=hs;exact fin (v:=V.non) (u:=Value.none) J rfl q
 | brk=>
  obtain⟨_,_,_,q⟩:=hs;exact False.elim q
 | cont=>
  obtain⟨_,_,_,q⟩:=hs;exact False.elim q
section
variable{X:Cx}{x:Str}{p pos:Pos}{e:Expr}{es:List Expr}{t:TA}{id T:String}{r:List V->Hp->VK->Prop}
def tCB(r:List V->Hp->VK->Prop)(t:TA): TE:=fun σ H Q=>t σ H fun vs H1=>r vs H1 Q
theorem q80(hc:xp X (.builtin id) r)(hg:Gl X x)(hm:X.mg x=none)(hv:bootBuiltins x=some (.builtin id))(ha:PA X (e :: es) t)(hn:x≠"__name__" :=by decide)(hdb:(x==("__debug__" : Str))=false:=by decide)
  (he:starEach (e :: es) X.env=(false,eval e X.env) :: starEach es X.env:=by rfl) (hpl:(backTo pos (starEach es X.env)).any (·.1)=false:=by rfl):PE X (.Call (.Name x p) (e :: es) [] pos) (tCB r t):=by
 intro pins s σ H Q I h;refine g14 (q06 I hg hm hv ?_ hn hdb);exact PyProof.Rows.callWith_builtin1 (thn (ha pos pins s σ H _ I h) fun us s1 ⟨vs,H1,I1,r1,q1⟩=>hc pins s1 σ H1 vs us Q I1 r1 q1) he hpl
theorem q60(hc:xp X (.type T) r)(hg:Gl X x)(hm:X.mg x=none)(hv:bootBuiltins x=some (.type T))(ha:PA X (e :: es) t)(hn:x≠"__name__" :=by decide)(hdb:(x==("__debug__" : Str))=false:=by decide)
  (he:starEach (e :: es) X.env=(false,eval e X.env) :: starEach es X.env:=by rfl) (hpl:(backTo pos (starEach es X.env)).any (·.1)=false:=by rfl):PE X (.Call (.Name x p) (e :: es) [] pos) (tCB r t):=by
 intro pins s σ H Q I h;refine g14 (q06 I hg hm hv ?_ hn hdb);exact g0b (thn (ha pos pins s σ H _ I h) fun us s1 ⟨vs,H1,I1,r1,q1⟩=>hc pins s1 σ H1 vs us Q I1 r1 q1) he hpl
end
end L2
namespace HT
open PySem PyProof.Rows
section
open PySem.SeqAt
open PySem.AutoSeq1 (wpAny_loadPart')
open PySem.MeetsSeq PySem.MeetsSeq2 PySem.MeetsSeq3
end
section
variable{prog:Program}{w:World}{A:Around}{E:Value->Shared->Prop}{s:Shared}
theorem cat_tup{t b:Addr}{vs ws:List Value}{Q:Value->Shared->Prop}(ht:IsTup s.heap t vs.toArray)(hb:IsTup s.heap b ws.toArray)(hv:vs≠[])
  (h1:ws=[]->Q (.ref t) s) (h2:ws≠[]->Q (.ref s.heap.objs.size) {s with heap:=s.heap.push {cls:=.type "tuple",data:=.seq (vs++ws).toArray} })
  (hsz:vs.length+ws.length<=sizeLine):wpAny (model prog w) A (binaryOp .Add (.ref t) (.ref b)) Q E s:=by
 obtain⟨⟨cls,dd,data,sl⟩,ho,hc,n,hd⟩:=id ht;obtain⟨⟨cls2,dd2,data2,sl2⟩,ho2,hc2,n2,hd2⟩:=id hb;simp only at hc hd hc2 hd2;subst hc hd hc2 hd2;have e:vs.toArray++ws.toArray=(vs++ws).toArray:=by simp
 by_cases hw:ws=[]
 ·exact g51 ⟨_,ho,rfl⟩ ⟨_,ho2,rfl⟩ g52 seq_tuple_add g3d g35 (g2r _ _)
   (tuple_addW1 t b vs.toArray ws.toArray n n2 dd dd2 sl sl2 (by simpa using hv) (by simp [hw])) ⟨ho,ho2,h1 hw⟩
 ·refine g51 ⟨_,ho,rfl⟩ ⟨_,ho2,rfl⟩ g52 seq_tuple_add g3d g35 (g2r _ _)
   (tuple_addW2 t b vs.toArray ws.toArray n n2 dd dd2 sl sl2 (by simpa using hv) (by simpa using hw) (by rw [gm,gm];exact hsz)) ⟨ho,ho2,?_⟩
  rw [e];exact h2 hw
def sIx(n d:Nat): Option Int->Nat
 | none=>d
 | some v=>if v<0 then(v+(n:Int)).toNat else min v.toNat n
theorem sIx_none(n d:Nat): sIx n d none=d:=rfl
theorem sIx_nat(n d k:Nat): sIx n d (some (k:Int))=min k n:=by
 show(if(k:Int)<0 then((k:Int)+(n:Int)).toNat else min (k:Int).toNat n)=min k n;rw [mi (by omega),p0]
theorem qsg(n d:Nat)(hd:d<=n)(o:Option Int): sIx n d o<=n:=by
 cases o with
 | none=>exact hd
 | some v=>
  show(if v<0 then(v+(n:Int)).toNat else min v.toNat n)<=n
  by_cases hv:v<0
  ·rw [mh hv];omega
  ·rw [mi hv];exact Nat.min_le_right _ _
theorem qgv(v:Int)(n d:Nat): (if v<0 then max (v+(n:Int)) 0 else min v (n:Int))=((sIx n d (some v):Nat):Int):=by
 show(if v<0 then max (v+(n:Int)) 0 else min v (n:Int))=(((if v<0 then(v+(n:Int)).toNat else min v.toNat n):Nat):Int)
 by_cases hv:v<0
 ·simp only [mh hv];omega
 ·simp only [mi hv];omega
theorem qhw(lo hi:Option Int)(n:Nat): Builtin.Slice.sliceAdjust lo hi 1 (n:Int)=(((sIx n 0 lo:Nat):Int),((sIx n n hi:Nat):Int)):=by
 have h1:¬((1:Int)<0):=by omega
 unfold Builtin.Slice.sliceAdjust;simp only [h1,p8];refine Prod.ext ?_ ?_
 ·cases lo with
  | none=>rfl
  | some v=>exact qgv v n 0
 ·cases hi with
  | none=>rfl
  | some v=>exact qgv v n n
theorem qhx(i j:Nat): Builtin.Slice.slicePlaces (i:Int) (j:Int) 1=j-i:=by
 unfold Builtin.Slice.slicePlaces;have h1:(1:Int)>0:=by omega
 simp only [h1,nj,Int.ediv_one]
 split <;> omega
theorem q8v{v:Value}{o:Option Int}{Q:Option Int->Shared->Prop}(p:IsPart v o)(h:Q o s): wpAny (model prog w) A (Builtin.Slice.slicePartIndex v) Q E s:=by
 cases p with
 | none=>exact slicePart_none h
 | int i t=>exact slicePart_int h
theorem sliceApplied_gen{sl:Addr}{vl vu:Value}{lo hi:Option Int}{n:Nat}{Q:Int×Int×Nat->Shared->Prop}(hs:s.heap.IsSliceOf sl vl vu .none)(pl:IsPart vl lo)(pu:IsPart vu hi)
  (h:Q (((sIx n 0 lo:Nat):Int),1,sIx n n hi-sIx n 0 lo) s):wpAny (model prog w) A (Builtin.Slice.sliceApplied (.ref sl) (pure (n:Int))) Q E s:=by
 obtain⟨os,hos,hcs,hds⟩:=id hs;unfold Builtin.Slice.sliceApplied Builtin.Slice.sliceFields;refine g0 (g0 (g08 hos hds (x:=vl) rfl (g0 (g08 hos hds (x:=vu) rfl (g0 (g08 hos hds (x:=.none) rfl (g9 ?_)))))));refine g0 (slicePart_none ?_);show wpAny _ _ (if((1:Int)==0)=true then _ else _) _ _ s;rw [mi (by decide)];refine g0 (q8v pl (g0 (q8v pu (g0 (g9 ?_)))));show wpAny _ _ (match Builtin.Slice.sliceAdjust lo hi 1 (n:Int) with|(lo,hi)=>pure (lo,(1:Int),Builtin.Slice.slicePlaces lo hi 1)) _ _ s;rw [qhw lo hi n];show wpAny _ _ (pure (((sIx n 0 lo:Nat):Int),(1:Int),Builtin.Slice.slicePlaces ((sIx n 0 lo:Nat):Int) ((sIx n n hi:Nat):Int) 1)) _ _ s;rw [qhx];exact g9 h
theorem qm7(xs:Array Value)(i k:Nat): ((List.range k).filterMap fun(m:Nat)=>xs[((i:Int)+(m:Int)*1).toNat]?).toArray=((xs.toList.drop i).take k).toArray:=by
 have e:(fun(m:Nat)=>xs[((i:Int)+(m:Int)*1).toNat]?)=fun m=>xs[i+m]? :=by
  funext m
  have:((i:Int)+(m:Int)*1).toNat=i+m:=by omega
  rw [this]
 rw [e];have:=pick_run xs i k;rw [g2s] at this;have e2:((fun x=>xs[x]?) ∘ fun x=>i+x)=fun m=>xs[i+m]? :=rfl;rw [e2] at this;rw [this]
theorem getItem_tuple_cut{t sl:Addr}{items:Array Value}{vl vu:Value}{lo hi:Option Int}{Q:Value->Shared->Prop}(ht:IsTup s.heap t items)(hs:s.heap.IsSliceOf sl vl vu .none)(pl:IsPart vl lo)(pu:IsPart vu hi)
  (hw:¬(sIx items.size 0 lo=0/\sIx items.size items.size hi=items.size))
  (h:Q (.ref s.heap.objs.size) {s with heap:=s.heap.push {cls:=.type "tuple",data:=.seq ((items.toList.drop (sIx items.size 0 lo)).take (sIx items.size items.size hi-sIx items.size 0 lo)).toArray} })
  (hsz:items.size<=sizeLine):wpAny (model prog w) A (getItem (.ref t) (.ref sl)) Q E s:=by
 have htake:sizeOk (.seq ((items.toList.drop (sIx items.size 0 lo)).take (sIx items.size items.size hi-sIx items.size 0 lo)).toArray):=by
  show((items.toList.drop (sIx items.size 0 lo)).take (sIx items.size items.size hi-sIx items.size 0 lo)).toArray.size<=sizeLine;rw [gm,pk,uo,ng];omega
 have hj:sIx items.size items.size hi<=items.size:=qsg _ _ (gv _) hi;obtain⟨os,hos,hcs,hds⟩:=id hs;have hTs:s.TypeIs (.ref sl) "slice" :=⟨os,hos,hcs⟩
 unfold getItem
 try with_reducible refine t7 ?_
 first|refine g0 (g9 ?_)|skip
 refine g0 (wpAny_sequenceKey ht.typeIs (by decide) ?_);refine g0 (tm (name:=Str.ofString "__getitem__") ht.typeIs uy
  (p9 uy ht.typeIs entry_tuple_getitem ?_ (args_tuple_getitem _ _)))
 show wpAny _ _ (Builtin.Tuple.tupleItemsOf (.ref t) >>= _) _ _ s;refine g0 (tupleItemsOf_ ht ?_);refine g0 (g0r hTs ?_);rw [mh (by decide)];refine g0 (sliceApplied_gen hs pl pu ?_);have hno:¬((((sIx items.size 0 lo:Nat):Int)==0&&(1:Int)==1&&(sIx items.size items.size hi-sIx items.size 0 lo)==items.size)=true):=by
  intro q;rw [m8,m8] at q;have q1:((sIx items.size 0 lo:Nat):Int)=0:=eq_of_beq q.1.1;have q2:sIx items.size items.size hi-sIx items.size 0 lo=items.size:=eq_of_beq q.2;exact hw ⟨by omega,by omega⟩
 show wpAny _ _ (if(((sIx items.size 0 lo:Nat):Int)==0&&(1:Int)==1&&(sIx items.size items.size hi-sIx items.size 0 lo)==items.size)=true then _ else _) _ _ s;rw [mi hno,qm7]
 first
  | exact g0 (m:=Builtin.Tuple.tupleExact _) (ui (g9 ⟨_,rfl,g9 h⟩) htake)
  | exact g0 (m:=Builtin.Tuple.tupleExact _) (ui (g0 (g9 (g9 ⟨_,rfl,g9 h⟩))) htake)
  | exact g0 (g0 (m:=Builtin.Tuple.tupleExact _) (ui (g9 (g9 ⟨_,rfl,g9 h⟩)) htake))
  | exact g0 (g0 (m:=Builtin.Tuple.tupleExact _) (ui (g9 ⟨_,rfl,g9 h⟩) htake))
end
end HT
namespace L2
open PySem PySem.Spec PyProof.Rows
abbrev TO:=St->Hp->(Option Int->Hp->Prop)->Prop
def PO(X:Cx)(e:Option Expr)(t:TO): Prop:=
 ∀(pins:List (Addr×Obj)) (s:Shared) (σ : St) (H:Hp) (Q:Option Int->Hp->Prop),Inv X pins σ H s->t σ H Q ->
  wpAny (model X.prog X.w) X.A (evalPart e X.env) (fun u s'=>∃o H',Inv X pins σ H' s'/\IsPart u o/\Q o H') X.xe s
def tNoPart:TO:=fun _ H Q=>Q none H
def qul(t:TE): TO:=fun σ H Q=>t σ H fun x H1=>∃i,x=.int i/\Q (some i) H1
theorem intsAre_of{ns:List Int}: ∀ {us:List Value},Vals (ns.map V.int) us->IntsAre us ns:=by
 induction ns with
 | nil=>intro us r;rw [g0s] at r;cases r;exact .nil
 | cons n ns ih=>
  intro us r;rw [gf] at r;cases r with
  | cons r1 r2=>
   obtain⟨t,e⟩:=r1;subst e;exact .cons n t (ih r2)
section
variable{X:Cx}{e:Expr}{te:TE}{lo hi:Option Expr}{tl th:TO}{pos p2:Pos}
theorem qpl:PO X none tNoPart:=by
 intro pins s σ H Q I h;rw [evalPart_none];exact g9 ⟨none,H,I,.none,h⟩
theorem qpm(h:PE X e te): PO X (some e) (qul te):=by
 intro pins s σ H Q I hw;rw [evalPart_some];refine thn (h pins s σ H _ I hw) fun u s1 ⟨x,H1,I1,r1,q1⟩=>?_;obtain⟨i,rfl,q⟩:=q1;obtain⟨t,rfl⟩:=r1;exact⟨some i,H1,I1,.int i t,q⟩
def SlR(X:Cx)(r:V->Option Int->Option Int->Hp->VK->Prop): Prop:=
 ∀(pins:List (Addr×Obj)) (s:Shared) (σ : St) (H:Hp) (x:V) (v vl vu:Value) (lo hi:Option Int) (sl:Addr) (Q:VK),Inv X pins σ H s->RelV x v->s.heap.IsSliceOf sl vl vu .none->IsPart vl lo->IsPart vu hi->r x lo hi H Q ->
  ∃T id,typeLookup (.type T) "__getitem__" = pure (some (.builtin id))/\s.TypeIs v T/\wpAny (model X.prog X.w) X.A (getItem v (.ref sl)) (EP X pins σ Q) X.xe s
theorem SlR.or{r r':V->Option Int->Option Int->Hp->VK->Prop}(h:SlR X r)(h':SlR X r'): SlR X (fun x lo hi H Q=>r x lo hi H Q\/r' x lo hi H Q):=by
 intro pins s σ H x v vl vu lo hi sl Q I rx hs pl pu q;rcases q with q|q
 ·exact h pins s σ H x v vl vu lo hi sl Q I rx hs pl pu q
 ·exact h' pins s σ H x v vl vu lo hi sl Q I rx hs pl pu q
def tSl(r:V->Option Int->Option Int->Hp->VK->Prop)(te:TE)(tl th:TO): TE:=fun σ H Q=>te σ H fun x H1=>tl σ H1 fun l H2=>th σ H2 fun u H3=>r x l u H3 Q
theorem qm8{r:V->Option Int->Option Int->Hp->VK->Prop}(hr:SlR X r)(he:PE X e te)(hl:PO X lo tl)(hu:PO X hi th): PE X (.Subscript e (.Slice lo hi none p2) pos) (tSl r te tl th):=by
 intro pins s σ H Q I h;refine Subscript_ (thn (he pins s σ H _ I h) fun v s1 ⟨x,H1,I1,r1,q1⟩=>?_);refine wpAny_Slice (thn (hl pins s1 σ H1 _ I1 q1) fun vl s2 ⟨l,H2,I2,pl,q2⟩=>thn (hu pins s2 σ H2 _ I2 q2) fun vu s3 ⟨u,H3,I3,pu,q3⟩=>?_);rw [evalPart_none];refine g9 ?_;have I4:Inv X pins σ H3 {s3 with heap:=s3.heap.push {cls:=.type "slice",data:=.fields #[vl,vu,.none]} }:=I3.kept (t':=s3.toks) fun b ob q=>gc _ q;obtain⟨T,id,hT,ht,hg⟩:=hr pins {s3 with heap:=s3.heap.push {cls:=.type "slice",data:=.fields #[vl,vu,.none]} } σ H3 x v vl vu l u s3.heap.objs.size Q I4 r1 (Heap.IsSliceOf.new ..) pl pu q3;show wpAny (model X.prog X.w) X.A (subscriptTail e (.Slice lo hi none p2) v (.ref s3.heap.objs.size)) (EP X pins σ Q) X.xe {s3 with heap:=s3.heap.push {cls:=.type "slice",data:=.fields #[vl,vu,.none]} };exact tail_any (ops:=[.ref s3.heap.objs.size,v]) ht hT hg (by with_unfolding_all rfl)
def q28(xs:List V)(lo hi:Option Int): List V:=(xs.drop (HT.sIx xs.length 0 lo)).take (HT.sIx xs.length xs.length hi-HT.sIx xs.length 0 lo)
theorem q7l(xs:List V)(lo hi:Option Int): (q28 xs lo hi).length<=xs.length:=by
 unfold q28;rw [pk,uo];omega
def qvm(K:PySem.W.Frag): V->Option Int->Option Int->Hp->VK->Prop:=fun x lo hi H Q=>∃a xs,x=.ref a/\SqT K H a xs /\
 ¬(HT.sIx xs.length 0 lo=0/\HT.sIx xs.length xs.length hi=xs.length)/\∀p,H p=none->Q (.ref p) (upd H p (.tup (q28 xs lo hi)))
theorem sl_tup:SlR X (qvm X.K):=by
 intro pins s σ H x v vl vu lo hi sl Q I rx hs pl pu h;obtain⟨a,xs,rfl,hx,hw,q⟩:=h;cases rx;obtain⟨its,r,ht,hz⟩:=I.tuple hx;have hlen:its.toArray.size=xs.length:=by rw [gm];exact r.length.symm
 refine⟨"tuple",_,uy.lookup,ht.typeIs,?_⟩;refine HT.getItem_tuple_cut ht hs pl pu (by rw [hlen];exact hw) ?_ (by rw [hlen];exact hz);rw [hlen];refine⟨.ref s.heap.objs.size,_,I.laid (t':=s.toks) (o:=.tup (q28 xs lo hi)) (fun b ob q=>gc _ q) (gv _) ?_,rfl,q _ (I.hok.fresh (gv _))⟩;exact⟨md (q7l xs lo hi) hz,_,(r.drop (HT.sIx xs.length 0 lo)).take (HT.sIx xs.length xs.length hi-HT.sIx xs.length 0 lo),TupX.new _ _⟩
def qum(K:PySem.W.Frag): R2:=fun x y H Q=>∃a b xs ys,x=.ref a/\y=.ref b/\SqT K H a xs/\SqT K H b ys/\xs≠[]/\xs.length+ys.length<=sizeLine /\
 (ys=[]->Q (.ref a) H)/\(ys≠[]->∀p,H p=none->Q (.ref p) (upd H p (.tup (xs++ys))))
theorem Vals.nil_iff{xs:List V}{us:List Value}(r:Vals xs us): us=[]↔xs=[]:=by
 cases r with
 | nil=>simp
 | cons _ _=>simp
theorem qpn:OpR X (binaryOp .Add) (qum X.K):=by
 intro pins s σ H x y v u Q I rx ry h;obtain⟨a,b,xs,ys,rfl,rfl,ha,hb,hx,hz,q1,q2⟩:=h;cases rx;cases ry;obtain⟨its,r1,p1,_⟩:=I.tuple ha;obtain⟨its2,r2,p2,_⟩:=I.tuple hb;refine HT.cat_tup p1 p2 (fun z=>hx (r1.nil_iff.mp z)) (fun z=>⟨.ref a,H,I,rfl,q1 (r2.nil_iff.mp z)⟩) (fun z=>?_) (by rw [<- r1.length, <- r2.length];exact hz);refine⟨.ref s.heap.objs.size,_,I.laid (t':=s.toks) (o:=.tup (xs++ys)) (fun b ob q=>gc _ q) (gv _) ?_,rfl,q2 (fun w=>z (r2.nil_iff.mpr w)) _ (I.hok.fresh (gv _))⟩;exact⟨by rw [pf];exact hz,_,r1.append r2,TupX.new _ _⟩
end
def ixN(n:Nat)(i:Int): Option Nat:=if 0<=i then(if i<n then some i.toNat else none) else if -(n:Int)<=i then some (i+n).toNat else none
def atI{α : Type}(xs:List α)(i:Int): Option α :=(ixN xs.length i).bind fun j=>xs[j]?
theorem qpo{n:Nat}{i:Int}{j:Nat}(h:ixN n i=some j): seqIndex? i n=some j/\j<n /\ -(n:Int)<=i/\i<n:=by
 unfold ixN at h
 by_cases h0:0<=i
 ·rw [mh h0] at h
  by_cases h1:i<n
  ·rw [mh h1] at h
   have e:i.toNat=j:=ma h;exact⟨by rw [seqIndex_of h0 h1,e],by omega,by omega,h1⟩
  ·rw [mi h1] at h;cases h
 ·rw [mi h0] at h
  by_cases h1 : -(n:Int)<=i
  ·rw [mh h1] at h
   have e:(i+n).toNat=j:=ma h;exact⟨by rw [seqIndex_neg (by omega) h1,e],by omega,h1,by omega⟩
  ·rw [mi h1] at h;cases h
theorem qa9{α : Type}{xs:List α}{i:Int}{v : α}(h:atI xs i=some v): ∃j,seqIndex? i xs.length=some j/\xs[j]? = some v/\j<xs.length /\ -(xs.length:Int)<=i/\i<xs.length:=by
 unfold atI at h;cases e:ixN xs.length i with
 | none=>rw [e] at h;cases h
 | some j=>
  rw [e] at h;obtain⟨h1,h2,h3,h4⟩:=qpo e;exact⟨j,h1,h,h2,h3,h4⟩
def qgw(b:Expr): Prop:=∀o i,subscripted b false o i=operate [o,i] (getItem o i)
def IxR(X:Cx)(r:R2): Prop:=
 ∀(value slice:Expr) (pins:List (Addr×Obj)) (s:Shared) (σ : St) (H:Hp) (x y:V) (v u:Value) (Q:VK),Inv X pins σ H s->RelV x v->RelV y u->r x y H Q ->
  subscripted slice false v u=operate [v,u] (getItem v u)->wpAny (model X.prog X.w) X.A (subscriptTail value slice v u) (EP X pins σ Q) X.xe s
def MtR(X:Cx)(id:String)(r:V->List V->Hp->VK->Prop): Prop:=
 ∀(pins:List (Addr×Obj)) (s:Shared) (σ : St) (H:Hp) (x:V) (xs:List V) (v:Value) (us:List Value) (Q:VK),Inv X pins σ H s->RelV x v->Vals xs us->r x xs H Q ->
  wpAny (model X.prog X.w) X.A (call (.builtin id) (v :: us)) (EP X pins σ Q) X.xe s
section
variable{X:Cx}{a b:Expr}{ta tb:TE}{pos:Pos}
theorem IxR.or{r r':R2}(h:IxR X r)(h':IxR X r'): IxR X (fun x y H Q=>r x y H Q\/r' x y H Q):=by
 intro value slice pins s σ H x y v u Q I rx ry q hs;rcases q with q|q
 ·exact h value slice pins s σ H x y v u Q I rx ry q hs
 ·exact h' value slice pins s σ H x y v u Q I rx ry q hs
theorem qun{r:R2}(hr:IxR X r)(ha:PE X a ta)(hb:PE X b tb)(hs:qgw b): PE X (.Subscript a b pos) (tOp r ta tb):=by
 intro pins s σ H Q I h;exact Subscript_ (qm0 ha hb I h fun v u s2 x y H2 I2 rx ry q=>hr a b pins s2 σ H2 x y v u Q I2 rx ry q (hs _ _))
def qsh(K:PySem.W.Frag): R2:=fun x y H Q=>∃p xs i v,x=.ref p/\y=.int i/\SqL K H p xs/\atI xs i=some v/\Q v H
def qsi(K:PySem.W.Frag): R2:=fun x y H Q=>∃p xs i v,x=.ref p/\y=.int i/\SqT K H p xs/\atI xs i=some v/\Q v H
def rIxS:R2:=fun x y H Q=>∃z i c,x=.str z/\y=.int i/\z.length<=sizeLine/\atI z.cps.toList i=some c/\Q (.str ⟨#[c]⟩) H
theorem ix_list:IxR X (qsh X.K):=by
 intro value slice pins s σ H x y v u Q I rx ry h hs;obtain⟨p,xs,i,z,rfl,rfl,hq,he,q⟩:=h;cases rx;obtain⟨t,rfl⟩:=ry;obtain⟨its,r,pl,hz⟩:=I.list hq;obtain⟨j,h1,h2,h3,h4,h5⟩:=qa9 he;obtain⟨w,ew,rw'⟩:=r.get h2;have hl:=r.length;have hn:=q5z;have fin:EP X pins σ Q w s:=⟨z,H,I,rw',q⟩
 by_cases h0:0<=i
 ·have hj:i.toNat=j:=by
   rw [seqIndex_of h0 h5] at h1;exact ma h1
  exact item_listR pl.isList h0 (by omega) (by rw [hj];simpa using ew) fin hs
 ·have hj:(i+(its.toArray.size:Int)).toNat=j:=by
   rw [seqIndex_neg (by omega) h4] at h1;rw [gm, <- hl];exact ma h1
  exact subscriptTail_builtinR (x:=w) pl.isList.typeIs slot_list_getitem.lookup
   (wpAny_getItem_list_neg (Q:=fun r s'=>r=w/\EP X pins σ Q r s') pl.isList (by omega) (by rw [gm] <;> omega) (by omega) (by rw [hj];simpa using ew) ⟨rfl,fin⟩) hs
theorem ix_tup:IxR X (qsi X.K):=by
 intro value slice pins s σ H x y v u Q I rx ry h hs;obtain⟨p,xs,i,z,rfl,rfl,hq,he,q⟩:=h;cases rx;obtain⟨t,rfl⟩:=ry;obtain⟨its,r,pl,hz⟩:=I.tuple hq;obtain⟨j,h1,h2,h3,h4,h5⟩:=qa9 he;obtain⟨w,ew,rw'⟩:=r.get h2;have hl:=r.length;have hn:=q5z;have fin:EP X pins σ Q w s:=⟨z,H,I,rw',q⟩
 exact subscriptTail_builtinR (x:=w) pl.typeIs slot_tuple_getitem.lookup
  (getItem_tuple (j:=j) (Q:=fun r s'=>r=w/\EP X pins σ Q r s') pl (by omega) (by omega) (by rw [gm, <- hl];exact h1) (by simpa using ew) ⟨rfl,fin⟩) hs
theorem qsj:IxR X rIxS:=by
 intro value slice pins s σ H x y v u Q I rx ry h hs;obtain⟨z,i,c,rfl,rfl,hz,he,q⟩:=h;obtain⟨t,rfl⟩:=rx;obtain⟨t',rfl⟩:=ry;obtain⟨j,h1,h2,h3,h4,h5⟩:=qa9 he;have hl:z.cps.toList.length=z.length:=by simp [Str.length]
 rw [hl] at h1 h4 h5;have hn:=q5z;exact tail_any (typeIs_str s z t) slot_str_getitem.lookup (getItem_str (c:=c) (by
  have e1:decide (i < -(2 ^ 63:Int))=false:=nk (by omega);have e2:decide (i>=2 ^ 63)=false:=nk (by omega);rw [e1,e2,Bool.or_false]) (by rw [h1];simpa using h2) ⟨.str ⟨#[c]⟩,H,I.tok _,⟨_,rfl⟩,q⟩) hs
def rIx(K:PySem.W.Frag): R2:=fun x y H Q=>qsh K x y H Q\/qsi K x y H Q\/rIxS x y H Q
theorem qsk:IxR X (rIx X.K):=ix_list.or (ix_tup.or qsj)
theorem qd0(lo hi:Option Int)(n:Nat): (sliceBounds lo hi none n).1=((HT.sIx n 0 lo:Nat):Int)/\(sliceBounds lo hi none n).2.1=((HT.sIx n n hi:Nat):Int)/\(sliceBounds lo hi none n).2.2=1:=by
 refine⟨?_,?_,rfl⟩
 ·cases lo with
  | none=>simp [sliceBounds,HT.sIx]
  | some i=>
   simp only [sliceBounds,HT.sIx,Option.getD_none,show(1:Int)>0 by decide,nj]
   by_cases h:i<0
   ·simp only [h,nj] <;> omega
   ·simp only [h,p8] <;> omega
 ·cases hi with
  | none=>simp [sliceBounds,HT.sIx]
  | some i=>
   simp only [sliceBounds,HT.sIx,Option.getD_none,show(1:Int)>0 by decide,nj]
   by_cases h:i<0
   ·simp only [h,nj] <;> omega
   ·simp only [h,p8] <;> omega
theorem qce(its:List Value)(lo hi:Option Int): slicePick its.toArray lo hi none=((its.drop (HT.sIx its.length 0 lo)).take (HT.sIx its.length its.length hi-HT.sIx its.length 0 lo)).toArray:=by
 obtain⟨h1,h2,h3⟩:=qd0 lo hi its.toArray.size;unfold slicePick;rw [h1,h2,h3];simp only [sliceRange_one,pick_run,gm] <;> rfl
def qvn(K:PySem.W.Frag): V->Option Int->Option Int->Hp->VK->Prop:=fun x lo hi H Q=>∃a xs,x=.ref a/\SqL K H a xs/\∀p,H p=none->Q (.ref p) (upd H p (.lst (q28 xs lo hi)))
theorem sl_list:SlR X (qvn X.K):=by
 intro pins s σ H x v vl vu lo hi sl Q I rx hs pl pu h;obtain⟨a,xs,rfl,hx,q⟩:=h;cases rx;obtain⟨its,r,ht,hz⟩:=I.list hx;have hlen:=r.length;refine⟨"list",_,slot_list_getitem.lookup,ht.isList.typeIs,?_⟩;refine wpAny_getItem_list_slice ht.isList hs pl pu .none (by simp) ?_ (by rw [gm] <;> omega);rw [qce, <- hlen];refine⟨.ref s.heap.objs.size,_,I.laid (t':=s.toks) (o:=.lst (q28 xs lo hi)) (fun b ob q=>gc _ q) (gv _) ?_,rfl,q _ (I.hok.fresh (gv _))⟩;exact⟨md (q7l xs lo hi) hz,_,0,(r.drop (HT.sIx xs.length 0 lo)).take (HT.sIx xs.length xs.length hi-HT.sIx xs.length 0 lo),gj _ rfl⟩
def q0e:V->Bool
 | .non=>true
 | .bl _=>true
 | .int _=>true
 | .str _=>true
 | _=>false
def eqV:V->V->Bool
 | .non,.non=>true
 | .bl a,.bl b=>a==b
 | .bl a,.int b=>(if a then 1 else 0)==b
 | .int a,.bl b=>a==(if b then 1 else 0)
 | .int a,.int b=>a==b
 | .str a,.str b=>a==b
 | _,_=>false
theorem qjj{A:Around}{s:Shared}{y x:V}{u v:Value}(ry:RelV y u)(rx:RelV x v)(fy:q0e y=true)(fx:q0e x=true): SeqAt.EqAt A s u v (eqV y x):=by
 cases y with
 | non=>
  cases ry;cases x with
  | non=>cases rx;exact g5e _
  | bl b=>cases rx;exact SeqAt.EqAt.none_bool b
  | int b=>obtain⟨t,rfl⟩:=rx;exact SeqAt.EqAt.none_int b t
  | str b=>obtain⟨t,rfl⟩:=rx;exact SeqAt.EqAt.none_str b t
  | _=>exact absurd (show false=true from fx) m5
 | bl a=>
  cases ry;cases x with
  | non=>cases rx;exact SeqAt.EqAt.bool_none a
  | bl b=>cases rx;exact SeqAt.EqAt.bool_bool a b
  | int b=>obtain⟨t,rfl⟩:=rx;exact SeqAt.EqAt.bool_int a b t
  | str b=>obtain⟨t,rfl⟩:=rx;exact SeqAt.EqAt.bool_str a b t
  | _=>exact absurd (show false=true from fx) m5
 | int a=>
  obtain⟨t',rfl⟩:=ry;cases x with
  | non=>cases rx;exact SeqAt.EqAt.int_none a t'
  | bl b=>cases rx;exact SeqAt.EqAt.int_bool a t' b
  | int b=>obtain⟨t,rfl⟩:=rx;exact SeqAt.EqAt.int_int a t' b t
  | str b=>obtain⟨t,rfl⟩:=rx;exact SeqAt.EqAt.int_str a t' b t
  | _=>exact absurd (show false=true from fx) m5
 | str a=>
  obtain⟨t',rfl⟩:=ry;cases x with
  | non=>cases rx;exact SeqAt.EqAt.str_none a t'
  | bl b=>cases rx;exact SeqAt.EqAt.str_bool a t' b
  | int b=>obtain⟨t,rfl⟩:=rx;exact SeqAt.EqAt.str_int a t' b t
  | str b=>obtain⟨t,rfl⟩:=rx;exact SeqAt.EqAt.str_str a t' b t
  | _=>exact absurd (show false=true from fx) m5
 | _=>exact absurd (show false=true from fy) m5
def eqU(x:V)(u:Value): Bool:=match u with
 | .none=>eqV .non x
 | .bool b=>eqV (.bl b) x
 | .int i _=>eqV (.int i) x
 | .str z _=>eqV (.str z) x
 | _=>false
theorem qjk{x y:V}{u:Value}(r:RelV y u)(f:q0e y=true): eqU x u=eqV y x:=by
 cases y with
 | non=>cases r;rfl
 | bl b=>cases r;rfl
 | int i=>obtain⟨t,rfl⟩:=r;rfl
 | str z=>obtain⟨t,rfl⟩:=r;rfl
 | _=>exact absurd (show false=true from f) m5
theorem q4c{x:V}: ∀ {xs:List V} {us:List Value},Vals xs us->xs.all q0e=true->us.any (eqU x)=xs.any fun y=>eqV y x
 | _,_,.nil,_=>rfl
 | y :: xs,u :: us,.cons r t,f=>by
  rw [g3e,m8] at f;rw [g2c,g2c,qjk r f.1,q4c t f.2]
theorem q2v{A:Around}{s:Shared}{x:V}{v:Value}(rx:RelV x v)(fx:q0e x=true): ∀ {xs:List V} {us:List Value},Vals xs us->xs.all q0e=true->∀u∈us,SeqAt.EqAt A s u v (eqU x u)
 | _,_,.nil,_=>fun u hu=>by cases hu
 | y :: xs,u :: us,.cons r t,f=>fun u' hu=>by
  rw [g3e,m8] at f;rcases mf.mp hu with rfl|hu
  ·rw [qjk r f.1];exact qjj r rx f.1 fx
  ·exact q2v rx fx t f.2 u' hu
def inV(x:V)(xs:List V): Bool:=xs.any fun y=>eqV y x
def rIn(K:PySem.W.Frag)(neg:Bool): R2:=fun x y H Q=>∃p xs,y=.ref p/\(SqL K H p xs\/SqT K H p xs)/\q0e x=true/\xs.all q0e=true/\Q (.bl (if neg then !inV x xs else inV x xs)) H
theorem qjl:OpR X (compareOp .In) (rIn X.K false):=by
 intro pins s σ H x y v u Q I rx ry h;obtain⟨p,xs,rfl,hq,fx,fs,q⟩:=h;cases ry;rcases hq with hq|hq
 ·obtain⟨its,r,pl,hz⟩:=I.list hq
  refine SeqAt.in_listAt (eqU x) pl.isList (fun w hw=>q2v rx fx r fs w (by simpa using hw)) ⟨.bl _,H,I,rfl,?_⟩;rw [show its.toArray.any (eqU x)=its.any (eqU x) by simp,q4c r fs];exact q
 ·obtain⟨its,r,pl,hz⟩:=I.tuple hq
  refine SeqAt.in_tupleAt (eqU x) pl (fun w hw=>q2v rx fx r fs w (by simpa using hw)) ⟨.bl _,H,I,rfl,?_⟩;rw [show its.toArray.any (eqU x)=its.any (eqU x) by simp,q4c r fs];exact q
theorem qd1:OpR X (compareOp .NotIn) (rIn X.K true):=by
 intro pins s σ H x y v u Q I rx ry h;obtain⟨p,xs,rfl,hq,fx,fs,q⟩:=h;cases ry;rcases hq with hq|hq
 ·obtain⟨its,r,pl,hz⟩:=I.list hq
  refine SeqAt.notIn_listAt (eqU x) pl.isList (fun w hw=>q2v rx fx r fs w (by simpa using hw)) ⟨.bl _,H,I,rfl,?_⟩;rw [show its.toArray.any (eqU x)=its.any (eqU x) by simp,q4c r fs];exact q
 ·obtain⟨its,r,pl,hz⟩:=I.tuple hq
  refine SeqAt.notIn_tupleAt (eqU x) pl (fun w hw=>q2v rx fx r fs w (by simpa using hw)) ⟨.bl _,H,I,rfl,?_⟩;rw [show its.toArray.any (eqU x)=its.any (eqU x) by simp,q4c r fs];exact q
theorem qcf:xp X (.type "tuple") (fun xs H Q=>∃p ys,xs=[.ref p]/\((SqL X.K H p ys/\∀l,H l=none->Q (.ref l) (upd H l (.tup ys)))\/(SqT X.K H p ys/\Q (.ref p) H))):=by
 intro pins s σ H xs us Q I r h;obtain⟨p,ys,rfl,h⟩:=h;obtain⟨u,rfl,rx⟩:=vals1 r;cases rx;rcases h with⟨hq,q⟩|⟨hq,q⟩
 ·obtain⟨its,r',pl,hz⟩:=I.list hq
  have hlen:=r'.length;refine call_tuple_list pl.isList (fun h' kp=>?_) (by simp only [gm] <;> omega);have I1:Inv X pins σ H {s with heap:=h'}:=I.kept (t':=s.toks) kp;have I2:Inv X pins σ (upd H h'.objs.size (.tup ys)) {s with heap:=h'.push {cls:=.type "tuple",data:=.seq its.toArray} }:=
   I1.laid (t':=s.toks) (fun b o e=>gc _ e) (gv _) (show ObjOk X.prog X.w _ _ _ (.tup ys) from⟨hz,its,r',TupX.new _ _⟩)
  exact⟨.ref h'.objs.size,_,I2,rfl,q _ (I1.hok.fresh (gv _))⟩
 ·obtain⟨its,r',pl,hz⟩:=I.tuple hq
  exact call_tuple_same pl ⟨.ref p,H,I,rfl,q⟩
def tyV(K:PySem.W.Frag)(T:String)(x:V)(H:Hp): Prop:=match x with
 | .str _=>T="str"
 | .int _=>T="int"
 | .ref p=>(T="list" /\ ∃xs,SqL K H p xs)\/(T="tuple" /\ ∃o,K.lookup p=some o/\o.cls=.type "tuple" /\ o.dict=none) \/
   (T="dict" /\ ((∃kvs,H p=some (.dK kvs))\/∃kvs,H p=some (.dT kvs)))\/(T="set" /\ ∃S n,H p=some (.set S n))
 | _=>False
theorem qjm{pins:List (Addr×Obj)}{σ : St}{H:Hp}{s:Shared}{T:String}{x:V}{v:Value}(I:Inv X pins σ H s)(r:RelV x v)(ty:tyV X.K T x H):
  s.TypeIs v T/\∀a,v=.ref a->∃ob,s.heap.get? a=some ob/\ob.dict=none:=by
 cases x with
 | str z=>
  obtain⟨t,rfl⟩:=r;cases(show T="str" from ty);exact⟨typeIs_str s z t,fun _ e=>nomatch e⟩
 | int i=>
  obtain⟨t,rfl⟩:=r;cases(show T="int" from ty);exact⟨typeIs_int s i t,fun _ e=>nomatch e⟩
 | ref p=>
  cases r;rcases ty with⟨rfl,xs,hq⟩|⟨rfl,o,hk,hc,hd⟩|⟨rfl,hk⟩|⟨rfl,S,n,hk⟩
  ·obtain⟨its,_,pl,_⟩:=I.list hq
   refine⟨pl.isList.typeIs,fun a e=>?_⟩;cases e;obtain⟨o,n,e,c,hd,_⟩:=pl;exact⟨o,e,hd⟩
  ·refine⟨⟨o,I.kIn p o hk,hc⟩,fun a e=>?_⟩
   cases e;exact⟨o,I.kIn _ o hk,hd⟩
  ·have z:∃o,s.heap.get? p=some o/\o.ExactDict:=by
    rcases hk with⟨kvs,hk⟩|⟨kvs,hk⟩
    ·obtain⟨_,_,_,_,o,_,_,e,ex,_⟩:=I.hok p _ hk
     exact⟨o,e,ex⟩
    ·obtain⟨_,_,_,_,o,_,_,e,ex,_⟩:=I.hok p _ hk
     exact⟨o,e,ex⟩
   obtain⟨o,e,ex⟩:=z;refine⟨⟨o,e,ex.1⟩,fun a e2=>?_⟩;cases e2;exact⟨o,e,ex.2.1⟩
  ·obtain⟨o,_,_,_,e,ex,_⟩:=I.hok p _ hk
   refine⟨⟨o,e,ex.1⟩,fun a e2=>?_⟩;cases e2;exact⟨o,e,ex.2.1⟩
 | _=>exact False.elim ty
def qvo(K:PySem.W.Frag)(T:String)(r:V->List V->Hp->VK->Prop)(to:TE): TE:=fun σ H Q=>to σ H fun x H1=>tyV K T x H1/\r x [] H1 Q
def tBM(K:PySem.W.Frag)(T:String)(r:V->List V->Hp->VK->Prop)(to:TE)(t:TA): TE:=fun σ H Q=>to σ H fun x H1=>tyV K T x H1/\t σ H1 fun xs H2=>r x xs H2 Q
variable{o e:Expr}{es:List Expr}{to:TE}{t:TA}{name:Str}{apos cpos:Pos}{T id:String}{r:V->List V->Hp->VK->Prop}
theorem qsl(pa:PlainAttrs T)(slot:Slot T name id)(hty:typeOf (.builtin id)=pure (.type "method_descriptor"))(hm:MtR X id r)(ho:PE X o to)
  (hbase:attributeBase o name X.env (eval o X.env)=eval o X.env:=by rfl) (hline:(apos.endLine==cpos.line)=true:=by rfl):PE X (.Call (.Attribute o name apos) [] [] cpos) (qvo X.K T r to):=by
 intro pins s σ H Q I h;refine wpAny_Call_method0_late hbase hline (thn (ho pins s σ H _ I h) fun v s1 ⟨x,H1,I1,r1,ty,q1⟩=>?_);obtain⟨h1,h2⟩:=qjm I1 r1 ty;exact⟨T,id,pa,slot,hty,h1,h2,Calls.callWith_builtin rfl (PySem.evalArgs_none (hm pins s1 σ H1 x [] v [] Q I1 r1 .nil q1))⟩
theorem qou(pa:PlainAttrs T)(slot:Slot T name id)(hty:typeOf (.builtin id)=pure (.type "method_descriptor"))(hm:MtR X id r)(ho:PE X o to)(ha:PA X (e :: es) t)
  (hbase:attributeBase o name X.env (eval o X.env)=eval o X.env:=by rfl)
  (hfew:((backTo cpos (starEach (e :: es) X.env)).all (fun x=> !x.1)&&(backToKw cpos (keywordEach [] X.env)).all (fun x=>x.1.isSome)
   && decide ((e :: es).length+([]:List Keyword).length+(if([]:List Keyword).isEmpty then 0 else 1)<30))=true:=by rfl)
  (hline:(apos.endLine==cpos.line)=true:=by rfl) (hs:starEach (e :: es) X.env=(false,eval e X.env) :: starEach es X.env:=by rfl) (hplain:(backTo cpos (starEach es X.env)).any (·.1)=false:=by rfl) :
  PE X (.Call (.Attribute o name apos) (e :: es) [] cpos) (tBM X.K T r to t):=by
 intro pins s σ H Q I h;refine wpAny_Call_method_late hbase hfew hline rfl (thn (ho pins s σ H _ I h) fun v s1 ⟨x,H1,I1,r1,ty,q1⟩=>?_);obtain⟨h1,h2⟩:=qjm I1 r1 ty;refine⟨T,id,pa,slot,hty,h1,h2,?_⟩;have hA:=ha cpos pins s1 σ H1 _ I1 q1;rw [hs] at hA ⊢;refine Calls.callWith_builtin (by show(false || (backTo cpos (starEach es X.env)).any (·.1))=false;rw [hplain] <;> rfl) (Calls.evalArgs_plain ?_);exact thn hA fun us s2 ⟨vs,H2,I2,r2,q2⟩=>hm pins s2 σ H2 x vs v us Q I2 r1 r2 q2
end
def MtM(X:Cx)(id:String)(r:V->List V->Hp->VK->Prop): Prop:=
 ∀(pins:List (Addr×Obj)) (s:Shared) (σ : St) (H:Hp) (x:V) (xs:List V) (v:Value) (us:List Value) (Q:VK),Inv X pins σ H s->RelV x v->Vals xs us->r x xs H Q ->
  wpAny (model X.prog X.w) X.A (call (.builtin id) (v :: us)) (EP X pins σ Q) X.xe s
theorem Vals.one:∀ {x:V} {us:List Value},Vals [x] us->∃u,us=[u]/\RelV x u
 | _,_,.cons r .nil=>⟨_,rfl,r⟩
theorem Vals.two:∀ {x y:V} {us:List Value},Vals [x,y] us->∃u v,us=[u,v]/\RelV x u/\RelV y v
 | _,_,_,.cons r (.cons q .nil)=>⟨_,_,rfl,r,q⟩
section
variable{X:Cx}{pins:List (Addr×Obj)}{σ : St}{H:Hp}{s:Shared}{l b:Addr}{xs ys zs:List V}
theorem Inv.lset{its its':List Value}{n:Nat}{f:Array Value->Array Value}{t':Nat}(I:Inv X pins σ H s)(hH:H l=some (.lst xs))
  (e:s.heap.get? l=some {cls:=.type "list",data:=.seq its.toArray n}) (hf:f its.toArray=its'.toArray) (hv:Vals ys its') (hz:ys.length<=sizeLine) :
  Inv X pins σ (upd H l (.lst ys)) {s with heap:=s.heap.update l (Obj.mapSeq f),toks:=t'}:=by
 have q:=PySem.IsL.update e f;rw [hf] at q;refine I.write (x:=l) (e:=l) (by rw [hH];exact trivial) (.inl rfl) (fun b' u hb hu=>(g0m s.heap (Obj.mapSeq f) (n9 hb)).trans hu) ⟨_,q⟩ ?_;exact⟨hz,its',_,hv,q⟩
theorem Inv.lnew{its:List Value}{t':Nat}(I:Inv X pins σ H s)(hv:Vals ys its)(hz:ys.length<=sizeLine):
  Inv X pins σ (upd H s.heap.objs.size (.lst ys)) {s with heap:=s.heap.push {cls:=.type "list",data:=.seq its.toArray},toks:=t'}:=
 I.laid (fun _ _ q=>gc _ q) (gv _) ⟨hz,its,0,hv,gj _ rfl⟩
theorem Inv.fresh(I:Inv X pins σ H s): H s.heap.objs.size=none:=I.hok.fresh (gv _)
theorem Inv.lstM(I:Inv X pins σ H s)(hH:H l=some (.lst xs)): xs.length<=sizeLine/\∃(its:List Value) (n:Nat),Vals xs its/\xs.length=its.length/\s.heap.get? l=some {cls:=.type "list",data:=.seq its.toArray n}:=by
 obtain⟨z,its,n,r,e⟩:=I.hok l _ hH;exact⟨z,its,n,r,r.length,e⟩
theorem qm9{n:Nat}(h:n<=sizeLine): Builtin.List.listTooLong n=false:=by
 unfold Builtin.List.listTooLong;exact nk (by omega)
end
section
variable{X:Cx}
def rAppend:V->List V->Hp->VK->Prop:=fun x vs H Q=>∃l xs y,x=.ref l/\vs=[y]/\H l=some (.lst xs)/\xs.length<sizeLine/\Q .non (upd H l (.lst (xs++[y])))
theorem qbb:MtM X "list.append" rAppend:=by
 intro pins s σ H x vs v us Q I rx rv h;obtain⟨l,xs,y,rfl,rfl,hH,hz,q⟩:=h;cases rx;obtain⟨u,rfl,ru⟩:=rv.one;obtain⟨z,its,n,r,hl,e⟩:=I.lstM hH;refine g3p F.slot_list_append ⟨_,e,rfl⟩ F.entry_list_append (F.args_list_append_2 _ _) (PySem.list_append l its.toArray n u (by rw [gm];omega)) ⟨e,?_⟩;refine⟨.non,_,I.lset (its':=its++[u]) hH e (by simp) (r.append (.cons ru .nil)) ?_,rfl,q⟩;rw [pf,g3k];omega
end
section
variable{prog:Program}{w:World}{A:Around}{E:Value->Shared->Prop}{s:Shared}
end
section
variable{X:Cx}
end
end L2
namespace Att
open PySem PySem.W PySem.Calls PyProof.Rows
theorem q8w{P:Params}{h:Heap}: ∀(ns:List Int) (vs:List Value),WellAll P h vs (ns.map WData.int)->IntsAre vs ns:=by
 intro ns
 induction ns with
 | nil=>
  intro vs w;rw [g0s] at w;cases w;exact .nil
 | cons n ns ih=>
  intro vs w;rw [gf] at w;cases w with
  | cons a b=>
   cases a;exact .cons _ _ (ih _ b)
theorem qjn{l:OpenLaw}{n:Nat}(hn:l.most=some n){P:Params}{h:Heap}{args:List WData}{vals:List Value}
  (hpre:l.row.toRowW.claim.pre args=true) (hwl:WellAll P h vals args) :
  ∃a vs ns,vals=[Value.ref a]/\args=[WData.list (ns.map WData.int)]/\h.get? a=some {cls:=.type "list",data:=.seq vs.toArray}/\IntsAre vs ns/\ns.length<=n:=by
 have hsh:WShape.hasAll [] args [.list .int]=true:=(pre_splitW hpre).1;have hc:l.pre.holds [] {args:=args}=true:=(pre_splitW hpre).2;obtain⟨d,r,rfl,h1,h2⟩:=hasAllW_cons hsh;obtain rfl:=hasAllW_nil h2;obtain⟨xs,rfl,h3⟩:=hasW_list h1;obtain⟨ns,rfl⟩:=items_int h3;have hlen:ns.length<=n:=by
  unfold OpenLaw.pre at hc;have h4:(WTm.not (.lt (.lit (.int (n:Int))) (.len (.arg 0)))).holds [] {args:=[.list (ns.map .int)]}=true:=by
   have h4:=(holds_andW hc).1;rw [hn] at h4;exact h4
  have h5:=condW_of h4 (w_not (w_lt w_lit (w_len_list (w_arg rfl))));rw [mn] at h5;refine Nat.le_of_not_lt fun q=>?_;have q':(n:Int)<((ns.length:Nat):Int):=by omega
  first
   | (rw [mq q'] at h5;exact absurd h5 (by decide))
   | (simp at h5;omega)
 cases hwl with
 | cons w1 w2=>
  cases w2;cases w1 with
  | list ho hall=>exact⟨_,_,ns,rfl,rfl,ho,q8w ns _ hall,hlen⟩
theorem qjo(l:OpenLaw)(args:List WData): l.row.toRowW.claim.post args (.bool true) args=true:=
 postW_of (r:=l.row.toRowW) (X:=(true==true))
  (show WShape.has [] (.bool true) .bool=true by first|rfl|decide|simp [WShape.has,WShape.arms,WShape.armsAll])
  (show(WTm.eq .res (.lit (.bool true))).value [] {args:=args,res:=some (.bool true),after:=args}=some (.bool (true==true)) from w_eq_bool (w_res rfl) w_lit) rfl
theorem attach_call{l:OpenLaw}{n:Nat}{q:Program}{loose:List Str}{XP:(Str->Option Value)->Heap->Prop}{YP:World->Heap->Prop}{d:DefRec}
  (hn:l.most=some n) (hdf:d.params.defaults=[])
  (call:∀(w:World) (s₀ s₁:Shared) (mg mb:Str->Option Value) (fa:Addr) (o:Obj) (pm cd doc:Value) (a:Addr) (vs:List Value) (ns:List Int),
   Ground q loose [] XP w s₀ mg mb s₁.heap->YP w s₁.heap ->
   s₁.heap.get? fa=some o->o.data=.func (docDef d.name d.params d.body d.scope pm cd doc)->s₁.heap.CodeRec cd d.name->mg d.name=some (.ref fa) ->
   s₁.heap.get? a=some {cls:=.type "list",data:=.seq vs.toArray}->IntsAre vs ns->ns.length<=n->s₁.gens = #[] ->
   codeAny (model l.prog w) callerA (.call (.ref fa) ⟨[.ref a],[]⟩) (fun r s'=>r=.ok (.ret (.bool true))/\OldK s₁.heap s'.heap/\s'.os=s₁.os/\AllBare s'.gens) s₁) :
  WalkO q loose XP YP l.row.toRowW d [] (fun f vs=>PySem.call f vs):=by
 intro w s₀ s₁ mg mb G Y fa o pm cd doc dV kV ho hd hcd hD hmg hg args vals as hpre hlay hrd hwl hlo;obtain rfl:dV=.none:=Dflts.none hD hdf;obtain rfl:kV=.none:=Dflts.noKw hD;obtain⟨a,vs,ns,rfl,rfl,hobj,hints,hlen⟩:=qjn hn hpre hwl;refine enter_call (g2p (call w s₀ s₁ mg mb fa o pm cd doc a vs ns G Y ho (fd_plain hd) hcd hmg hobj hints hlen hg) fun r s' hq=>?_);obtain⟨rfl,h2,h3,h4⟩:=hq;exact⟨.inl ⟨.bool true,.bool true,[],rfl,fun _=>rfl,.bool true,qjo l _,fun _=>⟨List.Pairwise.nil,fun _ hm=>(nomatch hm)⟩⟩,h2,h3,h4⟩
section
variable{prog:Program}{w:World}{A:Around}{E:Value->Shared->Prop}{s:Shared}{K:Frag}
end
end Att
namespace L2
open PySem PySem.Spec PyProof.Rows
theorem q1z:∀ {vs:List Value} {ns:List Int},IntsAre vs ns->Vals (ns.map V.int) vs
 | _,_,.nil=>.nil
 | _,_,.cons n t h=>.cons ⟨t,rfl⟩ (q1z h)
def vz(s:Stmt): Arguments:=match s with
 | .FunctionDef _ a _ _ _ _ _ _ _ _=>a
 | _=>{posonlyargs:=[],args:=[],vararg:=none,kwonlyargs:=[],kw_defaults:=[],kwarg:=none,defaults:=[]}
def qp(s:Stmt): List Stmt:=match s with
 | .FunctionDef _ _ b _ _ _ _ _ _ _=>b
 | _=>[]
def qc(s:Stmt): Scope:=match s with
 | .FunctionDef _ _ _ _ _ _ sc _ _ _=>sc
 | _=>{kind:=.function,names:=[],isGenerator:=false,isCoroutine:=false}
abbrev CX0:CXT:=fun _ _ _ _ _ _=>False
abbrev E0:XK:=fun _ _ _=>False
theorem qov{X:Cx}: q8u CX0 X E0:=fun _ _ _ _ _ _ _ h=>h.elim
structure Fun(K:PySem.W.Frag)(x qual:Str)(st:Stmt)(f:Addr)(fd:FuncData): Prop where
 ex:∃(oc:Value) (od:Option Addr) (kV doc pm:Value) (an:Option Addr) (cdv ct:Value) (osl:Array (Option Value)),
  fd=PySem.W.fnOf x qual (vz st) (qp st) (qc st) .none kV doc pm an cdv ct/\K.lookup f=some ⟨oc,od,.func fd,osl⟩/\PySem.W.codeIn K cdv qual=true
 kp:PySem.W.keepIn K (.ref f)=true
section
variable{P:Program}{w:World}{K:PySem.W.Frag}{mg:Str->Option Value}{base:Heap}
end
section
variable{X:Cx}
theorem pv(i:Nat){x:Str}{pos:Pos}(hN:X.N[i]? = some x:=by rfl)(hv:Vis X.env.scope x:=by first|exact Or.inl rfl|exact Or.inr (Or.inl rfl)|exact Or.inr (Or.inr rfl))(hd:(x==("__debug__" : Str))=false:=by decide)
  (hcd:(x==("__classdict__" : Str))=false:=by decide):PE X (.Name x pos) (qcw i):=qrq hN hv hd hcd
end
theorem qvp{A B:Prop}(h:B): if false=true then A else B:=by
 rw [mi m5];exact h
theorem qvq{A B:Prop}(h:A): if true=true then A else B:=by
 rw [mh rfl];exact h
def Same(H H':Hp): Prop:=∀b o,H b=some o->H' b=some o
theorem Same.refl(H:Hp): Same H H:=fun _ _ h=>h
theorem Same.trans{H H1 H2:Hp}(a:Same H H1)(b:Same H1 H2): Same H H2:=fun c o h=>b c o (a c o h)
theorem Same.free{H H':Hp}(e:Same H H'){l:Addr}(h:H' l=Option.none): H l=Option.none:=by
 cases q:H l with
 | none=>rfl
 | some o=>
  rw [e l o q] at h;cases h
theorem Same.seq{K:PySem.W.Frag}{H H':Hp}{a:Addr}{xs:List V}(e:Same H H')(h:SqL K H a xs): SqL K H' a xs:=by
 rcases h with(h|⟨o,h⟩)|h
 ·exact .inl (.inl (e _ _ h))
 ·exact .inl (.inr ⟨o,e _ _ h⟩)
 ·exact .inr h
theorem q2w(env:Env): ∀(names:List (Str×NameKind)) (acc:List (Str×Addr)),
  (∀y∈names,y.2=.free->∃c,env.cells.lookup y.1=some c)->(∀x c,acc.lookup x=some c->env.cells.lookup x=some c) ->
  ∃ cl,(forIn names acc (fun(x:Str×NameKind) (r:List (Str×Addr))=>(do
    if x.2==NameKind.free then do
     let a <- cellOf env x.1
     pure (ForInStep.yield ((x.1,a) :: r))
    else pure (ForInStep.yield r):Sem (ForInStep (List (Str×Addr))))):Sem (List (Str×Addr)))=pure cl /\
   (∀x c,cl.lookup x=some c->env.cells.lookup x=some c)/\(∀x c,acc.lookup x=some c->∃d,cl.lookup x=some d)/\(∀y∈names,y.2=.free->∃c,cl.lookup y.1=some c)
 | [],acc,_,h2=>⟨acc,rfl,h2,fun x c h=>⟨c,h⟩,fun y hy=>by cases hy⟩
 | (n,k) :: r,acc,h1,h2=>by
  by_cases hk:k=NameKind.free
  ·subst hk
   obtain⟨c,hc⟩:=h1 (n,.free) gq rfl;have h2':∀x d,((n,c) :: acc).lookup x=some d->env.cells.lookup x=some d:=fun x d e=>by
    rw [t9] at e
    split at e
    ·rename_i q
     have q':x=n:=by simpa using q
     subst q';cases e;exact hc
    ·exact h2 x d e
   obtain⟨cl,e,a1,a2,a3⟩:=q2w env r ((n,c) :: acc) (fun y hy=>h1 y (gu _ hy)) h2';refine⟨cl,?_,a1,fun x d e2=>?_,fun y hy hf=>?_⟩
   ·rw [g1u]
    simp only [beq_self_eq_true,nj];have hco:cellOf env n=pure c:=by unfold cellOf;rw [hc]
    rw [hco];exact e
   ·by_cases q:x=n
    ·subst q
     exact a2 x c (by rw [t9];simp)
    ·exact a2 x d (by rw [t9,show(x==n)=false by simpa using q];exact e2)
   ·rcases mf.mp hy with rfl|hy
    ·exact a2 n c (by rw [t9];simp)
    ·exact a3 y hy hf
  ·obtain⟨cl,e,a1,a2,a3⟩:=q2w env r acc (fun y hy=>h1 y (gu _ hy)) h2
   refine⟨cl,?_,a1,a2,fun y hy hf=>?_⟩
   ·rw [g1u]
    have hb:(k==NameKind.free)=false:=by simpa using hk
    simp only [hb,gr,p8];exact e
   ·rcases mf.mp hy with rfl|hy
    ·exact absurd hf hk
    ·exact a3 y hy hf
theorem q8x{scope:Scope}{env:Env}(h:∀y∈scope.names,y.2=.free->∃c,env.cells.lookup y.1=some c):
  ∃cl,closureFor scope env=pure cl/\(∀x c,cl.lookup x=some c->env.cells.lookup x=some c)/\(∀y∈scope.names,y.2=.free->∃c,cl.lookup y.1=some c):=by
 obtain⟨cl,e,a1,_,a3⟩:=q2w env scope.names [] h (fun x c q=>by cases q);refine⟨cl,?_,a1,a3⟩;unfold closureFor;exact(uz (fun m=>m >>= fun r=>(pure r:Sem (List (Str×Addr)))) e).trans rfl
abbrev qjp(ifs:List Expr)(env:Env): Sem Bool:=
 forIn ifs true fun c r=>if r=true then do let ok <- isTrue c env (eval c env);pure (ForInStep.yield ok) else pure (ForInStep.yield r)
def q29(X:Cx)(ifs:List Expr)(t:TT): Prop:=
 ∀(pins:List (Addr×Obj)) (s:Shared) (σ : St) (H:Hp) (Q:Bool->Hp->Prop),Inv X pins σ H s->t σ H Q->wpAny (model X.prog X.w) X.A (qjp ifs X.env) (TP X pins σ Q) X.xe s
def tTrue:TT:=fun _ H Q=>Q true H
theorem qma{X:Cx}: q29 X [] tTrue:=fun pins s σ H Q I h=>wpAny_tests_nil ⟨H,I,h⟩
theorem qmb{X:Cx}{c:Expr}{t:TT}(h:PT X c t): q29 X [c] t:=fun pins s σ H Q I hq=>wpAny_tests_one (h pins s σ H Q I hq)
section
variable{prog:Program}{w:World}{A:Around}{R:Result->Shared->Prop}{s:Shared}
theorem qfo{elt target iter:Expr}{ifs:List Expr}{scope:Scope}{pos:Pos}{it acc:Value}{env:Env}(I:Nat->Shared->Prop)
  (turn:∀n s,I n s->wpAny (model prog w) A (pyNext it) (fun r s₁=>match r with
   | none=>R (.ok .next) s₁
   | some v=>wpAny (model prog w) A (letOwnedTupleGo target it v) (fun _ s'=>wpAny (model prog w) A (assign target env v) (fun _ s₂=>
     wpAny (model prog w) A (qjp ifs env) (fun ok s₃=>
      if ok=true then wpAny (model prog w) A (eval elt env) (fun x s₄=>
       wpAny (model prog w) A (call (.builtin "list.append") [acc,x]) (fun _ s₅=>∃m,m<n/\I m s₅) (fun _ _=>False) s₄) (fun _ _=>False) s₃
      else ∃m,m<n/\I m s₃) (fun _ _=>False) s₂) (fun _ _=>False) s') (fun _ _=>False) s₁) (fun _ _=>False) s)
  (n:Nat) (h:I n s) :
  codeAny (model prog w) A (.compLoop (.ListComp elt [⟨target,iter,ifs,0⟩] scope pos) 0 it acc env) R s:=by
 refine codeAny_loop rfl I (fun n s hI=>?_) n h;show wpAny _ A ((compTurn (.ListComp elt [⟨target,iter,ifs,0⟩] scope pos) 0 it acc env).onRaise (fun x=>do noteFrame x env;theTreesLotGoes x)) _ _ s;refine wpAny_noted ?_;rw [compTurn_list];refine g0 (wpAny_standAt (g0 (u0 (turn n s hI) (fun r s₁ h₁=>?_) fun _ _ h'=>h'.elim)));cases r with
 | none=>exact g9 h₁
 | some v=>
  refine g0 (u0 h₁ (fun _ s' h'=>?_) fun _ _ h'=>h'.elim);refine g0 (u0 h' (fun _ s₂ h₂=>g0 (u0 h₂ (fun ok s₃ h₃=>?_) fun _ _ h'=>h'.elim)) fun _ _ h'=>h'.elim);cases ok with
  | false=>exact g9 ⟨rfl,h₃⟩
  | true=>
   exact g0 (g0 (u0 h₃ (fun x s₄ h₄=>g0 (u0 h₄ (fun _ s₅ h₅=>g9 (g9 ⟨rfl,h₅⟩)) fun _ _ h'=>h'.elim)) fun _ _ h'=>h'.elim))
end
def qaa(cap:List (Option Nat))(σ : St): St:=cap.map fun o=>o.bind fun j=>(σ[j]?).join
theorem lookup_mem{α β : Type}[BEq α][LawfulBEq α]{l:List (α × β)}{a : α}{b : β}(h:l.lookup a=some b): (a,b)∈l:=by
 induction l with
 | nil=>cases h
 | cons p r ih=>
  obtain⟨x,y⟩:=p;rw [t9] at h
  split at h
  ·rename_i q
   have q':a=x:=by simpa using q
   subst q';cases h;exact gq
  ·exact gu _ (ih h)
theorem q2x{env:Env}: ∀ {names:List (Str×NameKind)} {x:Str} {k:NameKind},(names.map fun(n,k)=>if(k==NameKind.free&&env.scope.kind == .function&&env.kindOf n==some .cell) then(n,NameKind.cell) else(n,k)).lookup x=some k ->
  (names.lookup x=some k)\/(k=.cell/\names.lookup x=some .free)
 | [],_,_,h=>by cases h
 | (n,k0) :: r,x,k,h=>by
  have ih:=@q2x env r x k;have h':List.lookup x ((if(k0==NameKind.free&&env.scope.kind == .function&&env.kindOf n==some .cell)=true then(n,NameKind.cell) else(n,k0)) :: _)=some k:=h
  by_cases hc:(k0==NameKind.free&&env.scope.kind == .function&&env.kindOf n==some .cell)=true
  ·rw [mh hc,t9] at h'
   have hf:k0=.free:=by
    simp only [m8,g31] at hc;exact hc.1.1
   cases q:x==n with
   | true=>rw [q] at h';cases h';exact .inr ⟨rfl,by rw [t9,q,hf]⟩
   | false=>rw [q] at h';rw [t9,q];exact ih h'
  ·rw [mi hc,t9] at h'
   cases q:x==n with
   | true=>rw [q] at h';rw [t9,q];exact .inl h'
   | false=>rw [q] at h';rw [t9,q];exact ih h'
theorem q61{env:Env}: ∀ {names:List (Str×NameKind)} {x:Str},names.lookup x=some .free ->
  (names.map fun(n,k)=>if(k==NameKind.free&&env.scope.kind == .function&&env.kindOf n==some .cell) then(n,NameKind.cell) else(n,k)).lookup x=some .cell \/
  (names.map fun(n,k)=>if(k==NameKind.free&&env.scope.kind == .function&&env.kindOf n==some .cell) then(n,NameKind.cell) else(n,k)).lookup x=some .free
 | [],_,h=>by cases h
 | (n,k0) :: r,x,h=>by
  have ih:=@q61 env r x;show List.lookup x ((if(k0==NameKind.free&&env.scope.kind == .function&&env.kindOf n==some .cell)=true then(n,NameKind.cell) else(n,k0)) :: _)=_\/List.lookup x ((if(k0==NameKind.free&&env.scope.kind == .function&&env.kindOf n==some .cell)=true then(n,NameKind.cell) else(n,k0)) :: _)=_;rw [t9] at h
  by_cases hc:(k0==NameKind.free&&env.scope.kind == .function&&env.kindOf n==some .cell)=true
  ·rw [mh hc,t9]
   cases q:x==n with
   | true=>exact .inl rfl
   | false=>rw [q] at h;exact ih h
  ·rw [mi hc,t9]
   cases q:x==n with
   | true=>rw [q] at h;exact .inr h
   | false=>rw [q] at h;exact ih h
section
variable{X:Cx}{pins:List (Addr×Obj)}{σ : St}{H:Hp}{s:Shared}{N':List Str}{scope:Scope}{cap:List (Option Nat)}{cl:List (Str×Addr)}{fp:List Addr}
end
def qsm(J:It)(cap:List (Option Nat))(g:TG)(tc:TT)(te:TE)(σ : St)(H1:Hp)(p:Addr)(K:Hp->Prop): Prop:=
 ∃ W:Nat->Nat->St->Hp->Prop,(∃m,W 0 m (qaa cap σ) (upd H1 p (.lst [])))/\∀i m σ' H',W i m σ' H' ->
  (J.stop i H'/\K H')\/(J.go i H'/\∀x H'',J.yld i H' x H''->g x σ' H'' fun σ2 H2=>tc σ2 H2 fun b H3=>
   if b=true then te σ2 H3 fun y H4=>∃xs,H4 p=some (.lst xs)/\xs.length<sizeLine/\∃m',m'<m/\W (i+1) m' σ2 (upd H4 p (.lst (xs++[y])))
   else ∃m',m'<m/\W (i+1) m' σ2 H3)
def qhy(wi:TI)(cap:List (Option Nat))(g:TG)(tc:TT)(te:TE): TE:=fun σ H Q=>wi σ H fun J H1=>∀p,H1 p=none->qsm J cap g tc te σ H1 p (Q (.ref p))
section
variable{X:Cx}{N':List Str}{scope:Scope}{cap:List (Option Nat)}{tg iter elt:Expr}{ifs:List Expr}{wi:TI}{g:TG}{tc:TT}{te:TE}{pos:Pos}
end
section
variable{X:Cx}{N':List Str}{scope:Scope}{cap:List (Option Nat)}{tg iter elt:Expr}{ifs:List Expr}{wi:TI}{g:TG}{tc:TT}{te:TE}{pos:Pos}
end
section
variable{M:Model}{A:Around}{E:Value->Shared->Prop}{s:Shared}
theorem q62:∀(names:List (Str×NameKind)) (n:Nat) (acc:List (Str×Addr)),cellsFrom n names acc=cellsFrom n names []++acc
 | [],_,_=>rfl
 | (x,k) :: r,n,acc=>by
  unfold cellsFrom
  split
  ·rw [q62 r (n+1) ((x,n) :: acc),q62 r (n+1) [(x,n)],mm];rfl
  ·exact q62 r n acc
theorem qd2:∀ {names:List (Str×NameKind)} {n:Nat} {acc:List (Str×Addr)} {x:Str} {c:Addr},(x,c)∈cellsFrom n names acc->(x,c)∈acc\/(x,NameKind.cell)∈names
 | [],_,_,_,_,h=>.inl h
 | (y,k) :: r,n,acc,x,c,h=>by
  unfold cellsFrom at h
  split at h
  ·rename_i hk
   have hk:k=.cell:=by simpa using hk
   subst hk;rcases qd2 h with h|h
   ·rcases mf.mp h with e|h
    ·cases e;exact .inr gq
    ·exact .inl h
   ·exact .inr (gu _ h)
  ·rcases qd2 h with h|h
   ·exact .inl h
   ·exact .inr (gu _ h)
theorem qmc{l:List (Str×Addr)}{x:Str}{c:Addr}(h:(x,c)∈l): ∃d,l.lookup x=some d:=by
 induction l with
 | nil=>cases h
 | cons p r ih=>
  obtain⟨y,d⟩:=p;rw [t9];cases q:x==y with
  | true=>exact⟨d,rfl⟩
  | false=>
   rcases mf.mp h with e|h
   ·cases e;simp at q
   ·exact ih h
theorem qd3:∀ {names:List (Str×NameKind)} {n:Nat} {acc:List (Str×Addr)} {x:Str},(x,NameKind.cell)∈names->∃c,(x,c)∈cellsFrom n names acc
 | [],_,_,_,h=>by cases h
 | (y,k) :: r,n,acc,x,h=>by
  unfold cellsFrom;rcases mf.mp h with e|h
  ·cases e
   rw [mh (show(NameKind.cell==NameKind.cell)=true from rfl),q62];exact⟨n,n8 _ gq⟩
  ·split
   ·exact qd3 h
   ·exact qd3 h
theorem qjq{scope:Scope}{globals:Addr}{cl:List (Str×Addr)}{qual:Str}{outer:Env}{Q:Env->Shared->Prop}
  (hQ:Q {scope,locals:=s.heap.objs.size,globals,cells:=cellsFrom (s.heap.objs.size+1) scope.names []++cl,qual,func:=none,code:=outer.code,frame:=outer.frame,builtins:=outer.builtins} {s with heap:=pushCells (s.heap.push {cls:=.type "dict",data:=.dict #[]}) scope.names}) :
  wpAny M A (newFunctionEnv scope globals cl [] qual none .none (some outer)) Q E s:=by
 simp only [newFunctionEnv,Option.isSome_some,nj];refine g0 (wpAny_alloc ?_);refine g0 (wpAny_layCells _ (fun name kind cells=>by cases hkc:kind==NameKind.cell <;> simp [hkc]) _ _ _ _ ?_);rw [show({s with heap:=s.heap.push {cls:=.type "dict",data:=.dict #[]} }:Shared).heap.objs.size=s.heap.objs.size+1 from p7 ..,q62];rw [g32];exact g0 (g9 (g9 hQ))
end
abbrev jb(X:Cx)(N':List Str)(scope:Scope)(cl:List (Str×Addr))(C:Addr)(s₀:Shared)(H₀:Hp)(fp:List Addr): Cx:=
 {X with N:=N',env:=compEnvC scope cl C X.env,s₀:=s₀,H₀:=H₀,outer:=X.stack,ex:=fp,fn:=fun x=>scope.names.lookup x==some .cell,pn:=[],xe:=fun _ _=>False}
structure CapOkC(X:Cx)(N':List Str)(scope:Scope)(cap:List (Option Nat)): Prop where
 kind:scope.kind=.function
 cells:∀y∈scope.names,y.2=.cell->scope.names.lookup y.1=some .cell
 names:∀y∈scope.names,y.2=.local->scope.names.lookup y.1=some .local
 frees:∀y∈scope.names,y.2=.free->X.env.kindOf y.1=some .cell\/X.env.kindOf y.1=some .free
 len:cap.length=N'.length
 cap:∀(i j:Nat),cap[i]? = some (some j)->∃x,N'[i]? = some x/\X.N[j]? = some x/\scope.names.lookup x=some .free
section
variable{X:Cx}{pins:List (Addr×Obj)}{σ : St}{H:Hp}{s:Shared}{N':List Str}{scope:Scope}{cap:List (Option Nat)}{cl:List (Str×Addr)}{fp:List Addr}
theorem qjr(I:Inv X pins σ H s)(co:CapOkC X N' scope cap)(h1:∀x c,cl.lookup x=some c->X.env.cells.lookup x=some c)(h2:∀y∈scope.names,y.2=.free->∃c,cl.lookup y.1=some c)
  (hf:∀b∈fp,q0f X pins H b) (ho:∀b∈fp,∃o,s.heap.get? b=some o) {t':Nat} :
  Inv (jb X N' scope (cellsFrom (s.heap.objs.size+1) scope.names []++cl) s.heap.objs.size s H fp) [] (qaa cap σ) H {s with heap:=pushCells (s.heap.push {cls:=.type "dict",data:=.dict #[]}) scope.names,toks:=t'}:=by
 have flt:∀b∈fp,b<s.heap.objs.size:=fun b hb=>let⟨o,e⟩:=ho b hb;gz e
 have okc:=cellsFrom_ok scope.names (s.heap.push {cls:=.type "dict",data:=.dict #[]}) (s.heap.objs.size+1) [] ⟨fun _ _ hm=>(nomatch hm),List.Pairwise.nil⟩ (by rw [p7];exact gv _);rw [p7] at okc;have hk:∀b o,s.heap.get? b=some o->(pushCells (s.heap.push {cls:=.type "dict",data:=.dict #[]}) scope.names).get? b=some o:=fun b o e=>g5f _ _ b o (gc _ e);have hn:(pushCells (s.heap.push {cls:=.type "dict",data:=.dict #[]}) scope.names).Ns s.heap.objs.size (fun _=>none):=(Heap.Ns.new s.heap (.type "dict")).keeps (g5f _ _);generalize hnw:cellsFrom (s.heap.objs.size+1) scope.names []=nw at okc;have newc:∀ {x c},nw.lookup x=some c->(x,NameKind.cell)∈scope.names/\s.heap.objs.size+1<=c:=fun {x c} e=>by
  have m:=g4k e;have m2:=m;rw [<- hnw] at m2;rcases qd2 m2 with z|z
  ·cases z
  ·exact⟨z,(okc.empty x c m).2⟩
 have hasN:∀ {x},(x,NameKind.cell)∈scope.names->∃c,nw.lookup x=some c:=fun {x} e=>by
  obtain⟨c,hc⟩:=qd3 (n:=s.heap.objs.size+1) (acc:=[]) e;rw [hnw] at hc;exact qmc hc
 have old:∀ {x c},cl.lookup x=some c->c<s.heap.objs.size:=fun {x c} e=>let⟨v,q⟩:=I.cell x c (h1 x c e);q.lt
 have cases2:∀ {x c},(nw++cl).lookup x=some c->nw.lookup x=some c\/(nw.lookup x=none/\cl.lookup x=some c):=fun {x c} e=>by
  rw [g4d] at e;cases q:nw.lookup x with
  | some d=>rw [q] at e;exact .inl e
  | none=>rw [q] at e;exact .inr ⟨rfl,e⟩
 refine⟨⟨I.ok.mod,co.kind,I.ok.glob,I.ok.blt,gv _,fun x y c e1 e2=>?_,fun x hx=>?_,fun x c z e=>?_,I.ok.hd,I.ok.frames,.inl rfl,fun b hb=>?_,I.bs,md I.ok.bsz I.sz,fun b o e hb=>?_,fun b hb z=>?_,I.stack,I.stkFree⟩,
  rfl,I.bare,Un.kept hk,⟨_,hn,fun i x v e1 e2 e3=>?_⟩,fun x c e=>?_,I.hok.fresh (gv _),fun x c e=>?_,fun p hp=>(nomatch hp),I.hok.kept hk,?_⟩
 ·rcases cases2 e1 with a|⟨_,a⟩ <;> rcases cases2 e2 with b|⟨_,b⟩
  ·exact name_of_addr okc.apart (g4k a) (g4k b)
  ·exact absurd (gh (old b) (g0y (newc a).2)) (g0d _)
  ·exact absurd (gh (old a) (g0y (newc b).2)) (g0d _)
  ·exact I.ok.inj x y c (h1 x c a) (h1 y c b)
 ·have hx':(relabel scope X.env).names.lookup x=some .cell\/(relabel scope X.env).names.lookup x=some .free:=hx
  have key:(scope.names.lookup x=some .cell)\/(scope.names.lookup x=some .free):=by
   rcases hx' with q|q
   ·rcases q2x q with z|⟨_,z⟩
    ·exact .inl z
    ·exact .inr z
   ·rcases q2x q with z|⟨z,_⟩
    ·exact .inr z
    ·cases z
  show ∃c,(nw++cl).lookup x=some c;rw [g4d];rcases key with z|z
  ·obtain⟨c,hc⟩:=hasN (lookup_mem z)
   exact⟨c,by rw [hc];rfl⟩
  ·obtain⟨c,hc⟩:=h2 (x,.free) (lookup_mem z) rfl
   cases q:nw.lookup x with
   | some d=>exact⟨d,rfl⟩
   | none=>exact⟨c,hc⟩
 ·have z':scope.names.lookup x=some .cell:=by simpa using z
  obtain⟨d,hd⟩:=hasN (lookup_mem z');rcases cases2 e with a|⟨a,_⟩
  ·exact g0y (newc a).2
  ·rw [hd] at a;cases a
 ·obtain⟨f0,f1,f2,f3,f4,f5⟩:=hf b hb
  refine⟨m9 (flt b hb),fun x c e=>?_⟩;rcases cases2 e with a|⟨_,a⟩
  ·exact uh (gh (flt b hb) (g0y (newc a).2))
  ·exact f4 x c (h1 x c a)
 ·obtain⟨f0,f1,f2,f3,f4,f5⟩:=hf b hb
  rcases f3 with z|z
  ·exact I.ok.noex b o e z
  ·exact absurd (gh (gz e) (md I.ok.bsz z)) (g0d _)
 ·obtain⟨f0,f1,f2,f3,f4,f5⟩:=hf b hb
  rcases mf.mp (I.stkSub b z) with q|q
  ·exact f1 q
  ·exact f2 q
 ·have e2':(cap.map fun o=>o.bind fun j=>(σ[j]?).join)[i]? = some (some v):=e2
  rw [mr] at e2';cases q:cap[i]? with
  | none=>rw [q] at e2';cases e2'
  | some o=>
   rw [q] at e2';cases o with
   | none=>cases e2'
   | some j=>
    obtain⟨y,a1,a2,a3⟩:=co.cap i j q;have e1':N'[i]? = some x:=e1;rw [a1] at e1';obtain rfl:y=x:=ma e1';have ej:(σ[j]?).join=some v:=by
     have:=e2';simp only [p6,m4,g3a] at this;exact this
    have ej' : σ[j]? = some (some v):=by
     cases z : σ[j]? with
     | none=>rw [z] at ej;cases ej
     | some u=>rw [z] at ej;simp only [g3g] at ej;rw [ej]
    have kd:=co.frees (y,.free) (lookup_mem a3) rfl;obtain⟨m0,hn0,hl0⟩:=I.loc;have vis:Vis X.env.scope y:=by
     rcases kd with k|k
     ·exact .inr (.inl k)
     ·exact .inr (.inr k)
    obtain⟨u,ru,lk⟩:=hl0 j y v a2 ej' vis;refine⟨u,ru,.inr ⟨q61 a3,?_⟩⟩;obtain⟨c,hc⟩:=h2 (y,.free) (lookup_mem a3) rfl;have nn:nw.lookup y=none:=by
     cases q:nw.lookup y with
     | none=>rfl
     | some d=>
      have:=co.cells (y,.cell) (newc q).1 rfl;rw [a3] at this;cases this
    rcases lk with⟨k,_⟩|⟨_,c',hc',z⟩
    ·rcases kd with k'|k'
     ·rw [k] at k';cases k'
     ·rw [k] at k';cases k'
    ·have:=h1 _ _ hc
     rw [hc'] at this;obtain rfl:c'=c:=ma this;obtain⟨o,eo,ed⟩:=z;exact⟨c',by show(nw++cl).lookup y=_;rw [g4d,nn];exact hc,o,hk _ _ eo,ed⟩
 ·rcases cases2 e with a|⟨_,a⟩
  ·exact⟨none,(okc.empty x c (g4k a)).1⟩
  ·obtain⟨v,o,eo,ed⟩:=I.cell x c (h1 x c a)
   exact⟨v,o,hk _ _ eo,ed⟩
 ·rcases cases2 e with a|⟨_,a⟩
  ·exact I.hok.fresh (g0y (newc a).2)
  ·exact I.freeC x c (h1 x c a)
 ·show(cap.map _).length=N'.length
  rw [mn];exact co.len
theorem qfp{N':List Str}{C:Addr}{H':Hp}{s':Shared}{σ':St}{h':Heap}(I:Inv X pins σ H s)(hf:∀b∈fp,q0f X pins H b)(J:Inv (jb X N' scope cl C s H fp) [] σ' H' s')(hs:Heap.SameBut C s'.heap h'):
  Inv X pins σ H' {s' with heap:=h'}:=by
 have hC:s.heap.objs.size<=C:=J.ok.above;have kp:∀b o,b≠C->s'.heap.get? b=some o->h'.get? b=some o:=fun b o hb e=>(hs.2 b hb).trans e;have hC0:H' C=none:=J.free;have un:Un (frs X.stack) fp H H' s.heap h':=by
  have u:Un (frs X.stack) fp H H' s.heap s'.heap:=J.base;have neC:∀b o,s.heap.get? b=some o->b≠C:=fun b o e=>m9 (gh (gz e) hC);exact⟨fun b o e n h1 h2=>kp b o (neC b o e) (u.keep b o e n h1 h2),fun b o e n h1 h2=>let⟨sl,q⟩:=u.slot b o e n h1 h2; ⟨sl,kp b _ (neC b o e) q⟩,u.free,fun b o e h=>let⟨o',q⟩:=u.there b o e h; ⟨o',kp b o' (neC b o e) q⟩,u.tups,u.frzs,u.tbls⟩
 have hok:HOk X.prog X.w H' h':=fun b u e=>by
  refine(J.hok b u e).stay (fun c v hc q=>kp c v ?_ q) (fun _ q=>q) fun _ _ q=>q;rcases hc with z|z
  ·rw [z];intro z2;rw [z2,hC0] at e;cases e
  ·intro z2;rw [z2,hC0] at z;cases z
 exact I.call' (s':={s' with heap:=h'}) (ch:=fp) J.os un hok J.bare fun b hb=>by
  obtain⟨f0,f1,f2,f3,f4,f5⟩:=hf b hb;exact⟨f3,f1,f4,f5⟩
end
section
variable{X:Cx}{N':List Str}{scope:Scope}{cap:List (Option Nat)}{tg iter elt:Expr}{ifs:List Expr}{wi:TI}{g:TG}{tc:TT}{te:TE}{pos:Pos}
theorem q8y{cl:List (Str×Addr)}{pins:List (Addr×Obj)}{s:Shared}{σ : St}{H:Hp}{it:Addr}{fp:List Addr}{tn:Nat->Heap->Prop}{J:It}{E:Value->Shared->Prop}{K:Addr->Hp->Prop}
  {RR:Value->Addr->Result->Shared->Prop} (hc:X.calm=true) (co:CapOkC X N' scope cap)
  (h1:∀x c,cl.lookup x=some c->X.env.cells.lookup x=some c) (h2:∀y∈scope.names,y.2=.free->∃c,cl.lookup y.1=some c)
  (hg:∀cl C s₀ H₀ fp,PG (jb X N' scope cl C s₀ H₀ fp) tg g) (hcs:∀cl C s₀ H₀ fp,q29 (jb X N' scope cl C s₀ H₀ fp) ifs tc) (he:∀cl C s₀ H₀ fp,PE (jb X N' scope cl C s₀ H₀ fp) elt te)
  (I:Inv X pins σ H s) (T:Turn X.prog X.w X.K tg J fp it tn) (st:tn 0 s.heap) (hf:∀b∈fp,q0f X pins H b) (h:∀p,H p=none->qsm J cap g tc te σ H p (K p))
  (hRR:∀(D C:Addr) (s':Shared) (H':Hp),s.heap.objs.size<=C->(∃m,s'.heap.Ns C m)->(∀h',Heap.SameBut C s'.heap h'->Inv X pins σ H' {s' with heap:=h'})->H' C=none->K D H'->RR (.ref D) C (.ok .next) s') :
  wpAny (model X.prog X.w) X.A (newList []) (fun acc s₃=>wpAny (model X.prog X.w) X.A (newFunctionEnv scope X.env.globals cl [] X.env.qual none .none (some X.env)) (fun cenv s₄=>
   codeAny (model X.prog X.w) X.A (.compStart (.ListComp elt [⟨tg,iter,ifs,0⟩] scope pos) 0 (.ref it) acc {cenv with scope:=relabel scope X.env}) (RR acc cenv.locals) s₄) E s₃) E s:=by
 refine ui (qjq ?_);have hD:H s.heap.objs.size=none:=I.fresh;have I3:Inv X pins σ (upd H s.heap.objs.size (.lst [])) {s with heap:=s.heap.push {cls:=.type "list",dict:=none,data:=.seq ([]:List Value).toArray} }:=I.lnew (ys:=[]) (its:=[]) (t':=s.toks) .nil (uj _);obtain⟨W,⟨m0,w0⟩,turn⟩:=h s.heap.objs.size hD;have fobj:∀b∈fp,∃o,s.heap.get? b=some o:=fun b hb=>let⟨o,e,_⟩:=T.obj 0 _ st b hb; ⟨o,e⟩
 generalize e3:({s with heap:=s.heap.push {cls:=.type "list",dict:=none,data:=.seq ([]:List Value).toArray} }:Shared)=s3 at I3;have es3:s3.heap=s.heap.push {cls:=.type "list",dict:=none,data:=.seq ([]:List Value).toArray}:=by rw [<- e3]
 have eC:(s.heap.push {cls:=.type "list",dict:=none,data:=.seq ([]:List Value).toArray}).objs.size=s3.heap.objs.size:=by rw [es3]
 have hf3:∀b∈fp,q0f X pins (upd H s.heap.objs.size (.lst [])) b:=fun b hb=>by
  obtain⟨f0,f1⟩:=hf b hb;obtain⟨o,e⟩:=fobj b hb;exact⟨by rw [qo (m9 (gz e))];exact f0,f1⟩
 generalize ehh:pushCells (s3.heap.push {cls:=.type "dict",data:=.dict #[]}) scope.names=hh;have ehh3:hh=pushCells (s3.heap.push {cls:=.type "dict",data:=.dict #[]}) scope.names:=ehh.symm;have kp:∀b o,s3.heap.get? b=some o->hh.get? b=some o:=fun b o e=>by rw [ehh3];exact g5f _ _ b o (gc _ e)
 have hle:s.heap.objs.size<=s3.heap.objs.size:=by rw [es3,p7];exact g1x _
 have s3e:∀t:Nat,({s with heap:=hh,toks:=t}:Shared) = {s3 with heap:=hh,toks:=t}:=fun t=>by rw [<- e3]
 have I4:Inv (jb X N' scope (cellsFrom (s3.heap.objs.size+1) scope.names []++cl) s3.heap.objs.size s3 (upd H s.heap.objs.size (.lst [])) fp) [] (qaa cap σ) (upd H s.heap.objs.size (.lst [])) {s3 with heap:=hh,toks:=s.toks}:=by
  rw [ehh3];exact qjr I3 co h1 h2 hf3 (fun b hb=>let⟨o,e⟩:=fobj b hb; ⟨o,by rw [es3];exact gc _ e⟩)
 have st4:tn 0 hh:=T.keep 0 _ _ st fun b hb o e=>kp b o (by rw [es3];exact gc _ e);have etk:s3.toks=s.toks:=by rw [<- e3]
 show codeAny (model X.prog X.w) X.A (.compStart (.ListComp elt [⟨tg,iter,ifs,0⟩] scope pos) 0 (.ref it) (.ref s.heap.objs.size) (compEnvC scope (cellsFrom (s3.heap.objs.size+1) scope.names []++cl) s3.heap.objs.size X.env)) (RR (.ref s.heap.objs.size) s3.heap.objs.size)
  {s3 with heap:=hh,toks:=s3.toks}
 rw [etk];generalize eX:jb X N' scope (cellsFrom (s3.heap.objs.size+1) scope.names []++cl) s3.heap.objs.size s3 (upd H s.heap.objs.size (.lst [])) fp=X' at I4;have hg':PG X' tg g:=by rw [<- eX];exact hg _ _ _ _ _
 have hcs':q29 X' ifs tc:=by rw [<- eX];exact hcs _ _ _ _ _
 have he':PE X' elt te:=by rw [<- eX];exact he _ _ _ _ _
 have eenv:X'.env=compEnvC scope (cellsFrom (s3.heap.objs.size+1) scope.names []++cl) s3.heap.objs.size X.env:=by rw [<- eX]
 have exe:X'.xe=fun _ _=>False:=by rw [<- eX]
 have eex:X'.ex=fp:=by rw [<- eX]
 have eprog:X'.prog=X.prog:=by rw [<- eX]
 have ew:X'.w=X.w:=by rw [<- eX]
 have eK:X'.K=X.K:=by rw [<- eX]
 have eA:X'.A=X.A:=by rw [<- eX]
 have ecalm:X'.calm=true:=by rw [<- eX];exact hc
 have epn:X'.pn=[]:=by rw [<- eX]
 have eloc:X'.env.locals=s3.heap.objs.size:=by rw [eenv];rfl
 have ok':=I4.ok;have stat:∀ {H':Hp},(∀b∈fp,H' b=none)->∀b∈fp,q0f X' [] H' b:=fun hn b hb=>by
  have hbx:b∈X'.ex:=by rw [eex];exact hb
  exact⟨hn b hb,(ok'.exf b hbx).1,ok'.exfs b hbx,.inl hbx,(ok'.exf b hbx).2,fun p hp=>by rw [epn] at hp;cases hp⟩
 have back:∀ {σ':St} {H':Hp} {s':Shared},Inv X' [] σ' H' s'->K s.heap.objs.size H'->RR (.ref s.heap.objs.size) s3.heap.objs.size (.ok .next) s':=fun {σ' H' s'} J' k=>by
  refine hRR _ _ _ H' hle ?_ (fun h' hs'=>?_) ?_ k
  ·obtain⟨m,hm,_⟩:=J'.loc
   exact⟨m,by rw [<- eloc];exact hm⟩
  ·rw [<- eX] at J'
   exact qfp I3 hf3 J' hs'
  ·rw [<- eloc];exact J'.free
 have loop:codeAny (model X.prog X.w) X.A (.compLoop (.ListComp elt [⟨tg,iter,ifs,0⟩] scope pos) 0 (.ref it) (.ref s.heap.objs.size) (compEnvC scope (cellsFrom (s3.heap.objs.size+1) scope.names []++cl) s3.heap.objs.size X.env)) (RR (.ref s.heap.objs.size) s3.heap.objs.size)
   {s3 with heap:=hh,toks:=s.toks}:=by
  refine qfo (fun n s'=>∃i σ' H',Inv X' [] σ' H' s'/\tn i s'.heap/\(∀b∈fp,H' b=none)/\W i n σ' H') ?_ m0 ⟨0,_,_,I4,st4,fun b hb=>(hf3 b hb).1,w0⟩
  rintro n s5 ⟨i, σ5,H5,I5,st5,fr5,w5⟩
  rw [<- eenv];rcases turn i n σ5 H5 w5 with⟨stop,qn⟩|⟨go,step⟩
  ·have:=T.done X' eprog ew eK ecalm i [] s5 σ5 H5 (fun _ _=>False) I5 (stat fr5) st5 stop
   rw [eA] at this;refine thn this fun r s6 ⟨hr,I6⟩=>?_;subst hr;exact back I6 qn
  ·have:=T.item X' eprog ew eK ecalm i [] s5 σ5 H5 (fun _ _=>False) I5 (stat fr5) st5 go
   rw [eA] at this;refine thn this fun r s6 ⟨u,hr,h6⟩=>?_;subst hr;refine thn h6 fun _ s7 ⟨x,H7,I7,r7,y7,st7,fr7⟩=>?_;have I7':=I7.pinned (stat fr7) (T.obj _ _ st7);have hg2:=hg' _ s7 σ5 H7 x u _ I7' r7 (step x H7 y7);rw [exe,eprog,ew,eA] at hg2;refine thn hg2 fun _ s8 ⟨σ8,H8,I8,q8⟩=>?_;have hc2:=hcs' _ s8 σ8 H8 _ I8 q8;rw [exe,eprog,ew,eA] at hc2;refine thn hc2 fun ok s9 ⟨H9,I9,q9⟩=>?_;have again:∀ {H':Hp} {s':Shared} {m':Nat},Inv X' ([]++q4b fp s7.heap) σ8 H' s'->m'<n->W (i+1) m' σ8 H'->∃m,m<n/\∃i σ' H',Inv X' [] σ' H' s'/\tn i s'.heap/\(∀b∈fp,H' b=none)/\W i m σ' H':=fun {H' s' m'} J' hm w'=>by
    refine⟨m',hm,i+1, σ8,H',J'.unpinned,T.keep _ _ _ st7 fun b hb o e=>(J'.pin (b,o) (n8 _ (n8 _ (q2g hb e)))).1,fun b hb=>?_,w'⟩;obtain⟨o,e,d⟩:=T.obj _ _ st7 b hb;exact(J'.pin (b,o) (n8 _ (n8 _ (q2g hb e)))).2.1
   cases ok with
   | false=>
    rw [mi m5] at q9 ⊢;obtain⟨m',hm,w'⟩:=q9;exact again I9 hm w'
   | true=>
    rw [mh rfl] at q9 ⊢;have he2:=he' _ s9 σ8 H9 _ I9 q9;rw [exe,eprog,ew,eA] at he2;refine thn he2 fun y s10 ⟨yv,H10,I10,r10,xs,hp,hz,m',hm,w'⟩=>?_;have ha2:=qbb (X:=X') ([]++q4b fp s7.heap) s10 σ8 H10 (.ref s.heap.objs.size) [yv] (.ref s.heap.objs.size) [y] (fun _ H'=>H'=upd H10 s.heap.objs.size (.lst (xs++[yv]))) I10 rfl (.cons r10 .nil) ⟨_,xs,yv,rfl,rfl,hp,hz,rfl⟩;rw [exe,eprog,ew,eA] at ha2;refine thn ha2 fun _ s11 ⟨_,H11,I11,_,e11⟩=>?_;subst e11;exact again I11 hm w'
 exact codeAny_compStart_list loop (T.self _ 0 _ _ _ st4 loop)
theorem qmd(hc:X.calm=true)(co:CapOkC X N' scope cap)(hi:PI X tg iter wi)
  (hg:∀cl C s₀ H₀ fp,PG (jb X N' scope cl C s₀ H₀ fp) tg g) (hcs:∀cl C s₀ H₀ fp,q29 (jb X N' scope cl C s₀ H₀ fp) ifs tc) (he:∀cl C s₀ H₀ fp,PE (jb X N' scope cl C s₀ H₀ fp) elt te)
  (hs:∀x,foldedSetIterable iter X.env x=pure x:=by intro _;rfl):PE X (.ListComp elt [⟨tg,iter,ifs,0⟩] scope pos) (qhy wi cap g tc te):=by
 intro pins s σ H Q I h;obtain⟨cl,ecl,c1,c2⟩:=q8x (scope:=scope) (env:=X.env) fun y hy hf=>I.ok.has y.1 (co.frees y hy hf);rw [eval_ListComp];refine wpAny_comprehension_free (use:=none) rfl hs ecl co.kind co.names (u0 (hi pins s σ H _ I h) (fun v s1 h1=>u0 h1 (fun itv s2 h2=>?_) fun _ _ e=>e) fun _ _ e=>e);obtain⟨it,fp,tn,J,H2,rfl,I2,T,st2,f2,h2⟩:=h2;refine q8y (K:=fun p=>Q (.ref p)) (RR:=fun acc C=>compPost (model X.prog X.w) X.A X.xe none (EP X pins σ Q) acc C) hc co c1 c2 hg hcs he I2 T st2 f2 h2 ?_;intro D C s' H' hle ⟨m,hm⟩ hI hC q;exact⟨m,hm,fun h' hs'=>⟨.ref D,H',hI h' hs',rfl,q⟩⟩
end
section
variable{X:Cx}{N':List Str}{scope:Scope}{cap:List (Option Nat)}{tg iter elt:Expr}{ifs:List Expr}{wi:TI}{g:TG}{tc:TT}{te:TE}{pos:Pos}
theorem qfq{i:Nat}{x:Str}{px pe:Pos}(hc:X.calm=true)(hN:X.N.Nodup)(hx0:X.N[i]? = some x)(hx:X.env.scope.names.lookup x=some .local)(co:CapOkC X N' scope cap)(hi:PI X tg iter wi)
  (hg:∀cl C s₀ H₀ fp,PG (jb X N' scope cl C s₀ H₀ fp) tg g) (hcs:∀cl C s₀ H₀ fp,q29 (jb X N' scope cl C s₀ H₀ fp) ifs tc) (he:∀cl C s₀ H₀ fp,PE (jb X N' scope cl C s₀ H₀ fp) elt te)
  (hsw:swapsWith (.ListComp elt [⟨tg,iter,ifs,0⟩] scope pe) (some (.Name x px)) pos.line X.env=pure true:=by rfl)
  (hs:∀x,foldedSetIterable iter X.env x=pure x:=by intro _;rfl):PS X (.Assign [.Name x px] (.ListComp elt [⟨tg,iter,ifs,0⟩] scope pe) pos) (qs1 (qhy wi cap g tc te) (q74 i)):=by
 intro pins s σ H D I h;obtain⟨cl,ecl,c1,c2⟩:=q8x (scope:=scope) (env:=X.env) fun y hy hf=>I.ok.has y.1 (co.frees y hy hf);rw [exec_Assign_Name_used _ _ _ _ hsw];refine g0 (wpAny_standAt (g0 ?_));show wpAny _ X.A (do let _ <- comprehension (.ListComp elt [⟨tg,iter,ifs,0⟩] scope pe) scope X.env _ (newList []) false (eval iter X.env) (some (assign (.Name x px) X.env))) _ _ s;refine g0 (u0 (wpAny_comprehension_free (use:=some (assign (.Name x px) X.env)) (Q:=fun _ s'=>SP X pins D .next s') rfl hs ecl co.kind co.names
  (u0 (hi pins s σ H _ I h) (fun v s1 h1=>u0 h1 (fun itv s2 h2=>?_) fun _ _ e=>e) fun _ _ e=>e)) (fun _ s' hq=>g9 (g9 hq)) fun _ _ e=>e)
 obtain⟨it,fp,tn,J,H2,rfl,I2,T,st2,f2,h2⟩:=h2;refine q8y (K:=fun p H'=>q74 i (.ref p) σ H' D.nx) (RR:=fun acc C=>compPost (model X.prog X.w) X.A X.xe (some (assign (.Name x px) X.env)) (fun _ s'=>SP X pins D .next s') acc C) hc co c1 c2 hg hcs he I2 T st2 f2 h2 ?_;intro Da C s' H' hle ⟨m,hm⟩ hI hC q;have I':Inv X pins σ H' s':=hI s'.heap (g20 ..);obtain⟨o,es,ep,ho,hd,hk⟩:=id hm;have hCL:C≠X.env.locals:=uh (gh I2.lt hle);have hCf:C∉X.fs:=I2.nofs hle;have I'':Inv X (pins++[(C,o)]) σ H' s':=I'.pins_of fun p hp=>(nt.mp hp).elim (fun z=>I'.pin p (n8 _ z)) fun z=>by
  obtain rfl:p=(C,o):=by simpa using z
  exact⟨ho,hC,hCL,hCf,fun v z=>by rw [hd] at z;cases z⟩
 show wpAny (model X.prog X.w) X.A (assign (.Name x px) X.env (.ref Da)) _ _ _;refine wpAny_assign_Name (q7z I'' hN hx0 (.inl hx) (v:=.ref Da) rfl (fun s'' J=>?_) (.inr hx));have hC2:s''.heap.get? C=some o:=(J.pin (C,o) (n8 _ (n8 _ gq))).1;refine⟨m,⟨o,es,ep,hC2,hd,hk⟩,fun h' hs'=>?_⟩;have J2:Inv X pins (σ.set i (some (.ref Da))) H' {s'' with heap:=h'}:=J.unpinned.turned (t':=s''.toks) (it:=C) (fun b ob hb e=>(hs'.2 b hb).trans e) hC hCL
  (.inr (md I2.sz hle)) (fun y c e z=>by
   obtain⟨v,q2⟩:=I2.cell y c e;exact absurd (gh q2.lt (by rw [z];exact hle)) (g0d _)) fun p hp z=>by
   exact absurd (gh (gz (I2.pin p hp).1) (by rw [z];exact hle)) (g0d _)
 exact⟨_,H',J2,q⟩
end
end L2
namespace DL
open PySem PySem.Spec PyProof.Rows L2
structure ExcC(K:PySem.W.Frag)(D:Addr): Prop where
 ga:PySem.W.findIn K (.ref D) "__getattribute__" = some (some (.builtin "BaseException.__getattribute__"))
 gk:PySem.W.findIn K (.ref D) "__getattr__" = some none
 cc:PySem.W.findIn K (.ref D) "__class__" = some (some (.builtin "object.__class__"))
 cs:PySem.W.specialIn K (.builtin "object.__class__") "__get__" = some (some (.builtin "getset_descriptor.__get__"))
 ct:PySem.W.takesIn K (.builtin "object.__class__")=some true
 cm:PySem.W.mroIn K D (.type "object")=some true
 cb:PySem.W.mroIn K D (.type "BaseException")=some true
section
variable{prog:Program}{w:World}{A:Around}{E:Value->Shared->Prop}{K:PySem.W.Frag}{s:Shared}{x D:Addr}{ox:Obj}
open PySem.W in
theorem qgx(c:ExcC K D): (clsIn K D).isSome=true:=by
 have:=c.cm;unfold mroIn at this;cases q:clsIn K D with
 | none=>rw [q] at this;cases this
 | some cd=>rfl
def XE(a C:Addr)(h:Heap): Prop:=∃o vs,h.get? a=some o/\o.cls=.ref C/\o.data=.fields vs
open PySem.W in
theorem q4d{M:Model}{a C:Addr}{h:Heap}(e:XE a C h): Looks M h (typeOf (.ref a)) (.ref C):=by
 obtain⟨o,vs,e1,e2,e3⟩:=e;exact e2 ▸ (Looks.ld e1).andThen .now
open PySem.W Builtin.ObjectAttr in
theorem qpp{M:Model}{h:Heap}(c:ExcC K D)(X:K.In h): Looks M h (find (.ref x) (.ref D) "__class__") (.bind (.builtin "getset_descriptor.__get__") (.builtin "object.__class__")):=by
 refine(looks_findIn (M:=M) X c.cc).andThen ((looks_specialIn (M:=M) X c.cs).andThen ?_);exact(show Looks M h (dataDescriptor? (some (.builtin "object.__class__")) (some (.builtin "getset_descriptor.__get__"))) (some (.builtin "getset_descriptor.__get__",.builtin "object.__class__")) from(looks_takesIn (M:=M) X c.ct).andThen .now).andThen (Looks.tag .now)
open PySem.W Builtin Builtin.ObjectAttr Builtin.Getset_descriptor in
theorem qsn{tp:Value}{R:Result->Shared->Prop}(c:ExcC K D)(X:K.In s.heap)(I:XE x D s.heap)(h:R (.ok (.ret (.ref D))) s):
  codeAny (model prog w) A (.call (.builtin "getset_descriptor.__get__") ⟨[.builtin "object.__class__",.ref x,tp],[]⟩) R s:=by
 obtain⟨hh,g,dr,t,os⟩:=s;have L0:=q4d (M:=model prog w) I;have L1:=looks_mroIn (M:=model prog w) X c.cm;refine g28 KF.slot_gs.plain KF.entry_gs (KF.slot_gs.check _ _ _ _ _ _ _ _ KF.type_class (KF.args_gs _ _ _) ?_);unfold Builtin.«getset_descriptor.__get__» descrGet;rw [dga_obj];refine g0 (g9 ?_);unfold descrGetter descrCheckInstance descrNameAndClass isInstance;simp only [KF.owner_class]
 repeat lk
 refine⟨Code.quiet_builtin _ (by decide +kernel),g09 KF.entry_class ?_⟩;unfold Builtin.«object.__class__» shownTypeOf
 repeat lk
 exact h
open PySem.W in
theorem qme{tk:Tok}{Q:Fin->Shared->Prop}(c:ExcC K D)(X:K.In s.heap)(I:XE x D s.heap)(hq:Q (.done (.ret (.ref D))) s):
  wpAny (model prog w) A (Builtin.«object.__getattribute__» ⟨[.ref x,.str "__class__" tk],[]⟩) Q E s:=by
 obtain⟨hh,g,dr,t,os⟩:=s;have L0:=q4d (M:=model prog w) I;have L1:=qpp (x:=x) (M:=model prog w) c X;unfold Builtin.«object.__getattribute__»;refine g0 (g9 (g0 (g9 (g0 (L0.at (g0 (L1.at ?_)))))));show wpAny _ _ (Builtin.ObjectAttr.bindTo _ _ _ _) _ _ _;unfold Builtin.ObjectAttr.bindTo;refine g0 (t7 (g3o (qsn c X I ?_)));exact g9 hq
open PySem.W in
theorem qmf{M:Model}{nameV:Value}{Q:Unit->Shared->Prop}(c:ExcC K D)(X:K.In s.heap)(I:XE x D s.heap)(hq:Q () s): wpAny M A (checkBuiltinCall "BaseException.__getattribute__" ⟨[.ref x,nameV],[]⟩) Q E s:=by
 obtain⟨hh,g,dr,t,os⟩:=s;have L0:=q4d (M:=M) I;have L1:=looks_mroIn (M:=M) X c.cb;have hk:builtinKind "BaseException.__getattribute__" = some .slot:=by decide +kernel
 have hsplit:splitId "BaseException.__getattribute__" = some ("BaseException","__getattribute__"):=by decide +kernel
 have ha:=F.args_bexc_ga (.ref x) nameV;simp only [checkBuiltinCall,hk,hsplit];refine g0 ?_;unfold isInstance;refine g0 (L0.at (L1.at ?_))
 repeat (first|wp_step)
 exact hq
open PySem.W in
theorem qmg{Q:Option Value->Shared->Prop}(c:ExcC K D)(X:K.In s.heap)(I:XE x D s.heap)(h:Q (some (.ref D)) {s with toks:=s.toks+1}): wpAny (model prog w) A (getAttr? (.ref x) "__class__") Q E s:=by
 obtain⟨hh,g,dr,t,os⟩:=s;have L0:=q4d (M:=model prog w) I;have L1:=looks_findIn (M:=model prog w) X c.ga;have L2:=looks_findIn (M:=model prog w) X c.gk;have f3:=g4e.ga.bind (.ref x);unfold getAttr? getAttrBy? getAttrBy;refine g0 (wpAny_mkText (g0 (g0n (t7 (g0 (L0.at (g0 (L1.at ?_))))))));show wpAny _ _ (getAttrByItsOwn _ _ _ _ _ _) _ _ _;unfold getAttrByItsOwn hookBefore;rw [mh (show onTheHeap (Value.ref D)=true from rfl)];refine g0 (L2.at ?_);refine g0 (g0n (t7 ?_));unfold callGetattribute boundAndCalled;rw [mi (by decide)];rw [f3];refine g0 (g9 ?_);refine g3o (g28 g4e.ga.plain F.entry_bexc_ga (qmf c X I (qme c X I ?_)));dsimp only;exact handed_on rfl (g9 h)
theorem qmh(c:ExcC K D): PySem.W.KitX K (.ref x) (.ref D) (XE x D) where
 ty:=fun M h _ e=>q4d e
 it:=fun _ _ X _=>by
  obtain⟨cdD,hcD⟩:=g0q.mp (qgx c);unfold PySem.W.clsIn at hcD
  split at hcD
  ·rename_i c' d' cd' sl' ho
   intro A' Q' E' s' k q;unfold isType loadHead;exact g0 (wpAny_loadPart (k _ _ (X _ _ ho)) (g9 q))
  ·cases hcD
 ne:=fun h tp dd its n sl X htp=>by
  obtain⟨cdD,hcD⟩:=g0q.mp (qgx c);refine Bool.eq_false_iff.mpr fun q=>?_;have e:D=tp:=Value.ref.inj (g31.mp q);subst e;unfold PySem.W.clsIn at hcD
  split at hcD
  ·rename_i c' d' cd' sl' ho
   have z:=(X _ _ ho).symm.trans htp;cases z
  ·cases hcD
 ca:=fun X e k=>qmg c X e k
end
def qso(K:PySem.W.Frag)(C:Addr): Prop:=ExcC K C/\∀T:String,T∈["int","bool","tuple","list","str","dict"]->PySem.W.kitOne K (.ref C) (.type T)=some false
inductive D where
 | non
 | bl (b:Bool)
 | int (i:Int)
 | str (x:Str)
 | tup (ds:List D)
 | lst (ds:List D)
 | dct (ks:List Key) (vs:List D)
 | dtt (ks:List (List Int)) (vs:List D)
 | obj (x:Str)
 | exc (x:Str)
abbrev Frag:=PySem.W.Frag
abbrev St:=L2.St
def qmi(K:Frag)(C:Addr): Prop:=PySem.W.plainGet K C "__class__" = true/\PySem.W.hasDictIn K C=true/\PySem.W.findIn K (.ref C) "__class__" = some (some (.builtin "object.__class__")) /\
 PySem.W.specialIn K (.builtin "object.__class__") "__get__" = some (some (.builtin "getset_descriptor.__get__"))/\PySem.W.takesIn K (.builtin "object.__class__")=some true/\PySem.W.mroIn K C (.type "object")=some true /\
 ∀T:String,T∈["int","bool","tuple","list","str","dict"]->PySem.W.kitOne K (.ref C) (.type T)=some false
def qsp(x:List Int×Addr×Value): DictEntry:=⟨reduceHash (Builtin.Tuple.tupleHashOf (x.1.map hashInt)),.ref x.2.1,x.2.2⟩
def DE(a:Addr)(xs:List (List Int×Addr×Value))(ep:Nat)(h:Heap): Prop:=∃o es,h.get? a=some o/\o.ExactDict/\o.data=.dict es ep/\es.toList=xs.map qsp
mutual
/-- v stands for the datum in the heap H -/
def Rep(K:Frag)(H:Hp): D->V->Prop
 | .non,v=>v=.non
 | .bl b,v=>v=.bl b
 | .int i,v=>v=.int i
 | .str x,v=>v=.str x
 | .tup ds,v=>∃a xs,v=.ref a/\SqT K H a xs/\RepL K H ds xs
 | .lst ds,v=>∃a xs,v=.ref a/\SqL K H a xs/\RepL K H ds xs
 | .dct ks vs,v=>∃a xs,v=.ref a/\H a=some (.dK (ks.zip xs))/\ks.length=xs.length/\RepL K H vs xs
 | .dtt ks vs,v=>∃a xs ys ep,v=.ref a/\H a=some (.ext (DE a xs ep))/\xs.map (·.1)=ks/\ks.Nodup/\xs.length<=sizeLine/\(a==sysModules)=false/\(∀x∈xs,SqT K H x.2.1 (x.1.map V.int))/\Vals ys (xs.map fun x=>x.2.2)/\RepL K H vs ys
 | .obj x,v=>∃a dx C,v=.ref a/\H a=some (.ins C dx [])/\PySem.W.nsIn K mainGlobals x=some (some (.ref C))/\qmi K C
 | .exc x,v=>∃a C,v=.ref a/\H a=some (.ext (XE a C))/\PySem.W.nsIn K mainGlobals x=some (some (.ref C))/\qso K C
def RepL(K:Frag)(H:Hp): List D->List V->Prop
 | [],xs=>xs=[]
 | d :: ds,xs=>∃x r,xs=x :: r/\Rep K H d x/\RepL K H ds r
end
theorem ql{K:Frag}{H H':Hp}{a:Addr}{xs:List V}(e:Same H H')(h:SqT K H a xs): SqT K H' a xs:=by
 rcases h with(h|⟨o,h⟩)|h
 ·exact .inl (.inl (e _ _ h))
 ·exact .inl (.inr ⟨o,e _ _ h⟩)
 ·exact .inr h
mutual
theorem Rep.mono{K:Frag}{H H':Hp}(e:Same H H'): ∀ {d:D} {v:V},Rep K H d v->Rep K H' d v
 | .non,v,h=>by simpa only [Rep] using h
 | .bl b,v,h=>by simpa only [Rep] using h
 | .int i,v,h=>by simpa only [Rep] using h
 | .str x,v,h=>by simpa only [Rep] using h
 | .tup ds,v,h=>by
  simp only [Rep] at h ⊢;obtain⟨a,xs,e1,e2,e3⟩:=h;exact⟨a,xs,e1,ql e e2,RepL.mono e e3⟩
 | .lst ds,v,h=>by
  simp only [Rep] at h ⊢;obtain⟨a,xs,e1,e2,e3⟩:=h;exact⟨a,xs,e1,e.seq e2,RepL.mono e e3⟩
 | .dct ks vs,v,h=>by
  simp only [Rep] at h ⊢;obtain⟨a,xs,e1,e2,e3,e4⟩:=h;exact⟨a,xs,e1,e _ _ e2,e3,RepL.mono e e4⟩
 | .dtt ks vs,v,h=>by
  simp only [Rep] at h ⊢;obtain⟨a,xs,ys,ep,e1,e2,e3,e4,e5,e6,e7,e8,e9⟩:=h;exact⟨a,xs,ys,ep,e1,e _ _ e2,e3,e4,e5,e6,fun x hx=>ql e (e7 x hx),e8,RepL.mono e e9⟩
 | .obj x,v,h=>by
  simp only [Rep] at h ⊢;obtain⟨a,dx,C,e1,e2,e3⟩:=h;exact⟨a,dx,C,e1,e _ _ e2,e3⟩
 | .exc x,v,h=>by
  simp only [Rep] at h ⊢;obtain⟨a,C,e1,e2,e3⟩:=h;exact⟨a,C,e1,e _ _ e2,e3⟩
theorem RepL.mono{K:Frag}{H H':Hp}(e:Same H H'): ∀ {ds:List D} {xs:List V},RepL K H ds xs->RepL K H' ds xs
 | [],xs,h=>by simpa only [RepL] using h
 | d :: ds,xs,h=>by
  simp only [RepL] at h ⊢;obtain⟨x,r,e1,e2,e3⟩:=h;exact⟨x,r,e1,Rep.mono e e2,RepL.mono e e3⟩
end
section
variable{K:Frag}{H:Hp}
theorem RepL.nil:RepL K H [] []:=by simp only [RepL]
theorem RepL.cons{d:D}{ds:List D}{x:V}{xs:List V}(h:Rep K H d x)(t:RepL K H ds xs): RepL K H (d :: ds) (x :: xs):=by
 simp only [RepL];exact⟨x,xs,rfl,h,t⟩
theorem RepL.nil_inv{xs:List V}(h:RepL K H [] xs): xs=[]:=by simpa only [RepL] using h
theorem RepL.cons_inv{d:D}{ds:List D}{xs:List V}(h:RepL K H (d :: ds) xs): ∃x r,xs=x :: r/\Rep K H d x/\RepL K H ds r:=by simpa only [RepL] using h
theorem RepL.length:∀ {ds:List D} {xs:List V},RepL K H ds xs->ds.length=xs.length
 | [],xs,h=>by rw [h.nil_inv];rfl
 | d :: ds,xs,h=>by
  obtain⟨x,r,rfl,_,t⟩:=h.cons_inv;simp [RepL.length t]
theorem RepL.append:∀ {ds es:List D} {xs ys:List V},RepL K H ds xs->RepL K H es ys->RepL K H (ds++es) (xs++ys)
 | [],es,xs,ys,h,t=>by rw [h.nil_inv];exact t
 | d :: ds,es,xs,ys,h,t=>by
  obtain⟨x,r,rfl,h1,h2⟩:=h.cons_inv;exact .cons h1 (RepL.append h2 t)
theorem RepL.get:∀ {ds:List D} {xs:List V} {i:Nat} {d:D},RepL K H ds xs->ds[i]? = some d->∃x,xs[i]? = some x/\Rep K H d x
 | [],xs,i,d,h,e=>by simp at e
 | d :: ds,xs,0,d',h,e=>by
  obtain⟨x,r,rfl,h1,h2⟩:=h.cons_inv;simp at e;subst e;exact⟨x,rfl,h1⟩
 | d :: ds,xs,i+1,d',h,e=>by
  obtain⟨x,r,rfl,h1,h2⟩:=h.cons_inv;obtain⟨y,e1,e2⟩:=RepL.get (i:=i) h2 (by simpa using e);exact⟨y,by simpa using e1,e2⟩
theorem RepL.take:∀ {ds:List D} {xs:List V} (n:Nat),RepL K H ds xs->RepL K H (ds.take n) (xs.take n)
 | _,_,0,_=>by simp only [List.take_zero];exact .nil
 | [],xs,n+1,h=>by rw [h.nil_inv];exact .nil
 | d :: ds,xs,n+1,h=>by
  obtain⟨x,r,rfl,h1,h2⟩:=h.cons_inv;exact .cons h1 (RepL.take n h2)
theorem RepL.drop:∀ {ds:List D} {xs:List V} (n:Nat),RepL K H ds xs->RepL K H (ds.drop n) (xs.drop n)
 | ds,xs,0,h=>by simpa only [g44] using h
 | [],xs,n+1,h=>by rw [h.nil_inv];exact .nil
 | d :: ds,xs,n+1,h=>by
  obtain⟨x,r,rfl,h1,h2⟩:=h.cons_inv;exact RepL.drop n h2
theorem RepL.ints:∀ {ns:List Int} {xs:List V},RepL K H (ns.map D.int) xs↔xs=ns.map V.int
 | [],xs=>by simp only [g0s,RepL]
 | n :: ns,xs=>by
  simp only [gf,RepL]
  constructor
  ·rintro⟨x,r,rfl,h1,h2⟩
   simp only [Rep] at h1;rw [h1,RepL.ints.mp h2]
  ·rintro rfl
   exact⟨_,_,rfl,by simp only [Rep],RepL.ints.mpr rfl⟩
theorem rep_int{i:Int}{v:V}: Rep K H (.int i) v↔v=.int i:=by simp only [Rep]
theorem rep_bl{i:Bool}{v:V}: Rep K H (.bl i) v↔v=.bl i:=by simp only [Rep]
theorem rep_str{i:Str}{v:V}: Rep K H (.str i) v↔v=.str i:=by simp only [Rep]
theorem rep_non{v:V}: Rep K H .non v↔v=.non:=by simp only [Rep]
theorem rep_tup{ds:List D}{v:V}: Rep K H (.tup ds) v↔∃a xs,v=.ref a/\SqT K H a xs/\RepL K H ds xs:=by simp only [Rep]
theorem rep_lst{ds:List D}{v:V}: Rep K H (.lst ds) v↔∃a xs,v=.ref a/\SqL K H a xs/\RepL K H ds xs:=by simp only [Rep]
theorem rep_dct{ks:List Key}{vs:List D}{v:V}: Rep K H (.dct ks vs) v↔∃a xs,v=.ref a/\H a=some (.dK (ks.zip xs))/\ks.length=xs.length/\RepL K H vs xs:=by simp only [Rep]
theorem rep_dtt{ks:List (List Int)}{vs:List D}{v:V}: Rep K H (.dtt ks vs) v↔∃a xs ys ep,v=.ref a/\H a=some (.ext (DE a xs ep))/\xs.map (·.1)=ks/\ks.Nodup/\xs.length<=sizeLine/\(a==sysModules)=false/\(∀x∈xs,SqT K H x.2.1 (x.1.map V.int))/\Vals ys (xs.map fun x=>x.2.2)/\RepL K H vs ys:=by simp only [Rep]
theorem rep_exc{x:Str}{v:V}: Rep K H (.exc x) v↔∃a C,v=.ref a/\H a=some (.ext (XE a C))/\PySem.W.nsIn K mainGlobals x=some (some (.ref C))/\qso K C:=by simp only [Rep]
theorem rep_obj{x:Str}{v:V}: Rep K H (.obj x) v↔∃a dx C,v=.ref a/\H a=some (.ins C dx [])/\PySem.W.nsIn K mainGlobals x=some (some (.ref C))/\qmi K C:=by simp only [Rep]
end
class Lam where
 tab:List (Addr×Str)
variable[Lam]
def Tab(H:Hp): Prop:=∀p∈Lam.tab,∃ps,H p.1=some (.tbl ps)/\TriplesOk ps.toList/\∀pos cv,codeAmong pos ps.toList=some cv->∃c φ,cv=.ref c/\H c=some (.ext φ)/\∀h, φ h->h.CodeRec (.ref c) p.2
def qmj(F:Hp): Prop:=∀p∈Lam.tab,F p.1=none
theorem Tab.updG{H:Hp}(t:Tab H){p:Addr}{o:HO}(h:∀u,H p=some u->(∀ps,u ≠ .tbl ps)/\∀ φ,u ≠ .ext φ): Tab (upd H p o):=fun q hq=>by
 obtain⟨ps,e,ht,k⟩:=t q hq;refine⟨ps,by rw [qo (fun z=>by subst z;exact(h _ e).1 ps rfl)];exact e,ht,fun pos cv z=>?_⟩;obtain⟨c, φ,e1,e2,e3⟩:=k pos cv z;exact⟨c, φ,e1,by rw [qo (fun z=>by subst z;exact(h _ e2).2 φ rfl)];exact e2,e3⟩
theorem Tab.upd{H:Hp}(t:Tab H){p:Addr}{o:HO}(h:H p=none\/∃xs,H p=some (.lst xs)): Tab (upd H p o):=t.updG fun u e=>by
 rcases h with h|⟨xs,h⟩
 ·rw [h] at e;cases e
 ·rw [h] at e;cases e;exact⟨nofun,nofun⟩
structure Kept(H H':Hp): Prop where
 lst:∀b xs,H b=some (.lst xs)->H' b=some (.lst xs)
 ext:∀b φ,H b=some (.ext φ)->H' b=some (.ext φ)
 free:∀ {b},H' b=none->H b=none
 tb:Tab H->Tab H'
 dk:∀b kvs,H b=some (.dK kvs)->H' b=some (.dK kvs)
theorem Kept.refl(H:Hp): Kept H H:=⟨fun _ _ e=>e,fun _ _ e=>e,fun e=>e,fun t=>t,fun _ _ e=>e⟩
theorem Kept.trans{H H1 H2:Hp}(a:Kept H H1)(b:Kept H1 H2): Kept H H2:=⟨fun c xs e=>b.lst c xs (a.lst c xs e),fun c φ e=>b.ext c φ (a.ext c φ e),fun e=>a.free (b.free e),fun t=>b.tb (a.tb t),fun c kvs e=>b.dk c kvs (a.dk c kvs e)⟩
theorem Kept.new{H:Hp}{p:Addr}{o:HO}(hp:H p=none): Kept H (upd H p o):=⟨fun b xs e=>by rw [qo (jt e hp)];exact e,fun b φ e=>by rw [qo (jt e hp)];exact e,fun {b} e=>by
 by_cases z:b=p
 ·subst z;exact hp
 ·rw [qo z] at e;exact e,fun t=>t.upd (.inl hp),fun b kvs e=>by rw [qo (jt e hp)];exact e⟩
structure SameT(F H:Hp): Prop where
 s:Same F H
 t:Tab H
 f:qmj F
structure Grow(F H F' H':Hp): Prop where
 ff:Same F F'
 hh:Kept H H'
 fh:Same F' H'
 nw:∀b,F' b≠none->F b≠none\/H b=none
theorem Grow.refl{F H:Hp}(h:Same F H): Grow F H F H:=⟨.refl _,.refl _,h,fun _ h=>.inl h⟩
theorem Grow.trans{F H F1 H1 F2 H2:Hp}(a:Grow F H F1 H1)(b:Grow F1 H1 F2 H2): Grow F H F2 H2:=
 ⟨a.ff.trans b.ff,a.hh.trans b.hh,b.fh,fun c h=>(b.nw c h).elim (fun z=>a.nw c z) fun z=>.inr (a.hh.free z)⟩
theorem q4r{H:Hp}{p:Addr}{o:HO}(h:H p=none): Same H (upd H p o):=fun b u q=>by rw [qo (jt q h)];exact q
theorem qjs{F H:Hp}{p:Addr}{o:HO}(h:Same F H): Same (upd F p o) (upd H p o):=fun b u q=>by
 unfold upd at q ⊢
 split
 ·rename_i z;rw [mh z] at q;exact q
 ·rename_i z;rw [mi z] at q;exact h _ _ q
theorem Grow.new{F H:Hp}{p:Addr}{o:HO}(h:Same F H)(hp:H p=none): Grow F H (upd F p o) (upd H p o):=
 ⟨q4r (h.free hp),.new hp,qjs h,fun b hb=>by
  by_cases e:b=p
  ·subst e;exact .inr hp
  ·rw [qo e] at hb;exact .inl hb⟩
theorem Grow.own{F H:Hp}{p:Addr}{o:HO}(h:Same F H)(hp:H p=none): Grow F H F (upd H p o):=
 ⟨.refl _,.new hp,h.trans (q4r hp),fun _ h=>.inl h⟩
inductive B where
 | fz (d:D)
 | ow (ds:List D)
 | od (kvs:List (Int×List D))
abbrev Rho:=List (Option B)
def qvr(ks:List Int)(bs:List Addr): List (Key×V):=(ks.map Sum.inl).zip (bs.map V.ref)
structure ODt(K:Frag)(F H H0:Hp)(a:Addr)(bs:List Addr)(kvs:List (Int×List D)): Prop where
 h:H a=some (.dK (qvr (kvs.map (·.1)) bs))
 f:F a=none
 z:H0 a=none
 len:bs.length=kvs.length
 nd:bs.Nodup
 b:∀(j:Nat) (b:Addr) (k:Int) (ds:List D),bs[j]? = some b->kvs[j]? = some (k,ds)->∃xs,H b=some (.lst xs)/\F b=none/\H0 b=none/\RepL K F ds xs
structure RS(K:Frag)(F0 H0 F H:Hp)(σ : St)(ρ : Rho): Prop where
 t0:Tab H0/\qmj F0
 g:Grow F0 H0 F H
 len : σ.length = ρ.length
 fz:∀(i:Nat) (d:D), ρ[i]? = some (some (.fz d))->∃v, σ[i]? = some (some v)/\Rep K F d v
 ow:∀(i:Nat) (ds:List D), ρ[i]? = some (some (.ow ds))->∃a xs, σ[i]? = some (some (.ref a))/\H a=some (.lst xs)/\F a=none/\H0 a=none/\RepL K F ds xs
 dj:∀(i j:Nat) (ds es:List D) (a:Addr),i≠j -> ρ[i]? = some (some (.ow ds)) -> ρ[j]? = some (some (.ow es)) -> σ[i]? = some (some (.ref a)) -> σ[j]? ≠ some (some (.ref a))
 od:∀(i:Nat) (kvs:List (Int×List D)), ρ[i]? = some (some (.od kvs))->∃a bs, σ[i]? = some (some (.ref a))/\ODt K F H H0 a bs kvs/\∀(j:Nat) (es:List D) (b:Addr), ρ[j]? = some (some (.ow es))->b∈bs -> σ[j]? ≠ some (some (.ref b))
 o1:∀(i j:Nat) (k1 k2:List (Int×List D)), ρ[i]? = some (some (.od k1)) -> ρ[j]? = some (some (.od k2))->i=j
theorem qgy{F H F' H':Hp}{a:Addr}{o:HO}(g:Grow F H F' H')(h1:F a=none)(h2:H a=some o): F' a=none:=by
 cases q:F' a with
 | none=>rfl
 | some o=>
  rcases g.nw a (by rw [q];simp) with z|z
  ·exact absurd h1 z
  ·rw [h2] at z;cases z
theorem ODt.mem{K:Frag}{F H H0:Hp}{a:Addr}{bs:List Addr}{kvs:List (Int×List D)}(o:ODt K F H H0 a bs kvs){b:Addr}(h:b∈bs): ∃xs,H b=some (.lst xs)/\F b=none/\H0 b=none:=by
 obtain⟨j,hj⟩:=g5w.mp h;have hl:j<kvs.length:=by rw [<- o.len];exact(nu.mp hj).1
 obtain⟨xs,e1,e2,e3,_⟩:=o.b j b _ _ hj (my hl);exact⟨xs,e1,e2,e3⟩
theorem ODt.grow{K:Frag}{F H F' H' H0:Hp}{a:Addr}{bs:List Addr}{kvs:List (Int×List D)}(o:ODt K F H H0 a bs kvs)(g:Grow F H F' H'): ODt K F' H' H0 a bs kvs where
 h:=g.hh.dk _ _ o.h
 f:=qgy g o.f o.h
 z:=o.z
 len:=o.len
 nd:=o.nd
 b:=fun j b k ds e1 e2=>by
  obtain⟨xs,z1,z2,z3,z4⟩:=o.b j b k ds e1 e2;exact⟨xs,g.hh.lst _ _ z1,qgy g z2 z1,z3,z4.mono g.ff⟩
theorem ODt.other{K:Frag}{F H H0:Hp}{a p:Addr}{bs:List Addr}{kvs:List (Int×List D)}{u:HO}(o:ODt K F H H0 a bs kvs)(h1:p≠a)(h2:p∉bs): ODt K F (upd H p u) H0 a bs kvs where
 h:=by rw [qo (n9 h1)];exact o.h
 f:=o.f
 z:=o.z
 len:=o.len
 nd:=o.nd
 b:=fun j b k ds e1 e2=>by
  obtain⟨xs,z1,z2,z3,z4⟩:=o.b j b k ds e1 e2;have ne:b≠p:=fun q=>h2 (by rw [<- q];exact g00 e1);exact⟨xs,by rw [qo ne];exact z1,z2,z3,z4⟩
theorem ODt.otherF{K:Frag}{F H H0:Hp}{a p:Addr}{bs:List Addr}{kvs:List (Int×List D)}{u:HO}(o:ODt K F H H0 a bs kvs)(hs:Same F (upd F p u))(h1:p≠a)(h2:p∉bs): ODt K (upd F p u) H H0 a bs kvs where
 h:=o.h
 f:=by rw [qo (n9 h1)];exact o.f
 z:=o.z
 len:=o.len
 nd:=o.nd
 b:=fun j b k ds e1 e2=>by
  obtain⟨xs,z1,z2,z3,z4⟩:=o.b j b k ds e1 e2;have ne:b≠p:=fun q=>h2 (by rw [<- q];exact g00 e1);exact⟨xs,z1,by rw [qo ne];exact z2,z3,z4.mono hs⟩
section
variable{K:Frag}{F0 H0 F H F' H':Hp}{σ : St}{ρ : Rho}
theorem RS.fh(r:RS K F0 H0 F H σ ρ): Same F H:=r.g.fh
theorem RS.tab(r:RS K F0 H0 F H σ ρ): Tab H:=r.g.hh.tb r.t0.1
theorem RS.tabF(r:RS K F0 H0 F H σ ρ): qmj F:=fun p hp=>by
 cases q:F p.1 with
 | none=>rfl
 | some o=>
  rcases r.g.nw p.1 (by rw [q];simp) with z|z
  ·exact absurd (r.t0.2 p hp) z
  ·obtain⟨ps,e,_⟩:=r.t0.1 p hp
   rw [e] at z;cases z
theorem RS.grow(r:RS K F0 H0 F H σ ρ)(g:Grow F H F' H'): RS K F0 H0 F' H' σ ρ where
 t0:=r.t0
 g:=r.g.trans g
 len:=r.len
 fz:=fun i d e=>let⟨v,e1,e2⟩:=r.fz i d e; ⟨v,e1,e2.mono g.ff⟩
 ow:=fun i ds e=>by
  obtain⟨a,xs,e1,e2,e3,e4,e5⟩:=r.ow i ds e;refine⟨a,xs,e1,g.hh.lst _ _ e2,?_,e4,e5.mono g.ff⟩;cases q:F' a with
  | none=>rfl
  | some o=>
   rcases g.nw a (by rw [q];simp) with z|z
   ·exact absurd e3 z
   ·rw [e2] at z;cases z
 dj:=r.dj
 od:=fun i kvs e=>let⟨a,bs,e1,e2,e3⟩:=r.od i kvs e; ⟨a,bs,e1,e2.grow g,e3⟩
 o1:=r.o1
theorem RS.sameT(r:RS K F0 H0 F H σ ρ)(g:Grow F H F' H'): SameT F' H':=⟨g.fh,(r.grow g).tab,(r.grow g).tabF⟩
theorem z6{α : Type}{l:List α}{i:Nat}{x y : α}(h:(l.set i x)[i]? = some y): y=x/\i<l.length:=by
 rw [g4r] at h;simp only [nj] at h
 split at h
 ·exact⟨(ma h).symm,by assumption⟩
 ·cases h
theorem RS.set(r:RS K F0 H0 F H σ ρ){d:D}{v:V}(i:Nat)(h:Rep K F d v): RS K F0 H0 F H (σ.set i (some v)) (ρ.set i (some (.fz d))) where
 t0:=r.t0
 g:=r.g
 len:=by rw [g0t,g0t];exact r.len
 fz:=fun j e h1=>by
  by_cases q:j=i
  ·subst q
   obtain⟨z,l⟩:=z6 h1;cases z;exact⟨v,by rw [g4r];simp [r.len,l],h⟩
  ·rw [m6 (n9 q)] at h1 ⊢
   exact r.fz j e h1
 ow:=fun j ds h1=>by
  by_cases q:j=i
  ·subst q
   obtain⟨z,l⟩:=z6 h1;cases z
  ·rw [m6 (n9 q)] at h1 ⊢
   exact r.ow j ds h1
 dj :=fun j k ds es a hjk h1 h2 h3=>by
  by_cases q:j=i
  ·subst q
   obtain⟨z,l⟩:=z6 h1;cases z
  ·by_cases q2:k=i
   ·subst q2
    obtain⟨z,l⟩:=z6 h2;cases z
   ·rw [m6 (n9 q)] at h1 h3
    rw [m6 (n9 q2)] at h2 ⊢;exact r.dj j k ds es a hjk h1 h2 h3
 od :=fun j kvs h1=>by
  by_cases q:j=i
  ·subst q
   obtain⟨z,l⟩:=z6 h1;cases z
  ·rw [m6 (n9 q)] at h1 ⊢
   obtain⟨a,bs,e1,e2,e3⟩:=r.od j kvs h1;refine⟨a,bs,e1,e2,fun k es b h2 h3=>?_⟩
   by_cases q2:k=i
   ·subst q2
    obtain⟨z,l⟩:=z6 h2;cases z
   ·rw [m6 (n9 q2)] at h2 ⊢
    exact e3 k es b h2 h3
 o1 :=fun j k k1 k2 h1 h2=>by
  by_cases q:j=i
  ·subst q
   obtain⟨z,l⟩:=z6 h1;cases z
  ·by_cases q2:k=i
   ·subst q2
    obtain⟨z,l⟩:=z6 h2;cases z
   ·rw [m6 (n9 q)] at h1
    rw [m6 (n9 q2)] at h2;exact r.o1 j k k1 k2 h1 h2
theorem RS.setO(r:RS K F0 H0 F H σ ρ){ds:List D}{xs:List V}{a:Addr}(i:Nat)(h1:H a=some (.lst xs))(h2:F a=none)(h3:H0 a=none)(h4:RepL K F ds xs)
  (h5:∀(j:Nat) (es:List D), ρ[j]? = some (some (.ow es)) -> σ[j]? ≠ some (some (.ref a)))
  (h6:∀(j:Nat) (kvs:List (Int×List D)), ρ[j]? = some (some (.od kvs))->∃a' bs, σ[j]? = some (some (.ref a'))/\ODt K F H H0 a' bs kvs/\a∉bs/\∀(j':Nat) (es:List D) (b:Addr), ρ[j']? = some (some (.ow es))->b∈bs -> σ[j']? ≠ some (some (.ref b))):RS K F0 H0 F H (σ.set i (some (.ref a))) (ρ.set i (some (.ow ds))) where
 t0:=r.t0
 g:=r.g
 len:=by rw [g0t,g0t];exact r.len
 fz:=fun j e q1=>by
  by_cases q:j=i
  ·subst q
   obtain⟨z,l⟩:=z6 q1;cases z
  ·rw [m6 (n9 q)] at q1 ⊢
   exact r.fz j e q1
 ow:=fun j es q1=>by
  by_cases q:j=i
  ·subst q
   obtain⟨z,l⟩:=z6 q1;cases z;exact⟨a,xs,by rw [g4r];simp [r.len,l],h1,h2,h3,h4⟩
  ·rw [m6 (n9 q)] at q1 ⊢
   exact r.ow j es q1
 dj :=fun j k ds' es b hjk q1 q2 q3=>by
  by_cases q:j=i
  ·subst q
   have e3:=z6 q3;have eb:b=a:=by have:=e3.1;simpa using this
   subst eb;rw [m6 hjk] at q2 ⊢;exact h5 k es q2
  ·rw [m6 (n9 q)] at q1 q3
   by_cases q4:k=i
   ·subst q4
    intro z;have eb:b=a:=by have:=(z6 z).1;simpa using this
    subst eb;exact h5 j ds' q1 q3
   ·rw [m6 (n9 q4)] at q2 ⊢
    exact r.dj j k ds' es b hjk q1 q2 q3
 od :=fun j kvs q1=>by
  by_cases q:j=i
  ·subst q
   obtain⟨z,l⟩:=z6 q1;cases z
  ·rw [m6 (n9 q)] at q1 ⊢
   obtain⟨a',bs,e1,e2,e3,e4⟩:=h6 j kvs q1;refine⟨a',bs,e1,e2,fun k es b p1 p2 p3=>?_⟩
   by_cases q2:k=i
   ·subst q2
    have eb:b=a:=by have:=(z6 p3).1;simpa using this
    exact e3 (eb ▸ p2)
   ·rw [m6 (n9 q2)] at p1 p3
    exact e4 k es b p1 p2 p3
 o1 :=fun j k k1 k2 p1 p2=>by
  by_cases q:j=i
  ·subst q
   obtain⟨z,l⟩:=z6 p1;cases z
  ·by_cases q2:k=i
   ·subst q2
    obtain⟨z,l⟩:=z6 p2;cases z
   ·rw [m6 (n9 q)] at p1
    rw [m6 (n9 q2)] at p2;exact r.o1 j k k1 k2 p1 p2
theorem RS.wrt(r:RS K F0 H0 F H σ ρ){ds es:List D}{ys:List V}{a:Addr}{i:Nat}(h1 : ρ[i]? = some (some (.ow ds)))(h2 : σ[i]? = some (some (.ref a)))(h4:RepL K F es ys):
  RS K F0 H0 F (upd H a (.lst ys)) σ (ρ.set i (some (.ow es))):=by
 obtain⟨a',xs,e1,e2,e3,e4,e5⟩:=r.ow i ds h1;rw [h2] at e1;obtain rfl:a=a':=by simpa using e1
 have nF:∀b o,F b=some o->b≠a:=fun b o e z=>by subst z;rw [e3] at e;cases e
 exact {
  t0:=r.t0
  g :=⟨r.g.ff,⟨fun b o e=>by rw [qo (fun z=>by subst z;rw [e4] at e;cases e)];exact r.g.hh.lst b o e,fun b o e=>by rw [qo (fun z=>by subst z;rw [e4] at e;cases e)];exact r.g.hh.ext b o e,fun {b} e=>by
    by_cases z:b=a
    ·subst z;exact e4
    ·rw [qo z] at e;exact r.g.hh.free e,fun t=>(r.g.hh.tb t).upd (.inr ⟨_,e2⟩),fun b o e=>by rw [qo (fun z=>by subst z;rw [e4] at e;cases e)];exact r.g.hh.dk b o e⟩,fun b o e=>by rw [qo (nF b o e)];exact r.g.fh b o e,r.g.nw⟩
  len:=by rw [g0t];exact r.len
  fz:=fun j e q1=>by
   by_cases q:j=i
   ·subst q
    obtain⟨z,l⟩:=z6 q1;cases z
   ·rw [m6 (n9 q)] at q1
    exact r.fz j e q1
  ow :=fun j es' q1=>by
   by_cases q:j=i
   ·subst q
    obtain⟨z,l⟩:=z6 q1;cases z;exact⟨a,ys,h2,qz,e3,e4,h4⟩
   ·rw [m6 (n9 q)] at q1
    obtain⟨b,zs,f1,f2,f3,f4,f5⟩:=r.ow j es' q1;have hb:b≠a:=fun z=>by
     subst z;exact r.dj i j ds es' b (n9 q) h1 q1 h2 f1
    exact⟨b,zs,f1,by rw [qo hb];exact f2,f3,f4,f5⟩
  dj:=fun j k ds' es' b hjk q1 q2 q3=>by
   have back:∀(l:Nat) (us:List D),(ρ.set i (some (.ow es)))[l]? = some (some (.ow us))->∃ws, ρ[l]? = some (some (.ow ws)):=fun l us z=>by
    by_cases q:l=i
    ·subst q;exact⟨ds,h1⟩
    ·rw [m6 (n9 q)] at z;exact⟨us,z⟩
   obtain⟨w1,z1⟩:=back j ds' q1;obtain⟨w2,z2⟩:=back k es' q2;exact r.dj j k w1 w2 b hjk z1 z2 q3
  od:=fun j kvs q1=>by
   by_cases q:j=i
   ·subst q
    obtain⟨z,l⟩:=z6 q1;cases z
   ·rw [m6 (n9 q)] at q1
    obtain⟨a',bs,f1,f2,f3⟩:=r.od j kvs q1;refine⟨a',bs,f1,f2.other (fun z=>by subst z;have:=f2.h;rw [e2] at this;cases this) fun z=>f3 i ds a h1 z h2,fun k es' b p1 p2=>?_⟩
    by_cases q2:k=i
    ·subst q2;exact f3 k ds b h1 p2
    ·rw [m6 (n9 q2)] at p1;exact f3 k es' b p1 p2
  o1 :=fun j k k1 k2 p1 p2=>by
   have back:∀(l:Nat) (us),(ρ.set i (some (.ow es)))[l]? = some (some (.od us)) -> ρ[l]? = some (some (.od us)):=fun l us z=>by
    by_cases q:l=i
    ·subst q
     obtain⟨z',_⟩:=z6 z;cases z'
    ·rw [m6 (n9 q)] at z;exact z
   exact r.o1 j k k1 k2 (back _ _ p1) (back _ _ p2)}
theorem RS.freeze(r:RS K F0 H0 F H σ ρ){ds:List D}{i:Nat}(h1 : ρ[i]? = some (some (.ow ds))): ∃F',Same F F'/\RS K F0 H0 F' H σ (ρ.set i (some (.fz (.lst ds)))):=by
 obtain⟨a,xs,e1,e2,e3,e4,e5⟩:=r.ow i ds h1;have sF:Same F (upd F a (.lst xs)):=q4r e3;refine⟨upd F a (.lst xs),sF,?_⟩;exact {
  t0:=r.t0
  g :=⟨r.g.ff.trans sF,r.g.hh,fun b o e=>by
    by_cases q:b=a
    ·subst q;rw [qz] at e;cases e;exact e2
    ·rw [qo q] at e;exact r.g.fh b o e,fun b hb=>by
    by_cases q:b=a
    ·subst q;exact .inr e4
    ·rw [qo q] at hb;exact r.g.nw b hb⟩
  len:=by rw [g0t];exact r.len
  fz:=fun j e q1=>by
   by_cases q:j=i
   ·subst q
    obtain⟨z,l⟩:=z6 q1;cases z;exact⟨_,e1,rep_lst.mpr ⟨a,xs,rfl,SqL.of qz,e5.mono sF⟩⟩
   ·rw [m6 (n9 q)] at q1
    obtain⟨v,z1,z2⟩:=r.fz j e q1;exact⟨v,z1,z2.mono sF⟩
  ow :=fun j es' q1=>by
   by_cases q:j=i
   ·subst q
    obtain⟨z,l⟩:=z6 q1;cases z
   ·rw [m6 (n9 q)] at q1
    obtain⟨b,zs,f1,f2,f3,f4,f5⟩:=r.ow j es' q1;have hb:b≠a:=fun z=>by
     subst z;exact r.dj i j ds es' b (n9 q) h1 q1 e1 f1
    exact⟨b,zs,f1,f2,by rw [qo hb];exact f3,f4,f5.mono sF⟩
  dj :=fun j k ds' es' b hjk q1 q2 q3=>by
   have back:∀(l:Nat) (us:List D),(ρ.set i (some (.fz (.lst ds))))[l]? = some (some (.ow us)) -> ρ[l]? = some (some (.ow us)):=fun l us z=>by
    by_cases q:l=i
    ·subst q
     obtain⟨z',_⟩:=z6 z;cases z'
    ·rw [m6 (n9 q)] at z;exact z
   exact r.dj j k ds' es' b hjk (back _ _ q1) (back _ _ q2) q3
  od:=fun j kvs q1=>by
   by_cases q:j=i
   ·subst q
    obtain⟨z,l⟩:=z6 q1;cases z
   ·rw [m6 (n9 q)] at q1
    obtain⟨a',bs,f1,f2,f3⟩:=r.od j kvs q1;refine⟨a',bs,f1,f2.otherF sF (fun z=>by subst z;have:=f2.h;rw [e2] at this;cases this) fun z=>f3 i ds a h1 z e1,fun k es' b p1 p2=>?_⟩
    by_cases q2:k=i
    ·subst q2;exact f3 k ds b h1 p2
    ·rw [m6 (n9 q2)] at p1;exact f3 k es' b p1 p2
  o1 :=fun j k k1 k2 p1 p2=>by
   have back:∀(l:Nat) (us),(ρ.set i (some (.fz (.lst ds))))[l]? = some (some (.od us)) -> ρ[l]? = some (some (.od us)):=fun l us z=>by
    by_cases q:l=i
    ·subst q
     obtain⟨z',_⟩:=z6 z;cases z'
    ·rw [m6 (n9 q)] at z;exact z
   exact r.o1 j k k1 k2 (back _ _ p1) (back _ _ p2)}
end
end DL
namespace DL
open PySem PySem.Spec PyProof.Rows L2
variable[Lam]
abbrev lim:Nat:=1000000
theorem xa{n:Nat}(h:n<=lim): n<=sizeLine:=md h (by decide)
theorem qbc{n:Nat}(h:n<lim): n<sizeLine:=gh h (by decide)
abbrev FE:=Rho->Option D
abbrev FT:=Rho->Option Bool
abbrev FA:=Rho->Option (List D)
inductive Fl where
 | nx|bk|ct
 | rt (d:D)
abbrev FS:=Rho->Option (Fl×Rho)
def tD(K:Frag)(f:FE): TE:=fun σ H Q=>∃F0 H0 F ρ d,RS K F0 H0 F H σ ρ /\ f ρ = some d/\∀v F' H',Grow F H F' H'->Rep K F' d v->Q v H'
def tL(K:Frag)(f:FA): TE:=fun σ H Q=>∃F0 H0 F ρ ds,RS K F0 H0 F H σ ρ /\ f ρ = some ds/\∀a xs F' H',Grow F H F' H'->F' a=none->H a=none->H' a=some (.lst xs)->RepL K F' ds xs->Q (.ref a) H'
def tDT(K:Frag)(f:FT): TT:=fun σ H Q=>∃F0 H0 F ρ b,RS K F0 H0 F H σ ρ /\ f ρ = some b/\∀F' H',Grow F H F' H'->Q b H'
def tDA(K:Frag)(f:FA): TA:=fun σ H Q=>∃F0 H0 F ρ ds,RS K F0 H0 F H σ ρ /\ f ρ = some ds/\∀vs F' H',Grow F H F' H'->RepL K F' ds vs->Q vs H'
def qhz(K:Frag)(F0 H0 F:Hp)(D:Ends)(fl:Fl)(ρ':Rho): Prop:=match fl with
 | .nx=>∀ σ' F' H',Same F F'->RS K F0 H0 F' H' σ' ρ'->D.nx σ' H'
 | .bk=>∀ σ' F' H',Same F F'->RS K F0 H0 F' H' σ' ρ'->D.bk σ' H'
 | .ct=>∀ σ' F' H',Same F F'->RS K F0 H0 F' H' σ' ρ'->D.ct σ' H'
 | .rt d=>∀v F' H',Grow F0 H0 F' H'->Rep K F' d v->D.rt v H'
def tDS(K:Frag)(f:FS): TS:=fun D σ H=>∃F0 H0 F ρ fl ρ',RS K F0 H0 F H σ ρ /\ f ρ = some (fl, ρ')/\qhz K F0 H0 F D fl ρ'
section
variable{X:Cx}{e:Expr}{pos:Pos}
theorem jk{t t':TE}(h:PE X e t)(i:∀ σ H Q,t' σ H Q->t σ H Q): PE X e t':=fun pins s σ H Q I q=>h pins s σ H Q I (i σ H Q q)
theorem qd4{t t':TT}(h:PT X e t)(i:∀ σ H Q,t' σ H Q->t σ H Q): PT X e t':=fun pins s σ H Q I q=>h pins s σ H Q I (i σ H Q q)
theorem qjt{es:List Expr}{t t':TA}(h:PA X es t)(i:∀ σ H Q,t' σ H Q->t σ H Q): PA X es t':=fun pos pins s σ H Q I q=>h pos pins s σ H Q I (i σ H Q q)
theorem q0u{st:Stmt}{t t':TS}(h:PS X st t)(i:∀D σ H,t' D σ H->t D σ H): PS X st t':=fun pins s σ H D I q=>h pins s σ H D I (i D σ H q)
theorem qab{st:List Stmt}{t t':TS}(h:PSs X st t)(i:∀D σ H,t' D σ H->t D σ H): PSs X st t':=fun pins s σ H D I q=>h pins s σ H D I (i D σ H q)
def eV(i:Nat): FE:=fun ρ =>match ρ[i]? with
 | some (some (.fz d))=>some d
 | _=>none
def eC(d:D): FE:=fun _=>some d
theorem qpq{i:Nat}{ρ : Rho}{d:D}(h:eV i ρ = some d): ρ[i]? = some (some (.fz d)):=by
 unfold eV at h
 split at h
 ·rename_i e;rw [e,ma h]
 ·cases h
theorem q0{K:Frag}{i:Nat}(h:PE X e (qcw i)): PE X e (tD K (eV i)):=jk h fun σ H Q ⟨F0,H0,F, ρ,d,r,hf,q⟩=>by
 obtain⟨v,e1,e2⟩:=r.fz i d (qpq hf);exact⟨v,e1,q v F H (.refl r.fh) e2⟩
theorem q81{K:Frag}{v:V}{d:D}(h:PE X e (tC v))(hd:∀H,Rep K H d v): PE X e (tD K (eC d)):=jk h fun σ H Q ⟨F0,H0,F, ρ,d',r,hf,q⟩=>by
 cases hf;exact q v F H (.refl r.fh) (hd F)
theorem qg{K:Frag}{i j}: PE X (.Constant (.int i) j pos) (tD K (eC (.int i))):=q81 qrr fun _=>rep_int.mpr rfl
theorem yu{K:Frag}{b j}: PE X (.Constant (.bool b) j pos) (tD K (eC (.bl b))):=q81 qu2 fun _=>rep_bl.mpr rfl
theorem q8z{K:Frag}{j}: PE X (.Constant .none j pos) (tD K (eC .non)):=q81 qrs fun _=>rep_non.mpr rfl
def rD(K:Frag)(op:D->D->Option D): R2:=fun x y H Q=>∃F d1 d2 d,Same F H/\Rep K F d1 x/\Rep K F d2 y/\op d1 d2=some d/\∀v F' H',Grow F H F' H'->Rep K F' d v->Q v H'
def eOp(op:D->D->Option D)(f g:FE): FE:=fun ρ =>(f ρ).bind fun x=>(g ρ).bind fun y=>op x y
theorem two{K:Frag}{f g:FE}{op:D->D->Option D}{σ : St}{H:Hp}{Q:VK}(h:tD K (eOp op f g) σ H Q): tD K f σ H fun x H1=>tD K g σ H1 fun y H2=>rD K op x y H2 Q:=by
 obtain⟨F0,H0,F, ρ,d,r,hf,q⟩:=h;obtain⟨d1,h1,hf⟩:=gd.mp hf;obtain⟨d2,h2,h3⟩:=gd.mp hf;refine⟨F0,H0,F, ρ,d1,r,h1,fun v F1 H1 g1 r1=>⟨F0,H0,F1, ρ,d2,r.grow g1,h2,fun u F2 H2 g2 r2=>?_⟩⟩;exact⟨F2,d1,d2,d,g2.fh,r1.mono g2.ff,r2,h3,fun w F3 H3 g3 r3=>q w F3 H3 (g1.trans (g2.trans g3)) r3⟩
variable{a b:Expr}{f g:FE}
theorem qq{op:Operator}{o:D->D->Option D}(ho:OpR X (binaryOp op) (rD X.K o))(ha:PE X a (tD X.K f))(hb:PE X b (tD X.K g)): PE X (.BinOp a op b pos) (tD X.K (eOp o f g)):=
 jk (qot ho ha hb) fun σ H Q h=>two h
theorem q1i{f:Value->Value->Sem Value}{r r':R2}(h:OpR X f r)(i:∀x y H Q,r' x y H Q->r x y H Q): OpR X f r':=fun pins s σ H x y v u Q I rx ry q=>h pins s σ H x y v u Q I rx ry (i x y H Q q)
theorem q90{f:Value->Value->Sem Value}{K:Frag}{o o':D->D->Option D}(h:OpR X f (rD K o))(h':OpR X f (rD K o')): OpR X f (rD K fun x y=>(o x y).or (o' x y)):=fun pins s σ H x y v u Q I rx ry q=>by
 obtain⟨F,d1,d2,d,q1,q2,q3,q4,q5⟩:=q;have q4:(o d1 d2).or (o' d1 d2)=some d:=q4;cases e:o d1 d2 with
 | some d'=>rw [e] at q4;cases q4;exact h pins s σ H x y v u Q I rx ry ⟨F,d1,d2,_,q1,q2,q3,e,q5⟩
 | none=>rw [e] at q4;exact h' pins s σ H x y v u Q I rx ry ⟨F,d1,d2,d,q1,q2,q3,q4,q5⟩
def oI(C:Int->Int->Bool)(z:Int->Int->Int): D->D->Option D
 | .int i,.int j=>if C i j then some (.int (z i j)) else none
 | _,_=>none
def oB(z:Int->Int->Bool): D->D->Option D
 | .int i,.int j=>some (.bl (z i j))
 | _,_=>none
theorem qgz{C:Int->Int->Bool}{z:Int->Int->Int}{d1 d2 d:D}(h:oI C z d1 d2=some d): ∃i j,d1=.int i/\d2=.int j/\C i j=true/\d=.int (z i j):=by
 cases d1 <;> cases d2 <;> simp only [oI] at h <;> first|(cases h;done)|skip
 split at h
 ·exact⟨_,_,rfl,rfl,by assumption,(ma h).symm⟩
 ·cases h
theorem qpr{z:Int->Int->Bool}{d1 d2 d:D}(h:oB z d1 d2=some d): ∃i j,d1=.int i/\d2=.int j/\d=.bl (z i j):=by
 cases d1 <;> cases d2 <;> simp only [oB] at h <;> first|(cases h;done)|skip
 exact⟨_,_,rfl,rfl,(ma h).symm⟩
theorem q75{fv:Value->Value->Sem Value}{P:Int->Int->Prop}{C:Int->Int->Bool}{z:Int->Int->Int}(h:OpR X fv (rI P fun i j=>.int (z i j)))(hC:∀i j,C i j=true->P i j): OpR X fv (rD X.K (oI C z)):=
 q1i h fun x y H Q ⟨F,d1,d2,d,q1,q2,q3,q4,q5⟩=>by
  obtain⟨i,j,rfl,rfl,c,rfl⟩:=qgz q4;exact⟨i,j,rep_int.mp q2,rep_int.mp q3,hC i j c,q5 _ F H (.refl q1) (rep_int.mpr rfl)⟩
theorem qd5{fv:Value->Value->Sem Value}{z:Int->Int->Int}(h:OpR X fv (rI0 fun i j=>.int (z i j))): OpR X fv (rD X.K (oI (fun _ _=>true) z)):=
 q1i h fun x y H Q ⟨F,d1,d2,d,q1,q2,q3,q4,q5⟩=>by
  obtain⟨i,j,rfl,rfl,c,rfl⟩:=qgz q4;exact⟨i,j,rep_int.mp q2,rep_int.mp q3,q5 _ F H (.refl q1) (rep_int.mpr rfl)⟩
theorem qd6{fv:Value->Value->Sem Value}{z:Int->Int->Bool}(h:OpR X fv (rI0 fun i j=>.bl (z i j))): OpR X fv (rD X.K (oB z)):=
 q1i h fun x y H Q ⟨F,d1,d2,d,q1,q2,q3,q4,q5⟩=>by
  obtain⟨i,j,rfl,rfl,rfl⟩:=qpr q4;exact⟨i,j,rep_int.mp q2,rep_int.mp q3,q5 _ F H (.refl q1) (rep_bl.mpr rfl)⟩
abbrev oAdd:=oI (fun _ _=>true) fun i j=>i+j
abbrev oSub:=oI (fun _ _=>true) fun i j=>i-j
abbrev oMul:=oI (fun i j=>(decide (-(2 ^ 64)<i)&&decide (i<2 ^ 64)) || (decide (-(2 ^ 64)<j)&&decide (j<2 ^ 64))) fun i j=>i*j
abbrev oDiv:=oI (fun _ j=>decide (0<j)&&decide (j<1073741824)) fun i j=>i / j
abbrev oMod:=oI (fun _ j=>decide (0<j)) fun i j=>i%j
abbrev oShr:=oI (fun _ j=>decide (0<=j)) fun i j=>i / 2 ^ j.toNat
theorem q2q{p q:Prop}[Decidable p][Decidable q](h:(decide p&&decide q)=true): p/\q:=by simpa using h
theorem qsq:OpR X (binaryOp .Add) (rD X.K oAdd):=qd5 qs5
theorem qsr:OpR X (binaryOp .Sub) (rD X.K oSub):=qd5 qs6
theorem qss:OpR X (binaryOp .Mult) (rD X.K oMul):=q75 qs7 fun i j h=>by
 rcases g1c _ _ ▸ h with z|z
 ·exact .inl (q2q z)
 ·exact .inr (q2q z)
theorem q0v:OpR X (binaryOp .FloorDiv) (rD X.K oDiv):=q75 qpg fun i j h=>q2q h
theorem jl:OpR X (binaryOp .Mod) (rD X.K oMod):=q75 qs8 fun i j h=>tf h
theorem qst:OpR X (binaryOp .RShift) (rD X.K oShr):=q75 qsb fun i j h=>tf h
abbrev oShl:=oI (fun i j=>decide (0<=j)&&(decide (j<=1000000)&&decide (i.natAbs<2 ^ 64))) fun i j=>i*2 ^ j.toNat
abbrev oPow:=oI (fun i j=>decide (0<=j)&&(decide (j<=1000000)&&decide (i.natAbs<2 ^ 64))) fun i j=>i ^ j.toNat
theorem qd7{p q r:Prop}[Decidable p][Decidable q][Decidable r](h:(decide p&&(decide q&&decide r))=true): p/\q/\r:=by simpa using h
theorem qju:OpR X (binaryOp .LShift) (rD X.K oShl):=q75 qsa fun i j h=>qd7 h
theorem qjv:OpR X (binaryOp .Pow) (rD X.K oPow):=q75 qs9 fun i j h=>qd7 h
abbrev oLt:=oB fun i j=>decide (i<j)
abbrev oLe:=oB fun i j=>decide (i<=j)
abbrev oGt:=oB fun i j=>decide (j<i)
abbrev oGe:=oB fun i j=>decide (j<=i)
theorem quo:OpR X (compareOp .Lt) (rD X.K oLt):=qd6 qud
theorem q76:OpR X (compareOp .Gt) (rD X.K oGt):=qd6 que
theorem qow:OpR X (compareOp .GtE) (rD X.K oGe):=qd6 quf
def flD:D->Option V
 | .non=>some .non
 | .bl b=>some (.bl b)
 | .int i=>some (.int i)
 | .str x=>some (.str x)
 | _=>none
theorem q77{K:Frag}{H:Hp}{d:D}{v u:V}(h:flD d=some u)(r:Rep K H d v): v=u:=by
 cases d <;> simp only [flD] at h <;> first|(cases h;done)|skip
 ·cases h;exact rep_non.mp r
 ·cases h;exact rep_bl.mp r
 ·cases h;exact rep_int.mp r
 ·cases h;exact rep_str.mp r
def qmk:D->D->Option D:=fun d e=>(flD d).bind fun x=>(flD e).bind fun y=>if qa8 x y then some (.bl (decide (x=y))) else none
def q4s:D->D->Option D:=fun d e=>(flD d).bind fun x=>(flD e).bind fun y=>if qa8 x y then some (.bl (!decide (x=y))) else none
theorem qsu:OpR X (compareOp .Eq) (rD X.K qmk):=q1i qub fun x y H Q ⟨F,d1,d2,d,q1,q2,q3,q4,q5⟩=>by
 obtain⟨u,h1,q4⟩:=gd.mp q4;obtain⟨w,h2,q4⟩:=gd.mp q4;cases q77 h1 q2;cases q77 h2 q3
 split at q4
 ·rename_i z
  cases q4;exact⟨z,q5 _ F H (.refl q1) (rep_bl.mpr rfl)⟩
 ·cases q4
theorem q91:OpR X (compareOp .NotEq) (rD X.K q4s):=q1i quc fun x y H Q ⟨F,d1,d2,d,q1,q2,q3,q4,q5⟩=>by
 obtain⟨u,h1,q4⟩:=gd.mp q4;obtain⟨w,h2,q4⟩:=gd.mp q4;cases q77 h1 q2;cases q77 h2 q3
 split at q4
 ·rename_i z
  cases q4;exact⟨z,q5 _ F H (.refl q1) (rep_bl.mpr rfl)⟩
 ·cases q4
theorem q20{op:CmpOp}{o:D->D->Option D}(ho:OpR X (compareOp op) (rD X.K o))(ha:PE X a (tD X.K f))(hb:PE X b (tD X.K g))(hm:behindInMarks op b=false:=by first|exact qcx _ (by decide) (by decide)|rfl):
  PE X (.Compare a [op] [b] pos) (tD X.K (eOp o f g)):=jk (qph ho ha hb hm) fun σ H Q h=>two h
def qd8:D->Option Bool
 | .non=>some false
 | .bl b=>some b
 | .int i=>some (i != 0)
 | .tup ds=>some (!ds.isEmpty)
 | .lst ds=>some (!ds.isEmpty)
 | .str x=>if x.length<=lim then some ((x.length:Int) != 0) else none
 | _=>none
def bT(f:FE): FT:=fun ρ =>(f ρ).bind qd8
theorem qsv{K:Frag}{F H:Hp}{d:D}{b:Bool}{v:V}(h:qd8 d=some b)(fh:Same F H)(r:Rep K F d v): qm3 K v H b:=by
 cases d with
 | non=>cases h;rw [rep_non.mp r];rfl
 | bl c=>cases h;rw [rep_bl.mp r];rfl
 | int i=>cases h;rw [rep_int.mp r];rfl
 | str x=>
  simp only [qd8] at h
  split at h
  ·rename_i z
   cases h;rw [rep_str.mp r];exact⟨xa z,rfl⟩
  ·cases h
 | tup ds=>
  cases h;obtain⟨p,xs,rfl,q1,q2⟩:=rep_tup.mp r;refine .inr (.inl ⟨xs,ql fh q1,?_⟩);cases ds with
  | nil=>rw [q2.nil_inv];rfl
  | cons d ds=>obtain⟨y,r',rfl,_⟩:=q2.cons_inv;rfl
 | lst ds=>
  cases h;obtain⟨p,xs,rfl,q1,q2⟩:=rep_lst.mp r;refine .inl ⟨xs,fh.seq q1,?_⟩;cases ds with
  | nil=>rw [q2.nil_inv];rfl
  | cons d ds=>obtain⟨y,r',rfl,_⟩:=q2.cons_inv;rfl
 | dct _ _=>cases h
 | dtt _ _=>cases h
 | obj _=>cases h
 | exc _=>cases h
theorem jm(ha:PE X a (tD X.K f))(he:∀whole,isTrue a X.env whole=(do let v <- whole;standAt a.pos;holding [v] (truthy v)):=by intro _;rfl): PT X a (tDT X.K (bT f)):=
 qd4 (qm4 ha he) fun σ H Q ⟨F0,H0,F, ρ,b,r,hf,q⟩=>by
  obtain⟨d,h1,h2⟩:=gd.mp hf;exact⟨F0,H0,F, ρ,d,r,h1,fun v F' H' g' r'=>⟨b,qsv h2 g'.fh r',q F' H' g'⟩⟩
def isB:D->Option Bool
 | .bl b=>some b
 | _=>none
def zw(o:D->D->Option D)(f g:FE): FT:=fun ρ =>(eOp o f g ρ).bind isB
theorem zv{op:CmpOp}{o:D->D->Option D}(ho:OpR X (compareOp op) (rD X.K o))(ha:PE X a (tD X.K f))(hb:PE X b (tD X.K g))(hm:behindInMarks op b=false:=by first|exact qcx _ (by decide) (by decide)|rfl):
  PT X (.Compare a [op] [b] pos) (tDT X.K (zw o f g)):=qd4 (qpi ho ha hb hm) fun σ H Q ⟨F0,H0,F, ρ,c,r,hf,q⟩=>by
 obtain⟨d,h1,h2⟩:=gd.mp hf;refine two ⟨F0,H0,F, ρ,d,r,h1,fun v F' H' g' r'=>?_⟩;cases d <;> simp only [isB] at h2 <;> first|(cases h2;done)|skip
 cases h2;exact⟨_,rep_bl.mp r',q F' H' g'⟩
def q0w(t:FT): FT:=fun ρ =>(t ρ).map not
def qi0(t u:FT): FT:=fun ρ =>(t ρ).bind fun c=>if c then u ρ else some false
def bOr(t u:FT): FT:=fun ρ =>(t ρ).bind fun c=>if c then some true else u ρ
variable{t u:FT}{rest:List Expr}
theorem q07(ha:PT X a (tDT X.K t)): PT X (.UnaryOp .Not a pos) (tDT X.K (q0w t)):=qd4 (qrv ha) fun σ H Q ⟨F0,H0,F, ρ,c,r,hf,q⟩=>by
 obtain⟨d,h1,h2⟩:=mj.mp hf;subst h2;exact⟨F0,H0,F, ρ,d,r,h1,fun F' H' g'=>q F' H' g'⟩
theorem qjw{t t':TT}(h:PW X a t)(i:∀ σ H Q,t' σ H Q->t σ H Q): PW X a t':=fun wh pins s σ H Q I q=>h wh pins s σ H Q I (i σ H Q q)
theorem qh0(ha:PT X a (tDT X.K t)): PW X (.BoolOp .And [a] pos) (tDT X.K t):=qpb ha
theorem q92(ha:PT X a (tDT X.K t)): PW X (.BoolOp .Or [a] pos) (tDT X.K t):=qrt ha
theorem qjx(ha:PT X a (tDT X.K t))(hb:PW X (.BoolOp .And (b :: rest) pos) (tDT X.K u)): PW X (.BoolOp .And (a :: b :: rest) pos) (tDT X.K (qi0 t u)):=qjw (qru ha hb) fun σ H Q ⟨F0,H0,F, ρ,c,r,hf,q⟩=>by
 obtain⟨d,h1,h2⟩:=gd.mp hf;refine⟨F0,H0,F, ρ,d,r,h1,fun F' H' g'=>?_⟩;cases d with
 | true=>rw [mh rfl] at h2 ⊢;exact⟨F0,H0,F', ρ,c,r.grow g',h2,fun F2 H2 g2=>q F2 H2 (g'.trans g2)⟩
 | false=>rw [mi m5] at h2 ⊢;cases h2;exact q F' H' g'
theorem q4t(ha:PT X a (tDT X.K t))(hb:PW X (.BoolOp .Or (b :: rest) pos) (tDT X.K u)): PW X (.BoolOp .Or (a :: b :: rest) pos) (tDT X.K (bOr t u)):=qjw (qu3 ha hb) fun σ H Q ⟨F0,H0,F, ρ,c,r,hf,q⟩=>by
 obtain⟨d,h1,h2⟩:=gd.mp hf;refine⟨F0,H0,F, ρ,d,r,h1,fun F' H' g'=>?_⟩;cases d with
 | false=>rw [mi m5] at h2 ⊢;exact⟨F0,H0,F', ρ,c,r.grow g',h2,fun F2 H2 g2=>q F2 H2 (g'.trans g2)⟩
 | true=>rw [mh rfl] at h2 ⊢;cases h2;exact q F' H' g'
def qi1(f g:FE): FE:=fun ρ =>(f ρ).bind fun x=>(isB x).bind fun c=>if c then g ρ else some (.bl false)
def eOr(f g:FE): FE:=fun ρ =>(f ρ).bind fun x=>(isB x).bind fun c=>if c then some (.bl true) else g ρ
def qd9(f:FE): FE:=fun ρ =>(f ρ).bind fun x=>(isB x).map fun c=>.bl (!c)
def eIf(t:FT)(f g:FE): FE:=fun ρ =>(t ρ).bind fun c=>if c then f ρ else g ρ
theorem qda{d:D}{c:Bool}(h:isB d=some c): d=.bl c:=by
 cases d <;> simp only [isB] at h <;> first|(cases h;done)|skip
 rw [ma h]
theorem qsw{op}(h:PE X a (tD X.K f)): PE X (.BoolOp op [a] pos) (tD X.K f):=qrw h
theorem qjy(ha:PE X a (tD X.K f))(hb:PE X (.BoolOp .And (b :: rest) pos) (tD X.K g)): PE X (.BoolOp .And (a :: b :: rest) pos) (tD X.K (qi1 f g)):=jk (qrx ha hb) fun σ H Q ⟨F0,H0,F, ρ,d,r,hf,q⟩=>by
 obtain⟨x,h1,hf⟩:=gd.mp hf;obtain⟨c,h2,h3⟩:=gd.mp hf;refine⟨F0,H0,F, ρ,x,r,h1,fun v F' H' g' r'=>?_⟩;rw [qda h2] at r';refine⟨c,rep_bl.mp r',?_⟩;cases c with
 | true=>rw [mh rfl] at h3 ⊢;exact⟨F0,H0,F', ρ,d,r.grow g',h3,fun w F2 H2 g2 r2=>q w F2 H2 (g'.trans g2) r2⟩
 | false=>rw [mi m5] at h3 ⊢;cases h3;exact q _ F' H' g' (rep_bl.mpr rfl)
theorem qdb(ha:PE X a (tD X.K f)): PE X (.UnaryOp .Not a pos) (tD X.K (qd9 f)):=jk (qry ha) fun σ H Q ⟨F0,H0,F, ρ,d,r,hf,q⟩=>by
 obtain⟨x,h1,hf⟩:=gd.mp hf;obtain⟨c,h2,h3⟩:=mj.mp hf;subst h3;refine⟨F0,H0,F, ρ,x,r,h1,fun v F' H' g' r'=>?_⟩;rw [qda h2] at r';exact⟨c,rep_bl.mp r',q _ F' H' g' (rep_bl.mpr rfl)⟩
theorem qup{c:Expr}(hc:PT X c (tDT X.K t))(ha:PE X a (tD X.K f))(hb:PE X b (tD X.K g)): PE X (.IfExp c a b pos) (tD X.K (eIf t f g)):=jk (qlw hc ha hb) fun σ H Q ⟨F0,H0,F, ρ,d,r,hf,q⟩=>by
 obtain⟨x,h1,h2⟩:=gd.mp hf;refine⟨F0,H0,F, ρ,x,r,h1,fun F' H' g'=>?_⟩;cases x with
 | true=>rw [mh rfl] at h2 ⊢;exact⟨F0,H0,F', ρ,d,r.grow g',h2,fun w F2 H2 g2 r2=>q w F2 H2 (g'.trans g2) r2⟩
 | false=>rw [mi m5] at h2 ⊢;exact⟨F0,H0,F', ρ,d,r.grow g',h2,fun w F2 H2 g2 r2=>q w F2 H2 (g'.trans g2) r2⟩
end
section
variable{X:Cx}{e:Expr}{es:List Expr}{pos:Pos}{f g:FE}{fa:FA}
def notStar:Expr->Bool
 | .Starred _ _=>false
 | _=>true
theorem q78{e:Expr}{es:List Expr}{env:Env}(h:notStar e=true): starEach (e :: es) env=(false,eval e env) :: starEach es env:=by
 cases e <;> first|rfl|cases h
def qe:FA:=fun _=>some []
def qa(f:FE)(fa:FA): FA:=fun ρ =>(f ρ).bind fun d=>(fa ρ).map fun ds=>d :: ds
theorem qd:PA X [] (tDA X.K qe):=qjt q2u fun σ H Q ⟨F0,H0,F, ρ,ds,r,hf,q⟩=>by
 cases hf;exact q [] F H (.refl r.fh) .nil
theorem qh1(ha:PE X e (tD X.K f))(hr:PA X es (tDA X.K fa))(hs:starEach (e :: es) X.env=(false,eval e X.env) :: starEach es X.env:=by first|exact q78 rfl|rfl): PA X (e :: es) (tDA X.K (qa f fa)):=
 qjt (q0l ha hr hs) fun σ H Q ⟨F0,H0,F, ρ,ds,r,hf,q⟩=>by
  obtain⟨d,h1,hf⟩:=gd.mp hf;obtain⟨ds',h2,h3⟩:=mj.mp hf;subst h3;refine⟨F0,H0,F, ρ,d,r,h1,fun v F1 H1 g1 r1=>⟨F0,H0,F1, ρ,ds',r.grow g1,h2,fun vs F2 H2 g2 r2=>?_⟩⟩;exact q _ F2 H2 (g1.trans g2) (.cons (r1.mono g2.ff) r2)
def x5(fa:FA): FE:=fun ρ =>(fa ρ).bind fun ds=>if ds.length<=lim then some (.tup ds) else none
def q2y(fa:FA): FA:=fun ρ =>(fa ρ).bind fun ds=>if ds.length<=lim then some ds else none
theorem yl{x1}(h:PA X es (tDA X.K fa)): PE X (.Tuple es x1 pos) (tD X.K (x5 fa)):=jk (qse h) fun σ H Q ⟨F0,H0,F, ρ,d,r,hf,q⟩=>by
 obtain⟨ds,h1,h2⟩:=gd.mp hf
 split at h2
 ·rename_i hl
  cases h2;refine⟨F0,H0,F, ρ,ds,r,h1,fun vs F1 H1 g1 r1=>⟨xa (by rw [<- r1.length];exact hl),fun p hp=>?_⟩⟩;have gn:Grow F1 H1 (upd F1 p (.tup vs)) (upd H1 p (.tup vs)):=Grow.new g1.fh hp;exact q _ _ _ (g1.trans gn) (rep_tup.mpr ⟨p,vs,rfl,SqT.of qz,r1.mono gn.ff⟩)
 ·cases h2
theorem q0x(h:PA X es (tDA X.K fa)): PE X (.List es pos) (tL X.K (q2y fa)):=jk (qsf h) fun σ H Q ⟨F0,H0,F, ρ,ds,r,hf,q⟩=>by
 obtain⟨ds',h1,h2⟩:=gd.mp hf
 split at h2
 ·rename_i hl
  cases h2;refine⟨F0,H0,F, ρ,ds,r,h1,fun vs F1 H1 g1 r1=>⟨xa (by rw [<- r1.length];exact hl),fun p hp=>?_⟩⟩;exact q p vs F1 (upd H1 p (.lst vs)) (g1.trans (Grow.own g1.fh hp)) (g1.fh.free hp) (g1.hh.free hp) qz r1
 ·cases h2
def eL(fa:FA): FE:=fun ρ =>(fa ρ).map .lst
theorem j8(h:PE X e (tL X.K fa)): PE X e (tD X.K (eL fa)):=jk h fun σ H Q ⟨F0,H0,F, ρ,d,r,hf,q⟩=>by
 obtain⟨ds,h1,h2⟩:=mj.mp hf;subst h2;refine⟨F0,H0,F, ρ,ds,r,h1,fun a xs F1 H1 g1 fa' ha' hl r1=>?_⟩;have sF:Same F1 (upd F1 a (.lst xs)):=q4r fa';refine q _ (upd F1 a (.lst xs)) H1 ⟨g1.ff.trans sF,g1.hh,fun b o z=>?_,fun b hb=>?_⟩ (rep_lst.mpr ⟨a,xs,rfl,SqL.of qz,r1.mono sF⟩)
 ·by_cases q':b=a
  ·subst q';rw [qz] at z;cases z;exact hl
  ·rw [qo q'] at z;exact g1.fh b o z
 ·by_cases q':b=a
  ·subst q';exact .inr ha'
  ·rw [qo q'] at hb;exact g1.nw b hb
def rC(K:Frag)(op:List D->Option D): List V->Hp->VK->Prop:=fun xs H Q=>∃F ds d,Same F H/\RepL K F ds xs/\op ds=some d/\∀v F' H',Grow F H F' H'->Rep K F' d v->Q v H'
def qf(op:List D->Option D)(fa:FA): FE:=fun ρ =>(fa ρ).bind op
theorem q63{f:Value}{r r':List V->Hp->VK->Prop}(h:xp X f r)(i:∀xs H Q,r' xs H Q->r xs H Q): xp X f r':=fun pins s σ H xs us Q I rv q=>h pins s σ H xs us Q I rv (i xs H Q q)
theorem qjz{K:Frag}{op:List D->Option D}{σ : St}{H:Hp}{Q:VK}(h:tD K (qf op fa) σ H Q): tDA K fa σ H fun vs H1=>rC K op vs H1 Q:=by
 obtain⟨F0,H0,F, ρ,d,r,hf,q⟩:=h;obtain⟨ds,h1,h2⟩:=gd.mp hf;exact⟨F0,H0,F, ρ,ds,r,h1,fun vs F1 H1 g1 r1=>⟨F1,ds,d,g1.fh,r1,h2,fun v F2 H2 g2 r2=>q v F2 H2 (g1.trans g2) r2⟩⟩
theorem zo{x:Str}{p:Pos}{id:String}{op:List D->Option D}(hc:xp X (.builtin id) (rC X.K op))(hg:Gl X x)(hm:X.mg x=none)(hv:bootBuiltins x=some (.builtin id))(ha:PA X (e :: es) (tDA X.K fa))
  (hn:x≠"__name__" :=by decide) (hdb:(x==("__debug__" : Str))=false:=by decide)
  (he:starEach (e :: es) X.env=(false,eval e X.env) :: starEach es X.env:=by rfl) (hpl:(backTo pos (starEach es X.env)).any (·.1)=false:=by rfl):PE X (.Call (.Name x p) (e :: es) [] pos) (tD X.K (qf op fa)):=
 jk (q80 hc hg hm hv ha hn hdb he hpl) fun σ H Q h=>qjz h
theorem zp{x:Str}{p:Pos}{T:String}{op:List D->Option D}(hc:xp X (.type T) (rC X.K op))(hg:Gl X x)(hm:X.mg x=none)(hv:bootBuiltins x=some (.type T))(ha:PA X (e :: es) (tDA X.K fa))
  (hn:x≠"__name__" :=by decide) (hdb:(x==("__debug__" : Str))=false:=by decide)
  (he:starEach (e :: es) X.env=(false,eval e X.env) :: starEach es X.env:=by rfl) (hpl:(backTo pos (starEach es X.env)).any (·.1)=false:=by rfl):PE X (.Call (.Name x p) (e :: es) [] pos) (tD X.K (qf op fa)):=
 jk (q60 hc hg hm hv ha hn hdb he hpl) fun σ H Q h=>qjz h
def spD(K:Frag)(ar:Nat)(op:List D->Option D): Sp:=fun vs H Q _=>∃F ds d,SameT F H/\RepL K F ds vs/\ds.length=ar/\op ds=some d/\∀v F' H',Grow F H F' H'->Rep K F' d v->Q v H'
theorem SameT.grow{F H F' H':Hp}(s:SameT F H)(g:Grow F H F' H'): SameT F' H':=⟨g.fh,g.hh.tb s.t,fun p hp=>by
 cases q:F' p.1 with
 | none=>rfl
 | some o=>
  rcases g.nw p.1 (by rw [q];simp) with z|z
  ·exact absurd (s.f p hp) z
  ·obtain⟨ps,e,_⟩:=s.t p hp
   rw [e] at z;cases z⟩
def qj(ar:Nat)(dds:List D)(op:List D->Option D): List D->Option D:=fun ds=>if(ds++dds).length=ar then op (ds++dds) else none
theorem qps{k ar:Nat}{fn:Addr}{fd:FuncData}{ps:List Str}{op:List D->Option D}{x:Str}{p:Pos}{dvs:List V}{dds:List D}{dv:List Value}(F:FnOk X.prog X.w X.K X.mg X.base CX0 k fn fd ps (spD X.K ar op))(hr:Room k X.A)(hg:Gl X x)(hm:X.mg x=some (.ref fn))(hk:PySem.W.keepIn X.K (.ref fn)=true)
  (hb:Binds X.K fd ps dv) (hd:Vals dvs dv) (hdd:∀H,RepL X.K H dds dvs) (ha:PA X (e :: es) (tDA X.K fa)) (hdb:(x==("__debug__" : Str))=false:=by decide)
  (he:starEach (e :: es) X.env=(false,eval e X.env) :: starEach es X.env:=by rfl) (hpl:(backTo pos (starEach es X.env)).any (·.1)=false:=by rfl) :
  PE X (.Call (.Name x p) (e :: es) [] pos) (tD X.K (qf (qj ar dds op) fa)):=
 jk (qpj F hr hg hm hk hb hd qov ha hdb he hpl) fun σ H Q ⟨F0,H0,Fz, ρ,d,r,hf,q⟩=>by
  obtain⟨ds,h1,h2⟩:=gd.mp hf;unfold qj at h2
  split at h2
  ·rename_i hl
   exact⟨F0,H0,Fz, ρ,ds,r,h1,fun vs F1 H1 g1 r1=>⟨F1,ds++dds,d,r.sameT g1,r1.append (hdd F1),hl,h2,fun v F2 H2 g2 r2=>q v F2 H2 (g1.trans g2) r2⟩⟩
  ·cases h2
end
section
variable{X:Cx}{st:Stmt}{rest:List Stmt}{e:Expr}{pos:Pos}{f:FE}{fa:FA}{t:FT}{u w:FS}
def v5:FS:=fun ρ =>some (.nx, ρ)
def z8(u w:FS): FS:=fun ρ =>(u ρ).bind fun r=>match r with
 | (.nx, ρ')=>w ρ'
 | (fl, ρ')=>some (fl, ρ')
def sIf(t:FT)(u w:FS): FS:=fun ρ =>(t ρ).bind fun c=>if c then u ρ else w ρ
def zu(i:Nat)(f:FE): FS:=fun ρ =>(f ρ).map fun d=>(.nx, ρ.set i (some (.fz d)))
def q3v(i:Nat)(fa:FA): FS:=fun ρ =>(fa ρ).map fun ds=>(.nx, ρ.set i (some (.ow ds)))
def zd(f:FE): FS:=fun ρ =>(f ρ).map fun d=>(.rt d, ρ)
def quq:FS:=fun ρ =>some (.rt .non, ρ)
def qvs:FS:=fun ρ =>some (.bk, ρ)
def qvt:FS:=fun ρ =>some (.ct, ρ)
def qur(f:FE): FS:=fun ρ =>(f ρ).map fun _=>(.nx, ρ)
theorem jg:PSs X [] (tDS X.K v5):=qab qpc fun D σ H ⟨F0,H0,F, ρ,fl, ρ',r,hf,q⟩=>by
 cases hf;exact q σ F H (.refl _) r
theorem q4u{K:Frag}{F0 H0 F F':Hp}{D:Ends}{fl:Fl}{ρ':Rho}(s:Same F F')(h:qhz K F0 H0 F D fl ρ'): qhz K F0 H0 F' D fl ρ':=by
 cases fl with
 | nx=>exact fun σ' F2 H2 s2 r=>h σ' F2 H2 (s.trans s2) r
 | bk=>exact fun σ' F2 H2 s2 r=>h σ' F2 H2 (s.trans s2) r
 | ct=>exact fun σ' F2 H2 s2 r=>h σ' F2 H2 (s.trans s2) r
 | rt d=>exact h
theorem qi(h1:PS X st (tDS X.K u))(h2:PSs X rest (tDS X.K w)): PSs X (st :: rest) (tDS X.K (z8 u w)):=qab (qlx h1 h2) fun D σ H ⟨F0,H0,F, ρ,fl, ρ',r,hf,q⟩=>by
 obtain⟨⟨fl1, ρ1⟩,h3,h4⟩:=gd.mp hf;refine⟨F0,H0,F, ρ,fl1, ρ1,r,h3,?_⟩;cases fl1 with
 | nx=>exact fun σ' F' H' s r'=>⟨F0,H0,F', ρ1,fl, ρ',r',h4,q4u s q⟩
 | bk=>cases h4;exact q
 | ct=>cases h4;exact q
 | rt d=>cases h4;exact q
theorem qk(h1:PS X st (tDS X.K u)): PSs X [st] (tDS X.K u):=qpd h1
theorem xh{c:Expr}{a b:List Stmt}(hc:PT X c (tDT X.K t))(ha:PSs X a (tDS X.K u))(hb:PSs X b (tDS X.K w)): PS X (.If c a b pos) (tDS X.K (sIf t u w)):=q0u (qu7 hc ha hb) fun D σ H ⟨F0,H0,F, ρ,fl, ρ',r,hf,q⟩=>by
 obtain⟨c,h1,h2⟩:=gd.mp hf;refine⟨F0,H0,F, ρ,c,r,h1,fun F' H' g'=>?_⟩;cases c with
 | true=>rw [mh rfl] at h2 ⊢;exact⟨F0,H0,F', ρ,fl, ρ',r.grow g',h2,q4u g'.ff q⟩
 | false=>rw [mi m5] at h2 ⊢;exact⟨F0,H0,F', ρ,fl, ρ',r.grow g',h2,q4u g'.ff q⟩
theorem qw(he:PE X e (tD X.K f)): PS X (.Return (some e) pos) (tDS X.K (zd f)):=q0u (qrz he) fun D σ H ⟨F0,H0,F, ρ,fl, ρ',r,hf,q⟩=>by
 obtain⟨d,h1,h2⟩:=mj.mp hf;cases h2;exact⟨F0,H0,F, ρ,d,r,h1,fun v F' H' g' r'=>q v F' H' (r.g.trans g') r'⟩
theorem qus{K:Frag}{i:Nat}{D:Ends}{σ : St}{H:Hp}(h:tDS K (zu i f) D σ H): tD K f σ H fun x H1=>q74 i x σ H1 D.nx:=by
 obtain⟨F0,H0,F, ρ,fl, ρ',r,hf,q⟩:=h;obtain⟨d,h1,h2⟩:=mj.mp hf;cases h2;exact⟨F0,H0,F, ρ,d,r,h1,fun v F' H' g' r'=>q _ F' H' g'.ff ((r.grow g').set i r')⟩
theorem qox{K:Frag}{i:Nat}{D:Ends}{σ : St}{H:Hp}(h:tDS K (q3v i fa) D σ H): tL K fa σ H fun x H1=>q74 i x σ H1 D.nx:=by
 obtain⟨F0,H0,F, ρ,fl, ρ',r,hf,q⟩:=h;obtain⟨ds,h1,h2⟩:=mj.mp hf;cases h2;refine⟨F0,H0,F, ρ,ds,r,h1,fun a xs F' H' g' fa' ha' hl r'=>q _ F' H' g'.ff ((r.grow g').setO i hl fa' (r.g.hh.free ha') r' (fun j es z1 z2=>?_) fun j kvs z1=>?_)⟩
 ·obtain⟨b,ys,e1,e2,_⟩:=r.ow j es z1
  rw [z2] at e1;obtain rfl:a=b:=by simpa using e1
  rw [ha'] at e2;cases e2
 ·obtain⟨b,bs,e1,e2,e3⟩:=r.od j kvs z1
  refine⟨b,bs,e1,e2.grow g',fun z=>?_,e3⟩;obtain⟨xs,f,_⟩:=e2.mem z;rw [ha'] at f;cases f
theorem ze{i:Nat}{x:Str}{px:Pos}(hN:X.N.Nodup)(hi:X.N[i]? = some x)(hx:Loc X.env.scope x)(he:PE X e (tD X.K f))(hs:swapsWith e (some (.Name x px)) pos.line X.env=pure false:=by rfl)(hf:X.fn x=true\/X.env.scope.names.lookup x=some .local:=by first|exact .inl rfl|exact .inr rfl|assumption):
  PS X (.Assign [.Name x px] e pos) (tDS X.K (zu i f)):=q0u (qja hN hi hx he hs hf) fun D σ H h=>qus h
theorem q64{i:Nat}{x:Str}{px:Pos}(hN:X.N.Nodup)(hi:X.N[i]? = some x)(hx:Loc X.env.scope x)(he:PE X e (tL X.K fa))(hs:swapsWith e (some (.Name x px)) pos.line X.env=pure false:=by rfl)(hf:X.fn x=true\/X.env.scope.names.lookup x=some .local:=by first|exact .inl rfl|exact .inr rfl|assumption):
  PS X (.Assign [.Name x px] e pos) (tDS X.K (q3v i fa)):=q0u (qja hN hi hx he hs hf) fun D σ H h=>qox h
def q82(i:Nat)(ρ : Rho): Option (List D):=match ρ[i]? with
 | some (some (.ow ds))=>some ds
 | _=>none
theorem qbd{i:Nat}{ρ : Rho}{ds:List D}(h:q82 i ρ = some ds): ρ[i]? = some (some (.ow ds)):=by
 unfold q82 at h
 split at h
 ·rename_i e;rw [e,ma h]
 ·cases h
def q2z(i:Nat)(f:FE): FS:=fun ρ =>(q82 i ρ).bind fun ds=>(f ρ).bind fun d=>if ds.length<lim then some (.nx, ρ.set i (some (.ow (ds++[d])))) else none
theorem q93{i:Nat}{x:Str}{px apos cpos:Pos}(hv:PE X (.Name x px) (qcw i))(he:PE X e (tD X.K f))
  (hbase:attributeBase (.Name x px) "append" X.env (eval (.Name x px) X.env)=eval (.Name x px) X.env:=by rfl)
  (hfew:((backTo cpos (starEach [e] X.env)).all (fun x=> !x.1)&&(backToKw cpos (keywordEach [] X.env)).all (fun x=>x.1.isSome)&&decide ([e].length+([]:List Keyword).length+(if([]:List Keyword).isEmpty then 0 else 1)<30))=true:=by rfl)
  (hline:(apos.endLine==cpos.line)=true:=by rfl) (hse:starEach [e] X.env=(false,eval e X.env) :: starEach [] X.env:=by rfl)
  (hs:swapsWith (.Call (.Attribute (.Name x px) "append" apos) [e] [] cpos) none pos.line X.env=pure false:=by rfl):PS X (.Expr (.Call (.Attribute (.Name x px) "append" apos) [e] [] cpos) pos) (tDS X.K (q2z i f)):=
 q0u (qgq (qou g5c PySem.F.slot_list_append PySem.F.type_list_append qbb hv (q0l he q2u hse) hbase hfew hline hse rfl) hs) fun D σ H ⟨F0,H0,F, ρ,fl, ρ',r,hf,q⟩=>by
  obtain⟨ds,h1,hf⟩:=gd.mp hf;obtain⟨d,h2,h3⟩:=gd.mp hf;have h1:=qbd h1
  split at h3
  ·rename_i hl
   cases h3;obtain⟨a,xs,e1,e2,e3,e4,e5⟩:=r.ow i ds h1;refine⟨.ref a,e1,.inl ⟨rfl,xs,SqL.of e2⟩,F0,H0,F, ρ,d,r,h2,fun v F' H' g' r'=>?_⟩;have r2:=r.grow g';refine⟨a,xs,v,rfl,rfl,g'.hh.lst _ _ e2,qbc (by rw [<- e5.length];exact hl),?_⟩;exact q _ F' _ g'.ff (r2.wrt h1 e1 ((e5.mono g'.ff).append (.cons r' .nil)))
  ·cases h3
def frz(i:Nat)(ρ : Rho): Rho:=match ρ[i]? with
 | some (some (.ow ds))=> ρ.set i (some (.fz (.lst ds)))
 | _=> ρ
def q4v(i:Nat)(u:FS): FS:=fun ρ =>u (frz i ρ)
theorem qsx{K:Frag}{F0 H0 F H:Hp}{σ : St}{ρ : Rho}(i:Nat)(r:RS K F0 H0 F H σ ρ): ∃F',Same F F'/\RS K F0 H0 F' H σ (frz i ρ):=by
 unfold frz
 split
 ·rename_i ds h
  exact r.freeze h
 ·exact⟨F,.refl _,r⟩
theorem q30(i:Nat){sts:List Stmt}(h:PSs X sts (tDS X.K u)): PSs X sts (tDS X.K (q4v i u)):=qab h fun D σ H ⟨F0,H0,F, ρ,fl, ρ',r,hf,q⟩=>by
 obtain⟨F',s',r'⟩:=qsx i r;exact⟨F0,H0,F',frz i ρ,fl, ρ',r',hf,q4u s' q⟩
end
def z9(n:Nat)(u:FS)(ds:List D): Option D:=match u (ds.map (fun d=>some (.fz d))++List.replicate (n-ds.length) none) with
 | some (.rt d,_)=>some d
 | some (.nx,_)=>some .non
 | _=>none
theorem qk0{N:List Str}{vs:List V}{i:Nat}{v:V}(h:vs[i]? = some v): (L2.start N vs)[i]? = some (some v):=by
 unfold L2.start;have hi:i<vs.length:=(nu.mp h).1;rw [tq (by simpa using hi),mr,h];rfl
theorem qk1{P:Program}{w:World}{K:Frag}{H:Hp}{vs:List V}{Q:VK}{N:List Str}{u:FS}{ar:Nat}{E:XK}(hl:ar<=N.length)(h:spD K ar (z9 N.length u) vs H Q E): tDS K u {nx:=fun _ H'=>Q .non H',rt:=Q} (L2.start N vs) H:=by
 obtain⟨F,ds,d,fh,rl,el,hd,q⟩:=h;have hlen:=rl.length;have r:RS K F H F H (L2.start N vs) (ds.map (fun d=>some (.fz d))++List.replicate (N.length-ds.length) none):={
  t0:=⟨fh.t,fh.f⟩
  g:=.refl fh.s
  len:=by unfold L2.start;simp only [pf,mn,g5v];omega
  fz :=fun i e h1=>by
   by_cases hi:i<ds.length
   ·rw [tq (by simpa using hi),mr] at h1
    cases z:ds[i]? with
    | none=>rw [z] at h1;cases h1
    | some d'=>
     rw [z] at h1;cases h1;obtain⟨v,e1,e2⟩:=rl.get z;exact⟨v,qk0 e1,e2⟩
   ·rw [ud (by simpa using hi),g0j] at h1
    split at h1 <;> cases h1
  ow:=fun i es h1=>by
   by_cases hi:i<ds.length
   ·rw [tq (by simpa using hi),mr] at h1
    cases z:ds[i]? with
    | none=>rw [z] at h1;cases h1
    | some d'=>rw [z] at h1;cases h1
   ·rw [ud (by simpa using hi),g0j] at h1
    split at h1 <;> cases h1
  dj:=fun i j us es a _ h1=>by
   by_cases hi:i<ds.length
   ·rw [tq (by simpa using hi),mr] at h1
    cases z:ds[i]? with
    | none=>rw [z] at h1;cases h1
    | some d'=>rw [z] at h1;cases h1
   ·rw [ud (by simpa using hi),g0j] at h1
    split at h1 <;> cases h1
  od:=fun i kvs h1=>by
   by_cases hi:i<ds.length
   ·rw [tq (by simpa using hi),mr] at h1
    cases z:ds[i]? with
    | none=>rw [z] at h1;cases h1
    | some d'=>rw [z] at h1;cases h1
   ·rw [ud (by simpa using hi),g0j] at h1
    split at h1 <;> cases h1
  o1:=fun i j k1 k2 h1=>by
   by_cases hi:i<ds.length
   ·rw [tq (by simpa using hi),mr] at h1
    cases z:ds[i]? with
    | none=>rw [z] at h1;cases h1
    | some d'=>rw [z] at h1;cases h1
   ·rw [ud (by simpa using hi),g0j] at h1
    split at h1 <;> cases h1}
 unfold z9 at hd;cases z:u (ds.map (fun d=>some (.fz d))++List.replicate (N.length-ds.length) none) with
 | none=>rw [z] at hd;cases hd
 | some p=>
  obtain⟨fl, ρ'⟩:=p;rw [z] at hd;refine⟨F,H,F,_,fl, ρ',r,z,?_⟩;cases fl with
  | nx=>cases hd;exact fun σ' F' H' s' r'=>q .non F' H' r'.g (rep_non.mpr rfl)
  | bk=>cases hd
  | ct=>cases hd
  | rt d'=>cases hd;exact fun v F' H' g' r'=>q v F' H' g' r'
theorem qoy{P:Program}{w:World}{K:Frag}{mg:Str->Option Value}{base:Heap}{k:Nat}{f:Addr}{name qual:Str}{params:Arguments}{body:List Stmt}{scope:Scope}{dV kV doc pm cdv ct oc:Value}{an od:Option Addr}
  {osl:Array (Option Value)} {N ps:List Str} {u:FS} (lk:K.lookup f=some ⟨oc,od,.func (PySem.W.fnOf name qual params body scope dV kV doc pm an cdv ct),osl⟩) (hcd:PySem.W.codeIn K cdv qual=true) (S:FnScope N ps scope)
  (hb:∀(A:Around) (outer:List Env) (s:Shared) (H:Hp) (E:XK),Room k (A.deeper (envOfC qual scope s.heap.objs.size f cdv))->PSs (zj CX0 P w K mg base N qual scope f cdv A outer s H E).nox body (tDS K u)) :
  FnOk P w K mg base CX0 (k+1) f (PySem.W.fnOf name qual params body scope dV kV doc pm an cdv ct) ps (spD K ps.length (z9 N.length u)):=by
 have hpl:ps.length<=N.length:=by have:=uz List.length S.pre;rw [pk] at this;omega
 refine quk lk hcd S (fun vs H Q E h=>?_) fun A outer s H vs Q E hr hsp=>⟨_,(hb A outer s H E hr).nox,qk1 (P:=P) (w:=w) hpl hsp⟩
 obtain⟨F,ds,d,_,rl,el,_⟩:=h;rw [<- rl.length];exact el
structure ItD(K:Frag)(F:Hp)(ds:List D)(J:It): Prop where
 go:∀(i:Nat) (F' H:Hp),Same F F'->Same F' H->i<ds.length->J.go i H
 yld:∀(i:Nat) (d:D) (F' H:Hp) (x:V) (H':Hp),Same F F'->Same F' H->ds[i]? = some d->J.yld i H x H'->∃F'',Grow F' H F'' H'/\Rep K F'' d x
 stop:∀(i:Nat) (F' H:Hp),Same F F'->Same F' H->ds.length<=i->J.stop i H
def tDI(K:Frag)(f:FA): TI:=fun σ H R=>∃F0 H0 F ρ ds,RS K F0 H0 F H σ ρ /\ f ρ = some ds/\∀J F' H',Grow F H F' H'->ItD K F' ds J->R J H'
abbrev FB:=D->Rho->Option Rho
abbrev FBs:=List D->Rho->Option Rho
def tDG(K:Frag)(b:FB): TG:=fun v σ H Q=>∃F0 H0 F ρ d ρ',RS K F0 H0 F H σ ρ /\ Rep K F d v/\b d ρ = some ρ'/\∀ σ',RS K F0 H0 F H σ' ρ'->Q σ' H
def qi2(K:Frag)(b:FBs): TGs:=fun vs σ H Q=>∃F0 H0 F ρ ds ρ',RS K F0 H0 F H σ ρ /\ RepL K F ds vs/\b ds ρ = some ρ'/\∀ σ',RS K F0 H0 F H σ' ρ'->Q σ' H
section
variable{X:Cx}{tg e:Expr}{es:List Expr}{pos:Pos}
theorem q65{t t':TI}(h:PI X tg e t)(i:∀ σ H R,t' σ H R->t σ H R): PI X tg e t':=fun pins s σ H R I q=>h pins s σ H R I (i σ H R q)
theorem qk2{t t':TG}(h:PG X e t)(i:∀v σ H Q,t' v σ H Q->t v σ H Q): PG X e t':=fun pins s σ H v u Q I r q=>h pins s σ H v u Q I r (i v σ H Q q)
theorem qh2{t t':TGs}(h:PGs X es t)(i:∀v σ H Q,t' v σ H Q->t v σ H Q): PGs X es t':=fun pins s σ H v u Q I r q=>h pins s σ H v u Q I r (i v σ H Q q)
def bN(i:Nat): FB:=fun d ρ =>some (ρ.set i (some (.fz d)))
def q0y:FBs:=fun ds ρ =>if ds.isEmpty then some ρ else none
def xi(b:FB)(bs:FBs): FBs:=fun ds ρ =>match ds with
 | d :: r=>(b d ρ).bind fun ρ'=>bs r ρ'
 | []=>none
def q0z(n:Nat)(bs:FBs): FB:=fun d ρ =>match d with
 | .tup ds=>if ds.length=n then bs ds ρ else none
 | _=>none
theorem qt{i:Nat}{x:Str}(hN:X.N.Nodup)(hi:X.N[i]? = some x)(hx:Loc X.env.scope x)(hf:X.fn x=true\/X.env.scope.names.lookup x=some .local:=by first|exact .inl rfl|exact .inr rfl|assumption): PG X (.Name x pos) (tDG X.K (bN i)):=
 qk2 (qpe hN hi hx hf) fun v σ H Q ⟨F0,H0,F, ρ,d, ρ',r,hr,hb,q⟩=>by
  cases hb;exact q _ (r.set i hr)
theorem q94:PGs X [] (qi2 X.K q0y):=qh2 qpf fun vs σ H Q ⟨F0,H0,F, ρ,ds, ρ',r,hr,hb,q⟩=>by
 unfold q0y at hb
 split at hb
 ·rename_i z
  cases hb;have z':ds=[]:=by simpa using z
  subst z';exact⟨hr.nil_inv,q σ r⟩
 ·cases hb
theorem q0m{b:FB}{bs:FBs}(h1:PG X e (tDG X.K b))(h2:PGs X es (qi2 X.K bs))(hs:(assignEach (e :: es) X.env).map (·.2)=assign e X.env :: (assignEach es X.env).map (·.2):=by rfl): PGs X (e :: es) (qi2 X.K (xi b bs)):=
 qh2 (qly h1 h2 hs) fun vs σ H Q ⟨F0,H0,F, ρ,ds, ρ',r,hr,hb,q⟩=>by
  cases ds with
  | nil=>cases hb
  | cons d ds=>
   obtain⟨v,vr,rfl,h3,h4⟩:=hr.cons_inv;obtain⟨ρ1,h5,h6⟩:=gd.mp hb;exact⟨v,vr,rfl,F0,H0,F, ρ,d, ρ1,r,h3,h5,fun σ' r'=>⟨F0,H0,F, ρ1,ds, ρ',r',h4,h6,q⟩⟩
theorem q95{k n:Nat}{bs:FBs}(hc:X.calm=true)(h:PGs X es (qi2 X.K bs))(hn:(assignEach es X.env).length=n:=by rfl)(hst:(assignEach es X.env).findIdx? (·.1)=none:=by rfl): PG X (.Tuple es k pos) (tDG X.K (q0z n bs)):=
 qk2 (qs0 hc h hn hst) fun v σ H Q ⟨F0,H0,F, ρ,d, ρ',r,hr,hb,q⟩=>by
  cases d <;> simp only [q0z] at hb <;> first|(cases hb;done)|skip
  rename_i ds
  split at hb
  ·rename_i hl
   obtain⟨a,xs,rfl,h1,h2⟩:=rep_tup.mp hr;exact⟨a,xs,rfl,ql r.fh h1,by rw [<- h2.length];exact hl,F0,H0,F, ρ,ds, ρ',r,h2,hb,q⟩
  ·cases hb
def qut(f:FE)(b:FB): FS:=fun ρ =>(f ρ).bind fun d=>(b d ρ).map fun ρ'=>(.nx, ρ')
theorem qml{K:Frag}{F:Hp}{a:Addr}{xs:List V}{ds:List D}(h:SqL K F a xs)(hd:RepL K F ds xs): ItD K F ds (Itl K a) where
 go:=fun i F' H s1 s2 hi=>⟨xs,xs[i]'(by rw [<- hd.length];exact hi),(s1.trans s2).seq h,by simp⟩
 yld:=fun i d F' H x H' s1 s2 hi ⟨e,y⟩=>by
  subst e;obtain⟨z,h1,h2⟩:=hd.get hi;have:=y xs ((s1.trans s2).seq h);rw [h1] at this;cases this;exact⟨F',.refl s2,h2.mono s1⟩
 stop:=fun i F' H s1 s2 hi=>⟨xs,(s1.trans s2).seq h,by rw [<- hd.length];exact hi⟩
theorem qpt{K:Frag}{F:Hp}{a:Addr}{xs:List V}{ds:List D}(h:SqT K F a xs)(hd:RepL K F ds xs): ItD K F ds (Itt K a) where
 go:=fun i F' H s1 s2 hi=>⟨xs,xs[i]'(by rw [<- hd.length];exact hi),ql (s1.trans s2) h,by simp⟩
 yld:=fun i d F' H x H' s1 s2 hi ⟨e,y⟩=>by
  subst e;obtain⟨z,h1,h2⟩:=hd.get hi;have:=y xs (ql (s1.trans s2) h);rw [h1] at this;cases this;exact⟨F',.refl s2,h2.mono s1⟩
 stop:=fun i F' H s1 s2 hi=>⟨xs,ql (s1.trans s2) h,by rw [<- hd.length];exact hi⟩
def z5(lo:Int)(n:Nat): List D:=(List.range n).map fun i:Nat=>.int (lo+i)
theorem qbe{K:Frag}{F:Hp}(lo:Int)(n:Nat): ItD K F (z5 lo n) (Itr lo n) where
 go:=fun i F' H s1 s2 hi=>by show i<n;simpa [z5] using hi
 yld:=fun i d F' H x H' s1 s2 hi ⟨e,y⟩=>by
  subst e y;simp only [z5,mr] at hi;cases q:(List.range n)[i]? with
  | none=>rw [q] at hi;cases hi
  | some j=>
   rw [q] at hi;cases hi;have:j=i:=by
    have h2:=nu.mp q;obtain⟨h3,h4⟩:=h2;rw [List.getElem_range] at h4;exact h4.symm
   subst this;exact⟨F',.refl s2,rep_int.mpr rfl⟩
 stop:=fun i F' H s1 s2 hi=>by show n<=i;simpa [z5] using hi
def q83:D->Option (List D)
 | .tup ds=>some ds
 | .lst ds=>some ds
 | _=>none
def jc(f:FE): FA:=fun ρ =>(f ρ).bind q83
theorem quu{l:Expr}{tl:TE}(hl:PE X l tl): PI X tg l (fun σ H R=>tl σ H fun x H1=>(∃a,x=.ref a/\(∃xs,SqL X.K H1 a xs)/\R (Itl X.K a) H1)\/(∃a,x=.ref a/\(∃xs,SqT X.K H1 a xs)/\R (Itt X.K a) H1)):=by
 intro pins s σ H R I h;refine thn (hl pins s σ H _ I h) fun v s1 ⟨x,H1,I1,r1,q1⟩=>?_;rcases q1 with⟨a,e,⟨xs,hq⟩,q⟩|⟨a,e,⟨xs,hq⟩,q⟩
 ·subst e
  cases r1;obtain⟨its,rv,p,hz⟩:=I1.list hq;refine g21 p.isList ?_;refine⟨s1.heap.objs.size,[s1.heap.objs.size],_,_,H1,rfl,I1.kept (t':=s1.toks) fun b o e=>gc _ e,qjb a _,⟨_,gj _ rfl,rfl,rfl⟩,fun b hb=>?_,q⟩;have e:b=s1.heap.objs.size:=by simpa using hb
  subst e;exact I1.fpOk (gv _) (I1.hok.fresh (gv _))
 ·subst e
  cases r1;obtain⟨its,rv,p,hz⟩:=I1.tuple hq;refine g2t (show s1.heap.IsTuple a its.toArray from p) ?_;refine⟨s1.heap.objs.size,[s1.heap.objs.size],_,_,H1,rfl,I1.kept (t':=s1.toks) fun b o e=>gc _ e,qhr a _,⟨_,gj _ rfl,rfl,rfl⟩,fun b hb=>?_,q⟩;have e:b=s1.heap.objs.size:=by simpa using hb
  subst e;exact I1.fpOk (gv _) (I1.hok.fresh (gv _))
theorem zm{f:FE}(h:PE X e (tD X.K f)): PI X tg e (tDI X.K (jc f)):=q65 (quu h) fun σ H R ⟨F0,H0,F, ρ,ds,r,hf,q⟩=>by
 obtain⟨d,h1,h2⟩:=gd.mp hf;refine⟨F0,H0,F, ρ,d,r,h1,fun v F' H' g' r'=>?_⟩;cases d <;> simp only [q83] at h2 <;> first|(cases h2;done)|skip
 ·cases h2
  obtain⟨a,xs,rfl,h3,h4⟩:=rep_tup.mp r';exact .inr ⟨a,rfl,⟨xs,ql g'.fh h3⟩,q _ F' H' g' (qpt h3 h4)⟩
 ·cases h2
  obtain⟨a,xs,rfl,h3,h4⟩:=rep_lst.mp r';exact .inl ⟨a,rfl,⟨xs,g'.fh.seq h3⟩,q _ F' H' g' (qml h3 h4)⟩
def iR1(fa:FA): FA:=fun ρ =>(fa ρ).bind fun ds=>match ds with
 | [.int j]=>if decide (-(2 ^ 62)<=j)&&decide (j<2 ^ 62) then some (z5 0 j.toNat) else none
 | _=>none
def iR2(fa:FA): FA:=fun ρ =>(fa ρ).bind fun ds=>match ds with
 | [.int i,.int j]=>if(decide (-(2 ^ 62)<=i)&&decide (i<2 ^ 62))&&(decide (-(2 ^ 62)<=j)&&decide (j<2 ^ 62)) then some (z5 i (j-i).toNat) else none
 | _=>none
theorem kq{a:Expr}{fa:FA}{p:Pos}(hg:Gl X "range")(hm:X.mg "range" = none)(ha:PA X [a] (tDA X.K fa))(hs:starEach [a] X.env=[(false,eval a X.env)]:=by rfl): PI X tg (.Call (.Name "range" p) [a] [] pos) (tDI X.K (iR1 fa)):=
 q65 (qjc hg hm ha hs) fun σ H R ⟨F0,H0,F, ρ,ds,r,hf,q⟩=>by
  obtain⟨es,h1,h2⟩:=gd.mp hf;refine⟨F0,H0,F, ρ,es,r,h1,fun vs F' H' g' r'=>?_⟩
  split at h2
  ·rename_i j
   split at h2
   ·rename_i z
    cases h2;obtain⟨x,t,rfl,h3,h4⟩:=r'.cons_inv;cases h4.nil_inv;obtain⟨z1,z2⟩:=q2q z;exact⟨j,by rw [rep_int.mp h3],z1,z2,q _ F' H' g' (qbe 0 _)⟩
   ·cases h2
  ·cases h2
theorem qk3{a b:Expr}{fa:FA}{p:Pos}(hg:Gl X "range")(hm:X.mg "range" = none)(ha:PA X [a,b] (tDA X.K fa))(hs:starEach [a,b] X.env=[(false,eval a X.env),(false,eval b X.env)]:=by rfl)(hs2:starEach [b] X.env=[(false,eval b X.env)]:=by rfl):
  PI X tg (.Call (.Name "range" p) [a,b] [] pos) (tDI X.K (iR2 fa)):=
 q65 (qjd hg hm ha hs hs2) fun σ H R ⟨F0,H0,F, ρ,ds,r,hf,q⟩=>by
  obtain⟨es,h1,h2⟩:=gd.mp hf;refine⟨F0,H0,F, ρ,es,r,h1,fun vs F' H' g' r'=>?_⟩
  split at h2
  ·rename_i i j
   split at h2
   ·rename_i z
    cases h2;obtain⟨x,t,rfl,h3,h4⟩:=r'.cons_inv;obtain⟨x2,t2,rfl,h5,h6⟩:=h4.cons_inv;cases h6.nil_inv;rw [m8] at z;obtain⟨z1,z2⟩:=q2q z.1;obtain⟨z3,z4⟩:=q2q z.2;exact⟨i,j,by rw [rep_int.mp h3,rep_int.mp h5],⟨z1,z2,z3,z4⟩,q _ F' H' g' (qbe _ _)⟩
   ·cases h2
  ·cases h2
def runFor(b:FB)(body:FS): List D->Rho->Option (Fl×Rho)
 | [], ρ =>some (.nx, ρ)
 | d :: ds, ρ =>(b d ρ).bind fun ρ1=>(body ρ1).bind fun r=>match r with
  | (.nx, ρ2)=>runFor b body ds ρ2
  | (.ct, ρ2)=>runFor b body ds ρ2
  | (.bk, ρ2)=>some (.nx, ρ2)
  | (.rt v, ρ2)=>some (.rt v, ρ2)
def xm(it:FA)(b:FB)(body:FS): FS:=fun ρ =>(it ρ).bind fun ds=>runFor b body ds ρ
theorem k5{iter:Expr}{body:List Stmt}{it:FA}{b:FB}{u:FS}(hp:PassesOwn (model X.prog X.w) X.A X.env X.xe)(hc:X.calm=true)(hi:PI X tg iter (tDI X.K it))(hg:PG X tg (tDG X.K b))(hb:PSs X body (tDS X.K u))
  (hs:∀x,foldedSetIterable iter X.env x=pure x:=by intro _;rfl):PS X (.For tg iter body [] pos) (tDS X.K (xm it b u)):=q0u (qs3 hp hc hi hg hb hs) fun D σ H ⟨F0,H0,F, ρ,fl, ρ',r,hf,q⟩=>by
 obtain⟨ds,h1,h2⟩:=gd.mp hf;refine⟨F0,H0,F, ρ,ds,r,h1,fun J F1 H1 g1 itd=>?_⟩;refine⟨fun i m σ H=>m=ds.length-i/\i<=ds.length/\∃F' ρi,Same F1 F'/\RS X.K F0 H0 F' H σ ρi/\runFor b u (ds.drop i) ρi=some (fl, ρ'),⟨ds.length,by simp,uj _,F1, ρ,.refl _,r.grow g1,by simpa using h2⟩,?_⟩
 rintro i m σ H ⟨rfl,hi,F', ρi,s1,r1,h3⟩
 by_cases hlt:i<ds.length
 ·have hd:ds.drop i=ds[i] :: ds.drop (i+1):=t6 hlt
  rw [hd] at h3;obtain⟨ρ1,h4,h5⟩:=gd.mp h3;obtain⟨⟨fl1, ρ2⟩,h6,h7⟩:=gd.mp h5;refine .inr ⟨itd.go i F' H s1 r1.fh hlt,fun σ' H'=>∃F',Same F1 F'/\RS X.K F0 H0 F' H' σ' ρ2/\runFor b u (ds.drop (i+1)) ρ2=some (fl, ρ'),fun σ' H' ⟨F',z1,z2,z3⟩=>⟨ds.length-(i+1),by omega,rfl,hlt,F', ρ2,z1,z2,z3⟩,fun x H' y=>?_⟩;obtain⟨F2,g2,r2⟩:=itd.yld i ds[i] F' H x H' s1 r1.fh (by simp [hlt]) y;refine⟨F0,H0,F2, ρi,ds[i], ρ1,r1.grow g2,r2,h4,fun σ' r3=>⟨F0,H0,F2, ρ1,fl1, ρ2,r3,h6,?_⟩⟩;cases fl1 with
  | nx=>exact fun σ2 F3 H3 s3 r4=>⟨F3,(s1.trans g2.ff).trans s3,r4,h7⟩
  | ct=>exact fun σ2 F3 H3 s3 r4=>⟨F3,(s1.trans g2.ff).trans s3,r4,h7⟩
  | bk=>cases h7;exact fun σ2 F3 H3 s3 r4=>q σ2 F3 H3 ((g1.ff.trans (s1.trans g2.ff)).trans s3) r4
  | rt d=>cases h7;exact q
 ·have e:i=ds.length:=by omega
  subst e;rw [g53] at h3;cases h3;exact .inl ⟨itd.stop _ F' H s1 r1.fh (gv _),q σ F' H (g1.ff.trans s1) r1⟩
def yw(t:FT)(body:FS): Nat->Rho->Option (Fl×Rho)
 | 0,_=>none
 | n+1, ρ =>(t ρ).bind fun c=>if c then(body ρ).bind fun r=>match r with
   | (.nx, ρ2)=>yw t body n ρ2
   | (.ct, ρ2)=>yw t body n ρ2
   | (.bk, ρ2)=>some (.nx, ρ2)
   | (.rt v, ρ2)=>some (.rt v, ρ2)
  else some (.nx, ρ)
theorem qmm{c:Expr}{body:List Stmt}{t:FT}{u:FS}(n:Nat)(hp:PassesOwn (model X.prog X.w) X.A X.env X.xe)(hc:PT X c (tDT X.K t))(hb:PSs X body (tDS X.K u)): PS X (.While c body [] pos) (tDS X.K (yw t u n)):=
 q0u (qlz hp hc hb) fun D σ H ⟨F0,H0,F, ρ,fl, ρ',r,hf,q⟩=>by
  refine⟨fun m σ H=>∃F' ρi,Same F F'/\RS X.K F0 H0 F' H σ ρi/\yw t u m ρi=some (fl, ρ'),⟨n,F, ρ,.refl _,r,hf⟩,?_⟩
  rintro m σ H ⟨F', ρi,s1,r1,h1⟩
  cases m with
  | zero=>cases h1
  | succ m=>
   obtain⟨c,h2,h3⟩:=gd.mp h1;refine⟨F0,H0,F', ρi,c,r1,h2,fun F2 H2 g2=>?_⟩;cases c with
   | false=>rw [mi m5] at h3 ⊢;cases h3;exact q σ F2 H2 (s1.trans g2.ff) (r1.grow g2)
   | true=>
    rw [mh rfl] at h3 ⊢;obtain⟨⟨fl1, ρ2⟩,h6,h7⟩:=gd.mp h3;refine⟨fun σ' H'=>∃F',Same F F'/\RS X.K F0 H0 F' H' σ' ρ2/\yw t u m ρ2=some (fl, ρ'),fun σ' H' ⟨F',z1,z2,z3⟩=>⟨m,tu _,F', ρ2,z1,z2,z3⟩,F0,H0,F2, ρi,fl1, ρ2,r1.grow g2,h6,?_⟩;cases fl1 with
    | nx=>exact fun σ2 F3 H3 s3 r4=>⟨F3,(s1.trans g2.ff).trans s3,r4,h7⟩
    | ct=>exact fun σ2 F3 H3 s3 r4=>⟨F3,(s1.trans g2.ff).trans s3,r4,h7⟩
    | bk=>cases h7;exact fun σ2 F3 H3 s3 r4=>q σ2 F3 H3 ((s1.trans g2.ff).trans s3) r4
    | rt d=>cases h7;exact q
end
def qsy:Option B->Option B
 | some (.fz d)=>some (.fz d)
 | _=>none
def q02(cap:List (Option Nat))(ρ : Rho): Rho:=cap.map fun o=>o.bind fun j=>qsy (ρ[j]?).join
structure Sub(ρ ρ':Rho): Prop where
 len : ρ.length = ρ'.length
 sub:∀(i:Nat) (b:B), ρ[i]? = some (some b) -> ρ'[i]? = some (some b)
theorem RS.weak{K:Frag}{F0 H0 F H:Hp}{σ : St}{ρ ρ':Rho}(r:RS K F0 H0 F H σ ρ')(s:Sub ρ ρ'): RS K F0 H0 F H σ ρ where
 t0:=r.t0
 g:=r.g
 len:=by rw [s.len];exact r.len
 fz:=fun i d e=>r.fz i d (s.sub i _ e)
 ow:=fun i ds e=>r.ow i ds (s.sub i _ e)
 dj:=fun i j ds es a h e1 e2=>r.dj i j ds es a h (s.sub i _ e1) (s.sub j _ e2)
 od:=fun i kvs e=>let⟨a,bs,e1,e2,e3⟩:=r.od i kvs (s.sub i _ e); ⟨a,bs,e1,e2,fun j es b h=>e3 j es b (s.sub j _ h)⟩
 o1:=fun i j k1 k2 e1 e2=>r.o1 i j k1 k2 (s.sub i _ e1) (s.sub j _ e2)
def q2h(ρ : Rho): Prop:=∀(i:Nat) (b:B), ρ[i]? = some (some b)->∃d,b=.fz d
theorem q4w{ρ : Rho}(no:q2h ρ){i:Nat}{ds:List D}(h : ρ[i]? = some (some (.ow ds))): False:=let⟨_,e⟩:=no i _ h;nomatch e
theorem q4x{ρ : Rho}(no:q2h ρ){i:Nat}{ds}(h : ρ[i]? = some (some (.od ds))): False:=let⟨_,e⟩:=no i _ h;nomatch e
theorem yq(cap:List (Option Nat))(ρ : Rho): q2h (q02 cap ρ):=fun i ds h=>by
 unfold q02 at h;rw [mr] at h;cases q:cap[i]? with
 | none=>rw [q] at h;cases h
 | some o=>
  rw [q] at h;cases o with
  | none=>cases h
  | some j=>
   simp only [p6,m4,g3a] at h;generalize (ρ[j]?).join=z at h;cases z with
   | none=>cases h
   | some b=>cases b with
    | fz d=>cases h;exact⟨d,rfl⟩
    | ow _=>cases h
    | od _=>cases h
theorem qsz{K:Frag}{F0 H0 F H:Hp}{σ : St}{ρ : Rho}(cap:List (Option Nat))(r:RS K F0 H0 F H σ ρ): RS K F H F H (qaa cap σ) (q02 cap ρ) where
 t0:=⟨r.tab,r.tabF⟩
 g:=.refl r.fh
 len:=by unfold qaa q02;rw [mn,mn]
 fz := fun i d h=>by
  unfold q02 at h;rw [mr] at h;cases q:cap[i]? with
  | none=>rw [q] at h;cases h
  | some o=>
   rw [q] at h;cases o with
   | none=>cases h
   | some j=>
    simp only [p6,m4,g3a] at h;have e : ρ[j]? = some (some (.fz d)):=by
     cases z : ρ[j]? with
     | none=>rw [z] at h;cases h
     | some b=>
      rw [z] at h;cases b with
      | none=>cases h
      | some b=>cases b with
       | fz d'=>cases h;rfl
       | ow _=>cases h
       | od _=>cases h
    obtain⟨v,e1,e2⟩:=r.fz j d e;refine⟨v,?_,e2⟩;unfold qaa;rw [mr,q];simp only [p6,m4,e1,g3g]
 ow:=fun i ds h=>(q4w (yq cap ρ) h).elim
 dj:=fun i j ds es a _ h=>(q4w (yq cap ρ) h).elim
 od:=fun i ds h=>(q4x (yq cap ρ) h).elim
 o1:=fun i j ds es h=>(q4x (yq cap ρ) h).elim
theorem RS.other{K:Frag}{F0 H0 F H:Hp}{σ : St}{ρ : Rho}(r:RS K F0 H0 F H σ ρ)(no:q2h ρ){p:Addr}{o:HO}(h1:F p=none)(h2:H0 p=none)(h3:H p=none\/∃xs,H p=some (.lst xs)): RS K F0 H0 F (upd H p o) σ ρ where
 t0:=r.t0
 g :=⟨r.g.ff,⟨fun b u e=>by rw [qo (fun z=>by subst z;rw [h2] at e;cases e)];exact r.g.hh.lst b u e,fun b u e=>by rw [qo (fun z=>by subst z;rw [h2] at e;cases e)];exact r.g.hh.ext b u e,fun {b} e=>by
   by_cases z:b=p
   ·subst z;exact h2
   ·rw [qo z] at e;exact r.g.hh.free e,fun t=>(r.g.hh.tb t).upd h3,fun b u e=>by rw [qo (fun z=>by subst z;rw [h2] at e;cases e)];exact r.g.hh.dk b u e⟩,fun b u e=>by rw [qo (fun z=>by subst z;rw [h1] at e;cases e)];exact r.g.fh b u e,r.g.nw⟩
 len:=r.len
 fz:=r.fz
 ow:=fun i ds h=>(q4w no h).elim
 dj:=fun i j ds es a _ h=>(q4w no h).elim
 od:=fun i ds h=>(q4x no h).elim
 o1:=fun i j ds es h=>(q4x no h).elim
theorem q66{F H F' H':Hp}{p:Addr}(g:Grow F H F' H')(h1:F p=none){o:HO}(h2:H p=some o): F' p=none:=by
 cases q:F' p with
 | none=>rfl
 | some u=>
  rcases g.nw p (by rw [q];simp) with z|z
  ·exact absurd h1 z
  ·rw [h2] at z;cases z
def qv(b:FB)(c:FT)(f:FE)(ρ : Rho): List D->Option (List D)
 | []=>some []
 | d :: ds=>(b d ρ).bind fun ρ1=>(c ρ1).bind fun t=>if t then(f ρ1).bind fun y=>(qv b c f ρ ds).map fun ys=>y :: ys else qv b c f ρ ds
def zg:FT:=fun _=>some true
def qu(it:FA)(cap:List (Option Nat))(b:FB)(c:FT)(f:FE): FA:=fun ρ =>(it ρ).bind fun ds=>if ds.length<=lim then qv b c f (q02 cap ρ) ds else none
def q96(b:FB)(cap:List (Option Nat)): Prop:=∀ ρ d ρ',b d (q02 cap ρ)=some ρ'->Sub (q02 cap ρ) ρ'/\q2h ρ'
section
variable{X:Cx}
theorem qmn{ifs:List Expr}{t t':TT}(h:q29 X ifs t)(i:∀ σ H Q,t' σ H Q->t σ H Q): q29 X ifs t':=fun pins s σ H Q I q=>h pins s σ H Q I (i σ H Q q)
theorem vn:q29 X [] (tDT X.K zg):=qmn qma fun σ H Q ⟨F0,H0,F, ρ,b,r,hf,q⟩=>by cases hf;exact q F H (.refl r.fh)
theorem y8{c:Expr}{t:FT}(h:PT X c (tDT X.K t)): q29 X [c] (tDT X.K t):=qmb h
theorem qk4{K:Frag}{it:FA}{cap:List (Option Nat)}{b:FB}{c:FT}{f:FE}{σ : St}{H:Hp}{Q:VK}(fr:q96 b cap)(h:tL K (qu it cap b c f) σ H Q): qhy (tDI K it) cap (tDG K b) (tDT K c) (tD K f) σ H Q:=by
 obtain⟨F0,H0,F, ρ,zs,r,hf,q⟩:=h;obtain⟨ds,h1,h2⟩:=gd.mp hf;have hlim:ds.length<=lim:=Decidable.byContradiction fun z=>by rw [mi z] at h2;cases h2
 rw [mh hlim] at h2;refine⟨F0,H0,F, ρ,ds,r,h1,fun J F1 H1 g1 itd p hp=>?_⟩;have rc:=qsz cap (r.grow g1);have hF1:F1 p=none:=g1.fh.free hp;refine⟨fun i m σ H=>m=ds.length-i/\i<=ds.length/\∃F' xs ys us,Same F1 F'/\RS K F1 H1 F' H σ (q02 cap ρ)/\H p=some (.lst xs)/\F' p=none/\RepL K F' ys xs/\qv b c f (q02 cap ρ) (ds.drop i)=some us/\ys++us=zs/\ys.length<=i,
  ⟨ds.length,by simp,uj _,F1,[],[],zs,.refl _,rc.other (yq cap ρ) hF1 hp (.inl hp),qz,hF1,.nil,by simpa using h2,rfl,gv _⟩,?_⟩
 rintro i m σ' H' ⟨rfl,hi,F',xs,ys,us,s1,r1,hl,hn,ry,h3,h4,hyi⟩
 by_cases hlt:i<ds.length
 ·have hd:ds.drop i=ds[i] :: ds.drop (i+1):=t6 hlt
  rw [hd] at h3;obtain⟨ρ1,h5,h3⟩:=gd.mp h3;obtain⟨t,h6,h3⟩:=gd.mp h3;obtain⟨sb,no1⟩:=fr ρ _ _ h5;refine .inr ⟨itd.go i F' H' s1 r1.fh hlt,fun x H'' y=>?_⟩;obtain⟨F2,g2,r2⟩:=itd.yld i ds[i] F' H' x H'' s1 r1.fh (by simp [hlt]) y;refine⟨F1,H1,F2,q02 cap ρ,ds[i], ρ1,r1.grow g2,r2,h5,fun σ2 r3=>⟨F1,H1,F2, ρ1,t,r3,h6,fun F3 H3 g3=>?_⟩⟩;have r4:=r3.grow g3;have hl2:=g2.hh.lst _ _ hl;have hn2:=q66 g2 hn hl;have hl3:=g3.hh.lst _ _ hl2;have hn3:=q66 g3 hn2 hl2;cases t with
  | false=>
   rw [mi m5] at h3;exact qvp ⟨ds.length-(i+1),by omega,rfl,hlt,F3,xs,ys,us,(s1.trans g2.ff).trans g3.ff,r4.weak sb,hl3,hn3,ry.mono (g2.ff.trans g3.ff),h3,h4,Nat.le_succ_of_le hyi⟩
  | true=>
   rw [mh rfl] at h3;obtain⟨yd,h7,h3⟩:=gd.mp h3;obtain⟨us',h8,h9⟩:=mj.mp h3;refine qvq ⟨F1,H1,F3, ρ1,yd,r4,h7,fun v F4 H4 g4 r5=>?_⟩;have hl4:=g4.hh.lst _ _ hl3;have hn4:=q66 g4 hn3 hl3;have ss:Same F' F4:=(g2.ff.trans g3.ff).trans g4.ff;refine⟨xs,hl4,qbc (by have:=ry.length;omega),ds.length-(i+1),by omega,rfl,hlt,F4,xs++[v],ys++[yd],us',(s1.trans ss),?_,qz,hn4,(ry.mono ss).append (.cons r5 .nil),h8,?_,?_⟩
   ·exact((r4.grow g4).weak sb).other (yq cap ρ) hn4 hp (.inr ⟨_,hl4⟩)
   ·rw [mm,List.singleton_append,h9];exact h4
   ·rw [pf,g3k];omega
 ·have e:i=ds.length:=by omega
  subst e;rw [g53] at h3;cases h3;rw [g2j] at h4;subst h4;have gg:Grow F1 H1 F' H':=r1.g;exact .inl ⟨itd.stop _ F' H' s1 r1.fh (gv _),q p xs F' H' (g1.trans gg) hn (g1.hh.free hp) hl ry⟩
variable{N':List Str}{scope:Scope}{cap:List (Option Nat)}{tg iter elt:Expr}{ifs:List Expr}{it:FA}{b:FB}{c:FT}{f:FE}{pos:Pos}
end
theorem qdc{cap:List (Option Nat)}{ρ : Rho}{i:Nat}(h:cap[i]? = some none): (q02 cap ρ)[i]? = some none:=by
 unfold q02;rw [mr,h];rfl
theorem qh3{ρ ρ':Rho}{i:Nat}{b:Option B}(s:Sub ρ ρ')(h : ρ[i]? = some none): Sub ρ (ρ'.set i b):=
 ⟨by rw [g0t];exact s.len,fun j c e=>by
  by_cases q:j=i
  ·subst q;rw [h] at e;cases e
  ·rw [m6 (n9 q)];exact s.sub j c e⟩
theorem qbf{ρ : Rho}{i:Nat}{d:D}(h:q2h ρ): q2h (ρ.set i (some (.fz d))):=fun j ds e=>by
 by_cases q:j=i
 ·subst q
  obtain⟨z,_⟩:=z6 e;cases z;exact⟨d,rfl⟩
 ·rw [m6 (n9 q)] at e;exact h j ds e
theorem Sub.refl(ρ : Rho): Sub ρ ρ :=⟨rfl,fun _ _ h=>h⟩
theorem z0{cap:List (Option Nat)}{i:Nat}(h:cap[i]? = some none): q96 (bN i) cap:=fun ρ d ρ' e=>by
 cases e;exact⟨qh3 (.refl _) (qdc h),qbf (yq cap ρ)⟩
def q97(bs:FBs)(cap:List (Option Nat)): Prop:=∀ ρ ds ρ1 ρ',Sub (q02 cap ρ) ρ1->q2h ρ1->bs ds ρ1=some ρ'->Sub (q02 cap ρ) ρ'/\q2h ρ'
theorem q98{cap:List (Option Nat)}: q97 q0y cap:=fun ρ ds ρ1 ρ' s n e=>by
 unfold q0y at e
 split at e
 ·cases e;exact⟨s,n⟩
 ·cases e
theorem q1x{cap:List (Option Nat)}{i:Nat}{bs:FBs}(h:cap[i]? = some none)(t:q97 bs cap): q97 (xi (bN i) bs) cap:=fun ρ ds ρ1 ρ' s n e=>by
 cases ds with
 | nil=>cases e
 | cons d ds=>exact t ρ ds _ ρ' (qh3 s (qdc h)) (qbf n) e
theorem qbg{cap:List (Option Nat)}{n:Nat}{bs:FBs}(t:q97 bs cap): q96 (q0z n bs) cap:=fun ρ d ρ' e=>by
 cases d <;> simp only [q0z] at e <;> first|(cases e;done)|skip
 split at e
 ·exact t ρ _ _ ρ' (.refl _) (yq cap ρ) e
 ·cases e
section
variable{X:Cx}{e:Expr}{es:List Expr}{pos:Pos}{f g:FE}{fa:FA}
inductive Ty where
 | int|bool|tuple|list|str|dict
def Ty.name:Ty->String
 | .int=>"int" | .bool=>"bool" | .tuple=>"tuple" | .list=>"list" | .str=>"str" | .dict=>"dict"
def zh:Ty->D->Bool
 | .int,.int _=>true
 | .int,.bl _=>true
 | .bool,.bl _=>true
 | .tuple,.tup _=>true
 | .list,.lst _=>true
 | .str,.str _=>true
 | .dict,.dct _ _=>true
 | .dict,.dtt _ _=>true
 | _,_=>false
theorem qmo{prog:Program}{w:World}{A:Around}{E:Value->Shared->Prop}{s:Shared}{Q:Value->Shared->Prop}{K:Frag}{T:String}{b:Bool}(hk:K.In s.heap)(h:∀tk,Q (.bool b) {s with toks:=tk})(hT:PySem.W.kitOne K (.type "NoneType") (.type T)=some b):
  wpAny (model prog w) A (call (.builtin "isinstance") [.none,.type T]) Q E s:=g5g PySem.W.kitx_none hk True.intro hT (fun z=>nomatch z) h
theorem qmp(T:Ty): xp X (.builtin "isinstance") (fun xs H Q=>∃x F d,xs=[x,.ty T.name]/\Same F H/\Rep X.K F d x/\Q (.bl (zh T d)) H):=by
 intro pins s σ H xs us Q I r h;obtain⟨x,F,d,rfl,fh,rd,q⟩:=h;obtain⟨u,w',rfl,rx,rt⟩:=r.two;obtain rfl:w'=Value.type T.name:=rt;have fin:∀ {b:Bool},Q (.bl b) H->EP X pins σ Q (.bool b) s:=fun q=>⟨.bl _,H,I,rfl,q⟩
 have fin1:∀ {b:Bool},Q (.bl b) H->EP X pins σ Q (.bool b) {s with toks:=s.toks+1}:=fun q=>⟨.bl _,H,I.tok _,rfl,q⟩
 cases d with
 | non=>
  cases rep_non.mp rd;cases rx;cases T <;> exact qmo I.kIn (fun tk=>⟨.bl _,H,I.tok _,rfl,q⟩) (by rfl)
 | bl b=>
  cases rep_bl.mp rd;cases rx;cases T
  ·exact IsiPair.bool_int (fin q)
  ·exact IsiPair.bool_bool (fin q)
  ·exact IsiPair.bool_tuple (fin1 q)
  ·exact IsiPair.bool_list (fin1 q)
  ·exact IsiPair.bool_str (fin1 q)
  ·exact IsiPair.bool_dict (fin1 q)
 | int i=>
  cases rep_int.mp rd;obtain⟨t,rfl⟩:=rx;cases T
  ·exact IsiPair.int_int (fin q)
  ·exact IsiPair.int_bool (fin1 q)
  ·exact IsiPair.int_tuple (fin1 q)
  ·exact IsiPair.int_list (fin1 q)
  ·exact IsiPair.int_str (fin1 q)
  ·exact IsiPair.int_dict (fin1 q)
 | str z=>
  cases rep_str.mp rd;obtain⟨t,rfl⟩:=rx;cases T
  ·exact IsiPair.str_int (fin1 q)
  ·exact IsiPair.str_bool (fin1 q)
  ·exact IsiPair.str_tuple (fin1 q)
  ·exact IsiPair.str_list (fin1 q)
  ·exact IsiPair.str_str (fin q)
  ·exact IsiPair.str_dict (fin1 q)
 | tup ds=>
  obtain⟨a,ys,rfl,h1,h2⟩:=rep_tup.mp rd;cases rx;obtain⟨its,_,⟨o,ho,hc,_⟩,_⟩:=I.tuple (ql fh h1);cases T
  ·exact IsiPair.tuple_int ho hc (fin1 q)
  ·exact IsiPair.tuple_bool ho hc (fin1 q)
  ·exact IsiPair.tuple_tuple ho hc (fin q)
  ·exact IsiPair.tuple_list ho hc (fin1 q)
  ·exact IsiPair.tuple_str ho hc (fin1 q)
  ·exact IsiPair.tuple_dict ho hc (fin1 q)
 | lst ds=>
  obtain⟨a,ys,rfl,h1,h2⟩:=rep_lst.mp rd;cases rx;obtain⟨its,_,⟨o,n,ho,hc,_⟩,_⟩:=I.list (fh.seq h1);cases T
  ·exact IsiPair.list_int ho hc (fin1 q)
  ·exact IsiPair.list_bool ho hc (fin1 q)
  ·exact IsiPair.list_tuple ho hc (fin1 q)
  ·exact IsiPair.list_list ho hc (fin q)
  ·exact IsiPair.list_str ho hc (fin1 q)
  ·exact IsiPair.list_dict ho hc (fin1 q)
 | dct ks vs=>
  obtain⟨a,ys,rfl,h1,h2,h3⟩:=rep_dct.mp rd;cases rx;obtain⟨_,_,vs',_,o,es',ep,ho,hc,_⟩:=(show ObjOk X.prog X.w H s.heap a _ from I.hok a _ (fh _ _ h1))
  cases T
  ·exact IsiPair.dict_int ho hc.1 (fin1 q)
  ·exact IsiPair.dict_bool ho hc.1 (fin1 q)
  ·exact IsiPair.dict_tuple ho hc.1 (fin1 q)
  ·exact IsiPair.dict_list ho hc.1 (fin1 q)
  ·exact IsiPair.dict_str ho hc.1 (fin1 q)
  ·exact IsiPair.dict_dict ho hc.1 (fin q)
 | dtt ks vs=>
  obtain⟨a,xs',ys,ep,rfl,h1,_⟩:=rep_dtt.mp rd;cases rx;obtain⟨⟨o,es',ho,hc,_⟩,_,_⟩:=(show ObjOk X.prog X.w H s.heap a _ from I.hok a _ (fh _ _ h1))
  cases T
  ·exact IsiPair.dict_int ho hc.1 (fin1 q)
  ·exact IsiPair.dict_bool ho hc.1 (fin1 q)
  ·exact IsiPair.dict_tuple ho hc.1 (fin1 q)
  ·exact IsiPair.dict_list ho hc.1 (fin1 q)
  ·exact IsiPair.dict_str ho hc.1 (fin1 q)
  ·exact IsiPair.dict_dict ho hc.1 (fin q)
 | obj x=>
  obtain⟨a,dx,C,rfl,h1,_,c1,c2,c3,c4,c5,c6,c7⟩:=rep_obj.mp rd;cases rx;obtain⟨mA,O,_⟩:=qgu I.hok (fh _ _ h1);obtain⟨od,J,_⟩:=O.look;cases T <;> exact g5g (PySem.W.kitx_own c1 c2 c3 c4 c5 c6) I.kIn J (c7 _ (by decide)) (fun z=>nomatch z) (fun tk=>⟨.bl _,H,I.tok _,rfl,q⟩)
 | exc x=>
  obtain⟨a,C,rfl,h1,_,c1,c2⟩:=rep_exc.mp rd;cases rx;obtain⟨J,_,_⟩:=(show ObjOk X.prog X.w H s.heap a _ from I.hok a _ (fh _ _ h1))
  cases T <;> exact g5g (qmh c1) I.kIn J (c2 _ (by decide)) (fun z=>nomatch z) (fun tk=>⟨.bl _,H,I.tok _,rfl,q⟩)
def q4y(T:Ty)(f:FE): FE:=fun ρ =>(f ρ).map fun d=>.bl (zh T d)
theorem qmq:bootBuiltins "isinstance" = some (.builtin "isinstance"):=by decide +kernel
theorem q31{x:Str}{p px:Pos}(T:Ty)(hg:Gl X "isinstance")(hm:X.mg "isinstance" = none)(hgT:Gl X x)(hmT:X.mg x=none)(hvT:bootBuiltins x=some (.type T.name))(ha:PE X e (tD X.K f))
  (hnT:x≠"__name__" :=by decide) (hdT:(x==("__debug__" : Str))=false:=by decide) (he2:starEach [e,.Name x px] X.env=(false,eval e X.env) :: starEach [.Name x px] X.env:=by rfl) :
  PE X (.Call (.Name "isinstance" p) [e,.Name x px] [] pos) (tD X.K (q4y T f)):=
 jk (q80 (qmp T) hg hm qmq (q0l ha (q0l (qpa (v:=.ty T.name) hgT hmT hvT rfl hnT hdT) q2u) he2) (by decide) (by decide) he2 rfl) fun σ H Q ⟨F0,H0,F, ρ,d,r,hf,q⟩=>by
  obtain⟨d',h1,h2⟩:=mj.mp hf;subst h2;exact⟨F0,H0,F, ρ,d',r,h1,fun v F' H' g' r'=>⟨v,F',d',rfl,g'.fh,r',q _ F' H' g' (rep_bl.mpr rfl)⟩⟩
def yx:List D->Option (List Int)
 | []=>some []
 | .int i :: r=>(yx r).map fun is=>i :: is
 | _ :: _=>none
def q32:List D->Option (List Bool)
 | []=>some []
 | .bl i :: r=>(q32 r).map fun is=>i :: is
 | _ :: _=>none
theorem q99:∀ {ds:List D} {ns:List Int},yx ds=some ns->ds=ns.map D.int
 | [],ns,h=>by cases h;rfl
 | d :: r,ns,h=>by
  cases d <;> simp only [yx] at h <;> first|(cases h;done)|skip
  obtain⟨is,h1,h2⟩:=mj.mp h;subst h2;rw [q99 h1];rfl
omit [Lam] in
theorem q21:∀(ns:List Int),yx (ns.map D.int)=some ns
 | []=>rfl
 | n :: r=>by simp only [gf,yx,q21 r,p6]
theorem q3w:∀ {ds:List D} {bs:List Bool},q32 ds=some bs->ds=bs.map D.bl
 | [],ns,h=>by cases h;rfl
 | d :: r,ns,h=>by
  cases d <;> simp only [q32] at h <;> first|(cases h;done)|skip
  obtain⟨is,h1,h2⟩:=mj.mp h;subst h2;rw [q3w h1];rfl
omit [Lam] in
theorem q4z:∀(ns:List Bool),q32 (ns.map D.bl)=some ns
 | []=>rfl
 | n :: r=>by simp only [gf,q32,q4z r,p6]
theorem RepL.bools{K:Frag}{H:Hp}: ∀ {bs:List Bool} {xs:List V},RepL K H (bs.map D.bl) xs->xs=bs.map V.bl
 | [],xs,h=>h.nil_inv
 | b :: bs,xs,h=>by
  obtain⟨x,r,rfl,h1,h2⟩:=h.cons_inv;rw [rep_bl.mp h1,RepL.bools h2];rfl
def o1L(z:List D->Option D): List D->Option D
 | [.lst ds]=>z ds
 | _=>none
theorem q84{z:List D->Option D}{es:List D}{d:D}(h:o1L z es=some d): ∃ds,es=[.lst ds]/\z ds=some d:=by
 unfold o1L at h
 split at h
 ·exact⟨_,rfl,h⟩
 ·cases h
theorem rep1{K:Frag}{F:Hp}{d:D}{xs:List V}(h:RepL K F [d] xs): ∃x,xs=[x]/\Rep K F d x:=by
 obtain⟨x,r,rfl,h1,h2⟩:=h.cons_inv;cases h2.nil_inv;exact⟨x,rfl,h1⟩
abbrev qdd:List D->Option D:=o1L fun ds=>(yx ds).map fun ns=>.int ns.sum
abbrev qac:List D->Option D:=o1L fun ds=>(q32 ds).map fun bs=>.bl (bs.all id)
abbrev qde:List D->Option D:=o1L fun ds=>(q32 ds).map fun bs=>.bl (bs.any id)
theorem qk5(hc:X.calm=true): xp X (.builtin "sum") (rC X.K qdd):=by
 intro pins s σ H xs us Q I r h;obtain⟨F,ds,d,fh,rl,ho,q⟩:=h;obtain⟨es,rfl,h1⟩:=q84 ho;obtain⟨ns,h2,h3⟩:=mj.mp h1;subst h3;cases q99 h2;obtain⟨x,rfl,rx⟩:=rep1 rl;obtain⟨u,rfl,ru⟩:=r.one;obtain⟨a,ys,rfl,k1,k2⟩:=rep_lst.mp rx;cases ru;cases RepL.ints.mp k2;obtain⟨its,rv,pl,_⟩:=I.list (fh.seq k1);have hi:=intsAre_of rv;obtain⟨zs,hz⟩:=hi.allInts.items;have hl:s.heap.IsList a (intItems zs):=hz ▸ pl.isList;refine sum_intListG (I.ok.hd hc) hl fun h' tk t' hk=>?_;have e1:ns=zs.toList.map (·.1):=by
  rw [<- nums_intItems, <- hz];exact(show numsOf its.toArray.toList=ns from hi.numsOf).symm
 have e2:preSum (numAt zs) zs.size=ns.sum:=by
  rw [preSum_eq,g03 (by simp),e1]
 rw [e2];exact⟨.int ns.sum,H,I.kept hk,⟨_,rfl⟩,q _ F H (.refl fh) (rep_int.mpr rfl)⟩
theorem q50:∀ {bs:List Bool} {us:List Value},Vals (bs.map V.bl) us->us=bs.map Value.bool
 | [],us,h=>by cases h;rfl
 | b :: bs,us,h=>by
  rw [gf] at h;cases h with
  | cons r t=>
   cases(show _=Value.bool b from r);rw [q50 t];rfl
theorem qt0(hc:X.calm=true): xp X (.builtin "all") (rC X.K qac):=by
 intro pins s σ H xs us Q I r h;obtain⟨F,ds,d,fh,rl,ho,q⟩:=h;obtain⟨es,rfl,h1⟩:=q84 ho;obtain⟨bs,h2,h3⟩:=mj.mp h1;subst h3;cases q3w h2;obtain⟨x,rfl,rx⟩:=rep1 rl;obtain⟨u,rfl,ru⟩:=r.one;obtain⟨a,ys,rfl,k1,k2⟩:=rep_lst.mp rx;cases ru;cases k2.bools;obtain⟨its,rv,pl,_⟩:=I.list (fh.seq k1);cases q50 rv;have hlt:a<s.heap.objs.size:=by obtain⟨_,e,_⟩:=pl.isList;exact gz e
 refine call_all_walk (g21 pl.isList ?_);refine⟨s.heap.objs.size,[s.heap.objs.size,a],[s.heap.objs.size],(bs.map Value.bool).toArray.size,_,_,fun i=>(bs[i]?).getD true,rfl,Walks.list (A:=X.A.in1) (I.ok.hd hc) _ a (m9 hlt) (bs.map Value.bool).toArray,
  ⟨⟨_,gj _ rfl,rfl,rfl⟩,pl.isList.push _⟩,fun i v s' Q' E' hP hQ=>?_,fun h' tk hk=>?_⟩
 ·have hP':(bs.map Value.bool)[i]? = some v:=by simpa using hP
  rw [mr] at hP';cases z:bs[i]? with
  | none=>rw [z] at hP';cases hP'
  | some b=>
   rw [z] at hP';cases hP';simp only [z,Option.getD_some] at hQ;exact g1h hQ
 ·have e:((List.range (bs.map Value.bool).toArray.size).all fun i=>(bs[i]?).getD true)=bs.all id:=by
   rw [gm,mn];exact LSm.range_all bs
  rw [e];exact⟨.bl _,H,I.kept (LSm.kept_iter hk),rfl,q _ F H (.refl fh) (rep_bl.mpr rfl)⟩
theorem qk6(hc:X.calm=true): xp X (.builtin "any") (rC X.K qde):=by
 intro pins s σ H xs us Q I r h;obtain⟨F,ds,d,fh,rl,ho,q⟩:=h;obtain⟨es,rfl,h1⟩:=q84 ho;obtain⟨bs,h2,h3⟩:=mj.mp h1;subst h3;cases q3w h2;obtain⟨x,rfl,rx⟩:=rep1 rl;obtain⟨u,rfl,ru⟩:=r.one;obtain⟨a,ys,rfl,k1,k2⟩:=rep_lst.mp rx;cases ru;cases k2.bools;obtain⟨its,rv,pl,_⟩:=I.list (fh.seq k1);cases q50 rv;have hlt:a<s.heap.objs.size:=by obtain⟨_,e,_⟩:=pl.isList;exact gz e
 refine call_any_walk (g21 pl.isList ?_);refine⟨s.heap.objs.size,[s.heap.objs.size,a],[s.heap.objs.size],(bs.map Value.bool).toArray.size,_,_,fun i=>(bs[i]?).getD false,rfl,Walks.list (A:=X.A.in1) (I.ok.hd hc) _ a (m9 hlt) (bs.map Value.bool).toArray,
  ⟨⟨_,gj _ rfl,rfl,rfl⟩,pl.isList.push _⟩,fun i v s' Q' E' hP hQ=>?_,fun h' tk hk=>?_⟩
 ·have hP':(bs.map Value.bool)[i]? = some v:=by simpa using hP
  rw [mr] at hP';cases z:bs[i]? with
  | none=>rw [z] at hP';cases hP'
  | some b=>
   rw [z] at hP';cases hP';simp only [z,Option.getD_some] at hQ;exact g1h hQ
 ·have e:((List.range (bs.map Value.bool).toArray.size).any fun i=>(bs[i]?).getD false)=bs.any id:=by
   rw [gm,mn];exact LSm.range_any bs
  rw [e];exact⟨.bl _,H,I.kept (LSm.kept_iter hk),rfl,q _ F H (.refl fh) (rep_bl.mpr rfl)⟩
theorem boot_sum:bootBuiltins "sum" = some (.builtin "sum"):=by decide +kernel
theorem boot_all:bootBuiltins "all" = some (.builtin "all"):=by decide +kernel
theorem boot_any:bootBuiltins "any" = some (.builtin "any"):=by decide +kernel
theorem boot_max:bootBuiltins "max" = some (.builtin "max"):=by decide +kernel
theorem j3:bootBuiltins "len" = some (.builtin "len"):=by decide +kernel
theorem boot_tuple:bootBuiltins "tuple" = some (.type "tuple"):=by decide +kernel
theorem boot_list:bootBuiltins "list" = some (.type "list"):=by decide +kernel
theorem boot_int:bootBuiltins "int" = some (.type "int"):=by decide +kernel
theorem boot_bool:bootBuiltins "bool" = some (.type "bool"):=by decide +kernel
theorem boot_dict:bootBuiltins "dict" = some (.type "dict"):=by decide +kernel
def o2I(z:Int->Int->Int): List D->Option D
 | [.int i,.int j]=>some (.int (z i j))
 | _=>none
theorem qmr{z:Int->Int->Int}{es:List D}{d:D}(h:o2I z es=some d): ∃i j,es=[.int i,.int j]/\d=.int (z i j):=by
 unfold o2I at h
 split at h
 ·cases h;exact⟨_,_,rfl,rfl⟩
 ·cases h
theorem quv{K:Frag}{F:Hp}{i j:Int}{xs:List V}(h:RepL K F [.int i,.int j] xs): xs=[.int i,.int j]:=RepL.ints (ns:=[i,j]).mp h
abbrev oMax:=o2I fun i j=>if j>i then j else i
theorem qt1(hc:X.calm=true): xp X (.builtin "max") (rC X.K oMax):=q63 (qjg hc) fun xs H Q ⟨F,ds,d,fh,rl,ho,q⟩=>by
 obtain⟨i,j,rfl,rfl⟩:=qmr ho;exact⟨i,j,quv rl,q _ F H (.refl fh) (rep_int.mpr rfl)⟩
def vp:List D->Option D
 | [.tup ds]=>some (.int ds.length)
 | [.lst ds]=>some (.int ds.length)
 | [.str x]=>if x.length<=lim then some (.int x.length) else none
 | _=>none
theorem xw:xp X (.builtin "len") (rC X.K vp):=q63 qm5 fun xs H Q ⟨F,ds,d,fh,rl,ho,q⟩=>by
 unfold vp at ho
 split at ho
 ·cases ho
  obtain⟨x,rfl,rx⟩:=rep1 rl;obtain⟨a,ys,rfl,k1,k2⟩:=rep_tup.mp rx;exact⟨_,ys.length,rfl,.inr ⟨ys,ql fh k1,rfl⟩,by rw [<- k2.length];exact q _ F H (.refl fh) (rep_int.mpr rfl)⟩
 ·cases ho
  obtain⟨x,rfl,rx⟩:=rep1 rl;obtain⟨a,ys,rfl,k1,k2⟩:=rep_lst.mp rx;exact⟨_,ys.length,rfl,.inl ⟨ys,fh.seq k1,rfl⟩,by rw [<- k2.length];exact q _ F H (.refl fh) (rep_int.mpr rfl)⟩
 ·split at ho
  ·rename_i z
   cases ho;obtain⟨x,rfl,rx⟩:=rep1 rl;cases rep_str.mp rx;exact⟨_,_,rfl,⟨xa z,rfl⟩,q _ F H (.refl fh) (rep_int.mpr rfl)⟩
  ·cases ho
 ·cases ho
def ju:List D->Option D
 | [.tup ds]=>some (.tup ds)
 | [.lst ds]=>some (.tup ds)
 | _=>none
theorem ji:xp X (.type "tuple") (rC X.K ju):=q63 qcf fun xs H Q ⟨F,ds,d,fh,rl,ho,q⟩=>by
 unfold ju at ho
 split at ho
 ·cases ho
  obtain⟨x,rfl,rx⟩:=rep1 rl;obtain⟨a,ys,rfl,k1,k2⟩:=rep_tup.mp rx;exact⟨a,ys,rfl,.inr ⟨ql fh k1,q _ F H (.refl fh) rx⟩⟩
 ·cases ho
  obtain⟨x,rfl,rx⟩:=rep1 rl;obtain⟨a,ys,rfl,k1,k2⟩:=rep_lst.mp rx;refine⟨a,ys,rfl,.inl ⟨fh.seq k1,fun l hl=>?_⟩⟩;have gn:Grow F H (upd F l (.tup ys)) (upd H l (.tup ys)):=Grow.new fh hl;exact q _ _ _ gn (rep_tup.mpr ⟨l,ys,rfl,SqT.of qz,k2.mono gn.ff⟩)
 ·cases ho
def q9a(op:List D->Option (List D))(fa:FA): FA:=fun ρ =>(fa ρ).bind op
def qoz:List D->Option (List D)
 | [.tup ds]=>some ds
 | [.lst ds]=>some ds
 | _=>none
theorem qh4{K:Frag}{H:Hp}{ds:List D}{xs:List V}{i:Int}{d:D}(h:RepL K H ds xs)(e:atI ds i=some d): ∃x,atI xs i=some x/\Rep K H d x:=by
 unfold atI at e ⊢;rw [<- h.length];cases q:ixN ds.length i with
 | none=>rw [q] at e;cases e
 | some j=>
  rw [q] at e;exact h.get e
def oIx:D->D->Option D
 | .tup ds,.int i=>atI ds i
 | .lst ds,.int i=>atI ds i
 | _,_=>none
theorem jq{a b:Expr}(ha:PE X a (tD X.K f))(hb:PE X b (tD X.K g))(hs:qgw b:=by intro _ _;rfl): PE X (.Subscript a b pos) (tD X.K (eOp oIx f g)):=jk (qun qsk ha hb hs) fun σ H Q h=>by
 have h':=two h;obtain⟨F0,H0,F, ρ,d,r,hf,q⟩:=h';refine⟨F0,H0,F, ρ,d,r,hf,fun v F1 H1 g1 r1=>?_⟩;obtain⟨F0',H0',F', ρ',d',r',hf',q'⟩:=q v F1 H1 g1 r1;refine⟨F0',H0',F', ρ',d',r',hf',fun v2 F2 H2 g2 r2=>?_⟩;obtain⟨F3,d1,d2,d3,fh,k1,k2,k3,k4⟩:=q' v2 F2 H2 g2 r2;unfold oIx at k3
 split at k3
 ·obtain⟨p,ys,rfl,z1,z2⟩:=rep_tup.mp k1
  obtain⟨y,z3,z4⟩:=qh4 z2 k3;exact .inr (.inl ⟨p,ys,_,y,rfl,rep_int.mp k2,ql fh z1,z3,k4 y F3 H2 (.refl fh) z4⟩)
 ·obtain⟨p,ys,rfl,z1,z2⟩:=rep_lst.mp k1
  obtain⟨y,z3,z4⟩:=qh4 z2 k3;exact .inl ⟨p,ys,_,y,rfl,rep_int.mp k2,fh.seq z1,z3,k4 y F3 H2 (.refl fh) z4⟩
 ·cases k3
def oBits:D->Option D
 | .int i=>some (.int (Builtin.Int.intBits i))
 | _=>none
def eUn(o:D->Option D)(f:FE): FE:=fun ρ =>(f ρ).bind o
theorem qpu:MtR X "int.bit_length" (fun x xs H Q=>∃i,x=.int i/\xs=[]/\Q (.int (Builtin.Int.intBits i)) H):=by
 intro pins s σ H x xs v us Q I rx rv h;obtain⟨i,rfl,rfl,q⟩:=h;obtain⟨t,rfl⟩:=rx;cases rv;exact call_int_bit_length ⟨.int _,H,I.tok _,⟨_,rfl⟩,q⟩
theorem qpv{o:Expr}{apos cpos:Pos}(ho:PE X o (tD X.K f))(hbase:attributeBase o "bit_length" X.env (eval o X.env)=eval o X.env:=by rfl)(hline:(apos.endLine==cpos.line)=true:=by rfl):
  PE X (.Call (.Attribute o "bit_length" apos) [] [] cpos) (tD X.K (eUn oBits f)):=jk (qsl PySem.F.plainAttrs_int PySem.F.slot_int_bit_length PySem.F.type_int_bit_length qpu ho hbase hline) fun σ H Q ⟨F0,H0,F, ρ,d,r,hf,q⟩=>by
 obtain⟨d',h1,h2⟩:=gd.mp hf;refine⟨F0,H0,F, ρ,d',r,h1,fun v F1 H1 g1 r1=>?_⟩;cases d' <;> simp only [oBits] at h2 <;> first|(cases h2;done)|skip
 cases h2;cases rep_int.mp r1;exact⟨rfl,_,rfl,rfl,q _ F1 H1 g1 (rep_int.mpr rfl)⟩
end
section
variable{prog:Program}{w:World}{A:Around}{E:Value->Shared->Prop}{s:Shared}
theorem qcg{t sl:Addr}{items:Array Value}{vl vu:Value}{lo hi:Option Int}{Q:Value->Shared->Prop}(ht:IsTup s.heap t items)(hs:s.heap.IsSliceOf sl vl vu .none)
  (pl:IsPart vl lo) (pu:IsPart vu hi) (w1:HT.sIx items.size 0 lo=0) (w2:HT.sIx items.size items.size hi=items.size) (h:Q (.ref t) s) :
  wpAny (model prog w) A (getItem (.ref t) (.ref sl)) Q E s:=by
 obtain⟨os,hos,hcs,hds⟩:=id hs;have hTs:s.TypeIs (.ref sl) "slice" :=⟨os,hos,hcs⟩
 unfold getItem
 try with_reducible refine t7 ?_
 first|refine g0 (g9 ?_)|skip
 refine g0 (wpAny_sequenceKey ht.typeIs (by decide) (g0 (tm (name:=Str.ofString "__getitem__") ht.typeIs uy
  (p9 uy ht.typeIs entry_tuple_getitem ?_ (args_tuple_getitem _ _)))))
 show wpAny _ _ (Builtin.Tuple.tupleItemsOf (.ref t) >>= _) _ _ s;refine g0 (tupleItemsOf_ ht (g0 (g0r hTs ?_)));rw [mh (by decide)];refine g0 (HT.sliceApplied_gen hs pl pu ?_);rw [w1,w2];show wpAny _ _ (if(((0:Nat):Int)==0&&(1:Int)==1&&(items.size-0)==items.size)=true then _ else _) _ _ s;rw [mh (by simp)];refine g0 ?_;unfold Builtin.Tuple.tupleIsExact;refine g0 (g0r ht.typeIs (g9 ?_))
 first
  | rw [mh (by decide)]
  | skip
 first
  | exact g0 (g01 (g0 (g9 (g9 ⟨_,rfl,g9 h⟩))))
  | exact g0 (g01 (g9 ⟨_,rfl,g9 h⟩))
  | exact g0 (g0 (g01 (g9 (g9 ⟨_,rfl,g9 h⟩))))
end
section
variable{X:Cx}{e:Expr}{es:List Expr}{pos:Pos}{f g:FE}{fa:FA}
def qvu(K:Frag): V->Option Int->Option Int->Hp->VK->Prop:=fun x lo hi H Q=>∃a xs,x=.ref a/\SqT K H a xs/\HT.sIx xs.length 0 lo=0/\HT.sIx xs.length xs.length hi=xs.length/\Q (.ref a) H
theorem qms:SlR X (qvu X.K):=by
 intro pins s σ H x v vl vu lo hi sl Q I rx hs pl pu h;obtain⟨a,xs,rfl,hx,w1,w2,q⟩:=h;cases rx;obtain⟨its,r,ht,hz⟩:=I.tuple hx;have hlen:its.toArray.size=xs.length:=by rw [gm];exact r.length.symm
 exact⟨"tuple",_,uy.lookup,ht.typeIs,qcg ht hs pl pu (by rw [hlen];exact w1) (by rw [hlen];exact w2) ⟨.ref a,H,I,rfl,q⟩⟩
def cutD(ds:List D)(lo hi:Option Int): List D:=(ds.drop (HT.sIx ds.length 0 lo)).take (HT.sIx ds.length ds.length hi-HT.sIx ds.length 0 lo)
def oSl:D->Option Int->Option Int->Option D
 | .tup ds,lo,hi=>some (.tup (cutD ds lo hi))
 | .lst ds,lo,hi=>some (.lst (cutD ds lo hi))
 | _,_,_=>none
abbrev FO:=Rho->Option (Option Int)
def oNo:FO:=fun _=>some none
def oAt(f:FE): FO:=fun ρ =>(f ρ).bind fun d=>match d with
 | .int i=>some (some i)
 | _=>none
def tDO(K:Frag)(f:FO): TO:=fun σ H Q=>∃F0 H0 F ρ i,RS K F0 H0 F H σ ρ /\ f ρ = some i/\∀F' H',Grow F H F' H'->Q i H'
theorem qk7{o:Option Expr}{t t':TO}(h:PO X o t)(i:∀ σ H Q,t' σ H Q->t σ H Q): PO X o t':=fun pins s σ H Q I q=>h pins s σ H Q I (i σ H Q q)
theorem qdf:PO X none (tDO X.K oNo):=qk7 qpl fun σ H Q ⟨F0,H0,F, ρ,i,r,hf,q⟩=>by cases hf;exact q F H (.refl r.fh)
theorem q51(h:PE X e (tD X.K f)): PO X (some e) (tDO X.K (oAt f)):=qk7 (qpm h) fun σ H Q ⟨F0,H0,F, ρ,i,r,hf,q⟩=>by
 obtain⟨d,h1,h2⟩:=gd.mp hf;cases d <;> simp only at h2 <;> first|(cases h2;done)|skip
 cases h2;exact⟨F0,H0,F, ρ,_,r,h1,fun v F' H' g' r'=>⟨_,rep_int.mp r',q F' H' g'⟩⟩
def eSl(f:FE)(lo hi:FO): FE:=fun ρ =>(f ρ).bind fun d=>(lo ρ).bind fun l=>(hi ρ).bind fun h=>oSl d l h
theorem q85{a:Expr}{lo hi:Option Expr}{fl fh:FO}{p2:Pos}(ha:PE X a (tD X.K f))(hl:PO X lo (tDO X.K fl))(hh:PO X hi (tDO X.K fh)): PE X (.Subscript a (.Slice lo hi none p2) pos) (tD X.K (eSl f fl fh)):=
 jk (qm8 (sl_list.or (sl_tup.or qms)) ha hl hh) fun σ H Q ⟨F0,H0,F, ρ,d,r,hf,q⟩=>by
  obtain⟨x,h1,hf⟩:=gd.mp hf;obtain⟨l,h2,hf⟩:=gd.mp hf;obtain⟨u,h3,h4⟩:=gd.mp hf;refine⟨F0,H0,F, ρ,x,r,h1,fun v F1 H1 g1 r1=>⟨F0,H0,F1, ρ,l,r.grow g1,h2,fun F2 H2 g2=>⟨F0,H0,F2, ρ,u,(r.grow g1).grow g2,h3,fun F3 H3 g3=>?_⟩⟩⟩;have gg:=g1.trans (g2.trans g3);have r3:Rep X.K F3 x v:=r1.mono (g2.ff.trans g3.ff);cases x with
  | tup ds=>
   cases h4;obtain⟨p,xs,rfl,k1,k2⟩:=rep_tup.mp r3;have hlen:=k2.length
   by_cases wh:HT.sIx xs.length 0 l=0/\HT.sIx xs.length xs.length u=xs.length
   ·refine .inr (.inr ⟨p,xs,rfl,ql g3.fh k1,wh.1,wh.2,q _ F3 H3 gg ?_⟩)
    have e:cutD ds l u=ds:=by
     unfold cutD;rw [hlen,wh.1,wh.2,g44,Nat.sub_zero, <- hlen,g54]
    rw [e];exact r3
   ·refine .inr (.inl ⟨p,xs,rfl,ql g3.fh k1,wh,fun p' hp=>?_⟩)
    have gn:Grow F3 H3 (upd F3 p' (.tup (q28 xs l u))) (upd H3 p' (.tup (q28 xs l u))):=Grow.new g3.fh hp;refine q _ _ _ (gg.trans gn) (rep_tup.mpr ⟨p',_,rfl,SqT.of qz,?_⟩);unfold cutD q28;rw [hlen];exact((k2.mono gn.ff).drop _).take _
  | lst ds=>
   cases h4;obtain⟨p,xs,rfl,k1,k2⟩:=rep_lst.mp r3;have hlen:=k2.length;refine .inl ⟨p,xs,rfl,g3.fh.seq k1,fun p' hp=>?_⟩;have gn:Grow F3 H3 (upd F3 p' (.lst (q28 xs l u))) (upd H3 p' (.lst (q28 xs l u))):=Grow.new g3.fh hp;refine q _ _ _ (gg.trans gn) (rep_lst.mpr ⟨p',_,rfl,SqL.of qz,?_⟩);unfold cutD q28;rw [hlen];exact((k2.mono gn.ff).drop _).take _
  | _=>cases h4
def qdg:D->D->Option D
 | .tup xs,.tup ys=>if xs.length+ys.length<=lim then some (.tup (xs++ys)) else none
 | .lst xs,.lst ys=>if xs.length+ys.length<=lim then some (.lst (xs++ys)) else none
 | _,_=>none
theorem qt2:OpR X (binaryOp .Add) (rD X.K qdg):=by
 intro pins s σ H x y v u Q I rx ry h;obtain⟨F,d1,d2,d,fh,r1,r2,ho,q⟩:=h;unfold qdg at ho
 split at ho
 ·rename_i ds es
  split at ho
  ·rename_i hl
   cases ho;obtain⟨a,xs,rfl,k1,k2⟩:=rep_tup.mp r1;obtain⟨b,ys,rfl,k3,k4⟩:=rep_tup.mp r2
   by_cases hd:ds=[]
   ·subst hd
    cases k2.nil_inv;cases rx;cases ry;obtain⟨i1,v1,⟨⟨c1,dd1,dt1,sl1⟩,o1,e1,n1,t1⟩,_⟩:=I.tuple (ql fh k1);obtain⟨i2,v2,⟨⟨c2,dd2,dt2,sl2⟩,o2,e2,n2,t2⟩,_⟩:=I.tuple (ql fh k3);simp only at e1 t1 e2 t2;subst e1 t1 e2 t2;cases v1;exact g51 ⟨_,o1,rfl⟩ ⟨_,o2,rfl⟩ g52 seq_tuple_add g3d g35 (g2r _ _)
     (tuple_addW0 a b #[] i2.toArray n1 n2 dd1 dd2 sl1 sl2 rfl) ⟨o1,o2,⟨.ref b,H,I,rfl,q _ F H (.refl fh) (by simpa using r2)⟩⟩
   ·refine qpn pins s σ H _ _ v u Q I rx ry ⟨a,b,xs,ys,rfl,rfl,ql fh k1,ql fh k3,fun z=>hd ?_,xa (by rw [<- k2.length, <- k4.length];exact hl),fun z=>?_,fun z p hp=>?_⟩
    ·have:=k2.length;rw [z] at this;exact g40 this
    ·have e:es=[]:=by have:=k4.length;rw [z] at this;exact g40 this
     subst e;rw [g2j] at q;exact q _ F H (.refl fh) r1
    ·have gn:Grow F H (upd F p (.tup (xs++ys))) (upd H p (.tup (xs++ys))):=Grow.new fh hp
     exact q _ _ _ gn (rep_tup.mpr ⟨p,_,rfl,SqT.of qz,(k2.mono gn.ff).append (k4.mono gn.ff)⟩)
  ·cases ho
 ·rename_i ds es
  split at ho
  ·rename_i hl
   cases ho;obtain⟨a,xs,rfl,k1,k2⟩:=rep_lst.mp r1;obtain⟨b,ys,rfl,k3,k4⟩:=rep_lst.mp r2;cases rx;cases ry;obtain⟨i1,v1,⟨⟨c1,dd1,dt1,sl1⟩,n1,o1,e1,g1,t1⟩,_⟩:=I.list (fh.seq k1);obtain⟨i2,v2,⟨⟨c2,dd2,dt2,sl2⟩,n2,o2,e2,g2,t2⟩,_⟩:=I.list (fh.seq k3);simp only at e1 t1 e2 t2;subst e1 t1 e2 t2;have hz:xs.length+ys.length<=sizeLine:=xa (by rw [<- k2.length, <- k4.length];exact hl);refine g51 ⟨_,o1,rfl⟩ ⟨_,o2,rfl⟩ noFill_list_add seq_list_add PySem.F.slot_list_add PySem.F.entry_list_add (PySem.F.args_list_add_2 _ _)
    (list_addW a b i1.toArray i2.toArray n1 n2 dd1 dd2 sl1 sl2 (by rw [gm,gm, <- v1.length, <- v2.length];exact hz)) ⟨o1,o2,?_⟩
   have ea:i1.toArray++i2.toArray=(i1++i2).toArray:=by simp
   rw [ea];have gn:Grow F H (upd F s.heap.objs.size (.lst (xs++ys))) (upd H s.heap.objs.size (.lst (xs++ys))):=Grow.new fh I.fresh;exact⟨.ref _,_,I.lnew (t':=s.toks) (v1.append v2) (by rw [pf];exact hz),rfl,q _ _ _ gn (rep_lst.mpr ⟨_,_,rfl,SqL.of qz,(k2.mono gn.ff).append (k4.mono gn.ff)⟩)⟩
  ·cases ho
 ·cases ho
abbrev zr:D->D->Option D:=fun x y=>(oAdd x y).or (qdg x y)
theorem jf:OpR X (binaryOp .Add) (rD X.K zr):=q90 qsq qt2
def flat(d:D): Bool:=(flD d).isSome
def eqF:D->D->Bool
 | .non,.non=>true
 | .bl a,.bl b=>a==b
 | .bl a,.int b=>(if a then 1 else 0)==b
 | .int a,.bl b=>a==(if b then 1 else 0)
 | .int a,.int b=>a==b
 | .str a,.str b=>a==b
 | _,_=>false
def inF(d:D)(ds:List D): Bool:=ds.any fun e=>eqF e d
theorem qcr{K:Frag}{H:Hp}{d e:D}{x y:V}(h1:flat d=true)(h2:flat e=true)(r1:Rep K H d x)(r2:Rep K H e y): eqV x y=eqF d e/\q0e x=true/\q0e y=true:=by
 cases d <;> first|(cases h1;done)|skip
 all_goals (cases e <;> first|(cases h2;done)|skip)
 all_goals (first|(cases rep_non.mp r1)|(cases rep_bl.mp r1)|(cases rep_int.mp r1)|(cases rep_str.mp r1))
 all_goals (first|(cases rep_non.mp r2)|(cases rep_bl.mp r2)|(cases rep_int.mp r2)|(cases rep_str.mp r2))
 all_goals exact⟨rfl,rfl,rfl⟩
theorem qi3{K:Frag}{H:Hp}{d:D}{x:V}(h1:flat d=true)(r1:Rep K H d x): ∀ {ds:List D} {xs:List V},ds.all flat=true->RepL K H ds xs->inV x xs=inF d ds/\q0e x=true/\xs.all q0e=true
 | [],xs,_,r=>by cases r.nil_inv;exact⟨rfl,(qcr h1 h1 r1 r1).2.1,rfl⟩
 | e :: ds,xs,h2,r=>by
  obtain⟨y,ys,rfl,k1,k2⟩:=r.cons_inv;rw [g3e,m8] at h2;obtain⟨z1,z2,z3⟩:=qi3 h1 r1 h2.2 k2;obtain⟨w1,w2,w3⟩:=qcr h2.1 h1 k1 r1;refine⟨?_,z2,?_⟩
  ·show(eqV y x || inV x ys)=(eqF e d || inF d ds)
   rw [w1,z1]
  ·rw [g3e,w2,z3];rfl
def oIn(neg:Bool): D->D->Option D
 | d,.tup ds=>if flat d&&ds.all flat then some (.bl (if neg then !inF d ds else inF d ds)) else none
 | d,.lst ds=>if flat d&&ds.all flat then some (.bl (if neg then !inF d ds else inF d ds)) else none
 | _,_=>none
theorem qp0{K:Frag}{neg:Bool}{x y:V}{H:Hp}{Q:VK}(h:rD K (oIn neg) x y H Q): rIn K neg x y H Q:=by
 obtain⟨F,d1,d2,d,fh,r1,r2,ho,q⟩:=h;cases d2 <;> simp only [oIn] at ho <;> first|(cases ho;done)|skip
 ·split at ho
  ·rename_i hc
   cases ho;rw [m8] at hc;obtain⟨p,xs,rfl,k1,k2⟩:=rep_tup.mp r2;obtain⟨z1,z2,z3⟩:=qi3 hc.1 r1 hc.2 k2;exact⟨p,xs,rfl,.inr (ql fh k1),z2,z3,by rw [z1];exact q _ F H (.refl fh) (rep_bl.mpr rfl)⟩
  ·cases ho
 ·split at ho
  ·rename_i hc
   cases ho;rw [m8] at hc;obtain⟨p,xs,rfl,k1,k2⟩:=rep_lst.mp r2;obtain⟨z1,z2,z3⟩:=qi3 hc.1 r1 hc.2 k2;exact⟨p,xs,rfl,.inl (fh.seq k1),z2,z3,by rw [z1];exact q _ F H (.refl fh) (rep_bl.mpr rfl)⟩
  ·cases ho
theorem qp1:OpR X (compareOp .In) (rD X.K (oIn false)):=q1i qjl fun x y H Q h=>qp0 h
theorem qmt:OpR X (compareOp .NotIn) (rD X.K (oIn true)):=q1i qd1 fun x y H Q h=>qp0 h
end
mutual
def eqD:D->D->Bool
 | .tup ds,.tup es=>eqL ds es
 | .lst ds,.lst es=>eqL ds es
 | d,e=>eqF d e
def eqL:List D->List D->Bool
 | [],[]=>true
 | d :: ds,e :: es=>eqD d e&&eqL ds es
 | _,_=>false
end
mutual
def okE:D->D->Bool
 | .tup ds,.tup es=>vq ds es
 | .lst ds,.lst es=>vq ds es
 | d,e=>flat d&&flat e
def vq:List D->List D->Bool
 | d :: ds,e :: es=>okE d e&&vq ds es
 | _,_=>true
end
mutual
def ku:D->Nat
 | .tup ds=>v7 ds+1
 | .lst ds=>v7 ds+1
 | _=>0
def v7:List D->Nat
 | []=>0
 | d :: ds=>max (ku d) (v7 ds)
end
def eqJ(ds es:List D)(j:Nat): Bool:=match ds[j]?,es[j]? with
 | some d,some e=>eqD d e
 | _,_=>true
theorem yr:∀(ds es:List D),((List.range (min ds.length es.length)).all (eqJ ds es)&&ds.length==es.length)=eqL ds es
 | [],[]=>by simp [eqL]
 | [],e :: es=>by simp [eqL]
 | d :: ds,[]=>by simp [eqL]
 | d :: ds,e :: es=>by
  have ih:=yr ds es;have e1:min (d :: ds).length (e :: es).length=min ds.length es.length+1:=by simp only [pz];lia
  rw [e1,g1y,g3e,g15];have e2:(eqJ (d :: ds) (e :: es) ∘ Nat.succ)=eqJ ds es:=by funext j;simp [eqJ]
  have e3:eqJ (d :: ds) (e :: es) 0=eqD d e:=by simp [eqJ]
  have e4:((d :: ds).length==(e :: es).length)=(ds.length==es.length):=by simp
  rw [e2,e3,e4,Bool.and_assoc,ih];simp only [eqL]
theorem qdh{d e:D}(h1:flat d=true)(h2:flat e=true): eqD d e=eqF d e:=by
 cases d <;> first|(cases h1;done)|skip
 all_goals (cases e <;> first|(cases h2;done)|skip)
 all_goals simp only [eqD]
section
variable{X:Cx}{pins:List (Addr×Obj)}{σ : St}{F H:Hp}{s:Shared}
theorem qk8{A:Around}{d e:D}{x y:V}{u v:Value}(h1:flat d=true)(h2:flat e=true)(r1:Rep X.K F d x)(r2:Rep X.K F e y)(q1:RelV x u)(q2:RelV y v): SeqAt.EqAt A s u v (eqD d e):=by
 obtain⟨z1,z2,z3⟩:=qcr h1 h2 r1 r2;rw [qdh h1 h2, <- z1];exact qjj q1 q2 z2 z3
theorem qdi{d e:D}(h:okE d e=true): (∃ds es,d=.tup ds/\e=.tup es/\vq ds es=true)\/(∃ds es,d=.lst ds/\e=.lst es/\vq ds es=true)\/(flat d=true/\flat e=true):=by
 cases d <;> cases e <;> simp only [okE,m8] at h <;> first
  | exact .inl ⟨_,_,rfl,rfl,h⟩
  | exact .inr (.inl ⟨_,_,rfl,rfl,h⟩)
  | exact .inr (.inr h)
theorem qh5(I:Inv X pins σ H s)(fh:Same F H): ∀ {d e:D} {x:V},okE d e=true->Rep X.K F d x->Rep X.K F e x->eqD d e=true:=by
 suffices hh:∀n,(∀d e x,sizeOf d<n->okE d e=true->Rep X.K F d x->Rep X.K F e x->eqD d e=true) from fun {d e x}=>hh (sizeOf d+1) d e x (tu _)
 intro n
 induction n with
 | zero=>intro d e x h;exact absurd h (ph _)
 | succ n ih=>
  intro d e x hn ok r1 r2;have seq:∀(ds es:List D) (xs:List V),sizeOf ds<n->vq ds es=true->RepL X.K F ds xs->RepL X.K F es xs->eqL ds es=true:=by
   intro ds
   induction ds with
   | nil=>
    intro es xs _ _ k1 k2;cases k1.nil_inv;cases es with
    | nil=>simp only [eqL]
    | cons e es=>obtain⟨_,_,z,_⟩:=k2.cons_inv;cases z
   | cons d ds ihd=>
    intro es xs hs ho k1 k2;obtain⟨x,r,rfl,a1,a2⟩:=k1.cons_inv;cases es with
    | nil=>cases k2.nil_inv
    | cons e es=>
     obtain⟨x',r',z,b1,b2⟩:=k2.cons_inv;cases z;simp only [vq,m8] at ho;have hs1:sizeOf d<n:=by simp only [g25] at hs;lia
     have hs2:sizeOf ds<n:=by simp only [g25] at hs;lia
     simp only [eqL,m8];exact⟨ih d e x hs1 ho.1 a1 b1,ihd es r hs2 ho.2 a2 b2⟩
  rcases qdi ok with⟨ds,es,rfl,rfl,ho⟩|⟨ds,es,rfl,rfl,ho⟩|⟨h1,h2⟩
  ·obtain⟨a,xs,rfl,k1,k2⟩:=rep_tup.mp r1
   obtain⟨b,ys,z,k3,k4⟩:=rep_tup.mp r2;cases z;cases I.tuple_inj (ql fh k1) (ql fh k3);simp only [eqD];exact seq ds es xs (by simp only [D.tup.sizeOf_spec] at hn;lia) ho k2 k4
  ·obtain⟨a,xs,rfl,k1,k2⟩:=rep_lst.mp r1
   obtain⟨b,ys,z,k3,k4⟩:=rep_lst.mp r2;cases z;cases I.list_inj (fh.seq k1) (fh.seq k3);simp only [eqD];exact seq ds es xs (by simp only [D.lst.sizeOf_spec] at hn;lia) ho k2 k4
  ·obtain⟨z1,_⟩:=qcr h1 h2 r1 r2
   rw [qdh h1 h2, <- z1];cases d <;> first|(cases h1;done)|skip
   ·cases rep_non.mp r1;rfl
   ·cases rep_bl.mp r1;simp [eqV]
   ·cases rep_int.mp r1;simp [eqV]
   ·cases rep_str.mp r1;simp [eqV]
theorem q9b (I:Inv X pins σ H s) (fh:Same F H):∀ {d e:D} {x y:V} {u v:Value} (A:Around),okE d e=true->A.units+ku d<cLine->Rep X.K F d x->Rep X.K F e y->RelV x u->RelV y v->SeqAt.EqAt A s u v (eqD d e):=by
 suffices hh:∀n,(∀d e x y u v (A:Around),sizeOf d<n->okE d e=true->A.units+ku d<cLine->Rep X.K F d x->Rep X.K F e y->RelV x u->RelV y v->SeqAt.EqAt A s u v (eqD d e)) from
  fun {d e x y u v} A=>hh (sizeOf d+1) d e x y u v A (tu _)
 intro n
 induction n with
 | zero=>intro d e x y u v A h;exact absurd h (ph _)
 | succ n ih=>
  intro d e x y u v A hn ok hu r1 r2 q1 q2;have seq:∀(ds es:List D) (xs ys:List V) (us vs:List Value) (A:Around),sizeOf ds<n->vq ds es=true->A.units+v7 ds<cLine->RepL X.K F ds xs->RepL X.K F es ys->Vals xs us->Vals ys vs ->
    ∀j (h1:j<us.length) (h2:j<vs.length),SeqAt.EqAt A s us[j] vs[j] (eqJ ds es j):=by
   intro ds
   induction ds with
   | nil=>
    intro es xs ys us vs A _ _ _ k1 _ w1 _ j h1;cases k1.nil_inv;cases w1;exact absurd h1 (ph _)
   | cons d ds ihd=>
    intro es xs ys us vs A hs ho hu k1 k2 w1 w2 j h1 h2;obtain⟨x,r,rfl,a1,a2⟩:=k1.cons_inv;cases w1 with
    | cons p1 p2=>
     cases es with
     | nil=>cases k2.nil_inv;cases w2;exact absurd h2 (ph _)
     | cons e es=>
      obtain⟨y,r',rfl,b1,b2⟩:=k2.cons_inv;cases w2 with
      | cons p3 p4=>
       simp only [vq,m8] at ho;have hs1:sizeOf d<n:=by simp only [g25] at hs;lia
       have hs2:sizeOf ds<n:=by simp only [g25] at hs;lia
       simp only [v7] at hu;cases j with
       | zero=>
        have e0:eqJ (d :: ds) (e :: es) 0=eqD d e:=by simp [eqJ]
        rw [e0];exact ih d e x y _ _ A hs1 ho.1 (by lia) a1 b1 p1 p3
       | succ j=>
        have e0:eqJ (d :: ds) (e :: es) (j+1)=eqJ ds es j:=by simp [eqJ]
        rw [e0];exact ihd es r r' _ _ A hs2 ho.2 (by lia) a2 b2 p2 p4 j (by simpa using h1) (by simpa using h2)
  rcases qdi ok with⟨ds,es,rfl,rfl,ho⟩|⟨ds,es,rfl,rfl,ho⟩|⟨h1,h2⟩
  ·have rr:=qh5 I fh ok r1
   obtain⟨a,xs,rfl,k1,k2⟩:=rep_tup.mp r1;obtain⟨b,ys,rfl,k3,k4⟩:=rep_tup.mp r2;cases q1;cases q2
   by_cases hab:a=b
   ·subst hab
    rw [rr r2];exact g5e _
   ·obtain⟨i1,v1,t1,_⟩:=I.tuple (ql fh k1)
    obtain⟨i2,v2,t2,_⟩:=I.tuple (ql fh k3);simp only [ku] at hu;refine SeqAt.EqAt.of_refs hab ?_;have hq:=seq ds es xs ys i1 i2 A.in1 (by simp only [D.tup.sizeOf_spec] at hn;lia) ho (by show A.units+1+v7 ds<cLine;lia) k2 k4 v1 v2;have:=SeqAt.RcAt.tuples (A:=A) (e:=eqJ ds es) (show s.heap.IsTuple a i1.toArray from t1) (show s.heap.IsTuple b i2.toArray from t2) (by lia) (fun j h1 h2=>by simpa using hq j (by simpa using h1) (by simpa using h2));simp only [gm, <- v1.length, <- v2.length, <- k2.length, <- k4.length,yr] at this
    simpa only [eqD] using this
  ·have rr:=qh5 I fh ok r1
   obtain⟨a,xs,rfl,k1,k2⟩:=rep_lst.mp r1;obtain⟨b,ys,rfl,k3,k4⟩:=rep_lst.mp r2;cases q1;cases q2
   by_cases hab:a=b
   ·subst hab
    rw [rr r2];exact g5e _
   ·obtain⟨i1,v1,t1,_⟩:=I.list (fh.seq k1)
    obtain⟨i2,v2,t2,_⟩:=I.list (fh.seq k3);simp only [ku] at hu;refine SeqAt.EqAt.of_refs hab ?_;have hq:=seq ds es xs ys i1 i2 A.in1 (by simp only [D.lst.sizeOf_spec] at hn;lia) ho (by show A.units+1+v7 ds<cLine;lia) k2 k4 v1 v2;have hl1:i1.length=ds.length:=by rw [<- v1.length, <- k2.length]
    have hl2:i2.length=es.length:=by rw [<- v2.length, <- k4.length]
    simp only [eqD]
    by_cases hl:ds.length=es.length
    ·have:=SeqAt.RcAt.lists (A:=A) (e:=eqJ ds es) t1.isList t2.isList (by rw [gm,gm,hl1,hl2];exact hl) (by lia) (fun j h1 h2=>by simpa using hq j (by simpa using h1) (by simpa using h2))
     have e1:(List.range i1.toArray.size).all (eqJ ds es)=eqL ds es:=by
      rw [<- yr,gm,hl1, <- hl,g55];simp
     rw [e1] at this;exact this
    ·have e1:eqL ds es=false:=by rw [<- yr];simp [hl]
     rw [e1];exact SeqAt.RcAt.lists_lengths t1.isList t2.isList (by rw [gm,gm,hl1,hl2];simpa using hl) (by lia)
  ·exact qk8 h1 h2 r1 r2 q1 q2
def qmu:D->D->Option D
 | .tup ds,.tup es=>if vq ds es&&decide (v7 ds<=60) then some (.bl (eqL ds es)) else none
 | .lst ds,.lst es=>if vq ds es&&decide (v7 ds<=60) then some (.bl (eqL ds es)) else none
 | _,_=>none
theorem qt3(hu:X.A.units+64<cLine): OpR X (compareOp .Eq) (rD X.K qmu):=by
 intro pins s σ H x y v u Q I rx ry h;obtain⟨F,d1,d2,d,fh,r1,r2,ho,q⟩:=h;have part:∀ {ds es:List D} {xs ys:List V} {us vs:List Value},vq ds es=true->v7 ds<=60->RepL X.K F ds xs->RepL X.K F es ys->Vals xs us->Vals ys vs ->
   ∀j (h1:j<us.length) (h2:j<vs.length),SeqAt.EqAt X.A.in1 s us[j] vs[j] (eqJ ds es j):=by
  intro ds
  induction ds with
  | nil=>
   intro es xs ys us vs _ _ k1 _ w1 _ j h1;cases k1.nil_inv;cases w1;exact absurd h1 (ph _)
  | cons d ds ihd=>
   intro es xs ys us vs ho hd k1 k2 w1 w2 j h1 h2;obtain⟨x,r,rfl,a1,a2⟩:=k1.cons_inv;cases w1 with
   | cons p1 p2=>
    cases es with
    | nil=>cases k2.nil_inv;cases w2;exact absurd h2 (ph _)
    | cons e es=>
     obtain⟨y,r',rfl,b1,b2⟩:=k2.cons_inv;cases w2 with
     | cons p3 p4=>
      simp only [vq,m8] at ho;simp only [v7] at hd;cases j with
      | zero=>
       have e0:eqJ (d :: ds) (e :: es) 0=eqD d e:=by simp [eqJ]
       rw [e0];exact q9b I fh _ ho.1 (by show X.A.units+1+ku d<cLine;lia) a1 b1 p1 p3
      | succ j=>
       have e0:eqJ (d :: ds) (e :: es) (j+1)=eqJ ds es j:=by simp [eqJ]
       rw [e0];exact ihd ho.2 (by lia) a2 b2 p2 p4 j (by simpa using h1) (by simpa using h2)
 unfold qmu at ho
 split at ho
 ·rename_i ds es
  split at ho
  ·rename_i hc
   cases ho;rw [m8] at hc;obtain⟨a,xs,rfl,k1,k2⟩:=rep_tup.mp r1;obtain⟨b,ys,rfl,k3,k4⟩:=rep_tup.mp r2;cases rx;cases ry;obtain⟨i1,v1,t1,_⟩:=I.tuple (ql fh k1);obtain⟨i2,v2,t2,_⟩:=I.tuple (ql fh k3);have hq:=part hc.1 (tf hc.2) k2 k4 v1 v2;refine SeqAt.eq_tupleAt (e:=eqJ ds es) (show s.heap.IsTuple a i1.toArray from t1) (show s.heap.IsTuple b i2.toArray from t2) (by lia) (fun j h1 h2=>by simpa using hq j (by simpa using h1) (by simpa using h2)) ?_;simp only [gm, <- v1.length, <- v2.length, <- k2.length, <- k4.length,yr];exact⟨.bl _,H,I,rfl,q _ F H (.refl fh) (rep_bl.mpr rfl)⟩
  ·cases ho
 ·rename_i ds es
  split at ho
  ·rename_i hc
   cases ho;rw [m8] at hc;obtain⟨a,xs,rfl,k1,k2⟩:=rep_lst.mp r1;obtain⟨b,ys,rfl,k3,k4⟩:=rep_lst.mp r2;cases rx;cases ry;obtain⟨i1,v1,t1,_⟩:=I.list (fh.seq k1);obtain⟨i2,v2,t2,_⟩:=I.list (fh.seq k3);have hq:=part hc.1 (tf hc.2) k2 k4 v1 v2;have hl1:i1.length=ds.length:=by rw [<- v1.length, <- k2.length]
   have hl2:i2.length=es.length:=by rw [<- v2.length, <- k4.length]
   by_cases hl:ds.length=es.length
   ·refine SeqAt.eq_listAt (e:=eqJ ds es) t1.isList t2.isList (by rw [gm,gm,hl1,hl2];exact hl) (by lia) (fun j h1 h2=>by simpa using hq j (by simpa using h1) (by simpa using h2)) ?_
    have e1:(List.range i1.toArray.size).all (eqJ ds es)=eqL ds es:=by
     rw [<- yr,gm,hl1, <- hl,g55];simp
    rw [e1];exact⟨.bl _,H,I,rfl,q _ F H (.refl fh) (rep_bl.mpr rfl)⟩
   ·have e1:eqL ds es=false:=by rw [<- yr];simp [hl]
    rw [e1] at q;exact SeqAt.eq_list_lengthsAt t1.isList t2.isList (by rw [gm,gm,hl1,hl2];simpa using hl) (by lia) ⟨.bl _,H,I,rfl,q _ F H (.refl fh) (rep_bl.mpr rfl)⟩
  ·cases ho
 ·cases ho
abbrev oEq:D->D->Option D:=fun x y=>(qmk x y).or (qmu x y)
theorem wg(hu:X.A.units+64<cLine): OpR X (compareOp .Eq) (rD X.K oEq):=q90 qsu (qt3 hu)
end
def itN:Bool->String
 | true=>"list_iterator"
 | false=>"tuple_iterator"
def sqN:Bool->String
 | true=>"list"
 | false=>"tuple"
def SI(b:Bool)(h:Heap)(it l:Addr)(k:Nat): Prop:=∃o,h.get? it=some o/\o.cls=.type (itN b)/\o.data=.fields #[.ref l,.int k 0]
def SO(b:Bool)(h:Heap)(l:Addr)(xs:Array Value): Prop:=∃o,h.get? l=some o/\o.cls=.type (sqN b)/\∃n,o.data=.seq xs n
theorem SI.ext{b:Bool}{h h':Heap}{it l c:Addr}{k:Nat}(x:SI b h it l k)(e:Heap.ExtBut c h h')(n:it≠c): SI b h' it l k:=let⟨o,ho,r⟩:=x; ⟨o,e it o n ho,r⟩
theorem SO.ext{b:Bool}{h h':Heap}{l c:Addr}{xs:Array Value}(x:SO b h l xs)(e:Heap.ExtBut c h h')(n:l≠c): SO b h' l xs:=let⟨o,ho,r⟩:=x; ⟨o,e l o n ho,r⟩
theorem SI.keep{b:Bool}{h h':Heap}{it l:Addr}{k:Nat}(x:SI b h it l k)(e:∀o,h.get? it=some o->h'.get? it=some o): SI b h' it l k:=let⟨o,ho,r⟩:=x; ⟨o,e o ho,r⟩
section
variable{prog:Program}{w:World}{A:Around}{E:Value->Shared->Prop}{s:Shared}
theorem qad{b:Bool}{it l:Addr}{k:Nat}{xs:Array Value}{x:Value}{Q:Value->Shared->Prop}(hi:SI b s.heap it l k)(ho:SO b s.heap l xs)(hx:xs[k]? = some x)
  (h:∀h',SI b h' it l (k+1)->Heap.SameBut it s.heap h'->Q x {s with heap:=h'}):wpAny (model prog w) A (Builtin.SmallTypes.nextOf (.ref it)) Q E s:=by
 cases b with
 | true=>exact wpAny_nextOf_list_item hi ho hx h
 | false=>
  obtain⟨o,e1,e2,e3⟩:=id hi;obtain⟨o2,f1,f2,n,f3⟩:=id ho;have ty:s.TypeIs (.ref it) "tuple_iterator" :=⟨o,e1,e2⟩
  unfold Builtin.SmallTypes.nextOf;refine g0 (tm (name:=Str.ofString "__next__") ty g1f (p9 g1f ty g4f ?_ (g45 _)));show wpAny _ _ (field (.ref it) 0 >>= _) _ _ s;refine g0 (g08 e1 e3 (x:=.ref l) rfl ?_);show wpAny _ _ (if(Value.ref l==Value.none)=true then _ else _) _ _ s;rw [mi (fun z:(Value.ref l==Value.none)=true=>m5 z)];show wpAny _ _ (field (.ref it) 1 >>= _) _ _ s;refine g0 (g08 e1 e3 (x:=.int k 0) rfl ?_);show wpAny _ _ (seqItems? (.ref l) >>= _) _ _ s;refine g0 (g0e f1 f3 ?_);simp only [p0,hx];refine g0 (g33 e1 e3 (by simp) (g9 ⟨x,rfl,g9 (h _ ⟨_,g0f _ e1 (Obj.isFreed_of_fields (g2u e3 _)),(Obj.cls_mapFields ..).trans e2,?_⟩ (uc ..))⟩));rw [g2u e3];simp [rawInt]
theorem qh6{b:Bool}{it l:Addr}{k:Nat}{xs:Array Value}{Q:Value->Shared->Prop}(hh:A.handled=none)(hi:SI b s.heap it l k)(ho:SO b s.heap l xs)(hx:xs[k]? = none)
  (h:∀h' e,Heap.ExtBut it s.heap h'->(∃o,h'.get? e=some o/\o.cls=.type "StopIteration")->E (.ref e) {s with heap:=h'}):wpAny (model prog w) A (Builtin.SmallTypes.nextOf (.ref it)) Q E s:=by
 cases b with
 | true=>exact wpAny_nextOf_list_end hh hi ho hx h
 | false=>
  obtain⟨o,e1,e2,e3⟩:=id hi;obtain⟨o2,f1,f2,n,f3⟩:=id ho;have ty:s.TypeIs (.ref it) "tuple_iterator" :=⟨o,e1,e2⟩
  unfold Builtin.SmallTypes.nextOf;refine g0 (tm (name:=Str.ofString "__next__") ty g1f (p9 g1f ty g4f ?_ (g45 _)));show wpAny _ _ (field (.ref it) 0 >>= _) _ _ s;refine g0 (g08 e1 e3 (x:=.ref l) rfl ?_);show wpAny _ _ (if(Value.ref l==Value.none)=true then _ else _) _ _ s;rw [mi (fun z:(Value.ref l==Value.none)=true=>m5 z)];show wpAny _ _ (field (.ref it) 1 >>= _) _ _ s;refine g0 (g08 e1 e3 (x:=.int k 0) rfl ?_);show wpAny _ _ (seqItems? (.ref l) >>= _) _ _ s;refine g0 (g0e f1 f3 ?_);simp only [p0,hx];refine g0 (g01 (g0 (g33 e1 e3 (by simp) ?_)));show wpAny _ _ (newExc (.type "StopIteration") [] >>= _) _ _ _;refine g0 ?_;simp only [newExc,newTuple];refine g0 (ui (g0 (m:=firstArgMember _ _) (g5n (a:=Value.none) (by first|rfl|(simp only [firstArgMember];rfl)) (ui ?_ (by size_fits)))) (by size_fits));simp only [raiseNew];refine g0 (g4l ?_)
  first|rw [show A.in1.handled=none from hh]|rw [hh]
  exact g0 (g9 (wpAny_throw (h _ _ (((uc ..).extBut.push _).push _) ⟨_,gj _ rfl,rfl⟩)))
structure Z5(z ti to i1 i2:Addr): Prop where
 a1:ti≠z
 a2:to≠z
 a3:i1≠z
 a4:i2≠z
 a5:ti≠to
 a6:ti≠i1
 a7:ti≠i2
 a8:to≠i1
 a9:to≠i2
 a10:i1≠i2
structure Off(l z to i1 i2:Addr): Prop where
 z:l≠z
 o:l≠to
 i:l≠i1
 j:l≠i2
theorem qk9{b1 b2:Bool}{z ti to i1 i2 l1 l2:Addr}{k1 k2:Nat}{xs ys:Array Value}{x y p q:Value}{Q:Value->Shared->Prop}(D:Z5 z ti to i1 i2)(m1:Off l1 z to i1 i2)(m2:Off l2 z to i1 i2)
  (hz:IsZip s.heap z ti to .none) (ht:IsPair s.heap ti (.ref i1) (.ref i2)) (hp:IsPair s.heap to p q)
  (h1:SI b1 s.heap i1 l1 k1) (h2:SI b2 s.heap i2 l2 k2) (o1:SO b1 s.heap l1 xs) (o2:SO b2 s.heap l2 ys) (hx:xs[k1]? = some x) (hy:ys[k2]? = some y)
  (hQ:∀h',IsZip h' z ti to (rawInt s.heap.objs.size)->IsPair h' to x y->SI b1 h' i1 l1 (k1+1)->SI b2 h' i2 l2 (k2+1)->IsPair h' s.heap.objs.size x y->h'.objs.size=s.heap.objs.size+1 ->
   (∀c o,c≠z->c≠to->c≠i1->c≠i2->s.heap.get? c=some o->h'.get? c=some o)->Q (.ref s.heap.objs.size) {s with heap:=h'}) :
  wpAny (model prog w) A (Builtin.«zip.__next__» ⟨[.ref z],[]⟩) (fun fin s'=>∃v,fin=.done (.ret v)/\Q v s') E s:=by
 show wpAny _ _ (field (.ref z) 2 >>= _) _ _ _;refine g0 (g08 hz rfl (x:=.bool false) rfl ?_);show wpAny _ _ (field (.ref z) 3 >>= _) _ _ _;refine g0 (g08 hz rfl (x:=.ref ti) rfl (g0 (g0e ht rfl ?_)));show wpAny _ _ (Builtin.SmallTypes.ownedTupleIsFree (.ref z) >>= _) _ _ _;refine g0 ?_;unfold Builtin.SmallTypes.ownedTupleIsFree;refine g0 (g08 hz rfl (x:=.none) rfl (g9 ?_));simp only [nj];refine g0 (g01 (g0 (g08 hz rfl (x:=.ref to) rfl (g0 (g16 hz (by simp) fun g1 hz1 u1=>?_)))));have hz1':IsZip g1 z ti to .ellipsis:=hz1;refine g0 ?_;simp only [g56,List.zipIdx_nil,g1u,g32];refine g0 (g0 (g4m ?_));show wpAny _ _ (Builtin.SmallTypes.nextOf (.ref i1) >>= _) _ _ _;refine g0 (qad (h1.ext u1.extBut D.a3) (o1.ext u1.extBut m1.z) hx fun g2 n1 u2=>g9 ?_);have hp2:IsPair g2 to p q:=u2.extBut _ _ D.a8 (u1.extBut _ _ D.a2 hp);refine g0 (g0e hp2 rfl (g0 (g3q hp2 fun g3 hp3 u3=>?_)));have hp3':IsPair g3 to x q:=hp3;refine g0 (g4a (g9 (g0 (g0 (g4m ?_)))));show wpAny _ _ (Builtin.SmallTypes.nextOf (.ref i2) >>= _) _ _ _;refine g0 (qad (((h2.ext u1.extBut D.a4).ext u2.extBut D.a10.symm).ext u3.extBut D.a9.symm) (((o2.ext u1.extBut m2.z).ext u2.extBut m2.i).ext u3.extBut m2.o) hy fun g4 n2 u4=>g9 ?_);have hp4:IsPair g4 to x q:=u4.extBut _ _ D.a9 hp3';refine g0 (g0e hp4 rfl (g0 (g3q hp4 fun g5 hp5 u5=>?_)));have hp5':IsPair g5 to x y:=hp5;refine g0 (g4a (g9 (g9 (g0 (g0e hp5' rfl (g0 (wpAny_newTuple ?_)))))));have hsz:g5.objs.size=s.heap.objs.size:=by rw [u5.1,u4.1,u3.1,u2.1,u1.1]
 have hz5:IsZip g5 z ti to .ellipsis:=u5.extBut _ _ D.a2.symm (u4.extBut _ _ D.a4.symm (u3.extBut _ _ D.a2.symm (u2.extBut _ _ D.a3.symm hz1')));have kp:∀c o,c≠z->c≠to->c≠i1->c≠i2->s.heap.get? c=some o->g5.get? c=some o:=fun c o c1 c2 c3 c4 e=>u5.extBut _ _ c2 (u4.extBut _ _ c4 (u3.extBut _ _ c2 (u2.extBut _ _ c3 (u1.extBut _ _ c1 e))));have j1:SI b1 g5 i1 l1 (k1+1):=((n1.ext u3.extBut D.a8.symm).ext u4.extBut D.a10).ext u5.extBut D.a8.symm;have j2:SI b2 g5 i2 l2 (k2+1):=n2.ext u5.extBut D.a9.symm;have hzl:z<g5.objs.size:=gz hz5;show wpAny _ _ (Builtin.SmallTypes.ownedTupleHandOut (.ref z) (.ref g5.objs.size) >>= _) _ _ _;refine g0 ?_;unfold Builtin.SmallTypes.ownedTupleHandOut;have hz6:IsZip (g5.push {cls:=.type "tuple",data:=.seq #[x,y]}) z ti to .ellipsis:=gc _ hz5;refine g0 (g16 hz6 (by simp) fun g7 hz7 u7=>?_);have hz7':IsZip g7 z ti to (rawInt g5.objs.size):=hz7;refine g16 hz7' (by simp) fun g8 hz8 u8=>?_;have hz8':IsZip g8 z ti to (rawInt g5.objs.size):=hz8;have up:∀c o,c≠z->g5.get? c=some o->g8.get? c=some o:=fun c o c1 e=>u8.extBut _ _ c1 (u7.extBut _ _ c1 (gc _ e));have hT:IsPair g8 g5.objs.size x y:=u8.extBut _ _ (uh hzl) (u7.extBut _ _ (uh hzl) (gj _ rfl));have hl8:g8.objs.size=g5.objs.size+1:=by rw [u8.1,u7.1,p7]
 rw [hsz] at hz8' hT hl8;refine g9 ⟨_,rfl,?_⟩;show Q (.ref g5.objs.size) _;rw [hsz];exact hQ g8 hz8' (up _ _ D.a2 hp5') (j1.keep fun o e=>up _ o D.a3 e) (j2.keep fun o e=>up _ o D.a4 e) hT hl8 fun c o c1 c2 c3 c4 e=>up c o c1 (kp c o c1 c2 c3 c4 e)
theorem qmv{b1 b2:Bool}{z ti to i1 i2 l1 l2:Addr}{k1 k2:Nat}{xs ys:Array Value}{p q:Value}{Q:Fin->Shared->Prop}(hh:A.handled=none)(D:Z5 z ti to i1 i2)(m1:Off l1 z to i1 i2)(m2:Off l2 z to i1 i2)
  (hz:IsZip s.heap z ti to .none) (ht:IsPair s.heap ti (.ref i1) (.ref i2)) (hp:IsPair s.heap to p q)
  (h1:SI b1 s.heap i1 l1 k1) (h2:SI b2 s.heap i2 l2 k2) (o1:SO b1 s.heap l1 xs) (o2:SO b2 s.heap l2 ys) (hend:xs[k1]? = none\/ys[k2]? = none)
  (hE:∀h' e,(∀c o,c≠z->c≠to->c≠i1->c≠i2->s.heap.get? c=some o->h'.get? c=some o)->(∃o,h'.get? e=some o/\o.cls=.type "StopIteration")->E (.ref e) {s with heap:=h'}) :
  wpAny (model prog w) A (Builtin.«zip.__next__» ⟨[.ref z],[]⟩) Q E s:=by
 show wpAny _ _ (field (.ref z) 2 >>= _) _ _ _;refine g0 (g08 hz rfl (x:=.bool false) rfl ?_);show wpAny _ _ (field (.ref z) 3 >>= _) _ _ _;refine g0 (g08 hz rfl (x:=.ref ti) rfl (g0 (g0e ht rfl ?_)));show wpAny _ _ (Builtin.SmallTypes.ownedTupleIsFree (.ref z) >>= _) _ _ _;refine g0 ?_;unfold Builtin.SmallTypes.ownedTupleIsFree;refine g0 (g08 hz rfl (x:=.none) rfl (g9 ?_));simp only [nj];refine g0 (g01 (g0 (g08 hz rfl (x:=.ref to) rfl (g0 (g16 hz (by simp) fun g1 hz1 u1=>?_)))));have hz1':IsZip g1 z ti to .ellipsis:=hz1;refine g0 ?_;simp only [g56,List.zipIdx_nil,g1u,g32];refine g0 (g0 (g4m ?_));show wpAny _ _ (Builtin.SmallTypes.nextOf (.ref i1) >>= _) _ _ _;cases hx:xs[k1]? with
 | none=>
  refine g0 (qh6 hh (h1.ext u1.extBut D.a3) (o1.ext u1.extBut m1.z) hx fun g2 e u2 he=>?_);obtain⟨oe,y1,y2⟩:=he;have hz2:IsZip g2 z ti to .ellipsis:=u2 _ _ D.a3.symm hz1';have ne:e≠z:=fun x=>by subst x;rw [hz2] at y1;cases y1;simp at y2
  exact g16 hz2 (by simp) fun g3 _ u3=>hE g3 e (fun c o c1 _ c3 _ x=>u3.extBut _ _ c1 (u2 _ _ c3 (u1.extBut _ _ c1 x))) ⟨oe,u3.extBut _ _ ne y1,y2⟩
 | some x=>
  have hy:ys[k2]? = none:=by rcases hend with h|h;rw [hx] at h;cases h;exact h
  refine g0 (qad (h1.ext u1.extBut D.a3) (o1.ext u1.extBut m1.z) hx fun g2 n1 u2=>g9 ?_);have hp2:IsPair g2 to p q:=u2.extBut _ _ D.a8 (u1.extBut _ _ D.a2 hp);refine g0 (g0e hp2 rfl (g0 (g3q hp2 fun g3 hp3 u3=>?_)));refine g0 (g4a (g9 (g0 (g0 (g4m ?_)))));show wpAny _ _ (Builtin.SmallTypes.nextOf (.ref i2) >>= _) _ _ _;refine g0 (qh6 hh (((h2.ext u1.extBut D.a4).ext u2.extBut D.a10.symm).ext u3.extBut D.a9.symm) (((o2.ext u1.extBut m2.z).ext u2.extBut m2.i).ext u3.extBut m2.o) hy fun g4 e u4 he=>?_);obtain⟨oe,y1,y2⟩:=he;have hz4:IsZip g4 z ti to .ellipsis:=u4 _ _ D.a4.symm (u3.extBut _ _ D.a2.symm (u2.extBut _ _ D.a3.symm hz1'));have ne:e≠z:=fun x=>by subst x;rw [hz4] at y1;cases y1;simp at y2
  exact g16 hz4 (by simp) fun g5 _ u5=>hE g5 e (fun c o c1 c2 c3 c4 x=>u5.extBut _ _ c1 (u4 _ _ c4 (u3.extBut _ _ c2 (u2.extBut _ _ c3 (u1.extBut _ _ c1 x))))) ⟨oe,u5.extBut _ _ ne y1,y2⟩
theorem qi4{b1 b2:Bool}{z ti to i1 i2 l1 l2:Addr}{k1 k2:Nat}{xs ys:Array Value}{x y p q:Value}{Q:Option Value->Shared->Prop}(D:Z5 z ti to i1 i2)(m1:Off l1 z to i1 i2)(m2:Off l2 z to i1 i2)
  (hz:IsZip s.heap z ti to .none) (ht:IsPair s.heap ti (.ref i1) (.ref i2)) (hp:IsPair s.heap to p q)
  (h1:SI b1 s.heap i1 l1 k1) (h2:SI b2 s.heap i2 l2 k2) (o1:SO b1 s.heap l1 xs) (o2:SO b2 s.heap l2 ys) (hx:xs[k1]? = some x) (hy:ys[k2]? = some y)
  (hQ:∀h',IsZip h' z ti to (rawInt s.heap.objs.size)->IsPair h' to x y->SI b1 h' i1 l1 (k1+1)->SI b2 h' i2 l2 (k2+1)->IsPair h' s.heap.objs.size x y->h'.objs.size=s.heap.objs.size+1 ->
   (∀c o,c≠z->c≠to->c≠i1->c≠i2->s.heap.get? c=some o->h'.get? c=some o)->Q (some (.ref s.heap.objs.size)) {s with heap:=h'}) :
  wpAny (model prog w) A (pyNext (.ref z)) Q E s:=by
 have ty:s.TypeIs (.ref z) "zip" :=⟨_,hz,rfl⟩
 unfold pyNext;exact g0 (g0n (tm (name:=Str.ofString "__next__") ty g3r (p9 g3r ty F.entry_zip_next
  (qk9 D m1 m2 hz ht hp h1 h2 o1 o2 hx hy fun h' c1 c2 c3 c4 c5 c6 c7=>g9 (hQ h' c1 c2 c3 c4 c5 c6 c7)) (F.args_zip_next_1 _))))
theorem qch{b1 b2:Bool}{z ti to i1 i2 l1 l2:Addr}{k1 k2:Nat}{xs ys:Array Value}{p q:Value}{Q:Option Value->Shared->Prop}(hh:A.handled=none)(D:Z5 z ti to i1 i2)(m1:Off l1 z to i1 i2)(m2:Off l2 z to i1 i2)
  (hz:IsZip s.heap z ti to .none) (ht:IsPair s.heap ti (.ref i1) (.ref i2)) (hp:IsPair s.heap to p q)
  (h1:SI b1 s.heap i1 l1 k1) (h2:SI b2 s.heap i2 l2 k2) (o1:SO b1 s.heap l1 xs) (o2:SO b2 s.heap l2 ys) (hend:xs[k1]? = none\/ys[k2]? = none)
  (hQ:∀h',(∀c o,c≠z->c≠to->c≠i1->c≠i2->s.heap.get? c=some o->h'.get? c=some o)->Q none {s with heap:=h'}):wpAny (model prog w) A (pyNext (.ref z)) Q E s:=by
 have ty:s.TypeIs (.ref z) "zip" :=⟨_,hz,rfl⟩
 unfold pyNext;refine g0 (g0n (tm (name:=Str.ofString "__next__") ty g3r (p9 g3r ty F.entry_zip_next
  (qmv hh D m1 m2 hz ht hp h1 h2 o1 o2 hend fun h' e hk he=>?_) (F.args_zip_next_1 _))))
 obtain⟨o,y1,y2⟩:=he;exact g0 (g1n (T:="StopIteration") (b:=true) ⟨o,y1,y2⟩ isSubtype_stop (g9 (hQ _ hk)))
theorem qbh{b:Bool}{l:Addr}{xs:Array Value}{Q:Value->Shared->Prop}(h:SO b s.heap l xs)(q:Q (.ref s.heap.objs.size) {s with heap:=s.heap.push {cls:=.type (itN b),data:=.fields #[.ref l,.int 0 0]} }):
  wpAny (model prog w) A (pyIter (.ref l)) Q E s:=by
 cases b with
 | true=>exact g21 h q
 | false=>exact g2t h q
end
def zh1(b1:Bool)(h:Heap)(l1:Addr): Heap:=h.push {cls:=.type (itN b1),data:=.fields #[.ref l1,.int 0 0]}
def zh2(b1 b2:Bool)(h:Heap)(l1 l2:Addr): Heap:=(zh1 b1 h l1).push {cls:=.type (itN b2),data:=.fields #[.ref l2,.int 0 0]}
def zh3(b1 b2:Bool)(h:Heap)(l1 l2:Addr): Heap:=(zh2 b1 b2 h l1 l2).push {cls:=.type "tuple",data:=.seq #[.ref h.objs.size,.ref (zh1 b1 h l1).objs.size]}
def zh4(b1 b2:Bool)(h:Heap)(l1 l2:Addr): Heap:=(zh3 b1 b2 h l1 l2).push {cls:=.type "tuple",data:=.seq #[.none,.none]}
def zh5(b1 b2:Bool)(h:Heap)(l1 l2:Addr): Heap:=(zh4 b1 b2 h l1 l2).push {cls:=.type "zip",data:=.fields #[.none,.bool false,.bool false,.ref (zh2 b1 b2 h l1 l2).objs.size,.ref (zh3 b1 b2 h l1 l2).objs.size]}
theorem SO.push{b:Bool}{h:Heap}{l:Addr}{xs:Array Value}(x:SO b h l xs)(o:Obj): SO b (h.push o) l xs:=let⟨u,e,r⟩:=x; ⟨u,gc _ e,r⟩
theorem qi5(b1 b2:Bool)(l1 l2:Addr)(xs ys:Array Value):
  Meets (Builtin.«zip.__new__» ⟨[.type "zip",.ref l1,.ref l2],[]⟩) (fun _ R s=>SO b1 s.heap l1 xs/\SO b2 s.heap l2 ys/\R (.ok (.ret (.ref (zh4 b1 b2 s.heap l1 l2).objs.size))) {s with heap:=zh5 b1 b2 s.heap l1 l2}):=
 .of_wp fun prog w A R s h=>by
  obtain⟨hp,gg,dd,tk,os⟩:=s;obtain⟨ha,hb,h⟩:=h;have hsub:=sub_zip;have f1:SO b1 (Shared.heap ⟨hp,gg,dd,tk,os⟩) l1 xs:=ha;have f2:SO b2 (Shared.heap ⟨hp.push {cls:=.type (itN b1),data:=.fields #[.ref l1,.int 0 0]},gg,dd,tk,os⟩) l2 ys:=SO.push hb _
  wp_walk using qbh f1,qbh f2
  exact⟨_,rfl,h⟩
section
variable{X:Cx}{pins:List (Addr×Obj)}{σ : St}{H:Hp}{s:Shared}{h':Heap}
theorem qh7{fp:List Addr}{t':Nat}(I:Inv X pins σ H s)(hf:∀b∈fp,q0f X pins H b)(k:∀b o,b∉fp->s.heap.get? b=some o->h'.get? b=some o): Inv X pins σ H {s with heap:=h',toks:=t'}:=by
 have nin:∀b u,H b=some u->b∉fp:=fun b u e hb=>by rw [(hf b hb).1] at e;cases e
 refine I.step (g':=s.gens) (d':=s.drawn) (ch:=fp) (fun b hb=>?_) (fun b o _ _ hc e _=>k b o hc e) (fun b o _ _ hc e _=>⟨o.slots,k b o hc e⟩) (fun _ _ _ _ n=>n)
  (fun b o hc e=>⟨o,k b o hc e⟩) (fun _ _ e=>e) (fun _ _ _ e=>e) (fun b ps e=>⟨#[],by rw [e];simp⟩) (fun m hm=>?_) (fun b u e=>?_) I.bare
 ·obtain⟨_,f1,_,f3,f4,f5⟩:=hf b hb
  exact⟨f3,f1,f4,f5⟩
 ·obtain⟨o,es,ep,ho,r⟩:=hm
  exact⟨o,es,ep,k _ o (fun z=>(hf _ z).2.1 rfl) ho,r⟩
 ·refine(I.hok b u e).stay (fun c v hc q=>k c v ?_ q) (fun _ q=>q) fun _ _ q=>q
  rcases hc with z|z
  ·rw [z];exact nin b u e
  ·exact nin c _ z
theorem adopt{p:Addr}{o:HO}(I:Inv X pins σ H s)(f:q0f X pins H p)(new:ObjOk X.prog X.w (upd H p o) s.heap p o): Inv X pins σ (upd H p o) s:=by
 have hp:=f.1;obtain⟨_,f1,_,f3,f4,f5⟩:=f;have ne:∀ {b:Addr} {u:HO},H b=some u->upd H p o b=some u:=fun {b u} e=>by rw [qo (jt e hp)];exact e
 refine I.step (h':=s.heap) (g':=s.gens) (t':=s.toks) (d':=s.drawn) (ch:=[p]) (fun b hb=>?_) (fun b o _ _ hc e _=>e) (fun b o _ _ hc e _=>⟨o.slots,e⟩) (fun b o hc e n=>?_)
  (fun b o hc e=>⟨o,e⟩) (fun _ _ e=>ne e) (fun _ _ _ e=>ne e) (fun b ps e=>⟨#[],by rw [ne e];simp⟩) (fun m hm=>hm) (fun b u e=>?_) I.bare
 ·obtain rfl:b=p:=by simpa using hb
  exact⟨f3,f1,f4,f5⟩
 ·rw [qo (fun z=>hc (by simp [z]))];exact n
 ·by_cases hb:b=p
  ·subst hb;rw [qz] at e;cases e;exact new
  ·rw [qo hb] at e
   exact(I.hok b u e).stay (fun c v _ q=>q) (fun c q=>ne q) fun c xs q=>ne q
def Sq:Bool->Frag->Hp->Addr->List V->Prop
 | true=>SqL
 | false=>SqT
theorem q79{b:Bool}{a:Addr}{xs:List V}(I:Inv X pins σ H s)(h:Sq b X.K H a xs): ∃its:List Value,Vals xs its/\SO b s.heap a its.toArray:=by
 cases b with
 | true=>obtain⟨its,r,⟨o,n,e,c,_,d⟩,_⟩:=I.list h;exact⟨its,r,o,e,c,n,d⟩
 | false=>obtain⟨its,r,⟨o,e,c,n,d⟩,_⟩:=I.tuple h;exact⟨its,r,o,e,c,n,d⟩
theorem qka{b:Bool}{a:Addr}{xs ys:List V}(I:Inv X pins σ H s)(h:Sq b X.K H a xs)(h':Sq b X.K H a ys): xs=ys:=by
 cases b with
 | true=>exact I.list_inj h h'
 | false=>exact I.tuple_inj h h'
theorem q0n{b:Bool}{K:Frag}{F H:Hp}{a:Addr}{xs:List V}(e:Same F H)(h:Sq b K F a xs): Sq b K H a xs:=by
 cases b with
 | true=>exact e.seq h
 | false=>exact ql e h
theorem q22{b:Bool}{a c:Addr}{xs:List V}(I:Inv X pins σ H s)(h:Sq b X.K H a xs)(f:q0f X pins H c): a≠c:=by
 obtain⟨f0,f1,f2,f3,_⟩:=f;have inK:∀ {o:Obj},X.K.lookup a=some o->a≠c:=fun {o} hk z=>by
  subst z;have hb:X.base.get? a=some o:=I.mod.kin a o hk;rcases f3 with q|q
  ·exact I.ok.noex a o hb q
  ·exact absurd (gh (gz hb) (md I.ok.bsz q)) (g0d _)
 have trk:∀ {u:HO},H a=some u->a≠c:=fun {u} e z=>by subst z;rw [f0] at e;cases e
 cases b with
 | true=>
  rcases h with(h|⟨o,h⟩)|⟨o,its,n,hk,_⟩
  ·exact trk h
  ·exact trk h
  ·exact inK hk
 | false=>
  rcases h with(h|⟨o,h⟩)|⟨o,its,n,hk,_⟩
  ·exact trk h
  ·exact trk h
  ·exact inK hk
end
def Itz(K:Frag)(b1:Bool)(a1:Addr)(b2:Bool)(a2:Addr): It:=
 ⟨fun i H=>∃xs ys x y,Sq b1 K H a1 xs/\Sq b2 K H a2 ys/\xs[i]? = some x/\ys[i]? = some y,
  fun i H v H'=>∃p x y,H p=none/\(∀xs,Sq b1 K H a1 xs->xs[i]? = some x)/\(∀ys,Sq b2 K H a2 ys->ys[i]? = some y)/\v=.ref p/\H'=upd H p (.tup [x,y]),
  fun i H=>∃xs ys,Sq b1 K H a1 xs/\Sq b2 K H a2 ys/\(xs.length<=i\/ys.length<=i)⟩
theorem qmw{P:Program}{w:World}{K:Frag}{elts:List Expr}{x1}{tp:Pos}{b1 b2:Bool}{a1 a2 z ti to i1 i2:Addr}(D:Z5 z ti to i1 i2):
  Turn P w K (.Tuple elts x1 tp) (Itz K b1 a1 b2 a2) [z,ti,to,i1,i2] z
   (fun i h=>IsZip h z ti to .none/\IsPair h ti (.ref i1) (.ref i2)/\(∃p q,IsPair h to p q)/\SI b1 h i1 a1 i/\SI b2 h i2 a2 i) where
 mem:=by simp
 obj:=fun i h ⟨c1,c2,⟨p,q,c3⟩,⟨o4,c4,_,d4⟩,⟨o5,c5,_,d5⟩⟩ b hb=>by
  simp only [mf,uq,g1o] at hb;rcases hb with rfl|rfl|rfl|rfl|rfl
  ·exact⟨_,c1,fun v z=>by cases z⟩
  ·exact⟨_,c2,fun v z=>by cases z⟩
  ·exact⟨_,c3,fun v z=>by cases z⟩
  ·exact⟨_,c4,fun v z=>by rw [d4] at z;cases z⟩
  ·exact⟨_,c5,fun v z=>by rw [d5] at z;cases z⟩
 keep:=fun i h h' ⟨c1,c2,⟨p,q,c3⟩,c4,c5⟩ k=>⟨k _ (by simp) _ c1,k _ (by simp) _ c2,⟨p,q,k _ (by simp) _ c3⟩,c4.keep fun o e=>k _ (by simp) o e,c5.keep fun o e=>k _ (by simp) o e⟩
 item:=by
  intro X hP hw hK hc i pins s σ H E I hf st hg;subst hP hw hK;obtain⟨xs,ys,x,y,q1,q2,hx,hy⟩:=hg;obtain⟨its1,v1,o1⟩:=q79 I q1;obtain⟨its2,v2,o2⟩:=q79 I q2;obtain⟨u1,hu1,ru1⟩:=v1.get hx;obtain⟨u2,hu2,ru2⟩:=v2.get hy;obtain⟨c1,c2,⟨p,q,c3⟩,c4,c5⟩:=st;have off:∀ {b:Bool} {a:Addr} {ws:List V},Sq b X.K H a ws->Off a z to i1 i2:=fun h=>⟨q22 I h (hf _ (by simp)),q22 I h (hf _ (by simp)),q22 I h (hf _ (by simp)),q22 I h (hf _ (by simp))⟩
  refine qi4 D (off q1) (off q2) c1 c2 c3 c4 c5 o1 o2 (x:=u1) (y:=u2) (by simpa using hu1) (by simpa using hu2) fun g n1 n2 n3 n4 n5 n6 n7=>?_;refine⟨_,rfl,wpAny_letOwnedTupleGo_zip n1 fun g2 m1 sb=>?_⟩;have hsz:z<s.heap.objs.size:=gz c1;have kp:∀c o,c∉[z,ti,to,i1,i2]->s.heap.get? c=some o->g2.get? c=some o:=fun c o hc e=>by
   simp only [mf,uq,g1o,g5x] at hc;exact sb.extBut _ _ hc.1 (n7 c o hc.1 hc.2.2.1 hc.2.2.2.1 hc.2.2.2.2 e)
  have I1:Inv X pins σ H {s with heap:=g2}:=qh7 (t':=s.toks) I hf kp;have fp:q0f X pins H s.heap.objs.size:=I.fpOk (gv _) I.fresh;have hT:IsPair g2 s.heap.objs.size u1 u2:=sb.extBut _ _ (uh hsz) n5;have I2:Inv X pins σ (upd H s.heap.objs.size (.tup [x,y])) {s with heap:=g2}:=
   adopt I1 fp ⟨by show 2<=sizeLine;decide,[u1,u2],.cons ru1 (.cons ru2 .nil),⟨_,hT,rfl,rfl,_,rfl⟩⟩
  refine⟨.ref s.heap.objs.size,_,I2,rfl,⟨_,x,y,I.fresh,fun ws h=>?_,fun ws h=>?_,rfl,rfl⟩,⟨m1,?_,⟨u1,u2,sb.extBut _ _ D.a2 n2⟩,n3.ext sb.extBut D.a3,n4.ext sb.extBut D.a4⟩,fun b hb=>?_⟩
  ·rw [qka I h q1];exact hx
  ·rw [qka I h q2];exact hy
  ·exact sb.extBut _ _ D.a1 (n7 _ _ D.a1 D.a5 D.a6 D.a7 c2)
  ·have hb0:=(hf b hb).1
   have:b≠s.heap.objs.size:=by
    simp only [mf,uq,g1o] at hb;rcases hb with rfl|rfl|rfl|rfl|rfl
    ·exact m9 hsz
    ·exact m9 (gz c2)
    ·exact m9 (gz c3)
    ·obtain⟨_,e,_⟩:=c4;exact m9 (gz e)
    ·obtain⟨_,e,_⟩:=c5;exact m9 (gz e)
   rw [qo this];exact hb0
 done:=by
  intro X hP hw hK hc i pins s σ H E I hf st hg;subst hP hw hK;obtain⟨xs,ys,q1,q2,hend⟩:=hg;obtain⟨its1,v1,o1⟩:=q79 I q1;obtain⟨its2,v2,o2⟩:=q79 I q2;obtain⟨c1,c2,⟨p,q,c3⟩,c4,c5⟩:=st;have off:∀ {b:Bool} {a:Addr} {ws:List V},Sq b X.K H a ws->Off a z to i1 i2:=fun h=>⟨q22 I h (hf _ (by simp)),q22 I h (hf _ (by simp)),q22 I h (hf _ (by simp)),q22 I h (hf _ (by simp))⟩
  refine qch (I.ok.hd hc) D (off q1) (off q2) c1 c2 c3 c4 c5 o1 o2 ?_ fun g n7=>⟨rfl,qh7 (t':=s.toks) I hf fun c o hc e=>?_⟩
  ·have l1:=v1.length
   have l2:=v2.length;rcases hend with h|h
   ·exact .inl (by simp;lia)
   ·exact .inr (by simp;lia)
  ·simp only [mf,uq,g1o,g5x] at hc
   exact n7 c o hc.1 hc.2.2.1 hc.2.2.2.1 hc.2.2.2.2 e
 self:=fun A i s Q E st h=>wpAny_pyIter_zip st.1 h
def q67(xs ys:List D): List D:=List.zipWith (fun a b=>.tup [a,b]) xs ys
theorem qpw{K:Frag}{F:Hp}{b1 b2:Bool}{a1 a2:Addr}{xs ys:List V}{ds es:List D}(h1:Sq b1 K F a1 xs)(h2:Sq b2 K F a2 ys)(r1:RepL K F ds xs)(r2:RepL K F es ys): ItD K F (q67 ds es) (Itz K b1 a1 b2 a2) where
 go:=fun i F' H s1 s2 hi=>by
  have hi':i<ds.length/\i<es.length:=by unfold q67 at hi;rw [List.length_zipWith] at hi;lia
  exact⟨xs,ys,xs[i]'(by rw [<- r1.length];exact hi'.1),ys[i]'(by rw [<- r2.length];exact hi'.2),q0n (s1.trans s2) h1,q0n (s1.trans s2) h2,by simp,by simp⟩
 yld:=fun i d F' H x H' s1 s2 hi ⟨p,x1,y1,hp,q1,q2,e1,e2⟩=>by
  subst e1 e2;unfold q67 at hi;rw [List.getElem?_zipWith] at hi;cases z1:ds[i]? with
  | none=>rw [z1] at hi;cases hi
  | some d1=>
   cases z2:es[i]? with
   | none=>rw [z1,z2] at hi;cases hi
   | some d2=>
    rw [z1,z2] at hi;cases hi;obtain⟨v1,k1,k2⟩:=r1.get z1;obtain⟨v2,k3,k4⟩:=r2.get z2;have w1:=q1 xs (q0n (s1.trans s2) h1);have w2:=q2 ys (q0n (s1.trans s2) h2);rw [k1] at w1;cases w1;rw [k3] at w2;cases w2;have gn:Grow F' H (upd F' p (.tup [x1,y1])) (upd H p (.tup [x1,y1])):=Grow.new s2 hp;exact⟨_,gn,rep_tup.mpr ⟨p,_,rfl,SqT.of qz,.cons ((k2.mono s1).mono gn.ff) (.cons ((k4.mono s1).mono gn.ff) .nil)⟩⟩
 stop:=fun i F' H s1 s2 hi=>by
  unfold q67 at hi;rw [List.length_zipWith] at hi;refine⟨xs,ys,q0n (s1.trans s2) h1,q0n (s1.trans s2) h2,?_⟩;rw [<- r1.length, <- r2.length];lia
section
variable{X:Cx}{pos:Pos}{elts:List Expr}{x1:Nat}{tp:Pos}
def qvv(K:Frag)(ta:TA): TI:=fun σ H R=>ta σ H fun vs H1=>∃b1 a1 xs b2 a2 ys,vs=[.ref a1,.ref a2]/\Sq b1 K H1 a1 xs/\Sq b2 K H1 a2 ys/\R (Itz K b1 a1 b2 a2) H1
theorem qkb:bootBuiltins "zip" = some (.type "zip"):=by decide +kernel
theorem qt4{a b:Expr}{ta:TA}{p:Pos}(hg:Gl X "zip")(hm:X.mg "zip" = none)(ha:PA X [a,b] ta)(hs:starEach [a,b] X.env=[(false,eval a X.env),(false,eval b X.env)]:=by rfl)(hs2:starEach [b] X.env=[(false,eval b X.env)]:=by rfl):
  PI X (.Tuple elts x1 tp) (.Call (.Name "zip" p) [a,b] [] pos) (qvv X.K ta):=by
 intro pins s σ H R I h;refine Call_ (q06 I hg hm qkb (g0b (thn (ha pos pins s σ H _ I h) fun us s1 ⟨vs,H1,I1,r1,q1⟩=>?_) (by rw [hs,hs2]) (by rw [hs2];rfl)));obtain⟨b1,a1,xs,b2,a2,ys,rfl,k1,k2,q⟩:=q1;obtain⟨u1,u2,rfl,e1,e2⟩:=r1.two;cases e1;cases e2;obtain⟨its1,v1,o1⟩:=q79 I1 k1;obtain⟨its2,v2,o2⟩:=q79 I1 k2;refine callType_new F.called_zip (by decide) (F.typeCall_zip_2 _ _) (F.newCall_zip_2 _ _) (fun obj=>F.args_object_init_3 obj _ _) F.entry_zip_new (qi5 b1 b2 a1 a2 its1.toArray its2.toArray) ⟨o1,o2,?_⟩;have z1:(zh1 b1 s1.heap a1).objs.size=s1.heap.objs.size+1:=p7 ..;have z2:(zh2 b1 b2 s1.heap a1 a2).objs.size=s1.heap.objs.size+2:=by unfold zh2;rw [p7,z1]
 have z3:(zh3 b1 b2 s1.heap a1 a2).objs.size=s1.heap.objs.size+3:=by unfold zh3;rw [p7,z2]
 have z4:(zh4 b1 b2 s1.heap a1 a2).objs.size=s1.heap.objs.size+4:=by unfold zh4;rw [p7,z3]
 have g5:(zh5 b1 b2 s1.heap a1 a2).get? (zh4 b1 b2 s1.heap a1 a2).objs.size=some {cls:=.type "zip",data:=.fields #[.none,.bool false,.bool false,.ref (zh2 b1 b2 s1.heap a1 a2).objs.size,.ref (zh3 b1 b2 s1.heap a1 a2).objs.size]}:=gj _ rfl;have g4:(zh5 b1 b2 s1.heap a1 a2).get? (zh3 b1 b2 s1.heap a1 a2).objs.size=some {cls:=.type "tuple",data:=.seq #[.none,.none]}:=gc _ (gj _ rfl);have g3:(zh5 b1 b2 s1.heap a1 a2).get? (zh2 b1 b2 s1.heap a1 a2).objs.size=some {cls:=.type "tuple",data:=.seq #[.ref s1.heap.objs.size,.ref (zh1 b1 s1.heap a1).objs.size]}:=gc _ (gc _ (gj _ rfl));have g2:(zh5 b1 b2 s1.heap a1 a2).get? (zh1 b1 s1.heap a1).objs.size=some {cls:=.type (itN b2),data:=.fields #[.ref a2,.int 0 0]}:=gc _ (gc _ (gc _ (gj _ rfl)));have g1:(zh5 b1 b2 s1.heap a1 a2).get? s1.heap.objs.size=some {cls:=.type (itN b1),data:=.fields #[.ref a1,.int 0 0]}:=gc _ (gc _ (gc _ (gc _ (gj _ rfl))));have kp:∀c o,s1.heap.get? c=some o->(zh5 b1 b2 s1.heap a1 a2).get? c=some o:=fun c o e=>gc _ (gc _ (gc _ (gc _ (gc _ e))));have I2:Inv X pins σ H1 {s1 with heap:=zh5 b1 b2 s1.heap a1 a2}:=I1.kept (t':=s1.toks) kp;refine⟨⟨_,g5,rfl⟩,wpAny_pyIter_zip g5 ?_⟩;refine⟨_,_,_,_,H1,rfl,I2,qmw (b1:=b1) (b2:=b2) (a1:=a1) (a2:=a2) (i1:=s1.heap.objs.size) (i2:=(zh1 b1 s1.heap a1).objs.size) ?_,⟨g5,g3,⟨_,_,g4⟩,⟨_,g1,rfl,rfl⟩,⟨_,g2,rfl,rfl⟩⟩,fun c hc=>?_,q⟩
 ·constructor <;> (first|exact m9 (by lia)|exact uh (by lia))
 ·have hge:s1.heap.objs.size<=c:=by
   simp only [mf,uq,g1o] at hc;rcases hc with rfl|rfl|rfl|rfl|rfl <;> lia
  exact I1.fpOk hge (I1.hok.fresh hge)
def qmx(fa:FA): FA:=fun ρ =>(fa ρ).bind fun ds=>match ds with
 | [x,y]=>(q83 x).bind fun xs=>(q83 y).map fun ys=>q67 xs ys
 | _=>none
theorem qh8{K:Frag}{F:Hp}{d:D}{ds:List D}{v:V}(h:q83 d=some ds)(r:Rep K F d v): ∃b a xs,v=.ref a/\Sq b K F a xs/\RepL K F ds xs:=by
 cases d <;> simp only [q83] at h <;> first|(cases h;done)|skip
 ·cases h
  obtain⟨a,xs,rfl,h3,h4⟩:=rep_tup.mp r;exact⟨false,a,xs,rfl,h3,h4⟩
 ·cases h
  obtain⟨a,xs,rfl,h3,h4⟩:=rep_lst.mp r;exact⟨true,a,xs,rfl,h3,h4⟩
theorem qt5{a b:Expr}{fa:FA}{p:Pos}(hg:Gl X "zip")(hm:X.mg "zip" = none)(ha:PA X [a,b] (tDA X.K fa))(hs:starEach [a,b] X.env=[(false,eval a X.env),(false,eval b X.env)]:=by rfl)(hs2:starEach [b] X.env=[(false,eval b X.env)]:=by rfl):
  PI X (.Tuple elts x1 tp) (.Call (.Name "zip" p) [a,b] [] pos) (tDI X.K (qmx fa)):=q65 (qt4 hg hm ha hs hs2) fun σ H R ⟨F0,H0,F, ρ,ds,r,hf,q⟩=>by
 obtain⟨es,h1,h2⟩:=gd.mp hf;refine⟨F0,H0,F, ρ,es,r,h1,fun vs F' H' g' r'=>?_⟩
 split at h2
 ·rename_i x y
  obtain⟨xs,k1,h2⟩:=gd.mp h2;obtain⟨ys,k2,h2⟩:=mj.mp h2;subst h2;obtain⟨v1,t,rfl,e1,e2⟩:=r'.cons_inv;obtain⟨v2,t2,rfl,e3,e4⟩:=e2.cons_inv;cases e4.nil_inv;obtain⟨b1,a1,us,rfl,s1,l1⟩:=qh8 k1 e1;obtain⟨b2,a2,ws,rfl,s2,l2⟩:=qh8 k2 e3;exact⟨b1,a1,us,b2,a2,ws,rfl,q0n g'.fh s1,q0n g'.fh s2,q _ F' H' g' (qpw s1 s2 l1 l2)⟩
 ·cases h2
end
section
variable{X:Cx}{e:Expr}{es:List Expr}{kws:List Keyword}{pos:Pos}{f g:FE}{fa fk:FA}
def qvw(n m:Nat)(fa fk:FA): FA:=fun ρ =>(fa ρ).bind fun ds=>(fk ρ).bind fun es=>if ds.length=n/\es.length=m then some (ds++es) else none
def quw(ar:Nat)(op:List D->Option D): List D->Option D:=fun ds=>if ds.length=ar then op ds else none
end
structure Cal(P:Program)(w:World)(K:Frag)(mg:Str->Option Value)(base:Heap)(x:Str)(k:Nat)(ps:List Str)(ar:Nat)(op:List D->Option D)(fn:Addr)(fd:FuncData): Prop where
 ok:FnOk P w K mg base CX0 k fn fd ps (spD K ar op)
 mg:mg x=some (.ref fn)
 kp:PySem.W.keepIn K (.ref fn)=true
section
variable{X:Cx}{e:Expr}{es:List Expr}{kws:List Keyword}{pos p:Pos}{fa fk:FA}{k ar k':Nat}{fn:Addr}{fd:FuncData}{ps ks:List Str}{op:List D->Option D}{x:Str}
theorem qr(C:Cal X.prog X.w X.K X.mg X.base x k ps ar op fn fd)(b:Binds X.K fd ps [])(hr:Room k' X.A)(hk:k<=k')(hg:Gl X x)(ha:PA X (e :: es) (tDA X.K fa))(hdb:(x==("__debug__" : Str))=false:=by decide)
  (he:starEach (e :: es) X.env=(false,eval e X.env) :: starEach es X.env:=by rfl) (hpl:(backTo pos (starEach es X.env)).any (·.1)=false:=by rfl):PE X (.Call (.Name x p) (e :: es) [] pos) (tD X.K (qf (qj ar [] op) fa)):=
 qps C.ok (hr.mono hk) hg C.mg C.kp b .nil (fun H=>.nil) ha hdb he hpl
def qae:D->Option D
 | .int i=>some (.int (-i))
 | _=>none
theorem qt6{f:FE}(ha:PE X e (tD X.K f)): PE X (.UnaryOp .USub e pos) (tD X.K (eUn qae f)):=by
 intro pins s σ H Q I h;obtain⟨F0,H0,F, ρ,d,r,hf,q⟩:=h;obtain⟨d',h1,h2⟩:=gd.mp hf;cases d' <;> simp only [qae] at h2 <;> first|(cases h2;done)|skip
 cases h2;refine UnaryOp_ (thn (ha pins s σ H (fun v H'=>∃F',Grow F H F' H'/\Rep X.K F' (.int _) v) I ⟨F0,H0,F, ρ,_,r,h1,fun v F' H' g' r'=>⟨F',g',r'⟩⟩) fun v s1 ⟨x,H1,I1,r1,F',g',r'⟩=>?_);cases rep_int.mp r';obtain⟨t,rfl⟩:=r1;exact neg_int ⟨.int _,H1,I1.tok _,⟨_,rfl⟩,q _ F' H1 g' (rep_int.mpr rfl)⟩
end
structure Fun2(K:Frag)(x qual:Str)(st:Stmt)(dV:Value)(f:Addr)(fd:FuncData): Prop where
 ex:∃(oc:Value) (od:Option Addr) (kV doc pm:Value) (an:Option Addr) (cdv ct:Value) (osl:Array (Option Value)),
  fd=PySem.W.fnOf x qual (vz st) (qp st) (qc st) dV kV doc pm an cdv ct/\K.lookup f=some ⟨oc,od,.func fd,osl⟩/\PySem.W.codeIn K cdv qual=true
 kp:PySem.W.keepIn K (.ref f)=true
section
variable{P:Program}{w:World}{K:Frag}{mg:Str->Option Value}{base:Heap}{x qual:Str}{st:Stmt}{dV:Value}{f:Addr}{fd:FuncData}{N ps:List Str}
theorem Fun2.ok{k:Nat}{u:FS}(F:Fun2 K x qual st dV f fd)(S:FnScope N ps (qc st))
  (hb:∀(cdv:Value) (A:Around) (outer:List Env) (s:Shared) (H:Hp) (E:XK),Room k (A.deeper (envOfC qual (qc st) s.heap.objs.size f cdv))->PSs (zj CX0 P w K mg base N qual (qc st) f cdv A outer s H E).nox (qp st) (tDS K u)) :
  FnOk P w K mg base CX0 (k+1) f fd ps (spD K ps.length (z9 N.length u)):=by
 obtain⟨oc,od,kV,doc,pm,an,cdv,ct,osl,rfl,lk,hcd⟩:=F.ex;exact qoy lk hcd S fun A outer s H E hr=>hb cdv A outer s H E hr
theorem Fun2.okn{k n ar k1:Nat}{u:FS}(F:Fun2 K x qual st dV f fd)(S:FnScope N ps (qc st))(hn:N.length=n)(ha:ps.length=ar)(hk:k+1=k1)
  (hb:∀(cdv:Value) (A:Around) (outer:List Env) (s:Shared) (H:Hp) (E:XK),Room k (A.deeper (envOfC qual (qc st) s.heap.objs.size f cdv))->PSs (zj CX0 P w K mg base N qual (qc st) f cdv A outer s H E).nox (qp st) (tDS K u)) :
  FnOk P w K mg base CX0 k1 f fd ps (spD K ar (z9 n u)):=by
 subst hn ha hk;exact F.ok S hb
theorem qaf{oc:Value}{od an:Option Addr}{osl:Array (Option Value)}{kV doc pm cdv ct:Value}(l:K.lookup f=some ⟨oc,od,.func (PySem.W.fnOf x qual (vz st) (qp st) (qc st) dV kV doc pm an cdv ct),osl⟩)
  (c:PySem.W.codeIn K cdv qual=true) (k:PySem.W.keepIn K (.ref f)=true):Fun2 K x qual st dV f (PySem.W.fnOf x qual (vz st) (qp st) (qc st) dV kV doc pm an cdv ct):=⟨⟨oc,od,kV,doc,pm,an,cdv,ct,osl,rfl,l,c⟩,k⟩
theorem Fun2.bindsTo(F:Fun2 K x qual st dV f fd){P:FuncData->Prop}(h:∀(kV doc pm:Value) (an:Option Addr) (cdv ct:Value),P (PySem.W.fnOf x qual (vz st) (qp st) (qc st) dV kV doc pm an cdv ct)): P fd:=by
 obtain⟨oc,od,kV,doc,pm,an,cdv,ct,osl,rfl,lk,hcd⟩:=F.ex;exact h kV doc pm an cdv ct
end
def qcs(K:Frag): Sp:=fun vs H Q _=>∃(a:Addr) (ns:List Int) (F:Hp),vs=[.ref a]/\SameT F H/\SqL K F a (ns.map V.int)/\ns.length<=63/\∀H',Q (.bl true) H'
theorem qt7{P:Program}{w:World}{K:Frag}{mg:Str->Option Value}{base:Heap}{k:Nat}{f:Addr}{fd:FuncData}{x:Str}{op:List D->Option D}(F:FnOk P w K mg base CX0 k f fd [x] (spD K 1 op))(h:∀ns:List Int,ns.length<=63->op [.lst (ns.map .int)]=some (.bl true)):
  FnOk P w K mg base CX0 k f fd [x] (qcs K):=F.imp fun vs H Q E ⟨a,ns,Fz,e,fz,hS,hl,q⟩=>by
 subst e;exact⟨Fz,[.lst (ns.map .int)],.bl true,fz,.cons (rep_lst.mpr ⟨a,_,rfl,hS,RepL.ints.mpr rfl⟩) .nil,rfl,h ns hl,fun v F' H' g' r'=>by rw [rep_bl.mp r'];exact q H'⟩
section
variable{X:Cx}{pos:Pos}{f g:FE}{a b:Expr}
abbrev oLt':=oLt
theorem qt8:OpR X (compareOp .Lt) (rD X.K oLt'):=quo
end
section
variable{X:Cx}{pos:Pos}{f g k:FE}{a b c:Expr}
theorem qh9{pins:List (Addr×Obj)}{σ : St}{H:Hp}{s:Shared}(I:Inv X pins σ H s): sysModules<s.heap.objs.size:=
 Nat.lt_trans (by decide) (I.mod.glob.keeps I.bk).lt
def q7a:D->D->Bool
 | .non,.non=>true
 | .bl a,.bl b=>a==b
 | _,_=>false
def oIs(neg:Bool): D->D->Option D
 | x,.non=>some (.bl (if neg then !q7a x .non else q7a x .non))
 | x,.bl b=>some (.bl (if neg then !q7a x (.bl b) else q7a x (.bl b)))
 | _,_=>none
theorem qux{M:Model}{A:Around}{E:Value->Shared->Prop}{s:Shared}{Q:Value->Shared->Prop}{v:Value}{c:Bool}(hv:∀id,v ≠ .builtin id)(h:Q (.bool (v == .bool c)) s): wpAny M A (compareOp .Is v (.bool c)) Q E s:=by
 cases v <;> first|exact g9 h|exact absurd rfl (hv _)
theorem qt9{K:Frag}{F:Hp}{d:D}{x:V}{v:Value}(r:Rep K F d x)(rv:RelV x v): ∀id,v ≠ .builtin id:=by
 intro id;cases d with
 | non=>cases rep_non.mp r;cases rv;intro z;cases z
 | bl b=>cases rep_bl.mp r;cases rv;intro z;cases z
 | int i=>cases rep_int.mp r;obtain⟨t,rfl⟩:=rv;intro z;cases z
 | str i=>cases rep_str.mp r;obtain⟨t,rfl⟩:=rv;intro z;cases z
 | tup ds=>obtain⟨p,xs,rfl,_⟩:=rep_tup.mp r;cases rv;intro z;cases z
 | lst ds=>obtain⟨p,xs,rfl,_⟩:=rep_lst.mp r;cases rv;intro z;cases z
 | dct ks vs=>obtain⟨p,xs,rfl,_⟩:=rep_dct.mp r;cases rv;intro z;cases z
 | dtt ks vs=>obtain⟨p,xs,ys,ep,rfl,_⟩:=rep_dtt.mp r;cases rv;intro z;cases z
 | obj C=>obtain⟨p,dx,_,rfl,_⟩:=rep_obj.mp r;cases rv;intro z;cases z
 | exc C=>obtain⟨p,_,rfl,_⟩:=rep_exc.mp r;cases rv;intro z;cases z
theorem qmy{K:Frag}{F:Hp}{d:D}{x:V}{v:Value}(r:Rep K F d x)(rv:RelV x v): (v==Value.none)=q7a d .non:=by
 cases d with
 | non=>cases rep_non.mp r;cases rv;rfl
 | bl b=>cases rep_bl.mp r;cases rv;rfl
 | int i=>cases rep_int.mp r;obtain⟨t,rfl⟩:=rv;rfl
 | str i=>cases rep_str.mp r;obtain⟨t,rfl⟩:=rv;rfl
 | tup ds=>obtain⟨p,xs,rfl,_⟩:=rep_tup.mp r;cases rv;rfl
 | lst ds=>obtain⟨p,xs,rfl,_⟩:=rep_lst.mp r;cases rv;rfl
 | dct ks vs=>obtain⟨p,xs,rfl,_⟩:=rep_dct.mp r;cases rv;rfl
 | dtt ks vs=>obtain⟨p,xs,ys,ep,rfl,_⟩:=rep_dtt.mp r;cases rv;rfl
 | obj C=>obtain⟨p,dx,_,rfl,_⟩:=rep_obj.mp r;cases rv;rfl
 | exc C=>obtain⟨p,_,rfl,_⟩:=rep_exc.mp r;cases rv;rfl
theorem qpx{K:Frag}{F:Hp}{d:D}{x:V}{v:Value}{c:Bool}(r:Rep K F d x)(rv:RelV x v): (v==Value.bool c)=q7a d (.bl c):=by
 cases d with
 | non=>cases rep_non.mp r;cases rv;rfl
 | bl b=>cases rep_bl.mp r;cases rv;cases b <;> cases c <;> rfl
 | int i=>cases rep_int.mp r;obtain⟨t,rfl⟩:=rv;rfl
 | str i=>cases rep_str.mp r;obtain⟨t,rfl⟩:=rv;rfl
 | tup ds=>obtain⟨p,xs,rfl,_⟩:=rep_tup.mp r;cases rv;rfl
 | lst ds=>obtain⟨p,xs,rfl,_⟩:=rep_lst.mp r;cases rv;rfl
 | dct ks vs=>obtain⟨p,xs,rfl,_⟩:=rep_dct.mp r;cases rv;rfl
 | dtt ks vs=>obtain⟨p,xs,ys,ep,rfl,_⟩:=rep_dtt.mp r;cases rv;rfl
 | obj C=>obtain⟨p,dx,_,rfl,_⟩:=rep_obj.mp r;cases rv;rfl
 | exc C=>obtain⟨p,_,rfl,_⟩:=rep_exc.mp r;cases rv;rfl
theorem qp2(_hc:X.calm=true): OpR X (compareOp .Is) (rD X.K (oIs false)):=fun pins s σ H x y v u Q I rx ry ⟨F,d1,d2,d,q1,q2,q3,q4,q5⟩=>by
 cases d2 <;> simp only [oIs] at q4 <;> first|(cases q4;done)|skip
 ·cases rep_non.mp q3
  cases ry;refine is_none_gen ⟨.bl _,H,I,rfl,?_⟩;rw [qmy q2 rx];cases q4;exact q5 _ F H (.refl q1) (rep_bl.mpr rfl)
 ·cases rep_bl.mp q3
  cases ry;refine qux (qt9 q2 rx) ⟨.bl _,H,I,rfl,?_⟩;rw [qpx q2 rx];cases q4;exact q5 _ F H (.refl q1) (rep_bl.mpr rfl)
end
theorem qag:fillsNumberSlot (.type "tuple") "mul" = pure false:=
 PySem.fillsNumberSlot_seq (id:="tuple.__mul__") (r:=some (.builtin "tuple.__rmul__")) g29.lookup (by decide +kernel) F.slot_tuple_rmul.lookup (by decide +kernel)
theorem qi6:seqRepeat? (.type "tuple")=pure (some (.builtin "tuple.__mul__")):=by
 unfold seqRepeat?;rw [PySem.seqSlot_of (T:="tuple") (name:="__mul__") g29.lookup (by decide +kernel),PySem.seqSlot_of (T:="tuple") (name:="__rmul__") F.slot_tuple_rmul.lookup (by decide +kernel)]
 rfl
theorem qmz(i:Int)(t:Tok)(l:Addr)(xs:Array Value)(n:Nat)(dd:Option Addr)(sl:Array (Option Value)):
  Meets (Builtin.«int.__rmul__» ⟨[.int i t,.ref l],[]⟩) (fun _ R s=>s.heap.get? l=some {cls:=.type "tuple",dict:=dd,data:=.seq xs n,slots:=sl}/\R (.ok (.ret Value.notImplemented)) s):=
 .of_wp fun prog w A R s h=>by
  obtain⟨hp,g,d,tk,os⟩:=s;obtain⟨hl,h⟩:=h
  wp_walk
  exact⟨_,rfl,h⟩
theorem qdj(i:Int)(t:Tok)(l:Addr)(xs:Array Value)(n:Nat)(dd:Option Addr)(sl:Array (Option Value))(h0:¬(decide (i < -(2 ^ 63)) || decide (i>=2 ^ 63))=true)(h1:(xs.isEmpty || i==1)=true):
  Meets (Builtin.«tuple.__mul__» ⟨[.ref l,.int i t],[]⟩) (fun _ R s=>s.heap.get? l=some {cls:=.type "tuple",dict:=dd,data:=.seq xs n,slots:=sl}/\R (.ok (.ret (.ref l))) s):=
 .of_wp fun prog w A R s h=>by
  obtain⟨hp,g,d,tk,os⟩:=s;obtain⟨hl,h⟩:=h;have f1:=g57;have f2:=g1p
  wp_walk using g06 hl
  refine g3s (nk h0) ?_
  wp_walk using g06 hl
  exact⟨_,rfl,h⟩
theorem qdk(i:Int)(t:Tok)(l:Addr)(xs:Array Value)(n:Nat)(dd:Option Addr)(sl:Array (Option Value))(h0:¬(decide (i < -(2 ^ 63)) || decide (i>=2 ^ 63))=true)(h1:¬(xs.isEmpty || i==1)=true)(h2:(decide (i<=0) || xs.isEmpty)=true):
  Meets (Builtin.«tuple.__mul__» ⟨[.ref l,.int i t],[]⟩) (fun _ R s=>s.heap.get? l=some {cls:=.type "tuple",dict:=dd,data:=.seq xs n,slots:=sl}/\R (.ok (.ret (.ref s.heap.objs.size))) {s with heap:=s.heap.push {cls:=.type "tuple",data:=.seq #[]} }):=
 .of_wp fun prog w A R s h=>by
  obtain⟨hp,g,d,tk,os⟩:=s;obtain⟨hl,h⟩:=h;have f1:=g57;have f2:=g1p
  wp_walk using g06 hl
  refine g3s (nk h0) ?_
  wp_walk using g06 hl
  exact⟨_,rfl,h⟩
theorem qdl(i:Int)(t:Tok)(l:Addr)(xs:Array Value)(n:Nat)(dd:Option Addr)(sl:Array (Option Value))(h0:¬(decide (i < -(2 ^ 63)) || decide (i>=2 ^ 63))=true)(h1:¬(xs.isEmpty || i==1)=true)(h2:¬(decide (i<=0) || xs.isEmpty)=true)
  (h3:¬((xs.size:Int)*i>(2 ^ 63-1) / 8)) (h4:¬Builtin.Tuple.tupleTooMany ((xs.size:Int)*i)=true) (h5:((List.replicate i.toNat xs).foldl (· ++ ·) #[]).size<=sizeLine) :
  Meets (Builtin.«tuple.__mul__» ⟨[.ref l,.int i t],[]⟩) (fun _ R s=>s.heap.get? l=some {cls:=.type "tuple",dict:=dd,data:=.seq xs n,slots:=sl}/\R (.ok (.ret (.ref s.heap.objs.size))) {s with heap:=s.heap.push {cls:=.type "tuple",data:=.seq ((List.replicate i.toNat xs).foldl (· ++ ·) #[])} }):=
 .of_wp fun prog w A R s h=>by
  obtain⟨hp,g,d,tk,os⟩:=s;obtain⟨hl,h⟩:=h;have f1:=g57;have f2:=g1p
  wp_walk using g06 hl
  refine g3s (nk h0) ?_
  wp_walk using g06 hl
  refine g3s (nk h3) ?_
  wp_walk using g06 hl
  exact⟨_,rfl,h⟩
theorem qdm(xs:Array Value): ∀(n:Nat) (acc:Array Value),((List.replicate n xs).foldl (· ++ ·) acc).toList=acc.toList++(List.replicate n xs.toList).flatten
 | 0,acc=>by simp
 | n+1,acc=>by
  rw [g13,g5h,qdm xs n (acc++xs),g13,g22,pj,mm]
theorem qbi(xs:List Value)(n:Nat): (List.replicate n xs.toArray).foldl (· ++ ·) #[]=(List.replicate n xs).flatten.toArray:=by
 apply Array.toList_inj.mp;rw [qdm];simp
section
variable{prog:Program}{w:World}{A:Around}{E:Value->Shared->Prop}{s:Shared}
theorem qpy{t:Addr}{vs:List Value}{i:Int}{u:Tok}{Q:Value->Shared->Prop}(ht:IsTup s.heap t vs.toArray)(h0 : -(2 ^ 62)<i)(h1:i<2 ^ 62)(hz:vs.length*i.toNat<=1000000)
  (q1:(vs=[]\/i=1)->Q (.ref t) s) (q2:¬(vs=[]\/i=1)->Q (.ref s.heap.objs.size) {s with heap:=s.heap.push {cls:=.type "tuple",data:=.seq (List.replicate i.toNat vs).flatten.toArray} }) :
  wpAny (model prog w) A (binaryOp .Mult (.ref t) (.int i u)) Q E s:=by
 obtain⟨⟨cls,dd,data,sl⟩,ho,hc,n,hd⟩:=id ht;simp only at hc hd;subst hc hd;have ty:s.TypeIs (.ref t) "tuple" :=⟨_,ho,rfl⟩
 have b0:¬(decide (i < -(2 ^ 63)) || decide (i>=2 ^ 63))=true:=by
  simp only [g1c,p5,g5x]
  constructor <;> lia
 refine wpAny_binaryOp_repeat_ref (T:="tuple") (U:="int") (by decide) ty (fun s'=>typeIs_int s' i u) qag F.fills_int_mul F.slot_int_rmul qi6 F.slot_int_index.lookup
  (g3p F.slot_int_rmul (typeIs_int s i u) F.entry_int_rmul (F.args_int_rmul_2 _ _) (qmz i u t vs.toArray n dd sl) ⟨ho,rfl,ty,?_⟩)
 have em:vs.toArray.isEmpty=true↔vs=[]:=by simp
 by_cases c1:(vs.toArray.isEmpty || i==1)=true
 ·have c1':vs=[]\/i=1:=by simpa using c1
  exact g3p g29 ty g4s (g4g _ _) (qdj i u t vs.toArray n dd sl b0 c1) ⟨ho,q1 c1'⟩
 ·have c1':¬(vs=[]\/i=1):=by simpa using c1
  have q:=q2 c1'
  by_cases c2:(decide (i<=0) || vs.toArray.isEmpty)=true
  ·have i0:i<=0:=by
    rcases g1c _ _ ▸ c2 with z|z
    ·exact tf z
    ·exact absurd (.inl (em.mp z)) c1'
   have e:(List.replicate i.toNat vs).flatten.toArray = #[]:=by
    rw [show i.toNat=0 by lia];rfl
   rw [e] at q;exact g3p g29 ty g4s (g4g _ _) (qdk i u t vs.toArray n dd sl b0 c1 c2) ⟨ho,q⟩
  ·have c2':0<i:=by
    have:¬i<=0:=fun z=>c2 (by rw [mq z];rfl);lia
   have ei:(vs.toArray.size:Int)*i=((vs.length*i.toNat:Nat):Int):=by
    rw [Int.natCast_mul,g2f (by lia),gm]
   have el:(List.replicate i.toNat vs).flatten.length=vs.length*i.toNat:=by
    rw [List.length_flatten,List.map_replicate,g5o,Nat.mul_comm]
   rw [<- qbi] at q;refine g3p g29 ty g4s (g4g _ _) (qdl i u t vs.toArray n dd sl b0 c1 c2 ?_ ?_ ?_) ⟨ho,q⟩
   ·rw [ei];lia
   ·rw [ei]
    unfold Builtin.Tuple.tupleTooMany;have:sizeLine=16777216:=g2e;rw [this,p5];lia
   ·rw [qbi,gm,el]
    exact xa hz
end
section
variable{X:Cx}
def qn0:D->D->Option D
 | .tup xs,.int n=>if decide (-(2 ^ 62)<n)&&decide (n<2 ^ 62)&&decide (xs.length*n.toNat<=lim) then some (.tup (List.replicate n.toNat xs).flatten) else none
 | _,_=>none
theorem qdn{xs:List V}{us:List Value}(r:Vals xs us): ∀n:Nat,Vals (List.replicate n xs).flatten (List.replicate n us).flatten
 | 0=>.nil
 | n+1=>by rw [g13,g13,g22,g22];exact r.append (qdn r n)
theorem qdo{K:Frag}{H:Hp}{ds:List D}{xs:List V}(r:RepL K H ds xs): ∀n:Nat,RepL K H (List.replicate n ds).flatten (List.replicate n xs).flatten
 | 0=>.nil
 | n+1=>by rw [g13,g13,g22,g22];exact r.append (qdo r n)
theorem qta:OpR X (binaryOp .Mult) (rD X.K qn0):=fun pins s σ H x y v u Q I rx ry ⟨F,d1,d2,d,q1,q2,q3,q4,q5⟩=>by
 unfold qn0 at q4
 split at q4
 ·rename_i ds n
  split at q4
  ·rename_i hc
   cases q4;simp only [m8,p5] at hc;obtain⟨⟨c1,c2⟩,c3⟩:=hc;obtain⟨p,xs,rfl,z1,z2⟩:=rep_tup.mp q2;cases rep_int.mp q3;cases rx;obtain⟨t,rfl⟩:=ry;obtain⟨its,r1,p1,hz⟩:=I.tuple (ql q1 z1);have lx:=r1.length;have ld:=z2.length;refine qpy p1 c1 c2 (by rw [<- lx, <- ld];exact c3) (fun hq=>?_) fun hq=>?_
   ·have e:(List.replicate n.toNat ds).flatten=ds:=by
     rcases hq with z|z
     ·have:ds=[]:=g5d.mp (by rw [ld,lx,z];rfl)
      subst this;simp
     ·subst z;simp [List.replicate]
    rw [e] at q5;exact⟨.ref p,H,I,rfl,q5 _ F H (.refl q1) q2⟩
   ·have hn:H s.heap.objs.size=none:=I.hok.fresh (gv _)
    have rr:=qdn r1 n.toNat;have el:(List.replicate n.toNat xs).flatten.length=ds.length*n.toNat:=by
     rw [List.length_flatten,List.map_replicate,g5o,Nat.mul_comm,ld]
    refine⟨.ref s.heap.objs.size,_,I.laid (t':=s.toks) (o:=.tup (List.replicate n.toNat xs).flatten) (fun b ob q=>gc _ q) (gv _) ⟨by rw [el];exact xa c3,_,rr,TupX.new _ _⟩,rfl,?_⟩;have gn:=Grow.new (o:=.tup (List.replicate n.toNat xs).flatten) q1 hn;exact q5 _ _ _ gn (rep_tup.mpr ⟨_,_,rfl,SqT.of qz,(qdo z2 n.toNat).mono gn.ff⟩)
  ·cases q4
 ·cases q4
def jv:D->D->Option D:=fun x y=>(oMul x y).or (qn0 x y)
theorem vt:OpR X (binaryOp .Mult) (rD X.K jv):=q90 qss qta
end
section
variable{prog:Program}{w:World}{A:Around}{E:Value->Shared->Prop}{s:Shared}
end
section
variable{X:Cx}{pos:Pos}{elts:List Expr}{x1:Nat}{tp:Pos}
end
section
variable{X:Cx}{st:Stmt}
abbrev oBand:=oI (fun _ _=>true) fun i j=>Builtin.bitAnd i j
theorem qah:OpR X (binaryOp .BitAnd) (rD X.K oBand):=qd5 qsc
theorem q68:∀ {l m:List Int},l.Perm m->l.Pairwise (· <= ·)->m.Pairwise (· <= ·)->l=m
 | [],m,p,_,_=>(p.nil_eq).symm ▸ rfl
 | x :: l,[],p,_,_=>by cases p.length_eq
 | x :: l,y :: m,p,.cons h1 h2,.cons k1 k2=>by
  have e:x=y:=by
   have hx:x∈y :: m:=p.mem_iff.mp gq;have hy:y∈x :: l:=p.mem_iff.mpr gq;rcases mf.mp hx with e|hx
   ·exact e
   ·rcases mf.mp hy with e|hy
    ·exact e.symm
    ·exact Int.le_antisymm (h1 y hy) (k1 x hx)
  subst e;rw [q68 (List.perm_cons _ |>.mp p) h2 k2]
theorem q1z:∀ {us:List Value} {ns:List Int},IntsAre us ns->Vals (ns.map V.int) us
 | _,_,.nil=>.nil
 | _,_,.cons n t h=>.cons ⟨t,rfl⟩ (q1z h)
theorem boot_sorted:bootBuiltins "sorted" = some (.builtin "sorted"):=by decide +kernel
end
section
variable{X:Cx}{pins:List (Addr×Obj)}{σ : St}{F H:Hp}{s:Shared}
theorem q9c(I:Inv X pins σ H s)(fh:Same F H)(A:Around): ∀ {ds es:List D} {xs ys:List V} {us vs:List Value},vq ds es=true->A.units+v7 ds<cLine->RepL X.K F ds xs->RepL X.K F es ys->Vals xs us->Vals ys vs ->
   ∀j (h1:j<us.length) (h2:j<vs.length),SeqAt.EqAt A s us[j] vs[j] (eqJ ds es j)
 | [],es,xs,ys,us,vs,_,_,k1,_,w1,_,j,h1,_=>by
  cases k1.nil_inv;cases w1;exact absurd h1 (ph _)
 | d :: ds,es,xs,ys,us,vs,ho,hd,k1,k2,w1,w2,j,h1,h2=>by
  obtain⟨x,r,rfl,a1,a2⟩:=k1.cons_inv;cases w1 with
  | cons p1 p2=>
   cases es with
   | nil=>cases k2.nil_inv;cases w2;exact absurd h2 (ph _)
   | cons e es=>
    obtain⟨y,r',rfl,b1,b2⟩:=k2.cons_inv;cases w2 with
    | cons p3 p4=>
     simp only [vq,m8] at ho;simp only [v7] at hd;cases j with
     | zero=>
      have e0:eqJ (d :: ds) (e :: es) 0=eqD d e:=by simp [eqJ]
      rw [e0];exact q9b I fh A ho.1 (by lia) a1 b1 p1 p3
     | succ j=>
      have e0:eqJ (d :: ds) (e :: es) (j+1)=eqJ ds es j:=by simp [eqJ]
      rw [e0];exact q9c I fh A ho.2 (by lia) a2 b2 p2 p4 j (by simpa using h1) (by simpa using h2)
def qn1:D->D->Option D
 | .tup ds,.tup es=>if vq ds es&&decide (v7 ds<=60) then some (.bl (!eqL ds es)) else none
 | _,_=>none
theorem qtb(hu:X.A.units+64<cLine): OpR X (compareOp .NotEq) (rD X.K qn1):=by
 intro pins s σ H x y v u Q I rx ry h;obtain⟨F,d1,d2,d,fh,r1,r2,ho,q⟩:=h;unfold qn1 at ho
 split at ho
 ·rename_i ds es
  split at ho
  ·rename_i hc
   cases ho;rw [m8] at hc;obtain⟨a,xs,rfl,k1,k2⟩:=rep_tup.mp r1;obtain⟨b,ys,rfl,k3,k4⟩:=rep_tup.mp r2;cases rx;cases ry;obtain⟨i1,v1,t1,_⟩:=I.tuple (ql fh k1);obtain⟨i2,v2,t2,_⟩:=I.tuple (ql fh k3);have hq:=q9c I fh X.A.in1 hc.1 (by have:=tf hc.2;show X.A.units+1+v7 ds<cLine;lia) k2 k4 v1 v2;have:=SeqAt.RcNeAt.tuples (A:=X.A) (e:=eqJ ds es) (show s.heap.IsTuple a i1.toArray from t1) (show s.heap.IsTuple b i2.toArray from t2) (by lia) (fun j h1 h2=>by simpa using hq j (by simpa using h1) (by simpa using h2));simp only [gm, <- v1.length, <- v2.length, <- k2.length, <- k4.length,yr] at this;exact this X.prog X.w _ _ ⟨.bl _,H,I,rfl,q _ F H (.refl fh) (rep_bl.mpr rfl)⟩
  ·cases ho
 ·cases ho
abbrev qn2:D->D->Option D:=fun x y=>(q4s x y).or (qn1 x y)
theorem qtc(hu:X.A.units+64<cLine): OpR X (compareOp .NotEq) (rD X.K qn2):=q90 q91 (qtb hu)
end
end DL
namespace DL
open PySem PyProof.Rows L2
def rkD:D->Nat
 | .int _=>0
 | .tup _=>1
 | _=>2
mutual
def q0g:D->D->Ordering
 | .int i,.int j=>if i<j then .lt else if j<i then .gt else .eq
 | .tup ds,.tup es=>q10 ds es
 | d,e=>if rkD d<rkD e then .lt else if rkD e<rkD d then .gt else .eq
def q10:List D->List D->Ordering
 | [],[]=>.eq
 | [],_ :: _=>.lt
 | _ :: _,[]=>.gt
 | d :: ds,e :: es=>match q0g d e with
  | .eq=>q10 ds es
  | o=>o
end
def ltT(d e:D): Bool:=(q0g d e).isLT
def q03(ds es:List D): Bool:=(q10 ds es).isLT
mutual
/-- ints, and tuples of such -/
def kD:D->Bool
 | .int _=>true
 | .tup ds=>kDL ds
 | _=>false
def kDL:List D->Bool
 | []=>true
 | d :: ds=>kD d&&kDL ds
end
mutual
/-- where Python compares these two, it meets only ints with ints, tuples with tuples -/
def shD:D->D->Bool
 | .int _,.int _=>true
 | .tup ds,.tup es=>shL ds es
 | _,_=>false
def shL:List D->List D->Bool
 | d :: ds,e :: es=>shD d e&&shL ds es
 | _,_=>true
end
def q69(k:D×D): List (D×D)->List (D×D)
 | []=>[k]
 | y :: r=>if ltT y.1 k.1=true then y :: q69 k r else k :: y :: r
def q2i:List (D×D)->List (D×D)
 | []=>[]
 | x :: r=>q69 x (q2i r)
theorem swap3{a b:Nat}: (if a<b then Ordering.lt else if b<a then .gt else .eq).swap=if b<a then .lt else if a<b then .gt else .eq:=by
 by_cases h:a<b
 ·rw [mh h,mi (by omega),mh h];rfl
 ·by_cases k:b<a
  ·rw [mi h,mh k,mh k];rfl
  ·rw [mi h,mi k,mi k,mi h];rfl
theorem swap4{a b:Int}: (if a<b then Ordering.lt else if b<a then .gt else .eq).swap=if b<a then .lt else if a<b then .gt else .eq:=by
 by_cases h:a<b
 ·rw [mh h,mi (by omega),mh h];rfl
 ·by_cases k:b<a
  ·rw [mi h,mh k,mh k];rfl
  ·rw [mi h,mi k,mi k,mi h];rfl
theorem qdp:∀n,(∀d e:D,sizeOf d<n->q0g e d=(q0g d e).swap)/\(∀ds es:List D,sizeOf ds<n->q10 es ds=(q10 ds es).swap):=by
 intro n
 induction n with
 | zero=>exact⟨fun d e h=>absurd h (ph _),fun d e h=>absurd h (ph _)⟩
 | succ n ih=>
  refine⟨fun d e hn=>?_,fun ds es hn=>?_⟩
  ·cases d <;> cases e <;> simp only [q0g] <;> first
    | exact swap3.symm
    | exact swap4.symm
    | exact ih.2 _ _ (by simp at hn;omega)
  ·cases ds with
   | nil=>cases es <;> simp only [q10] <;> rfl
   | cons d ds=>
    cases es with
    | nil=>simp only [q10];rfl
    | cons e es=>
     simp only [q10];rw [ih.1 d e (by simp at hn;omega),ih.2 ds es (by simp at hn;omega)];cases q0g d e <;> rfl
theorem cmp_swap(d e:D): q0g e d=(q0g d e).swap:=(qdp (sizeOf d+1)).1 d e (tu _)
theorem q0o(d e:D)(ds es:List D): q03 (d :: ds) (e :: es)=(ltT d e || (!ltT e d&&q03 ds es)):=by
 unfold q03 ltT;rw [cmp_swap d e,q10];cases q0g d e <;> rfl
theorem q33(ds:List D): q03 ds []=false:=by cases ds <;> simp only [q03,q10] <;> rfl
theorem kx(e:D)(es:List D): q03 [] (e :: es)=true:=by simp only [q03,q10];rfl
theorem lt3{a b:Nat}: (if a<b then Ordering.lt else if b<a then .gt else .eq).isLT=decide (a<b):=by
 by_cases h:a<b
 ·simp [h]
 ·by_cases k:b<a <;> simp [h,k]
theorem lt4{a b:Int}: (if a<b then Ordering.lt else if b<a then .gt else .eq).isLT=decide (a<b):=by
 by_cases h:a<b
 ·simp [h]
 ·by_cases k:b<a <;> simp [h,k]
theorem wj(ds es:List D): ltT (.tup ds) (.tup es)=q03 ds es:=by unfold ltT;simp only [q0g];rfl
theorem vb(i j:Int): ltT (.int i) (.int j)=decide (i<j):=by unfold ltT;simp only [q0g];exact lt4
theorem qdq{d e:D}(h:ltT d e=true): ltT e d=false:=by
 unfold ltT at h ⊢;rw [cmp_swap d e];cases q:q0g d e <;> rw [q] at h <;> first|rfl|(cases h;done)
theorem q11(d e:D): (∃i j,d=.int i/\e=.int j)\/(∃ds es,d=.tup ds/\e=.tup es)\/ltT d e=decide (rkD d<rkD e):=by
 cases d <;> cases e <;> first
  | (left;exact⟨_,_,rfl,rfl⟩)
  | (right;left;exact⟨_,_,rfl,rfl⟩)
  | (right;right;simp only [ltT,q0g];exact lt3)
theorem qi7:∀n,(∀d e f:D,sizeOf d+sizeOf e+sizeOf f<n->ltT e d=false->ltT f e=false->ltT f d=false)/\(∀ds es fs:List D,sizeOf ds+sizeOf es+sizeOf fs<n->q03 es ds=false->q03 fs es=false->q03 fs ds=false):=by
 intro n
 induction n with
 | zero=>exact⟨fun d e f h=>absurd h (ph _),fun d e f h=>absurd h (ph _)⟩
 | succ n ih=>
  refine⟨fun d e f hn h k=>?_,fun ds es fs hn h k=>?_⟩
  ·rcases q11 e d with⟨i,j,rfl,rfl⟩|⟨es,ds,rfl,rfl⟩|g1
   ·rcases q11 f (.int i) with⟨i',j',rfl,z⟩|⟨es,ds,rfl,z⟩|g2
    ·cases z
     simp only [vb,ug] at h k ⊢;omega
    ·cases z
    ·rcases q11 f (.int j) with⟨i',j',rfl,z⟩|⟨es,ds,rfl,z⟩|g3
     ·rw [vb,ug] at k
      simp only [vb,ug] at h ⊢;omega
     ·cases z
     ·rw [g3];simp [rkD]
   ·rcases q11 f (.tup es) with⟨i',j',rfl,z⟩|⟨fs,es',rfl,z⟩|g2
    ·cases z
    ·cases z
     simp only [wj] at h k ⊢;exact ih.2 _ _ _ (by simp at hn;omega) h k
    ·rcases q11 f (.tup ds) with⟨i',j',rfl,z⟩|⟨fs,es',rfl,z⟩|g3
     ·cases z
     ·cases z
      simp only [wj] at h k ⊢;exact ih.2 _ _ _ (by simp at hn;omega) h k
     ·rw [g2] at k;rw [g3];exact k
   ·rcases q11 f e with⟨i,j,rfl,rfl⟩|⟨es,ds,rfl,rfl⟩|g2
    ·rcases q11 (.int i) d with⟨i',j',z,rfl⟩|⟨fs,es',z,rfl⟩|g3
     ·cases z
      rw [vb,ug] at h;simp only [vb,ug] at k ⊢;omega
     ·cases z
     ·rw [g1] at h;rw [g3];exact h
    ·rcases q11 (.tup es) d with⟨i',j',z,rfl⟩|⟨fs,es',z,rfl⟩|g3
     ·cases z
     ·cases z
      simp only [wj] at h k ⊢;exact ih.2 _ _ _ (by simp at hn;omega) h k
     ·rw [g1] at h;rw [g3];exact h
    ·rcases q11 f d with⟨i,j,rfl,rfl⟩|⟨es,ds,rfl,rfl⟩|g3
     ·rw [g1] at h;rw [g2] at k
      cases e <;> simp [rkD] at h k
      rename_i m;have h':ltT (.int m) (.int j)=false:=by rw [g1];simp [rkD]
      have k':ltT (.int i) (.int m)=false:=by rw [g2];simp [rkD]
      simp only [vb,ug] at h' k' ⊢;omega
     ·rw [g1] at h;rw [g2] at k
      cases e <;> simp [rkD] at h k
      rename_i ms;have h':ltT (.tup ms) (.tup ds)=false:=by rw [g1];simp [rkD]
      have k':ltT (.tup es) (.tup ms)=false:=by rw [g2];simp [rkD]
      simp only [wj] at h' k' ⊢;exact ih.2 _ _ _ (by simp at hn;omega) h' k'
     ·rw [g1] at h;rw [g2] at k;rw [g3]
      simp only [ug] at h k ⊢;omega
  ·cases fs with
   | nil=>
    cases es with
    | nil=>exact h
    | cons e es=>rw [kx] at k;cases k
   | cons f fs=>
    cases ds with
    | nil=>rw [q33]
    | cons d ds=>
     cases es with
     | nil=>rw [kx] at h;cases h
     | cons e es=>
      rw [q0o] at h k ⊢;have z1:sizeOf d+sizeOf e+sizeOf f<n:=by simp at hn;omega
      have z2:sizeOf ds+sizeOf es+sizeOf fs<n:=by simp at hn;omega
      have z3:sizeOf e+sizeOf f+sizeOf d<n:=by simp at hn;omega
      have z4:sizeOf f+sizeOf d+sizeOf e<n:=by simp at hn;omega
      simp only [Bool.or_eq_false_iff,g5y,g2v] at h k ⊢;obtain⟨h1,h2⟩:=h;obtain⟨k1,k2⟩:=k;refine⟨ih.1 d e f z1 h1 k1,?_⟩;rcases h2 with h2|h2
      ·left
       cases q:ltT d f
       ·-- f <= d and e <= f give e <= d
        have:=ih.1 e f d z3 k1 q;rw [this] at h2;cases h2
       ·rfl
      ·rcases k2 with k2|k2
       ·left
        cases q:ltT d f
        ·have:=ih.1 f d e z4 q h1
         rw [this] at k2;cases k2
        ·rfl
       ·right
        exact ih.2 ds es fs z2 h2 k2
theorem qdr{d e f:D}(h:ltT e d=false)(k:ltT f e=false): ltT f d=false:=(qi7 (sizeOf d+sizeOf e+sizeOf f+1)).1 d e f (tu _) h k
theorem qkc:∀n,(∀d e:D,sizeOf d<n->kD d=true->kD e=true->ltT d e=false->ltT e d=false->d=e)/\(∀ds es:List D,sizeOf ds<n->kDL ds=true->kDL es=true->q03 ds es=false->q03 es ds=false->ds=es):=by
 intro n
 induction n with
 | zero=>exact⟨fun d e h=>absurd h (ph _),fun d e h=>absurd h (ph _)⟩
 | succ n ih=>
  refine⟨fun d e hn kd ke h k=>?_,fun ds es hn kd ke h k=>?_⟩
  ·cases d <;> simp only [kD] at kd <;> first|(cases kd;done)|skip
   all_goals (cases e <;> simp only [kD] at ke <;> first|(cases ke;done)|skip)
   ·simp only [vb,ug] at h k
    congr 1;omega
   ·simp [ltT,q0g,rkD] at h
   ·simp [ltT,q0g,rkD] at k
   ·simp only [wj] at h k
    rw [ih.2 _ _ (by simp at hn;omega) kd ke h k]
  ·cases ds with
   | nil=>
    cases es with
    | nil=>rfl
    | cons e es=>rw [kx] at h;cases h
   | cons d ds=>
    cases es with
    | nil=>rw [kx] at k;cases k
    | cons e es=>
     rw [q0o] at h k;simp only [kDL,m8] at kd ke;simp only [Bool.or_eq_false_iff,g5y,g2v] at h k;have hd:sizeOf d<n:=by simp at hn;omega
     have hds:sizeOf ds<n:=by simp at hn;omega
     have e1:=ih.1 d e hd kd.1 ke.1 h.1 k.1;have e2:=ih.2 ds es hds kd.2 ke.2 (h.2.resolve_left (by rw [k.1];simp)) (k.2.resolve_left (by rw [h.1];simp));rw [e1,e2]
theorem lt_eq{d e:D}(kd:kD d=true)(ke:kD e=true)(h:ltT d e=false)(k:ltT e d=false): d=e:=(qkc (sizeOf d+1)).1 d e (tu _) kd ke h k
theorem q6a(x:D×D): ∀l,(q69 x l).Perm (x :: l)
 | []=>.refl _
 | y :: r=>by
  unfold q69
  split
  ·exact((q6a x r).cons y).trans (.swap x y r)
  ·exact .refl _
theorem q9d:∀l,(q2i l).Perm l
 | []=>.refl _
 | x :: r=>(q6a x _).trans ((q9d r).cons x)
def leT(x y:D×D): Prop:=ltT y.1 x.1=false
theorem qbj(x:D×D): ∀ {l:List (D×D)},l.Pairwise leT->(q69 x l).Pairwise leT
 | [],_=>.cons (fun _ h=>by cases h) .nil
 | y :: r,.cons h1 h2=>by
  unfold q69
  split
  ·rename_i hxy
   refine .cons (fun z hz=>?_) (qbj x h2);rcases mf.mp ((q6a x r).mem_iff.mp hz) with rfl|hz
   ·exact qdq hxy
   ·exact h1 z hz
  ·rename_i hxy
   have hxy':ltT y.1 x.1=false:=by simpa using hxy
   refine .cons (fun z hz=>?_) (.cons h1 h2);rcases mf.mp hz with rfl|hz
   ·exact hxy'
   ·exact qdr hxy' (h1 z hz)
theorem q9e:∀l,(q2i l).Pairwise leT
 | []=>.nil
 | x :: r=>qbj x (q9e r)
theorem qds:∀ {l m:List (D×D)},l.Perm m->l.Pairwise leT->m.Pairwise leT->(∀x∈l,∀y∈l,ltT x.1 y.1=false->ltT y.1 x.1=false->x=y)->l=m
 | [],m,p,_,_,_=>(p.nil_eq).symm ▸ rfl
 | x :: l,[],p,_,_,_=>by cases p.length_eq
 | x :: l,y :: m,p,.cons h1 h2,.cons k1 k2,hu=>by
  have e:x=y:=by
   have hx:x∈y :: m:=p.mem_iff.mp gq;have hy:y∈x :: l:=p.mem_iff.mpr gq;rcases mf.mp hx with e|hx
   ·exact e
   ·rcases mf.mp hy with e|hy'
    ·exact e.symm
    ·exact hu x gq y hy (k1 x hx) (h1 y hy')
  subst e;rw [qds (List.perm_cons _ |>.mp p) h2 k2 (fun a ha b hb=>hu a (gu _ ha) b (gu _ hb))]
theorem qn3{l m:List (D×D)}(p:m.Perm l)(h:m.Pairwise leT)(hu:∀x∈l,∀y∈l,ltT x.1 y.1=false->ltT y.1 x.1=false->x=y): m=q2i l:=
 qds (p.trans (q9d l).symm) h (q9e l) (fun x hx y hy=>hu x (p.mem_iff.mp hx) y (p.mem_iff.mp hy))
end DL
namespace Srt
open PySem PyProof.Rows
structure Cmp(prog:Program)(w:World)(A:Around)(s:Shared)(κ : SortKind)(G:Value->Prop)(lt:Value->Value->Bool): Prop where
 ask:∀x y,G x->G y->∀Q:Bool->Shared->Prop,Q (lt x y) s->wpAny (model prog w) A (keyLt' κ x y) Q (fun _ _=>False) s
 asy:∀x y,lt x y=true->lt y x=false
 tra:∀x y z,lt y x=false->lt z y=false->lt z x=false
abbrev q2a:Bool->Keyed->Array Keyed->Nat->Nat->Nat->StateT SortSt Sem (Option Nat):=sortPriv% PySem.Builtin.gallop
noncomputable def qtd(far:Nat->StateT SortSt Sem (Option Bool))(n l0 r0:Nat): StateT SortSt Sem (Option Nat):=do
 let mut l:=l0
 let mut r:=r0
 for _ in [0:n] do
  if l>=r then break
  let c:=l+(r-l) / 2
  let some go <- far c|return none
  if go then l:=c+1 else r:=c
 return some r
noncomputable def qn4(far:Nat->StateT SortSt Sem (Option Bool))(n hi0:Nat): StateT SortSt Sem (Option Nat):=do
 let mut u:=0
 let mut v:=1
 let mut l:=0
 let mut r:=0
 let some rg <- far hi0|return none
 if rg then
  let mo:=n-hi0
  for _ in [0:n] do
   if v>=mo then break
   let some go <- far (hi0+v)|return none
   if !go then break
   u:=v
   v:=2*v+1
  l:=hi0+u+1
  r:=hi0+min v mo
 else
  let mo:=hi0+1
  for _ in [0:n] do
   if v>=mo then break
   let some go <- far (hi0-v)|return none
   if go then break
   u:=v
   v:=2*v+1
  l:=hi0+1-min v mo
  r:=hi0-u
 for _ in [0:n] do
  if l>=r then break
  let c:=l+(r-l) / 2
  let some go <- far c|return none
  if go then l:=c+1 else r:=c
 return some r
noncomputable def qte(lf:Bool)(ke:Keyed)(xs:Array Keyed)(ba i:Nat): StateT SortSt Sem (Option Bool):=do
 let x <- elem' xs (ba+i)
 if lf then lt' x ke else return (<- lt' ke x).map (!·)
theorem qpz(lf:Bool)(ke:Keyed)(xs:Array Keyed)(ba n hi0:Nat): q2a lf ke xs ba n hi0=qn4 (qte lf ke xs ba) n hi0:=rfl
section
variable{prog:Program}{w:World}{A:Around}{E:Value->Shared->Prop}{s:Shared}{κ : SortKind}{G:Value->Prop}{lt:Value->Value->Bool}
def kz(p:Option Keyed): Value:=match p with|some p=>p.1|none=>.none
theorem q4e{C:Cmp prog w A s κ G lt}{st:SortSt}{x y:Keyed}{Q:Option Bool->SortSt->Prop}(hk:kindOf st = κ)(gx:G x.1)(gy:G y.1)(h:Q (some (lt x.1 y.1)) st):
  wpS (model prog w) A E s (lt' x y) Q st:=by
 rw [lt'_eq];refine gw (g34 ?_);rw [hk];exact gw (wpS_lift (g0n (u0 (C.ask _ _ gx gy (fun b s'=>s'=s/\b=lt x.1 y.1) ⟨rfl,rfl⟩) (fun b s' h'=>by
  obtain⟨rfl,rfl⟩:=h';exact⟨rfl,ml h⟩) fun _ _ e=>e.elim)))
theorem zk{st:SortSt}{xs:Array Keyed}{i:Nat}{Q:Keyed->SortSt->Prop}(hi:i<xs.size)(h:Q xs[i] st): wpS (model prog w) A E s (elem' xs i) Q st:=by
 rw [elem'_eq,g1q xs i hi];exact ml h
def far1(lt:Value->Value->Bool)(lf:Bool)(ke x:Keyed): Bool:=if lf then lt x.1 ke.1 else !lt ke.1 x.1
theorem qn5{st:SortSt}{far:Nat->StateT SortSt Sem (Option Bool)}{n hi0:Nat}{Q:Option Nat->SortSt->Prop}(f:Nat->Bool)(hh:hi0<n)
  (hfar:∀i,i<n->∀R:Option Bool->SortSt->Prop,R (some (f i)) st->wpS (model prog w) A E s (far i) R st)
  (mono':∀i j,i<=j->j<n->f j=true->f i=true)
  (h':∀k,k<=n->(∀i,i<k->f i=true)->(∀i,k<=i->i<n->f i=false)->Q (some k) st) :
  wpS (model prog w) A E s (qn4 far n hi0) Q st:=by
 unfold qn4;have bin:∀l r,l<=r->r<=n->(∀i,i<l->f i=true)->(∀i,r<=i->i<n->f i=false)->wpS (model prog w) A E s (qtd far n l r) Q st:=by
  intro l r hlr hrn ha hb;unfold qtd;refine gw (tx (ur (I:=fun x c st'=>st'=st/\∃l r,c=(none,l,r)/\l<=r/\r<=n/\r-l<=n-x/\(∀i,i<l->f i=true)/\(∀i,r<=i->i<n->f i=false))
   (Q:=fun c st'=>st'=st/\∃r,c=(none,r,r)/\r<=n/\(∀i,i<r->f i=true)/\(∀i,r<=i->i<n->f i=false)) ?_ ?_ ?_) ?_)
  ·rintro x c st' _ hx ⟨rfl,l,r,rfl,h1,h2,h3,h4,h5⟩
   dsimp only
   by_cases hge:l>=r
   ·rw [mh hge]
    have:l=r:=by omega
    subst this;exact ml ⟨rfl,l,rfl,h2,h4,h5⟩
   ·rw [mi hge]
    refine gw (hfar _ (by omega) _ ?_);cases e:f (l+(r-l) / 2)
    ·simp only [gr,p8]
     refine ml ⟨rfl,_,_,rfl,by omega,by omega,by omega,h4,fun i i1 i2=>?_⟩;cases e':f i
     ·rfl
     ·rw [mono' _ _ i1 i2 e'] at e;cases e
    ·simp only [nj]
     exact ml ⟨rfl,_,_,rfl,by omega,by omega,by omega,fun i i1=>mono' _ _ (by omega) (by omega) e,h5⟩
  ·rintro c st' ⟨rfl,l,r,rfl,h1,h2,h3,h4,h5⟩
   have:l=r:=by omega
   subst this;exact⟨rfl,l,rfl,h2,h4,h5⟩
  ·exact⟨rfl,l,r,rfl,hlr,hrn,by omega,ha,hb⟩
  ·rintro c st' ⟨rfl,r,rfl,h2,h4,h5⟩
   exact ml (h' r h2 h4 h5)
 refine gw (hfar hi0 hh _ ?_);dsimp only;cases e0:f hi0
 ·simp only [gr,p8]
  refine gw (tx (ur (I:=fun x c st'=>st'=st/\∃u v,c=(none,u,v)/\u<v/\x+1<=v/\u<=hi0/\f (hi0-u)=false)
   (Q:=fun c st'=>st'=st/\∃u v,c=(none,u,v)/\u<v/\u<=hi0/\f (hi0-u)=false/\(v>=hi0+1\/f (hi0-v)=true)) ?_ ?_ ?_) ?_)
  ·rintro x c st' _ hx ⟨rfl,u,v,rfl,h1,h2,h3,h4⟩
   dsimp only
   by_cases hge:v>=hi0+1
   ·rw [mh hge]
    exact ml ⟨rfl,u,v,rfl,h1,h3,h4,.inl hge⟩
   ·rw [mi hge]
    refine gw (hfar _ (by omega) _ ?_);cases e:f (hi0-v)
    ·simp only [gr,p8]
     exact ml ⟨rfl,v,2*v+1,rfl,by omega,by omega,by omega,e⟩
    ·simp only [nj]
     exact ml ⟨rfl,u,v,rfl,h1,h3,h4,.inr e⟩
  ·rintro c st' ⟨rfl,u,v,rfl,h1,h2,h3,h4⟩
   exact⟨rfl,u,v,rfl,h1,h3,h4,.inl (by omega)⟩
  ·exact⟨rfl,0,1,rfl,by omega,by omega,by omega,e0⟩
  ·rintro c st' ⟨rfl,u,v,rfl,h1,h3,h4,h5⟩
   dsimp only;refine bin (hi0+1-min v (hi0+1)) (hi0-u) (by omega) (by omega) (fun i hi=>?_) (fun i i1 i2=>?_)
   ·rcases h5 with h5|h5
    ·omega
    ·exact mono' _ _ (by omega) (by omega) h5
   ·cases e':f i
    ·rfl
    ·rw [mono' _ _ i1 i2 e'] at h4;cases h4
 ·simp only [nj]
  refine gw (tx (ur (I:=fun x c st'=>st'=st/\∃u v,c=(none,u,v)/\u<v/\x+1<=v/\hi0+u<n/\f (hi0+u)=true)
   (Q:=fun c st'=>st'=st/\∃u v,c=(none,u,v)/\u<v/\hi0+u<n/\f (hi0+u)=true/\(v>=n-hi0\/f (hi0+v)=false)) ?_ ?_ ?_) ?_)
  ·rintro x c st' _ hx ⟨rfl,u,v,rfl,h1,h2,h3,h4⟩
   dsimp only
   by_cases hge:v>=n-hi0
   ·rw [mh hge]
    exact ml ⟨rfl,u,v,rfl,h1,h3,h4,.inl hge⟩
   ·rw [mi hge]
    refine gw (hfar _ (by omega) _ ?_);cases e:f (hi0+v)
    ·simp only [g26,nj]
     exact ml ⟨rfl,u,v,rfl,h1,h3,h4,.inr e⟩
    ·simp only [g0o,gr,p8]
     exact ml ⟨rfl,v,2*v+1,rfl,by omega,by omega,by omega,e⟩
  ·rintro c st' ⟨rfl,u,v,rfl,h1,h2,h3,h4⟩
   exact⟨rfl,u,v,rfl,h1,h3,h4,.inl (by omega)⟩
  ·exact⟨rfl,0,1,rfl,by omega,by omega,by omega,e0⟩
  ·rintro c st' ⟨rfl,u,v,rfl,h1,h3,h4,h5⟩
   dsimp only;refine bin (hi0+u+1) (hi0+min v (n-hi0)) (by omega) (by omega) (fun i hi=>mono' _ (hi0+u) (by omega) (by omega) h4) (fun i i1 i2=>?_);rcases h5 with h5|h5
   ·omega
   ·cases e':f i
    ·rfl
    ·by_cases hv:v<=n-hi0
     ·rw [mono' _ _ (show hi0+v<=i by omega) i2 e'] at h5;cases h5
     ·omega
theorem q2r(C:Cmp prog w A s κ G lt){st:SortSt}{lf:Bool}{ke:Keyed}{xs:Array Keyed}{ba n hi0:Nat}{Q:Option Nat->SortSt->Prop}(hk:kindOf st = κ)
  (gk:G ke.1) (gx:∀p∈xs.toList,G p.1) (hh:hi0<n) (hn:ba+n<=xs.size)
  (mono:∀i j,(hij:i<=j)->(hj:j<n)->far1 lt lf ke (xs[ba+j]'(by omega))=true->far1 lt lf ke (xs[ba+i]'(by omega))=true)
  (h:∀k,k<=n->(∀i,(hi:i<k)->(hi':i<n)->far1 lt lf ke (xs[ba+i]'(by omega))=true)->(∀i,k<=i->(hi:i<n)->far1 lt lf ke (xs[ba+i]'(by omega))=false)->Q (some k) st) :
  wpS (model prog w) A E s (q2a lf ke xs ba n hi0) Q st:=by
 rw [qpz];obtain⟨f,hf⟩:∃f:Nat->Bool,∀i,(hi:i<n)->f i=far1 lt lf ke (xs[ba+i]'(by omega)):=⟨fun i=>if hi:i<n then far1 lt lf ke (xs[ba+i]'(by omega)) else false,fun i hi=>by simp [hi]⟩
 refine qn5 f hh (fun i hi R hR=>?_) (fun i j hij hj e=>?_) (fun k hk1 a b=>?_)
 ·unfold qte
  refine gw (zk (by omega) ?_);have gi:G (xs[ba+i]'(by omega)).1:=gx _ (by simp);rw [hf i hi] at hR;unfold far1 at hR;cases lf
  ·simp only [gr,p8] at hR ⊢
   exact gw (q4e (C:=C) hk gk gi (ml hR))
  ·simp only [nj] at hR ⊢
   exact q4e (C:=C) hk gi gk hR
 ·rw [hf i (by omega)];rw [hf j hj] at e
  exact mono i j hij hj e
 ·exact h k hk1 (fun i hi hi'=>by rw [<- hf i hi'];exact a i hi) (fun i hi hi'=>by rw [<- hf i hi'];exact b i hi hi')
end
def le(lt:Value->Value->Bool)(p q:Keyed): Prop:=lt q.1 p.1=false
structure MI(lt:Value->Value->Bool)(la lb o:List Keyed)(ia ib:Nat): Prop where
 perm:o.Perm (la.take ia++lb.take ib)
 ord:o.Pairwise (le lt)
 ua:∀p∈o,∀q∈la.drop ia,le lt p q
 ub:∀p∈o,∀q∈lb.drop ib,le lt p q
section
variable{lt:Value->Value->Bool}{la lb o:List Keyed}{ia ib:Nat}
theorem MI.swap(h:MI lt la lb o ia ib): MI lt lb la o ib ia:=⟨h.perm.trans u6,h.ord,h.ub,h.ua⟩
theorem qai(sa:la.Pairwise (le lt))(h:ia<la.length): ∀q∈la.drop (ia+1),le lt la[ia] q:=by
 have e:=t6 h;have s2:=g2w (i:=ia) sa;rw [e] at s2;exact(g17.mp s2).1
theorem MI.step(m:MI lt la lb o ia ib)(sa:la.Pairwise (le lt))(h:ia<la.length)(hq:∀q∈lb.drop ib,le lt la[ia] q): MI lt la lb (o++[la[ia]]) (ia+1) ib:=by
 have e:=t6 h;refine⟨?_,?_,?_,?_⟩
 ·rw [t5 h]
  refine(m.perm.append_right _).trans ?_;rw [mm,mm];exact uw _ u6
 ·refine nv.mpr ⟨m.ord,g36 _ _,fun p hp q hq=>?_⟩
  rw [mv.mp hq];exact m.ua p hp _ (by rw [e];exact gq)
 ·intro p hp q hq'
  rcases nt.mp hp with hp|hp
  ·exact m.ua p hp q (by rw [e];exact gu _ hq')
  ·rw [mv.mp hp]
   exact qai sa h q hq'
 ·intro p hp q hq'
  rcases nt.mp hp with hp|hp
  ·exact m.ub p hp q hq'
  ·rw [mv.mp hp]
   exact hq q hq'
theorem MI.steps(m:MI lt la lb o ia ib)(sa:la.Pairwise (le lt)): ∀(k:Nat),ia+k<=la.length->(∀i,(hi:i<k)->(hl:ia+i<la.length)->∀q∈lb.drop ib,le lt la[ia+i] q) ->
  MI lt la lb (o++(la.drop ia).take k) (ia+k) ib
 | 0,_,_=>by simpa using m
 | k+1,hk,hq=>by
  have m':=MI.steps m sa k (by omega) (fun i hi hl=>hq i (by omega) hl);have m2:=m'.step sa (by omega) (hq k (by omega) (by omega));have e:(la.drop ia).take (k+1)=(la.drop ia).take k++[la[ia+k]]:=by
   rw [t5 (by simp;omega)];simp
  rw [e, <- mm];exact m2
theorem MI.fin(m:MI lt la lb o ia ib)(sa:la.Pairwise (le lt))(hb:lb.length<=ib): (o++la.drop ia).Perm (la++lb)/\(o++la.drop ia).Pairwise (le lt):=by
 refine⟨?_,nv.mpr ⟨m.ord,g2w sa,m.ua⟩⟩;have:=m.perm;rw [g03 hb] at this;refine(this.append_right _).trans ?_;rw [mm];refine(uw _ u6).trans ?_;rw [<- mm,nz]
theorem MI.last(m:MI lt la lb o ia ib)(sa:la.Pairwise (le lt))(sb:lb.Pairwise (le lt))(hl:∀q∈lb.drop ib,∀p∈la.drop ia,le lt q p):
  (o++lb.drop ib++la.drop ia).Perm (la++lb)/\(o++lb.drop ib++la.drop ia).Pairwise (le lt):=by
 refine⟨?_,nv.mpr ⟨nv.mpr ⟨m.ord,g2w sb,m.ub⟩,g2w sa,fun p hp q hq=>?_⟩⟩
 ·have:=m.perm
  refine((this.append_right _).append_right _).trans ?_;have e1:(la.take ia++lb.take ib++lb.drop ib++la.drop ia)=la.take ia++(lb++la.drop ia):=by
   rw [mm (la.take ia),nz,mm]
  rw [e1];refine(uw _ u6).trans ?_;rw [<- mm,nz]
 ·rcases nt.mp hp with hp|hp
  ·exact m.ua p hp q hq
  ·exact hl p hp q hq
end
abbrev qi8:Array Keyed->Array Keyed->StateT SortSt Sem (Array Keyed):=sortPriv% PySem.Builtin.mergeLo
abbrev q2j(g:Nat): StateT SortSt Sem Unit:=modify fun z=>SortSt.mk' (kindOf z) (arrOf z) (pendingOf z) g (failedOf z)
theorem bc{α β : Type}{m:StateT SortSt Sem α}{f g : α -> StateT SortSt Sem β}(h:∀x,f x=g x): m >>= f=m >>= g:=by rw [funext h]
theorem bc2{α β : Type}{m n:StateT SortSt Sem α}{f g : α -> StateT SortSt Sem β}(hm:m=n)(h:∀x,f x=g x): m >>= f=n >>= g:=by rw [hm,funext h]
theorem fc{β : Type}{r:Std.Legacy.Range}{b : β}{f g:Nat -> β -> StateT SortSt Sem (ForInStep β)}(h:∀x u,f x u=g x u): forIn r b f=forIn r b g:=by
 rw [show f=g from funext fun x=>funext fun u=>h x u]
abbrev TI:=Option (Array Keyed)×Array Keyed×Nat×Nat×Nat×Nat
abbrev TG:=Option (Array Keyed)×Array Keyed×Nat×Nat×Nat×Nat×Nat
abbrev TO:=Option (Array Keyed)×Array Keyed×Nat×Nat×Nat
section
variable(a b:Array Keyed)
def fiL(o:Array Keyed)(i j:Nat): Array Keyed:=o++a.extract i a.size++b.extract j b.size
def laL(o:Array Keyed)(i j:Nat): Array Keyed:=o++b.extract j b.size++a.extract i a.size
noncomputable def loI(g:Nat)(t:TI): StateT SortSt Sem (ForInStep TI):=do
 match <- lt' (<- elem' b t.2.2.2.1) (<- elem' a t.2.2.1) with
 | some wi=>
  if wi=true then
   let x <- elem' b t.2.2.2.1
   if(t.2.2.2.1+1==b.size)=true then pure (.done (some (fiL a b (t.2.1.push x) t.2.2.1 (t.2.2.2.1+1)),t.2.1.push x,t.2.2.1,t.2.2.2.1+1,0,t.2.2.2.2.2+1))
   else if t.2.2.2.2.2+1>=g then pure (.done (none,t.2.1.push x,t.2.2.1,t.2.2.2.1+1,0,t.2.2.2.2.2+1))
   else pure (.yield (none,t.2.1.push x,t.2.2.1,t.2.2.2.1+1,0,t.2.2.2.2.2+1))
  else
   let x <- elem' a t.2.2.1
   if(t.2.2.1+1+1==a.size)=true then pure (.done (some (laL a b (t.2.1.push x) (t.2.2.1+1) t.2.2.2.1),t.2.1.push x,t.2.2.1+1,t.2.2.2.1,t.2.2.2.2.1+1,0))
   else if t.2.2.2.2.1+1>=g then pure (.done (none,t.2.1.push x,t.2.2.1+1,t.2.2.2.1,t.2.2.2.2.1+1,0))
   else pure (.yield (none,t.2.1.push x,t.2.2.1+1,t.2.2.2.1,t.2.2.2.2.1+1,0))
 | _=>pure (.done (some (fiL a b t.2.1 t.2.2.1 t.2.2.2.1),t.2.1,t.2.2.1,t.2.2.2.1,t.2.2.2.2.1,t.2.2.2.2.2))
noncomputable def loD(o:Array Keyed)(i j g c d:Nat): StateT SortSt Sem (ForInStep TG):=do
 let x <- elem' a i
 if(i+1+1==a.size)=true then pure (.done (some (laL a b (o.push x) (i+1) j),o.push x,i+1,j,g,c,d))
 else if(decide (c<7)&&decide (d<7))=true then pure (.done (none,o.push x,i+1,j,g,c,d))
 else pure (.yield (none,o.push x,i+1,j,g,c,d))
noncomputable def loC(o:Array Keyed)(i j g c d:Nat): StateT SortSt Sem (ForInStep TG):=do
 let x <- elem' b j
 if(j+1==b.size)=true then pure (.done (some (fiL a b (o.push x) i (j+1)),o.push x,i,j+1,g,c,d))
 else do
  match <- q2a true (<- elem' a i) b (j+1) (b.size-(j+1)) 0 with
  | some k=>
   if k>0 then
    if(j+1+k==b.size)=true then pure (.done (some (fiL a b (o.push x++b.extract (j+1) (j+1+k)) i (j+1+k)),o.push x++b.extract (j+1) (j+1+k),i,j+1+k,g,c,k))
    else loD a b (o.push x++b.extract (j+1) (j+1+k)) i (j+1+k) g c k
   else loD a b (o.push x) i (j+1) g c k
  | _=>pure (.done (some (fiL a b (o.push x) i (j+1)),o.push x,i,j+1,g,c,d))
noncomputable def loB(o:Array Keyed)(i j g c d:Nat): StateT SortSt Sem (ForInStep TG):=do
 q2j g
 match <- q2a false (<- elem' b j) a i (a.size-i) 0 with
 | some k=>
  if k>0 then
   if(i+k+1==a.size)=true then pure (.done (some (laL a b (o++a.extract i (i+k)) (i+k) j),o++a.extract i (i+k),i+k,j,g,k,d))
   else if(i+k==a.size)=true then pure (.done (some (fiL a b (o++a.extract i (i+k)) (i+k) j),o++a.extract i (i+k),i+k,j,g,k,d))
   else loC a b (o++a.extract i (i+k)) (i+k) j g k d
  else loC a b o i j g k d
 | _=>pure (.done (some (fiL a b o i j),o,i,j,g,c,d))
noncomputable def loG(t:TG): StateT SortSt Sem (ForInStep TG):=
 if t.2.2.2.2.1>1 then loB a b t.2.1 t.2.2.1 t.2.2.2.1 (t.2.2.2.2.1-1) t.2.2.2.2.2.1 t.2.2.2.2.2.2 else loB a b t.2.1 t.2.2.1 t.2.2.2.1 t.2.2.2.2.1 t.2.2.2.2.2.1 t.2.2.2.2.2.2
noncomputable def loO(t:TO): StateT SortSt Sem (ForInStep TO):=do
 let u <- forIn [0:a.size+b.size] ((none,t.2.1,t.2.2.1,t.2.2.2.1,0,0):TI) fun _=>loI a b t.2.2.2.2
 match u.1 with
 | some r=>pure (.done (some r,u.2.1,u.2.2.1,u.2.2.2.1,t.2.2.2.2))
 | none=>do
  rule "list.sort.gallop"
  let v <- forIn [0:a.size+b.size] ((none,u.2.1,u.2.2.1,u.2.2.2.1,t.2.2.2.2+1,u.2.2.2.2.1,u.2.2.2.2.2):TG) fun _=>loG a b
  match v.1 with
  | some r=>pure (.done (some r,v.2.1,v.2.2.1,v.2.2.2.1,v.2.2.2.2.1))
  | none=>do
   q2j (v.2.2.2.2.1+1)
   pure (.yield (none,v.2.1,v.2.2.1,v.2.2.2.1,v.2.2.2.2.1+1))
end
theorem qn6(a b:Array Keyed): qi8 a b=(do
 rule "list.sort.merge-lo"
 let all:=a.size+b.size
 let fi (o:Array Keyed) (i j:Nat):=o++a.extract i a.size++b.extract j b.size
 let la (o:Array Keyed) (i j:Nat):=o++b.extract j b.size++a.extract i a.size
 let mut o:Array Keyed:= #[<- elem' b 0]
 let mut i:=0
 let mut j:=1
 if j==b.size then return fi o i j
 if i+1==a.size then return la o i j
 let mut g:=gallopOf (<- get)
 for _ in [0:all] do
  let mut c:=0
  let mut d:=0
  for _ in [0:all] do
   let some wi <- lt' (<- elem' b j) (<- elem' a i)|return fi o i j
   if wi then
    o:=o.push (<- elem' b j);j:=j+1;d:=d+1;c:=0
    if j==b.size then return fi o i j
    if d>=g then break
   else
    o:=o.push (<- elem' a i);i:=i+1;c:=c+1;d:=0
    if i+1==a.size then return la o i j
    if c>=g then break
  rule "list.sort.gallop"
  g:=g+1
  for _ in [0:all] do
   if g>1 then g:=g-1
   q2j g
   let some k <- q2a false (<- elem' b j) a i (a.size-i) 0|return fi o i j
   c:=k
   if k>0 then
    o:=o++a.extract i (i+k);i:=i+k
    if i+1==a.size then return la o i j
    if i==a.size then return fi o i j
   o:=o.push (<- elem' b j);j:=j+1
   if j==b.size then return fi o i j
   let some k <- q2a true (<- elem' a i) b j (b.size-j) 0|return fi o i j
   d:=k
   if k>0 then
    o:=o++b.extract j (j+k);j:=j+k
    if j==b.size then return fi o i j
   o:=o.push (<- elem' a i);i:=i+1
   if i+1==a.size then return la o i j
   if c<7&&d<7 then break
  g:=g+1
  q2j g
 unsupported "internal:list.sort.merge-bound"):=rfl
theorem qq0 (a b:Array Keyed):qi8 a b=(do
 rule "list.sort.merge-lo"
 let x <- elem' b 0
 if(1==b.size)=true then return fiL a b #[x] 0 1
 if(0+1==a.size)=true then return laL a b #[x] 0 1
 let z <- get
 let t <- forIn [0:a.size+b.size] ((none, #[x],0,1,gallopOf z):TO) fun _=>loO a b
 match t.1 with
 | some r=>pure r
 | none=>unsupported "internal:list.sort.merge-bound"):=by
 rw [qn6];dsimp only;refine bc fun _=>bc fun x=>ux rfl (fun _=>rfl) fun _=>ux rfl (fun _=>rfl) fun _=>bc fun z=>bc2 (fc fun _ t=>?_) fun t=>?_
 ·unfold loO
  refine bc2 (fc fun _ u=>?_) fun u=>?_
  ·rfl
  ·cases e:u.1 with
   | some r=>rfl
   | none=>
    refine bc fun _=>bc2 (fc fun _ v=>?_) fun v=>?_
    ·unfold loG
     refine ux rfl (fun _=>?_) (fun _=>?_)
     all_goals
      unfold loB;refine bc fun _=>bc fun y=>bc fun k=>?_;cases k with
      | none=>rfl
      | some k=>
       dsimp only;refine ux rfl (fun _=>ux rfl (fun _=>rfl) fun _=>ux rfl (fun _=>rfl) fun _=>?_) (fun _=>?_)
       all_goals
        unfold loC;refine bc fun y=>ux rfl (fun _=>rfl) fun _=>bc fun y=>bc fun k=>?_;cases k with
        | none=>rfl
        | some k=>rfl
    ·cases e:v.1 <;> rfl
 ·cases e:t.1 <;> rfl
def Eg(st st':SortSt): Prop:=kindOf st'=kindOf st/\arrOf st'=arrOf st/\pendingOf st'=pendingOf st/\failedOf st'=failedOf st
theorem Eg.rfl'(st:SortSt): Eg st st:=⟨rfl,rfl,rfl,rfl⟩
theorem Eg.trans{a b c:SortSt}(h:Eg a b)(k:Eg b c): Eg a c:=⟨k.1.trans h.1,k.2.1.trans h.2.1,k.2.2.1.trans h.2.2.1,k.2.2.2.trans h.2.2.2⟩
section
variable{prog:Program}{w:World}{A:Around}{E:Value->Shared->Prop}{s:Shared}{κ : SortKind}{G:Value->Prop}{lt:Value->Value->Bool}
theorem q52{st:SortSt}{g:Nat}{Q:Unit->SortSt->Prop}(h:∀st',Eg st st'->Q () st'): wpS (model prog w) A E s (q2j g) Q st:=g3t (h _ ⟨rfl,rfl,rfl,rfl⟩)
variable{a b:Array Keyed}
def Rm(lt:Value->Value->Bool)(a b r:Array Keyed): Prop:=r.toList.Perm (a.toList++b.toList)/\r.toList.Pairwise (le lt)
structure Mh(G:Value->Prop)(lt:Value->Value->Bool)(a b:Array Keyed): Prop where
 ga:∀p∈a.toList,G p.1
 gb:∀p∈b.toList,G p.1
 sa:a.toList.Pairwise (le lt)
 sb:b.toList.Pairwise (le lt)
 ha:1<=a.size
 hb:1<=b.size
 first:∀q∈a.toList,lt (b[0]'hb).1 q.1=true
 last:∀q∈b.toList,lt q.1 (a[a.size-1]'(by lia)).1=true
def OkM(lt:Value->Value->Bool)(a b:Array Keyed)(n:Nat)(x:Option (Array Keyed))(o:Array Keyed)(i j:Nat): Prop:=match x with
 | some r=>Rm lt a b r
 | none=>MI lt a.toList b.toList o.toList i j/\i+1<a.size/\j<b.size/\n<=i+j
theorem q53(x:Array Keyed)(i:Nat): (x.extract i x.size).toList=x.toList.drop i:=by
 rw [g0h];show(x.toList.drop i).take (x.size-i)=_;exact g03 (by simp)
theorem fiR{o:Array Keyed}{i j:Nat}(m:MI lt a.toList b.toList o.toList i j)(sa:a.toList.Pairwise (le lt))(hj:j=b.size): Rm lt a b (fiL a b o i j):=by
 have:=m.fin sa (by simp;lia);unfold Rm fiL;subst hj;have e:(o++a.extract i a.size++b.extract b.size b.size).toList=o.toList++a.toList.drop i:=by
  rw [pj,pj,q53,q53];simp
 rw [e];exact this
theorem laR{o:Array Keyed}{i j:Nat}(H:Mh G lt a b)(C:Cmp prog w A s κ G lt)(m:MI lt a.toList b.toList o.toList i j)(hi:i+1=a.size): Rm lt a b (laL a b o i j):=by
 have e1:a.toList.drop i=[a[i]'(by lia)]:=by
  rw [t6 (by simp;lia)];simp;lia
 have:=m.last H.sa H.sb (fun q hq p hp=>by
  rw [e1] at hp;rw [mv.mp hp];have h1:=H.last q (g3u hq);have e2:a[a.size-1]'(by have:=H.ha;lia)=a[i]'(by lia):=by congr 1;lia
  rw [e2] at h1;exact C.asy _ _ h1)
 unfold Rm laL;have e:(o++b.extract j b.size++a.extract i a.size).toList=o.toList++b.toList.drop j++a.toList.drop i:=by
  rw [pj,pj,q53,q53]
 rw [e];exact this
theorem qkd(C:Cmp prog w A s κ G lt){x y z:Keyed}(h:le lt x y)(k:le lt y z): le lt x z:=C.tra _ _ _ h k
theorem q7b(C:Cmp prog w A s κ G lt){l:List Keyed}(sl:l.Pairwise (le lt)){i:Nat}(hi:i<l.length){x:Keyed}(h:le lt x l[i]): ∀q∈l.drop i,le lt x q:=by
 intro q hq;rw [t6 hi] at hq;rcases mf.mp hq with rfl|hq
 ·exact h
 ·exact qkd C h (qai sl hi q hq)
theorem q9f{l:List Keyed}(C:Cmp prog w A s κ G lt)(hr:∀x:Keyed,lt x.1 x.1=false)(sl:l.Pairwise (le lt)){i j:Nat}(hij:i<=j)(hj:j<l.length): le lt (l[i]'(by lia)) l[j]:=by
 rcases g66 i j with h|h
 ·exact g4w.mp sl i j (by lia) hj h
 ·have:i=j:=by lia
  subst this;exact hr _
theorem Cmp.irr(C:Cmp prog w A s κ G lt)(x:Value): lt x x=false:=by
 cases e:lt x x
 ·rfl
 ·have:=C.asy _ _ e;rw [e] at this;cases this
theorem qq1(C:Cmp prog w A s κ G lt)(H:Mh G lt a b){st:SortSt}{g n c d:Nat}{o:Array Keyed}{i j:Nat}(hk:kindOf st = κ)(h:OkM lt a b n none o i j):
  wpS (model prog w) A E s (loI a b g (none,o,i,j,c,d)) (fun r st'=>st'=st/\match r with
   | .done u=>OkM lt a b (n+1) u.1 u.2.1 u.2.2.1 u.2.2.2.1
   | .yield u=>u.1=none/\OkM lt a b (n+1) none u.2.1 u.2.2.1 u.2.2.2.1) st:=by
 obtain⟨m,hi,hj,hn⟩:=h;unfold loI;dsimp only;refine gw (zk hj (gw (zk (by lia) (gw (q4e (C:=C) hk (H.gb _ (by simp)) (H.ga _ (by simp)) ?_)))));dsimp only;cases e:lt (b[j]).1 (a[i]).1
 ·simp only [gr,p8]
  refine gw (zk (by lia) ?_);have m2:MI lt a.toList b.toList (o.push a[i]).toList (i+1) j:=by
   have:=m.step H.sa (by simp;lia) (q7b C H.sb (by simp;lia) (i:=j) (x:=a.toList[i]'(by simp;lia)) (by simpa [le] using e))
   simpa using this
  split
  ·rename_i e2
   exact ml ⟨rfl,laR H C m2 (by simpa using e2)⟩
  ·rename_i e2
   have e2':i+1+1≠a.size:=by simpa using e2
   split
   ·exact ml ⟨rfl,m2,by first|lia|(dsimp only;lia),hj,by first|lia|(dsimp only;lia)⟩
   ·exact ml ⟨rfl,rfl,m2,by first|lia|(dsimp only;lia),hj,by first|lia|(dsimp only;lia)⟩
 ·simp only [nj]
  refine gw (zk hj ?_);have m2:MI lt a.toList b.toList (o.push b[j]).toList i (j+1):=by
   have:=m.swap.step H.sb (by simp;lia) (q7b C H.sa (by simp;lia) (i:=i) (x:=b.toList[j]'(by simp;lia)) (by have:=C.asy _ _ e;simpa [le] using this))
   simpa using this.swap
  split
  ·rename_i e2
   exact ml ⟨rfl,fiR m2 H.sa (by simpa using e2)⟩
  ·rename_i e2
   have e2':j+1≠b.size:=by simpa using e2
   split
   ·exact ml ⟨rfl,m2,by first|lia|(dsimp only;lia),by first|lia|(dsimp only;lia),by first|lia|(dsimp only;lia)⟩
   ·exact ml ⟨rfl,rfl,m2,by first|lia|(dsimp only;lia),by first|lia|(dsimp only;lia),by first|lia|(dsimp only;lia)⟩
abbrev QG(lt:Value->Value->Bool)(a b:Array Keyed)(n:Nat)(st:SortSt): ForInStep TG->SortSt->Prop:=fun r st'=>Eg st st'/\match r with
   | .done u=>OkM lt a b n u.1 u.2.1 u.2.2.1 u.2.2.2.1
   | .yield u=>u.1=none/\OkM lt a b n none u.2.1 u.2.2.1 u.2.2.2.1
theorem qha(C:Cmp prog w A s κ G lt)(H:Mh G lt a b){st:SortSt}{n g c d:Nat}{o:Array Keyed}{i j:Nat}(m:MI lt a.toList b.toList o.toList i j)(hi:i+1<a.size)(hj:j<b.size)(hn:n<=i+j)
  (hq:∀q∈b.toList.drop j,le lt a[i] q):wpS (model prog w) A E s (loD a b o i j g c d) (QG lt a b n st) st:=by
 unfold loD;refine gw (zk (by lia) ?_);have m2:MI lt a.toList b.toList (o.push a[i]).toList (i+1) j:=by
  have:=m.step H.sa (by simp;lia) (by simpa using hq)
  simpa using this
 split
 ·rename_i e2
  exact ml ⟨Eg.rfl' _,laR H C m2 (by simpa using e2)⟩
 ·rename_i e2
  have e2':i+1+1≠a.size:=by simpa using e2
  split
  ·exact ml ⟨Eg.rfl' _,m2,by first|lia|(dsimp only;lia),hj,by first|lia|(dsimp only;lia)⟩
  ·exact ml ⟨Eg.rfl' _,rfl,m2,by first|lia|(dsimp only;lia),hj,by first|lia|(dsimp only;lia)⟩
theorem qhb(C:Cmp prog w A s κ G lt)(H:Mh G lt a b){st:SortSt}{n g c d:Nat}{o:Array Keyed}{i j:Nat}(hk:kindOf st = κ)(m:MI lt a.toList b.toList o.toList i j)(hi:i+1<a.size)(hj:j<b.size)(hn:n<=i+j)
  (hq:∀q∈a.toList.drop i,le lt b[j] q):wpS (model prog w) A E s (loC a b o i j g c d) (QG lt a b n st) st:=by
 unfold loC;refine gw (zk hj ?_);have m2:MI lt a.toList b.toList (o.push b[j]).toList i (j+1):=by
  have:=m.swap.step H.sb (by simp;lia) (by simpa using hq)
  simpa using this.swap
 split
 ·rename_i e2
  exact ml ⟨Eg.rfl' _,fiR m2 H.sa (by simpa using e2)⟩
 ·rename_i e2
  have e2':j+1≠b.size:=by simpa using e2
  refine gw (zk (by lia) (gw (q2r C hk (H.ga _ (by simp)) H.gb (by lia) (by lia) (fun x y hxy hy h1=>?_) fun k hk1 k1 k2=>?_)))
  ·simp only [far1,nj] at h1 ⊢
   have hle:=q9f C (fun x=>C.irr _) H.sb (i:=j+1+x) (j:=j+1+y) (by lia) (by simp;lia);cases e3:lt (b[j+1+x]'(by lia)).1 (a[i]).1
   ·have:=C.tra _ _ _ e3 (by simpa [le] using hle)
    rw [this] at h1;cases h1
   ·rfl
  ·dsimp only
   have k1':∀x,(hx:x<k)->(hb:j+1+x<b.size)->lt (b[j+1+x]).1 (a[i]).1=true:=fun x hx hb=>by
    have:=k1 x hx (by lia);simpa [far1] using this
   have k2':∀q∈b.toList.drop (j+1+k),le lt a[i] q:=by
    intro q hq';obtain⟨y,hy,rfl⟩:=tw.mp hq';simp only [uo,ng] at hy;have:=k2 (k+y) (by lia) (by lia);simp only [far1,nj] at this;simp only [List.getElem_drop,g3v,le];rw [<- this]
    congr 3;lia
   split
   ·have m3:MI lt a.toList b.toList (o.push b[j]++b.extract (j+1) (j+1+k)).toList i (j+1+k):=by
     have:=m2.swap.steps H.sb k (by simp;lia) (fun x hx hl=>q7b C H.sa (i:=i) (by simp;lia) (by
      have:=C.asy _ _ (k1' x hx (by simpa using hl))
      simpa [le] using this))
     have e4:(o.push b[j]++b.extract (j+1) (j+1+k)).toList=(o.push b[j]).toList++(b.toList.drop (j+1)).take k:=by
      rw [pj,g0h];simp [List.extract]
     rw [e4];exact this.swap
    split
    ·rename_i e5
     exact ml ⟨Eg.rfl' _,fiR m3 H.sa (by simpa using e5)⟩
    ·rename_i e5
     have e5':j+1+k≠b.size:=by simpa using e5
     exact qha C H m3 hi (by lia) (by lia) k2'
   ·rename_i e5
    have:k=0:=by lia
    subst this;exact qha C H m2 hi (by lia) (by lia) k2'
theorem qq2(C:Cmp prog w A s κ G lt)(H:Mh G lt a b){st:SortSt}{n g c d:Nat}{o:Array Keyed}{i j:Nat}(hk:kindOf st = κ)(h:OkM lt a b n none o i j):
  wpS (model prog w) A E s (loB a b o i j g c d) (QG lt a b n st) st:=by
 obtain⟨m,hi,hj,hn⟩:=h;unfold loB;refine gw (q52 fun st' eg=>?_);have hk':kindOf st' = κ :=eg.1.trans hk;have up:∀r st'',QG lt a b n st' r st''->QG lt a b n st r st'':=fun r st'' q=>⟨eg.trans q.1,q.2⟩
 refine gw (zk hj (gw (q2r C hk' (H.gb _ (by simp)) H.ga (by lia) (by lia) (fun x y hxy hy h1=>?_) fun k hk1 k1 k2=>?_)))
 ·simp only [far1,gr,p8,g1i] at h1 ⊢
  have hle:=q9f C (fun x=>C.irr _) H.sa (i:=i+x) (j:=i+y) (by lia) (by simp;lia);exact C.tra _ _ _ (by simpa [le] using hle) h1
 ·dsimp only
  have k1':∀x,(hx:x<k)->(hb:i+x<a.size)->lt (b[j]).1 (a[i+x]).1=false:=fun x hx hb=>by
   have:=k1 x hx (by lia);simpa [far1] using this
  have hlt:i+k<a.size:=by
   rcases g66 (i+k) a.size with h1|h1
   ·exact h1
   ·have h2:=k1' (a.size-1-i) (by lia) (by lia)
    have h3:=H.last b[j] (by simp);have e2:a[i+(a.size-1-i)]'(by lia)=a[a.size-1]'(by lia):=by congr 1;lia
    rw [e2,h3] at h2;cases h2
  have k2':∀q∈a.toList.drop (i+k),le lt b[j] q:=by
   intro q hq';obtain⟨y,hy,rfl⟩:=tw.mp hq';simp only [uo,ng] at hy;have:=k2 (k+y) (by lia) (by lia);simp only [far1,gr,p8,g2v] at this;have:=C.asy _ _ this;simp only [List.getElem_drop,g3v,le];rw [<- this]
   congr 3;lia
  split
  ·have m3:MI lt a.toList b.toList (o++a.extract i (i+k)).toList (i+k) j:=by
    have:=m.steps H.sa k (by simp;lia) (fun x hx hl=>q7b C H.sb (i:=j) (by simp;lia) (by
     have:=k1' x hx (by simpa using hl)
     simpa [le] using this))
    have e4:(o++a.extract i (i+k)).toList=o.toList++(a.toList.drop i).take k:=by
     rw [pj,g0h];simp [List.extract]
    rw [e4];exact this
   split
   ·rename_i e5
    exact ml (up _ _ ⟨Eg.rfl' _,laR H C m3 (by simpa using e5)⟩)
   ·rename_i e5
    have e5':i+k+1≠a.size:=by simpa using e5
    split
    ·rename_i e6
     have e6':i+k=a.size:=by simpa using e6
     lia
    ·exact tx (qhb C H hk' m3 (by lia) hj (by lia) k2') up
  ·rename_i e5
   have:k=0:=by lia
   subst this;exact tx (qhb C H hk' m hi hj (by lia) k2') up
theorem qq3(C:Cmp prog w A s κ G lt)(H:Mh G lt a b){st:SortSt}{n:Nat}{t:TO}(ht:t.1=none)(hk:kindOf st = κ)(h:OkM lt a b n none t.2.1 t.2.2.1 t.2.2.2.1):
  wpS (model prog w) A E s (loO a b t) (fun r st'=>Eg st st'/\match r with
   | .done u=>(∃x,u.1=some x)/\OkM lt a b (n+1) u.1 u.2.1 u.2.2.1 u.2.2.2.1
   | .yield u=>u.1=none/\OkM lt a b (n+1) none u.2.1 u.2.2.1 u.2.2.2.1) st:=by
 unfold loO;refine gw (tx (ur (I:=fun x u st'=>st'=st/\u.1=none/\OkM lt a b (n+x) none u.2.1 u.2.2.1 u.2.2.2.1)
  (Q:=fun u st'=>st'=st/\OkM lt a b (n+1) u.1 u.2.1 u.2.2.1 u.2.2.2.1) ?_ ?_ ⟨rfl,rfl,h⟩) ?_)
 ·rintro x ⟨u1,o,i,j,c,d⟩ st' _ hx ⟨rfl,rfl,h'⟩
  refine tx (qq1 C H hk h') ?_
  rintro r st'' ⟨rfl,hr⟩
  cases r with
  | done u=>
   refine⟨rfl,?_⟩;dsimp only at hr ⊢;unfold OkM at hr ⊢
   split at hr
   ·exact hr
   ·exact⟨hr.1,hr.2.1,hr.2.2.1,by lia⟩
  | yield u=>exact⟨rfl,hr.1,hr.2.1,hr.2.2.1,hr.2.2.2.1,by have:=hr.2.2.2.2;lia⟩
 ·rintro u st' ⟨rfl,hu,m,h1,h2,h3⟩
  rw [hu];exact⟨rfl,m,h1,h2,by lia⟩
 ·rintro⟨u1,o,i,j,c,d⟩ st' ⟨rfl,hu⟩
  cases u1 with
  | some r=>exact ml ⟨Eg.rfl' _,⟨r,rfl⟩,hu⟩
  | none=>
   dsimp only at hu ⊢;refine gw (wpS_lift (g01 ⟨rfl,?_⟩));refine gw (tx (ur (I:=fun x v st''=>Eg st' st''/\v.1=none/\OkM lt a b (n+1) none v.2.1 v.2.2.1 v.2.2.2.1)
    (Q:=fun v st''=>Eg st' st''/\OkM lt a b (n+1) v.1 v.2.1 v.2.2.1 v.2.2.2.1) ?_ ?_ ⟨Eg.rfl' _,rfl,hu⟩) ?_)
   ·rintro x ⟨v1,o,i,j,g,c,d⟩ st'' _ hx ⟨eg,rfl,h'⟩
    unfold loG;dsimp only at h' ⊢;have key:∀g',wpS (model prog w) A E s (loB a b o i j g' c d) (fun r st3=>match r with
      | .done v=>Eg st' st3/\OkM lt a b (n+1) v.1 v.2.1 v.2.2.1 v.2.2.2.1
      | .yield v=>Eg st' st3/\v.1=none/\OkM lt a b (n+1) none v.2.1 v.2.2.1 v.2.2.2.1) st'':=by
     intro g';refine tx (qq2 C H (eg.1.trans hk) h') ?_
     rintro r st3 ⟨eg3,hr⟩
     cases r with
     | done v=>exact⟨eg.trans eg3,hr⟩
     | yield v=>exact⟨eg.trans eg3,hr⟩
    split
    ·exact tx (key _) fun r st3 hr=>by cases r <;> exact hr
    ·exact tx (key _) fun r st3 hr=>by cases r <;> exact hr
   ·rintro v st'' ⟨eg,hv,h'⟩
    rw [hv];exact⟨eg,h'⟩
   ·rintro⟨v1,o,i,j,g,c,d⟩ st'' ⟨eg,hv⟩
    cases v1 with
    | some r=>exact ml ⟨eg,⟨r,rfl⟩,hv⟩
    | none=>
     dsimp only at hv ⊢;exact gw (q52 fun st3 eg3=>ml ⟨eg.trans eg3,rfl,hv⟩)
theorem qq4(C:Cmp prog w A s κ G lt)(H:Mh G lt a b){st:SortSt}{Q:Array Keyed->SortSt->Prop}(hk:kindOf st = κ)(h:∀r st',Eg st st'->Rm lt a b r->Q r st'):
  wpS (model prog w) A E s (qi8 a b) Q st:=by
 rw [qq0];refine gw (wpS_lift (g01 ⟨rfl,?_⟩));have hb:=H.hb;have ha:=H.ha;refine gw (zk (by lia) ?_);have m:MI lt a.toList b.toList (#[b[0]]:Array Keyed).toList 0 1:=by
  refine⟨?_,?_,?_,?_⟩
  ·have e:b.toList.take 1=[b[0]]:=by
    rw [show(1:Nat)=0+1 from rfl,t5 (by simp;lia)];simp
   rw [e];simp
  ·simp
  ·intro p hp q hq
   have:p=b[0]:=by simpa using hp
   subst this;exact C.asy _ _ (H.first q (by simpa using hq))
  ·intro p hp q hq
   have:p=b[0]:=by simpa using hp
   subst this;have:=qai H.sb (ia:=0) (by simp;lia) q hq
   simpa using this
 split
 ·rename_i e
  exact ml (h _ _ (Eg.rfl' _) (fiR m H.sa (by simpa using e)))
 ·rename_i e
  have e':1≠b.size:=by simpa using e
  split
  ·rename_i e2
   exact ml (h _ _ (Eg.rfl' _) (laR H C m (by simpa using e2)))
  ·rename_i e2
   have e2':1≠a.size:=by simpa using e2
   refine gw (g34 ?_);refine gw (tx (ur (I:=fun x u st'=>Eg st st'/\u.1=none/\OkM lt a b x none u.2.1 u.2.2.1 u.2.2.2.1)
    (Q:=fun u st'=>Eg st st'/\∃r,u.1=some r/\Rm lt a b r) ?_ ?_ ⟨Eg.rfl' _,rfl,m,by first|lia|(dsimp only;lia),by first|lia|(dsimp only;lia),by first|lia|(dsimp only;lia)⟩) ?_)
   ·rintro x t st' _ hx ⟨eg,ht,h'⟩
    refine tx (qq3 C H ht (eg.1.trans hk) h') ?_
    rintro r st'' ⟨eg2,hr⟩
    cases r with
    | done u=>
     obtain⟨⟨r,hr1⟩,hr2⟩:=hr;rw [hr1] at hr2;exact⟨eg.trans eg2,r,hr1,hr2⟩
    | yield u=>exact⟨eg.trans eg2,hr.1,hr.2⟩
   ·rintro u st' ⟨eg,hu,_,h1,h2,h3⟩
    lia
   ·rintro⟨u1,u2⟩ st' ⟨eg,r,hr,hR⟩
    cases hr;exact ml (h _ _ eg hR)
end
structure MJ(lt:Value->Value->Bool)(la lb o:List Keyed)(ia ib:Nat): Prop where
 perm:o.Perm (la.drop ia++lb.drop ib)
 ord:o.Pairwise (fun p q=>le lt q p)
 ua:∀p∈o,∀q∈la.take ia,le lt q p
 ub:∀p∈o,∀q∈lb.take ib,le lt q p
section
variable{lt:Value->Value->Bool}{la lb o:List Keyed}{ia ib:Nat}
theorem MJ.swap(h:MJ lt la lb o ia ib): MJ lt lb la o ib ia:=⟨h.perm.trans u6,h.ord,h.ub,h.ua⟩
theorem qaj(sa:la.Pairwise (le lt))(h:ia<la.length): ∀q∈la.take ia,le lt q la[ia]:=by
 have s2:=g2x (i:=ia+1) sa;rw [t5 h] at s2;intro q hq;exact(nv.mp s2).2.2 q hq _ (mv.mpr rfl)
theorem MJ.step(m:MJ lt la lb o (ia+1) ib)(sa:la.Pairwise (le lt))(h:ia<la.length)(hq:∀q∈lb.take ib,le lt q la[ia]): MJ lt la lb (o++[la[ia]]) ia ib:=by
 have e:=t6 h;have e2:=t5 h;refine⟨?_,?_,?_,?_⟩
 ·rw [e]
  refine(m.perm.append_right _).trans ?_;refine u6.trans ?_;exact g46 _
 ·refine nv.mpr ⟨m.ord,g36 _ _,fun p hp q hq=>?_⟩
  rw [mv.mp hq];exact m.ua p hp _ (by rw [e2];exact n8 _ (mv.mpr rfl))
 ·intro p hp q hq'
  rcases nt.mp hp with hp|hp
  ·exact m.ua p hp q (by rw [e2];exact g27 _ hq')
  ·rw [mv.mp hp]
   exact qaj sa h q hq'
 ·intro p hp q hq'
  rcases nt.mp hp with hp|hp
  ·exact m.ub p hp q hq'
  ·rw [mv.mp hp]
   exact hq q hq'
theorem MJ.steps(m:MJ lt la lb o ia ib)(sa:la.Pairwise (le lt))(hia:ia<=la.length): ∀(k:Nat),k<=ia->(∀i,(h1:ia-k<=i)->(h2:i<ia)->∀q∈lb.take ib,le lt q (la[i]'(by lia))) ->
  MJ lt la lb (o++((la.drop (ia-k)).take k).reverse) (ia-k) ib
 | 0,_,_=>by simpa using m
 | k+1,hk,hq=>by
  have m':=MJ.steps m sa hia k (by lia) (fun i h1 h2=>hq i (by lia) h2);have e0:ia-k=ia-(k+1)+1:=by lia
  rw [e0] at m';have m2:=m'.step sa (by lia) (hq (ia-(k+1)) (by lia) (by lia));have e:((la.drop (ia-(k+1))).take (k+1)).reverse=((la.drop (ia-(k+1)+1)).take k).reverse++[la[ia-(k+1)]]:=by
   rw [t6 (by lia),List.take_succ_cons,g23]
  rw [e, <- mm];exact m2
theorem qhc{o:List Keyed}(h:o.Pairwise (fun p q=>le lt q p)): o.reverse.Pairwise (le lt):=List.pairwise_reverse.mpr h
theorem MJ.fin(m:MJ lt la lb o ia ib)(sb:lb.Pairwise (le lt))(ha:ia=0): (lb.take ib++o.reverse).Perm (la++lb)/\(lb.take ib++o.reverse).Pairwise (le lt):=by
 subst ha;refine⟨?_,nv.mpr ⟨g2x sb,qhc m.ord,fun q hq p hp=>m.ub p (g3h.mp hp) q hq⟩⟩;have:=m.perm;rw [g44] at this;refine(uw _ ((List.reverse_perm _).trans this)).trans ?_;refine u6.trans ?_;rw [mm];refine uw _ ?_;exact u6.trans (by rw [nz])
theorem MJ.last(m:MJ lt la lb o ia ib)(sa:la.Pairwise (le lt))(sb:lb.Pairwise (le lt))(hl:∀q∈lb.take ib,∀p∈la.take ia,le lt q p):
  (lb.take ib++la.take ia++o.reverse).Perm (la++lb)/\(lb.take ib++la.take ia++o.reverse).Pairwise (le lt):=by
 refine⟨?_,nv.mpr ⟨nv.mpr ⟨g2x sb,g2x sa,hl⟩,qhc m.ord,fun q hq p hp=>?_⟩⟩
 ·refine(uw _ ((List.reverse_perm _).trans m.perm)).trans ?_
  rw [mm, <- mm (la.take ia),nz];refine(uw _ u6).trans ?_;rw [<- mm,nz];exact u6
 ·have hp':=g3h.mp hp
  rcases nt.mp hq with hq|hq
  ·exact m.ub p hp' q hq
  ·exact m.ua p hp' q hq
end
abbrev qi9:Array Keyed->Array Keyed->StateT SortSt Sem (Array Keyed):=sortPriv% PySem.Builtin.mergeHi
abbrev TJI:=Option (Array Keyed)×Nat×Nat×Array Keyed×Nat×Nat
abbrev TJG:=Option (Array Keyed)×Nat×Nat×Array Keyed×Nat×Nat×Nat
abbrev TJO:=Option (Array Keyed)×Nat×Nat×Array Keyed×Nat
section
variable(a b:Array Keyed)
def fiH(o:Array Keyed)(i j:Nat): Array Keyed:=a.extract 0 i++b.extract 0 j++o.reverse
def laH(o:Array Keyed)(i j:Nat): Array Keyed:=b.extract 0 j++a.extract 0 i++o.reverse
noncomputable def hiI(g:Nat)(t:TJI): StateT SortSt Sem (ForInStep TJI):=do
 match <- lt' (<- elem' b (t.2.2.1-1)) (<- elem' a (t.2.1-1)) with
 | some wi=>
  if wi=true then
   let x <- elem' a (t.2.1-1)
   if(t.2.1-1==0)=true then pure (.done (some (fiH a b (t.2.2.2.1.push x) (t.2.1-1) t.2.2.1),t.2.1-1,t.2.2.1,t.2.2.2.1.push x,t.2.2.2.2.1+1,0))
   else if t.2.2.2.2.1+1>=g then pure (.done (none,t.2.1-1,t.2.2.1,t.2.2.2.1.push x,t.2.2.2.2.1+1,0))
   else pure (.yield (none,t.2.1-1,t.2.2.1,t.2.2.2.1.push x,t.2.2.2.2.1+1,0))
  else
   let x <- elem' b (t.2.2.1-1)
   if(t.2.2.1-1==1)=true then pure (.done (some (laH a b (t.2.2.2.1.push x) t.2.1 (t.2.2.1-1)),t.2.1,t.2.2.1-1,t.2.2.2.1.push x,0,t.2.2.2.2.2+1))
   else if t.2.2.2.2.2+1>=g then pure (.done (none,t.2.1,t.2.2.1-1,t.2.2.2.1.push x,0,t.2.2.2.2.2+1))
   else pure (.yield (none,t.2.1,t.2.2.1-1,t.2.2.2.1.push x,0,t.2.2.2.2.2+1))
 | _=>pure (.done (some (fiH a b t.2.2.2.1 t.2.1 t.2.2.1),t.2.1,t.2.2.1,t.2.2.2.1,t.2.2.2.2.1,t.2.2.2.2.2))
noncomputable def hiD(i j:Nat)(o:Array Keyed)(g c d:Nat): StateT SortSt Sem (ForInStep TJG):=do
 let x <- elem' a (i-1)
 if(i-1==0)=true then pure (.done (some (fiH a b (o.push x) (i-1) j),i-1,j,o.push x,g,c,d))
 else if(decide (c<7)&&decide (d<7))=true then pure (.done (none,i-1,j,o.push x,g,c,d))
 else pure (.yield (none,i-1,j,o.push x,g,c,d))
noncomputable def hiC(i j:Nat)(o:Array Keyed)(g c d:Nat): StateT SortSt Sem (ForInStep TJG):=do
 let x <- elem' b (j-1)
 if(j-1==1)=true then pure (.done (some (laH a b (o.push x) i (j-1)),i,j-1,o.push x,g,c,d))
 else do
  match <- q2a true (<- elem' a (i-1)) b 0 (j-1) (j-1-1) with
  | some z=>
   if j-1-z>0 then
    if(z==1)=true then pure (.done (some (laH a b (o.push x++(b.extract z (j-1)).reverse) i z),i,z,o.push x++(b.extract z (j-1)).reverse,g,c,j-1-z))
    else if(z==0)=true then pure (.done (some (fiH a b (o.push x++(b.extract z (j-1)).reverse) i z),i,z,o.push x++(b.extract z (j-1)).reverse,g,c,j-1-z))
    else hiD a b i z (o.push x++(b.extract z (j-1)).reverse) g c (j-1-z)
   else hiD a b i (j-1) (o.push x) g c (j-1-z)
  | _=>pure (.done (some (fiH a b (o.push x) i (j-1)),i,j-1,o.push x,g,c,d))
noncomputable def hiB(i j:Nat)(o:Array Keyed)(g c d:Nat): StateT SortSt Sem (ForInStep TJG):=do
 q2j g
 match <- q2a false (<- elem' b (j-1)) a 0 i (i-1) with
 | some z=>
  if i-z>0 then
   if(z==0)=true then pure (.done (some (fiH a b (o++(a.extract z i).reverse) z j),z,j,o++(a.extract z i).reverse,g,i-z,d))
   else hiC a b z j (o++(a.extract z i).reverse) g (i-z) d
  else hiC a b i j o g (i-z) d
 | _=>pure (.done (some (fiH a b o i j),i,j,o,g,c,d))
noncomputable def hiG(t:TJG): StateT SortSt Sem (ForInStep TJG):=
 if t.2.2.2.2.1>1 then hiB a b t.2.1 t.2.2.1 t.2.2.2.1 (t.2.2.2.2.1-1) t.2.2.2.2.2.1 t.2.2.2.2.2.2 else hiB a b t.2.1 t.2.2.1 t.2.2.2.1 t.2.2.2.2.1 t.2.2.2.2.2.1 t.2.2.2.2.2.2
noncomputable def hiO(t:TJO): StateT SortSt Sem (ForInStep TJO):=do
 let u <- forIn [0:a.size+b.size] ((none,t.2.1,t.2.2.1,t.2.2.2.1,0,0):TJI) fun _=>hiI a b t.2.2.2.2
 match u.1 with
 | some r=>pure (.done (some r,u.2.1,u.2.2.1,u.2.2.2.1,t.2.2.2.2))
 | none=>do
  rule "list.sort.gallop"
  let v <- forIn [0:a.size+b.size] ((none,u.2.1,u.2.2.1,u.2.2.2.1,t.2.2.2.2+1,u.2.2.2.2.1,u.2.2.2.2.2):TJG) fun _=>hiG a b
  match v.1 with
  | some r=>pure (.done (some r,v.2.1,v.2.2.1,v.2.2.2.1,v.2.2.2.2.1))
  | none=>do
   q2j (v.2.2.2.2.1+1)
   pure (.yield (none,v.2.1,v.2.2.1,v.2.2.2.1,v.2.2.2.2.1+1))
end
theorem qn7(a b:Array Keyed): qi9 a b=(do
 rule "list.sort.merge-hi"
 let all:=a.size+b.size
 let fi (o:Array Keyed) (i j:Nat):=a.extract 0 i++b.extract 0 j++o.reverse
 let la (o:Array Keyed) (i j:Nat):=b.extract 0 j++a.extract 0 i++o.reverse
 let mut i:=a.size-1
 let mut j:=b.size
 let mut o:Array Keyed:= #[<- elem' a i]
 if i==0 then return fi o i j
 if j==1 then return la o i j
 let mut g:=gallopOf (<- get)
 for _ in [0:all] do
  let mut c:=0
  let mut d:=0
  for _ in [0:all] do
   let some wi <- lt' (<- elem' b (j-1)) (<- elem' a (i-1))|return fi o i j
   if wi then
    i:=i-1;o:=o.push (<- elem' a i);c:=c+1;d:=0
    if i==0 then return fi o i j
    if c>=g then break
   else
    j:=j-1;o:=o.push (<- elem' b j);d:=d+1;c:=0
    if j==1 then return la o i j
    if d>=g then break
  rule "list.sort.gallop"
  g:=g+1
  for _ in [0:all] do
   if g>1 then g:=g-1
   q2j g
   let some z <- q2a false (<- elem' b (j-1)) a 0 i (i-1)|return fi o i j
   let k:=i-z
   c:=k
   if k>0 then
    o:=o++(a.extract z i).reverse;i:=z
    if i==0 then return fi o i j
   j:=j-1;o:=o.push (<- elem' b j)
   if j==1 then return la o i j
   let some z <- q2a true (<- elem' a (i-1)) b 0 j (j-1)|return fi o i j
   let k:=j-z
   d:=k
   if k>0 then
    o:=o++(b.extract z j).reverse;j:=z
    if j==1 then return la o i j
    if j==0 then return fi o i j
   i:=i-1;o:=o.push (<- elem' a i)
   if i==0 then return fi o i j
   if c<7&&d<7 then break
  g:=g+1
  q2j g
 unsupported "internal:list.sort.merge-bound"):=rfl
theorem qq5 (a b:Array Keyed):qi9 a b=(do
 rule "list.sort.merge-hi"
 let x <- elem' a (a.size-1)
 if(a.size-1==0)=true then return fiH a b #[x] (a.size-1) b.size
 if(b.size==1)=true then return laH a b #[x] (a.size-1) b.size
 let z <- get
 let t <- forIn [0:a.size+b.size] ((none,a.size-1,b.size, #[x],gallopOf z):TJO) fun _=>hiO a b
 match t.1 with
 | some r=>pure r
 | none=>unsupported "internal:list.sort.merge-bound"):=by
 rw [qn7];dsimp only;refine bc fun _=>bc fun x=>ux rfl (fun _=>rfl) fun _=>ux rfl (fun _=>rfl) fun _=>bc fun z=>bc2 (fc fun _ t=>?_) fun t=>?_
 ·unfold hiO
  refine bc2 (fc fun _ u=>?_) fun u=>?_
  ·rfl
  ·cases e:u.1 with
   | some r=>rfl
   | none=>
    refine bc fun _=>bc2 (fc fun _ v=>?_) fun v=>?_
    ·unfold hiG
     refine ux rfl (fun _=>?_) (fun _=>?_)
     all_goals
      unfold hiB;refine bc fun _=>bc fun y=>bc fun k=>?_;cases k with
      | none=>rfl
      | some k=>
       dsimp only;refine ux rfl (fun _=>ux rfl (fun _=>rfl) fun _=>?_) (fun _=>?_)
       all_goals
        unfold hiC;refine bc fun y=>ux rfl (fun _=>rfl) fun _=>bc fun y=>bc fun k=>?_;cases k with
        | none=>rfl
        | some k=>rfl
    ·cases e:v.1 <;> rfl
 ·cases e:t.1 <;> rfl
section
variable{prog:Program}{w:World}{A:Around}{E:Value->Shared->Prop}{s:Shared}{κ : SortKind}{G:Value->Prop}{lt:Value->Value->Bool}{a b:Array Keyed}
def OkH(lt:Value->Value->Bool)(a b:Array Keyed)(n:Nat)(x:Option (Array Keyed))(i j:Nat)(o:Array Keyed): Prop:=match x with
 | some r=>Rm lt a b r
 | none=>MJ lt a.toList b.toList o.toList i j/\1<=i/\2<=j/\i<=a.size/\j<=b.size/\i+j+n<=a.size+b.size
theorem q54(x:Array Keyed)(i:Nat): (x.extract 0 i).toList=x.toList.take i:=by
 rw [g0h];show(x.toList.drop 0).take (i-0)=_;simp
theorem qhd(x:Array Keyed)(i j:Nat): ((x.extract i j).reverse).toList=((x.toList.drop i).take (j-i)).reverse:=by
 rw [g3w,g0h]
theorem fhR{o:Array Keyed}{i j:Nat}(m:MJ lt a.toList b.toList o.toList i j)(sb:b.toList.Pairwise (le lt))(hi:i=0): Rm lt a b (fiH a b o i j):=by
 have:=m.fin sb hi;subst hi;unfold Rm fiH;have e:(a.extract 0 0++b.extract 0 j++o.reverse).toList=b.toList.take j++o.toList.reverse:=by
  rw [pj,pj,q54,q54,g3w]
  rfl
 rw [e];exact this
theorem lhR{o:Array Keyed}{i j:Nat}(H:Mh G lt a b)(C:Cmp prog w A s κ G lt)(m:MJ lt a.toList b.toList o.toList i j)(hj:j=1): Rm lt a b (laH a b o i j):=by
 have hb:=H.hb;have e1:b.toList.take 1=[b[0]]:=by
  rw [show(1:Nat)=0+1 from rfl,t5 (by simp;lia)];simp
 subst hj;have:=m.last H.sa H.sb (fun q hq p hp=>by
  rw [e1] at hq;rw [mv.mp hq];exact C.asy _ _ (H.first p (g0u hp)))
 unfold Rm laH;have e:(b.extract 0 1++a.extract 0 i++o.reverse).toList=b.toList.take 1++a.toList.take i++o.toList.reverse:=by
  rw [pj,pj,q54,q54,g3w]
 rw [e];exact this
theorem qq6(C:Cmp prog w A s κ G lt){l:List Keyed}(sl:l.Pairwise (le lt)){i:Nat}(hi:i<l.length){x:Keyed}(h:le lt l[i] x): ∀q∈l.take (i+1),le lt q x:=by
 intro q hq;rw [t5 hi] at hq;rcases nt.mp hq with hq|hq
 ·exact qkd C (qaj sl hi q hq) h
 ·rw [mv.mp hq];exact h
theorem MJ.stepA(H:Mh G lt a b){o:Array Keyed}{i j:Nat}(m:MJ lt a.toList b.toList o.toList i j)(h1:1<=i)(h2:i<=a.size)(hq:∀q∈b.toList.take j,le lt q (a[i-1]'(by lia))):
  MJ lt a.toList b.toList (o.push (a[i-1]'(by lia))).toList (i-1) j:=by
 obtain⟨i,rfl⟩:∃i',i=i'+1:=⟨i-1,by lia⟩
 have:=m.step H.sa (by simp;lia) (by simpa using hq)
 simpa using this
theorem MJ.stepB(H:Mh G lt a b){o:Array Keyed}{i j:Nat}(m:MJ lt a.toList b.toList o.toList i j)(h1:1<=j)(h2:j<=b.size)(hq:∀q∈a.toList.take i,le lt q (b[j-1]'(by lia))):
  MJ lt a.toList b.toList (o.push (b[j-1]'(by lia))).toList i (j-1):=by
 obtain⟨j,rfl⟩:∃j',j=j'+1:=⟨j-1,by lia⟩
 have:=m.swap.step H.sb (by simp;lia) (by simpa using hq)
 simpa using this.swap
theorem q9g(C:Cmp prog w A s κ G lt){l:Array Keyed}(sl:l.toList.Pairwise (le lt)){i:Nat}(h1:1<=i)(hi:i<=l.size){x:Keyed}(h:le lt (l[i-1]'(by lia)) x): ∀q∈l.toList.take i,le lt q x:=by
 obtain⟨i,rfl⟩:∃i',i=i'+1:=⟨i-1,by lia⟩
 exact qq6 C sl (by simp;lia) (by simpa using h)
theorem qq7(C:Cmp prog w A s κ G lt)(H:Mh G lt a b){st:SortSt}{g n c d:Nat}{o:Array Keyed}{i j:Nat}(hk:kindOf st = κ)(h:OkH lt a b n none i j o):
  wpS (model prog w) A E s (hiI a b g (none,i,j,o,c,d)) (fun r st'=>st'=st/\match r with
   | .done u=>OkH lt a b (n+1) u.1 u.2.1 u.2.2.1 u.2.2.2.1
   | .yield u=>u.1=none/\OkH lt a b (n+1) none u.2.1 u.2.2.1 u.2.2.2.1) st:=by
 obtain⟨m,h1,h2,h3,h4,h5⟩:=h;unfold hiI;dsimp only;refine gw (zk (by lia) (gw (zk (by lia) (gw (q4e (C:=C) hk (H.gb _ (by simp)) (H.ga _ (by simp)) ?_)))));dsimp only;cases e:lt (b[j-1]).1 (a[i-1]).1
 ·simp only [gr,p8]
  refine gw (zk (by lia) ?_);have m2:=m.stepB H (by lia) h4 (q9g C H.sa h1 h3 e)
  split
  ·rename_i e2
   exact ml ⟨rfl,lhR H C m2 (by simpa using e2)⟩
  ·rename_i e2
   have e2':j-1≠1:=by simpa using e2
   split
   ·exact ml ⟨rfl,m2,h1,by first|lia|(dsimp only;lia),h3,by first|lia|(dsimp only;lia),by first|lia|(dsimp only;lia)⟩
   ·exact ml ⟨rfl,rfl,m2,h1,by first|lia|(dsimp only;lia),h3,by first|lia|(dsimp only;lia),by first|lia|(dsimp only;lia)⟩
 ·simp only [nj]
  refine gw (zk (by lia) ?_);have m2:=m.stepA H h1 h3 (q9g C H.sb (by lia) h4 (C.asy _ _ e))
  split
  ·rename_i e2
   exact ml ⟨rfl,fhR m2 H.sb (by simpa using e2)⟩
  ·rename_i e2
   have e2':i-1≠0:=by simpa using e2
   split
   ·exact ml ⟨rfl,m2,by first|lia|(dsimp only;lia),h2,by first|lia|(dsimp only;lia),h4,by first|lia|(dsimp only;lia)⟩
   ·exact ml ⟨rfl,rfl,m2,by first|lia|(dsimp only;lia),h2,by first|lia|(dsimp only;lia),h4,by first|lia|(dsimp only;lia)⟩
abbrev QH(lt:Value->Value->Bool)(a b:Array Keyed)(n:Nat)(st:SortSt): ForInStep TJG->SortSt->Prop:=fun r st'=>Eg st st'/\match r with
   | .done u=>OkH lt a b n u.1 u.2.1 u.2.2.1 u.2.2.2.1
   | .yield u=>u.1=none/\OkH lt a b n none u.2.1 u.2.2.1 u.2.2.2.1
theorem qhe(C:Cmp prog w A s κ G lt)(H:Mh G lt a b){st:SortSt}{n g c d:Nat}{o:Array Keyed}{i j:Nat}(m:MJ lt a.toList b.toList o.toList i j)(h1:1<=i)(h2:2<=j)(h3:i<=a.size)(h4:j<=b.size)(h5:i+j+n<=a.size+b.size)
  (hq:∀q∈b.toList.take j,le lt q (a[i-1]'(by lia))):wpS (model prog w) A E s (hiD a b i j o g c d) (QH lt a b n st) st:=by
 unfold hiD;refine gw (zk (by lia) ?_);have m2:=m.stepA H h1 h3 hq
 split
 ·rename_i e2
  exact ml ⟨Eg.rfl' _,fhR m2 H.sb (by simpa using e2)⟩
 ·rename_i e2
  have e2':i-1≠0:=by simpa using e2
  split
  ·exact ml ⟨Eg.rfl' _,m2,by first|lia|(dsimp only;lia),h2,by first|lia|(dsimp only;lia),h4,by first|lia|(dsimp only;lia)⟩
  ·exact ml ⟨Eg.rfl' _,rfl,m2,by first|lia|(dsimp only;lia),h2,by first|lia|(dsimp only;lia),h4,by first|lia|(dsimp only;lia)⟩
theorem MJ.stepsA(H:Mh G lt a b){o:Array Keyed}{i j z:Nat}(m:MJ lt a.toList b.toList o.toList i j)(hz:z<=i)(h3:i<=a.size)(hq:∀x,(h1:z<=x)->(h2:x<i)->∀q∈b.toList.take j,le lt q (a[x]'(by lia))):
  MJ lt a.toList b.toList (o++(a.extract z i).reverse).toList z j:=by
 have:=m.steps H.sa (by simpa using h3) (i-z) (by lia) (fun x x1 x2=>by simpa using hq x (by lia) x2);rw [show i-(i-z)=z by lia] at this;rw [pj,qhd];exact this
theorem MJ.stepsB(H:Mh G lt a b){o:Array Keyed}{i j z:Nat}(m:MJ lt a.toList b.toList o.toList i j)(hz:z<=j)(h3:j<=b.size)(hq:∀x,(h1:z<=x)->(h2:x<j)->∀q∈a.toList.take i,le lt q (b[x]'(by lia))):
  MJ lt a.toList b.toList (o++(b.extract z j).reverse).toList i z:=by
 have:=m.swap.steps H.sb (by simpa using h3) (j-z) (by lia) (fun x x1 x2=>by simpa using hq x (by lia) x2);rw [show j-(j-z)=z by lia] at this;rw [pj,qhd];exact this.swap
theorem qhf(C:Cmp prog w A s κ G lt)(H:Mh G lt a b){st:SortSt}{n g c d:Nat}{o:Array Keyed}{i j:Nat}(hk:kindOf st = κ)(m:MJ lt a.toList b.toList o.toList i j)(h1:1<=i)(h2:2<=j)(h3:i<=a.size)(h4:j<=b.size)(h5:i+j+n<=a.size+b.size)
  (hq:∀q∈a.toList.take i,le lt q (b[j-1]'(by lia))):wpS (model prog w) A E s (hiC a b i j o g c d) (QH lt a b n st) st:=by
 unfold hiC;refine gw (zk (by lia) ?_);have m2:=m.stepB H (by lia) h4 hq
 split
 ·rename_i e2
  exact ml ⟨Eg.rfl' _,lhR H C m2 (by simpa using e2)⟩
 ·rename_i e2
  have e2':j-1≠1:=by simpa using e2
  refine gw (zk (by lia) (gw (q2r C hk (H.ga _ (by simp)) H.gb (by lia) (by lia) (fun x y hxy hy k1=>?_) fun z hz k1 k2=>?_)))
  ·simp only [far1,nj] at k1 ⊢
   have hle:le lt (b[0+x]'(by lia)) (b[0+y]'(by lia)):=q9f C (fun x=>C.irr _) H.sb (i:=0+x) (j:=0+y) (by lia) (by simp;lia);cases e3:lt (b[0+x]'(by lia)).1 (a[i-1]).1
   ·have:=C.tra _ _ _ e3 hle
    rw [this] at k1;cases k1
   ·rfl
  ·dsimp only
   have k1':∀x,(hx:x<z)->lt (b[x]'(by lia)).1 (a[i-1]).1=true:=fun x hx=>by
    have:=k1 x hx (by lia);simpa [far1] using this
   have k2':∀x,(hx:z<=x)->(hx2:x<j-1)->lt (b[x]'(by lia)).1 (a[i-1]).1=false:=fun x hx hx2=>by
    have:=k2 x hx hx2;simpa [far1] using this
   have hz0:1<=z:=by
    rcases g66 0 z with h|h
    ·exact h
    ·have:=k2' 0 (by lia) (by lia)
     rw [H.first _ (by simp)] at this;cases this
   have k3:∀q∈b.toList.take z,le lt q (a[i-1]):=by
    intro q hq';obtain⟨y,hy,rfl⟩:=tw.mp hq';simp only [pk,ng] at hy;have:=C.asy _ _ (k1' y (by lia))
    simpa [le] using this
   split
   ·have m3:=m2.stepsB H (z:=z) (by lia) (by lia) (fun x x1 x2=>q9g C H.sa h1 h3 (k2' x x1 x2))
    split
    ·rename_i e5
     exact ml ⟨Eg.rfl' _,lhR H C m3 (by simpa using e5)⟩
    ·rename_i e5
     have e5':z≠1:=by simpa using e5
     split
     ·rename_i e6
      have e6':z=0:=by simpa using e6
      lia
     ·exact qhe C H m3 h1 (by lia) h3 (by lia) (by lia) k3
   ·have:z=j-1:=by lia
    subst this;exact qhe C H m2 h1 (by lia) h3 (by lia) (by lia) k3
theorem qq8(C:Cmp prog w A s κ G lt)(H:Mh G lt a b){st:SortSt}{n g c d:Nat}{o:Array Keyed}{i j:Nat}(hk:kindOf st = κ)(h:OkH lt a b n none i j o):
  wpS (model prog w) A E s (hiB a b i j o g c d) (QH lt a b n st) st:=by
 obtain⟨m,h1,h2,h3,h4,h5⟩:=h;unfold hiB;refine gw (q52 fun st' eg=>?_);have hk':kindOf st' = κ :=eg.1.trans hk;have up:∀r st'',QH lt a b n st' r st''->QH lt a b n st r st'':=fun r st'' q=>⟨eg.trans q.1,q.2⟩
 refine gw (zk (by lia) (gw (q2r C hk' (H.gb _ (by simp)) H.ga (by lia) (by lia) (fun x y hxy hy k1=>?_) fun z hz k1 k2=>?_)))
 ·simp only [far1,gr,p8,g1i] at k1 ⊢
  have hle:=q9f C (fun x=>C.irr _) H.sa (i:=0+x) (j:=0+y) (by lia) (by simp;lia);exact C.tra _ _ _ (by simpa [le] using hle) k1
 ·dsimp only
  have k1':∀x,(hx:x<z)->lt (b[j-1]).1 (a[x]'(by lia)).1=false:=fun x hx=>by
   have:=k1 x hx (by lia);simpa [far1] using this
  have k2':∀x,(hx:z<=x)->(hx2:x<i)->lt (b[j-1]).1 (a[x]'(by lia)).1=true:=fun x hx hx2=>by
   have:=k2 x hx hx2;simpa [far1] using this
  have k3:∀q∈a.toList.take z,le lt q (b[j-1]):=by
   intro q hq';obtain⟨y,hy,rfl⟩:=tw.mp hq';simp only [pk,ng] at hy;have:=k1' y (by lia)
   simpa [le] using this
  split
  ·have m3:=m.stepsA H (z:=z) (by lia) h3 (fun x x1 x2=>q9g C H.sb (by lia) h4 (C.asy _ _ (k2' x x1 x2)))
   split
   ·rename_i e5
    exact ml (up _ _ ⟨Eg.rfl' _,fhR m3 H.sb (by simpa using e5)⟩)
   ·rename_i e5
    have e5':z≠0:=by simpa using e5
    exact tx (qhf C H hk' m3 (by lia) h2 (by lia) h4 (by lia) k3) up
  ·have:z=i:=by lia
   subst this;exact tx (qhf C H hk' m h1 h2 h3 h4 h5 k3) up
theorem qq9(C:Cmp prog w A s κ G lt)(H:Mh G lt a b){st:SortSt}{n:Nat}{t:TJO}(ht:t.1=none)(hk:kindOf st = κ)(h:OkH lt a b n none t.2.1 t.2.2.1 t.2.2.2.1):
  wpS (model prog w) A E s (hiO a b t) (fun r st'=>Eg st st'/\match r with
   | .done u=>(∃x,u.1=some x)/\OkH lt a b (n+1) u.1 u.2.1 u.2.2.1 u.2.2.2.1
   | .yield u=>u.1=none/\OkH lt a b (n+1) none u.2.1 u.2.2.1 u.2.2.2.1) st:=by
 unfold hiO;refine gw (tx (ur (I:=fun x u st'=>st'=st/\u.1=none/\OkH lt a b (n+x) none u.2.1 u.2.2.1 u.2.2.2.1)
  (Q:=fun u st'=>st'=st/\OkH lt a b (n+1) u.1 u.2.1 u.2.2.1 u.2.2.2.1) ?_ ?_ ⟨rfl,rfl,h⟩) ?_)
 ·rintro x ⟨u1,i,j,o,c,d⟩ st' _ hx ⟨rfl,rfl,h'⟩
  refine tx (qq7 C H hk h') ?_
  rintro r st'' ⟨rfl,hr⟩
  cases r with
  | done u=>
   refine⟨rfl,?_⟩;dsimp only at hr ⊢;unfold OkH at hr ⊢
   split at hr
   ·exact hr
   ·exact⟨hr.1,hr.2.1,hr.2.2.1,hr.2.2.2.1,hr.2.2.2.2.1,by lia⟩
  | yield u=>exact⟨rfl,hr.1,hr.2.1,hr.2.2.1,hr.2.2.2.1,hr.2.2.2.2.1,hr.2.2.2.2.2.1,by have:=hr.2.2.2.2.2.2;lia⟩
 ·rintro u st' ⟨rfl,hu,m,h1,h2,h3,h4,h5⟩
  rw [hu];exact⟨rfl,m,h1,h2,h3,h4,by lia⟩
 ·rintro⟨u1,i,j,o,c,d⟩ st' ⟨rfl,hu⟩
  cases u1 with
  | some r=>exact ml ⟨Eg.rfl' _,⟨r,rfl⟩,hu⟩
  | none=>
   dsimp only at hu ⊢;refine gw (wpS_lift (g01 ⟨rfl,?_⟩));refine gw (tx (ur (I:=fun x v st''=>Eg st' st''/\v.1=none/\OkH lt a b (n+1) none v.2.1 v.2.2.1 v.2.2.2.1)
    (Q:=fun v st''=>Eg st' st''/\OkH lt a b (n+1) v.1 v.2.1 v.2.2.1 v.2.2.2.1) ?_ ?_ ⟨Eg.rfl' _,rfl,hu⟩) ?_)
   ·rintro x ⟨v1,i,j,o,g,c,d⟩ st'' _ hx ⟨eg,rfl,h'⟩
    unfold hiG;dsimp only at h' ⊢;have key:∀g',wpS (model prog w) A E s (hiB a b i j o g' c d) (fun r st3=>match r with
      | .done v=>Eg st' st3/\OkH lt a b (n+1) v.1 v.2.1 v.2.2.1 v.2.2.2.1
      | .yield v=>Eg st' st3/\v.1=none/\OkH lt a b (n+1) none v.2.1 v.2.2.1 v.2.2.2.1) st'':=by
     intro g';refine tx (qq8 C H (eg.1.trans hk) h') ?_
     rintro r st3 ⟨eg3,hr⟩
     cases r with
     | done v=>exact⟨eg.trans eg3,hr⟩
     | yield v=>exact⟨eg.trans eg3,hr⟩
    split
    ·exact tx (key _) fun r st3 hr=>by cases r <;> exact hr
    ·exact tx (key _) fun r st3 hr=>by cases r <;> exact hr
   ·rintro v st'' ⟨eg,hv,h'⟩
    rw [hv];exact⟨eg,h'⟩
   ·rintro⟨v1,i,j,o,g,c,d⟩ st'' ⟨eg,hv⟩
    cases v1 with
    | some r=>exact ml ⟨eg,⟨r,rfl⟩,hv⟩
    | none=>
     dsimp only at hv ⊢;exact gw (q52 fun st3 eg3=>ml ⟨eg.trans eg3,rfl,hv⟩)
theorem qqa(C:Cmp prog w A s κ G lt)(H:Mh G lt a b){st:SortSt}{Q:Array Keyed->SortSt->Prop}(hk:kindOf st = κ)(h:∀r st',Eg st st'->Rm lt a b r->Q r st'):
  wpS (model prog w) A E s (qi9 a b) Q st:=by
 rw [qq5];refine gw (wpS_lift (g01 ⟨rfl,?_⟩));have hb:=H.hb;have ha:=H.ha;refine gw (zk (by lia) ?_);have m:MJ lt a.toList b.toList (#[a[a.size-1]]:Array Keyed).toList (a.size-1) b.size:=by
  refine⟨?_,?_,?_,?_⟩
  ·rw [t6 (by simp;lia),g5p (by simp;lia),g5p (by simp)]
   simp
  ·simp
  ·intro p hp q hq
   have:p=a[a.size-1]:=by simpa using hp
   subst this;have:=qaj H.sa (ia:=a.size-1) (by simp;lia) q hq
   simpa using this
  ·intro p hp q hq
   have:p=a[a.size-1]:=by simpa using hp
   subst this;exact C.asy _ _ (H.last q (g0u hq))
 split
 ·rename_i e
  exact ml (h _ _ (Eg.rfl' _) (fhR m H.sb (by simpa using e)))
 ·rename_i e
  have e':a.size-1≠0:=by simpa using e
  split
  ·rename_i e2
   exact ml (h _ _ (Eg.rfl' _) (lhR H C m (by simpa using e2)))
  ·rename_i e2
   have e2':b.size≠1:=by simpa using e2
   refine gw (g34 ?_);refine gw (tx (ur (I:=fun x u st'=>Eg st st'/\u.1=none/\OkH lt a b x none u.2.1 u.2.2.1 u.2.2.2.1)
    (Q:=fun u st'=>Eg st st'/\∃r,u.1=some r/\Rm lt a b r) ?_ ?_ ⟨Eg.rfl' _,rfl,m,by first|lia|(dsimp only;lia),by first|lia|(dsimp only;lia),by first|lia|(dsimp only;lia),by first|lia|(dsimp only;lia),by first|lia|(dsimp only;lia)⟩) ?_)
   ·rintro x t st' _ hx ⟨eg,ht,h'⟩
    refine tx (qq9 C H ht (eg.1.trans hk) h') ?_
    rintro r st'' ⟨eg2,hr⟩
    cases r with
    | done u=>
     obtain⟨⟨r,hr1⟩,hr2⟩:=hr;rw [hr1] at hr2;exact⟨eg.trans eg2,r,hr1,hr2⟩
    | yield u=>exact⟨eg.trans eg2,hr.1,hr.2⟩
   ·rintro u st' ⟨eg,hu,_,h1,h2,h3,h4,h5⟩
    lia
   ·rintro⟨u1,u2⟩ st' ⟨eg,r,hr,hR⟩
    cases hr;exact ml (h _ _ eg hR)
end
def Kz(xs:Array Keyed)(i:Nat): Value:=kz xs[i]?
theorem q0h{xs ys:Array Keyed}{i j:Nat}(h:xs[i]? = ys[j]?): Kz xs i=Kz ys j:=by unfold Kz;rw [h]
theorem jw{xs:Array Keyed}{i:Nat}(h:i<xs.size): Kz xs i=xs[i].1:=by unfold Kz;rw [g1q xs i h];rfl
def Asc(lt:Value->Value->Bool)(xs:Array Keyed)(lo hi:Nat): Prop:=∀i j,lo<=i->i<=j->j<hi->lt (Kz xs j) (Kz xs i)=false
def Des(lt:Value->Value->Bool)(xs:Array Keyed)(lo hi:Nat): Prop:=∀i j,lo<=i->i<=j->j<hi->lt (Kz xs i) (Kz xs j)=false
def Eqv(lt:Value->Value->Bool)(x y:Value): Prop:=lt x y=false/\lt y x=false
structure Tr(lo hi:Nat)(st st':SortSt): Prop where
 kind:kindOf st'=kindOf st
 pend:pendingOf st'=pendingOf st
 fail:failedOf st'=failedOf st
 perm:(arrOf st').Perm (arrOf st)
 out:∀k,(k<lo\/hi<=k)->(arrOf st')[k]? = (arrOf st)[k]?
theorem Tr.rfl'(lo hi:Nat)(st:SortSt): Tr lo hi st st:=⟨rfl,rfl,rfl,.refl _,fun _ _=>rfl⟩
theorem Tr.trans{lo hi:Nat}{a b c:SortSt}(h:Tr lo hi a b)(k:Tr lo hi b c): Tr lo hi a c:=⟨k.kind.trans h.kind,k.pend.trans h.pend,k.fail.trans h.fail,k.perm.trans h.perm,fun i hi=>(k.out i hi).trans (h.out i hi)⟩
theorem Tr.size{lo hi:Nat}{a b:SortSt}(h:Tr lo hi a b): (arrOf b).size=(arrOf a).size:=h.perm.size_eq
def Gs(G:Value->Prop)(st:SortSt): Prop:=∀p∈(arrOf st).toList,G p.1
theorem Tr.gs{G:Value->Prop}{lo hi:Nat}{a b:SortSt}(h:Tr lo hi a b)(g:Gs G a): Gs G b:=fun p hp=>g p ((g1g.mp h.perm).mem_iff.mp hp)
theorem Tr.mir{lo hi i j:Nat}{st:SortSt}(h1:lo<=i)(h2:j<=hi)(h3:j<=(arrOf st).size): Tr lo hi st (setArr st (mirror (arrOf st) i j ((j-i) / 2))):=
 ⟨rfl,rfl,rfl,mirror_perm _ _ _ _,fun k hk=>by show(mirror (arrOf st) i j ((j-i) / 2))[k]? = _;rw [getElem?_mirror_all h3,mi (by lia)]⟩
theorem qdt{xs:Array Keyed}{i j:Nat}(hj:j<=xs.size)(k:Nat): Kz (mirror xs i j ((j-i) / 2)) k=if i<=k/\k<j then Kz xs (i+j-1-k) else Kz xs k:=by
 have e:=getElem?_mirror_all (i:=i) hj k
 split
 ·rename_i h;rw [mh h] at e;exact q0h e
 ·rename_i h;rw [mi h] at e;exact q0h e
abbrev ASt:=Option (Option Nat)×Nat
abbrev DSt:=Option (Option Nat)×Nat×Nat
noncomputable def asL(lo b nr:Nat): StateT SortSt Sem ASt:=
 forIn [b:nr] ((none,b):ASt) fun _ t=>do
  match <- ltAt' (lo+t.2) (lo+t.2-1) with
  | some sm=>if sm=true then pure (.done (none,t.2)) else pure (.yield (none,t.2+1))
  | _=>pure (.done (some none,t.2))
noncomputable def ta3(lo n nr:Nat): StateT SortSt Sem (Option Nat):=do
 reverseSlice' lo (lo+n)
 let t <- asL lo n nr
 match t.1 with
 | some r=>pure r
 | none=>pure (some t.2)
noncomputable def deL(lo n nr:Nat): StateT SortSt Sem DSt:=
 forIn [n:nr] ((none,n,0):DSt) fun _ t=>do
  match <- ltAt' (lo+t.2.1) (lo+t.2.1-1) with
  | some sm=>
   if sm=true then
    if t.2.2>0 then do
     reverseSlice' (lo+t.2.1-(t.2.2+1)) (lo+t.2.1)
     pure (.yield (none,t.2.1+1,0))
    else pure (.yield (none,t.2.1+1,0))
   else do
    match <- ltAt' (lo+t.2.1-1) (lo+t.2.1) with
    | some la=>if la=true then pure (.done (none,t.2.1,t.2.2)) else pure (.yield (none,t.2.1+1,t.2.2+1))
    | _=>pure (.done (some none,t.2.1,t.2.2))
  | _=>pure (.done (some none,t.2.1,t.2.2))
noncomputable def deP(lo n nr:Nat): StateT SortSt Sem (Option Nat):=do
 rule "list.sort.descending-run"
 let t <- deL lo (n+1) nr
 match t.1 with
 | some r=>pure r
 | none=>
  if t.2.2>0 then do
   reverseSlice' (lo+t.2.1-(t.2.2+1)) (lo+t.2.1)
   ta3 lo t.2.1 nr
  else ta3 lo t.2.1 nr
theorem qtf(lo nr:Nat): countRun' lo nr=(do
  let t <- asL lo 1 nr
  match t.1 with
  | some r=>pure r
  | none=>
   if(t.2==nr)=true then pure (some t.2)
   else if t.2>1 then do
    match <- ltAt' lo (lo+t.2-1) with
    | some ro=>if ro=true then pure (some t.2) else do
      reverseSlice' lo (lo+t.2)
      deP lo t.2 nr
    | _=>pure none
   else deP lo t.2 nr):=by
 rw [countRun'_eq];dsimp only;refine bc2 rfl fun t=>?_;obtain⟨r,n⟩:=t;cases r with
 | some r=>rfl
 | none=>
  dsimp only;refine ux rfl (fun _=>rfl) fun _=>ux rfl (fun _=>bc fun x=>?_) fun _=>?_
  ·cases x with
   | none=>rfl
   | some ro=>
    dsimp only;refine ux rfl (fun _=>rfl) fun _=>bc fun _=>?_;unfold deP;refine bc fun _=>bc2 rfl fun t=>?_;obtain⟨r2,n2,q2⟩:=t;cases r2 with
    | some r2=>rfl
    | none=>
     dsimp only;refine ux rfl (fun _=>bc fun _=>?_) fun _=>?_
     ·unfold ta3
      refine bc fun _=>bc2 rfl fun t=>?_;obtain⟨r3,n3⟩:=t;cases r3 <;> rfl
     ·unfold ta3
      refine bc fun _=>bc2 rfl fun t=>?_;obtain⟨r3,n3⟩:=t;cases r3 <;> rfl
  ·unfold deP
   refine bc fun _=>bc2 rfl fun t=>?_;obtain⟨r2,n2,q2⟩:=t;cases r2 with
   | some r2=>rfl
   | none=>
    dsimp only;refine ux rfl (fun _=>bc fun _=>?_) fun _=>?_
    ·unfold ta3
     refine bc fun _=>bc2 rfl fun t=>?_;obtain⟨r3,n3⟩:=t;cases r3 <;> rfl
    ·unfold ta3
     refine bc fun _=>bc2 rfl fun t=>?_;obtain⟨r3,n3⟩:=t;cases r3 <;> rfl
section
variable{prog:Program}{w:World}{A:Around}{E:Value->Shared->Prop}{s:Shared}{κ : SortKind}{G:Value->Prop}{lt:Value->Value->Bool}
theorem Eqv.symm{x y:Value}(h:Eqv lt x y): Eqv lt y x:=⟨h.2,h.1⟩
theorem Eqv.trans(C:Cmp prog w A s κ G lt){x y z:Value}(h:Eqv lt x y)(k:Eqv lt y z): Eqv lt x z:=⟨C.tra z y x k.1 h.1,C.tra x y z h.2 k.2⟩
theorem qdu(C:Cmp prog w A s κ G lt){x x' y y':Value}(hx:Eqv lt x x')(hy:Eqv lt y y')(h:lt y' x'=false): lt y x=false:=
 C.tra x x' y hx.2 (C.tra x' y' y h hy.1)
theorem wpS_ltK{st:SortSt}(C:Cmp prog w A s κ G lt){i j:Nat}{Q:Option Bool->SortSt->Prop}(hk:kindOf st = κ)(g:Gs G st)(hi:i<(arrOf st).size)(hj:j<(arrOf st).size)
  (h:Q (some (lt (Kz (arrOf st) i) (Kz (arrOf st) j))) st):wpS (model prog w) A E s (ltAt' i j) Q st:=by
 rw [ltAt'_eq];refine gw (g34 ?_);show wpS _ _ _ _ (do let x <- elem' (arrOf st) i;let y <- elem' (arrOf st) j;lt' x y) Q st;rw [jw hi,jw hj] at h;exact gw (zk hi (gw (zk hj (q4e (C:=C) hk (g _ (by simp)) (g _ (by simp)) h))))
theorem q7c{st:SortSt}{i j:Nat}{Q:Unit->SortSt->Prop}(h:Q () (setArr st (mirror (arrOf st) i j ((j-i) / 2)))): wpS (model prog w) A E s (reverseSlice' i j) Q st:=by
 rw [reverseSlice'_eq];exact g3t h
theorem qn8(C:Cmp prog w A s κ G lt){xs:Array Keyed}{lo x:Nat}(h:Asc lt xs lo (lo+x))(h1:1<=x)(hl:lt (Kz xs (lo+x)) (Kz xs (lo+x-1))=false): Asc lt xs lo (lo+(x+1)):=by
 intro i j h2 h3 h4
 by_cases hj:j<lo+x
 ·exact h i j h2 h3 hj
 ·have:j=lo+x:=by lia
  subst this
  by_cases hi:i=lo+x
  ·subst hi;exact C.irr _
  ·exact C.tra _ _ _ (h i (lo+x-1) h2 (by lia) (by lia)) hl
theorem q55(C:Cmp prog w A s κ G lt){xs:Array Keyed}{lo x:Nat}(h:Des lt xs lo (lo+x))(h1:1<=x)(hl:lt (Kz xs (lo+x-1)) (Kz xs (lo+x))=false): Des lt xs lo (lo+(x+1)):=by
 intro i j h2 h3 h4
 by_cases hj:j<lo+x
 ·exact h i j h2 h3 hj
 ·have:j=lo+x:=by lia
  subst this
  by_cases hi:i=lo+x
  ·subst hi;exact C.irr _
  ·exact C.tra _ _ _ hl (h i (lo+x-1) h2 (by lia) (by lia))
theorem qhg(C:Cmp prog w A s κ G lt){st:SortSt}{lo b nr:Nat}{Q:ASt->SortSt->Prop}(hk:kindOf st = κ)(g:Gs G st)(hz:lo+nr<=(arrOf st).size)(h1:1<=b)(h2:b<=nr)(hs:Asc lt (arrOf st) lo (lo+b))
  (h:∀n,b<=n->n<=nr->Asc lt (arrOf st) lo (lo+n)->(n=nr\/lt (Kz (arrOf st) (lo+n)) (Kz (arrOf st) (lo+n-1))=true)->Q (none,n) st):wpS (model prog w) A E s (asL lo b nr) Q st:=by
 unfold asL;refine ur (I:=fun x c st'=>st'=st/\c=(none,x)/\Asc lt (arrOf st) lo (lo+x)) ?_ ?_ ⟨rfl,rfl,hs⟩
 ·rintro x c st' hx1 hx2 ⟨rfl,rfl,hs'⟩
  dsimp only;refine gw (wpS_ltK C hk g (by lia) (by lia) ?_);dsimp only;cases e:lt (Kz (arrOf st') (lo+x)) (Kz (arrOf st') (lo+x-1))
  ·simp only [gr,p8]
   exact ml ⟨rfl,rfl,qn8 C hs' (by lia) e⟩
  ·simp only [nj]
   exact ml (h x hx1 (by lia) hs' (.inr e))
 ·rintro c st' ⟨rfl,rfl,hs'⟩
  rw [show max b nr=nr by lia] at hs' ⊢;exact h nr h2 (gv _) hs' (.inl rfl)
theorem qhh(C:Cmp prog w A s κ G lt){st:SortSt}{lo n nr:Nat}{Q:Option Nat->SortSt->Prop}(hk:kindOf st = κ)(g:Gs G st)(hz:lo+nr<=(arrOf st).size)(h1:1<=n)(h2:n<=nr)(hs:Des lt (arrOf st) lo (lo+n))
  (h:∀m st',Tr lo (lo+nr) st st'->1<=m->m<=nr->Asc lt (arrOf st') lo (lo+m)->Q (some m) st'):wpS (model prog w) A E s (ta3 lo n nr) Q st:=by
 unfold ta3;have hz':lo+n<=(arrOf st).size:=by lia
 refine gw (q7c ?_);have tr:Tr lo (lo+nr) st (setArr st (mirror (arrOf st) lo (lo+n) ((lo+n-lo) / 2))):=Tr.mir (gv _) (by lia) hz';refine gw (qhg C (tr.kind.trans hk) (tr.gs g) (by rw [tr.size];exact hz) h1 h2 ?_ fun m m1 m2 m3 _=>ml (h m _ tr (by lia) m2 m3));intro i j i1 i2 i3;show lt (Kz (mirror (arrOf st) lo (lo+n) ((lo+n-lo) / 2)) j) (Kz (mirror (arrOf st) lo (lo+n) ((lo+n-lo) / 2)) i)=false;rw [qdt hz',qdt hz',mh (by lia),mh (by lia)];exact hs _ _ (by lia) (by lia) (by lia)
theorem qak(C:Cmp prog w A s κ G lt){xs:Array Keyed}{i j:Nat}(hj:j<=xs.size)(he:∀k,i<=k->k<j->Eqv lt (Kz xs k) (Kz xs (j-1)))(k:Nat): Eqv lt (Kz (mirror xs i j ((j-i) / 2)) k) (Kz xs k):=by
 rw [qdt hj]
 split
 ·exact Eqv.trans C (he _ (by lia) (by lia)) (he k (by lia) (by lia)).symm
 ·exact⟨C.irr _,C.irr _⟩
theorem qqb(C:Cmp prog w A s κ G lt){st:SortSt}{lo n nr:Nat}{Q:DSt->SortSt->Prop}(hk:kindOf st = κ)(g:Gs G st)(hz:lo+nr<=(arrOf st).size)(h1:1<=n)(h2:n<=nr)(hs:Des lt (arrOf st) lo (lo+n))
  (h:∀m q st',Tr lo (lo+nr) st st'->n<=m->m<=nr->Des lt (arrOf st') lo (lo+m)->q+1<=m->(∀i,lo+m-(q+1)<=i->i<lo+m->Eqv lt (Kz (arrOf st') i) (Kz (arrOf st') (lo+m-1)))->Q (none,m,q) st') :
  wpS (model prog w) A E s (deL lo n nr) Q st:=by
 unfold deL;refine ur (I:=fun x c st'=>∃q,c=(none,x,q)/\Tr lo (lo+nr) st st'/\Des lt (arrOf st') lo (lo+x)/\q+1<=x /\
   (∀i,lo+x-(q+1)<=i->i<lo+x->Eqv lt (Kz (arrOf st') i) (Kz (arrOf st') (lo+x-1)))) ?_ ?_
  ⟨0,rfl,Tr.rfl' _ _ _,hs,by lia,fun i i1 i2=>by rw [show i=lo+n-1 by lia];exact⟨C.irr _,C.irr _⟩⟩
 ·rintro x c st' hx1 hx2 ⟨q,rfl,tr,ds,hq,he⟩
  dsimp only;have hz':lo+x<=(arrOf st').size:=by rw [tr.size];lia
  have hk':=tr.kind.trans hk;have g':=tr.gs g;refine gw (wpS_ltK C hk' g' (by rw [tr.size];lia) (by rw [tr.size];lia) ?_);dsimp only;cases e:lt (Kz (arrOf st') (lo+x)) (Kz (arrOf st') (lo+x-1))
  ·simp only [gr,p8]
   refine gw (wpS_ltK C hk' g' (by rw [tr.size];lia) (by rw [tr.size];lia) ?_);dsimp only;cases e2:lt (Kz (arrOf st') (lo+x-1)) (Kz (arrOf st') (lo+x))
   ·simp only [gr,p8]
    refine ml ⟨q+1,rfl,tr,q55 C ds (by lia) e2,by lia,fun i i1 i2=>?_⟩;rw [show lo+(x+1)-1=lo+x by lia]
    by_cases hi:i=lo+x
    ·subst hi;exact⟨C.irr _,C.irr _⟩
    ·exact Eqv.trans C (he i (by lia) (by lia)) ⟨e2,e⟩
   ·simp only [nj]
    exact ml (h x q st' tr hx1 (by lia) ds hq he)
  ·simp only [nj]
   have step:∀st'',Tr lo (lo+nr) st st''->(∀k,Eqv lt (Kz (arrOf st'') k) (Kz (arrOf st') k))->∃q',((none,x+1,0):DSt)=(none,x+1,q')/\Tr lo (lo+nr) st st''/\Des lt (arrOf st'') lo (lo+(x+1))/\q'+1<=x+1 /\
     (∀i,lo+(x+1)-(q'+1)<=i->i<lo+(x+1)->Eqv lt (Kz (arrOf st'') i) (Kz (arrOf st'') (lo+(x+1)-1))):=by
    intro st'' tr2 hev;refine⟨0,rfl,tr2,?_,by lia,fun i i1 i2=>by rw [show i=lo+(x+1)-1 by lia];exact⟨C.irr _,C.irr _⟩⟩;have dm:=q55 C ds (by lia) (C.asy _ _ e);intro i j i1 i2 i3;exact qdu C (hev j) (hev i) (dm i j i1 i2 i3)
   split
   ·refine gw (q7c (ml (step _ (tr.trans (Tr.mir (by lia) (by lia) hz')) (qak C hz' ?_))))
    exact he
   ·exact ml (step _ tr fun k=>⟨C.irr _,C.irr _⟩)
 ·rintro c st' ⟨q,rfl,tr,ds,hq,he⟩
  rw [show max n nr=nr by lia] at ds hq he ⊢;exact h nr q st' tr h2 (gv _) ds hq he
theorem qhi(C:Cmp prog w A s κ G lt){st:SortSt}{lo n nr:Nat}{Q:Option Nat->SortSt->Prop}(hk:kindOf st = κ)(g:Gs G st)(hz:lo+nr<=(arrOf st).size)(h2:n+1<=nr)(hs:Des lt (arrOf st) lo (lo+(n+1)))
  (h:∀m st',Tr lo (lo+nr) st st'->1<=m->m<=nr->Asc lt (arrOf st') lo (lo+m)->Q (some m) st'):wpS (model prog w) A E s (deP lo n nr) Q st:=by
 unfold deP;refine gw (wpS_lift (g01 ⟨rfl,?_⟩));refine gw (qqb C hk g hz (by lia) h2 hs fun m q st' tr m1 m2 ds hq he=>?_);dsimp only;have hz':lo+m<=(arrOf st').size:=by rw [tr.size];lia
 split
 ·have tr2:Tr lo (lo+nr) st' (setArr st' (mirror (arrOf st') (lo+m-(q+1)) (lo+m) ((lo+m-(lo+m-(q+1))) / 2))):=Tr.mir (by lia) (by lia) hz'
  refine gw (q7c (qhh C (tr2.kind.trans (tr.kind.trans hk)) (tr2.gs (tr.gs g)) (by rw [tr2.size,tr.size];exact hz) (by lia) m2 ?_ fun k st'' tr3=>h k st'' (tr.trans (tr2.trans tr3))));intro i j i1 i2 i3;have ev:=qak C hz' he;exact qdu C (ev j) (ev i) (ds i j i1 i2 i3)
 ·exact qhh C (tr.kind.trans hk) (tr.gs g) (by rw [tr.size];exact hz) (by lia) m2 ds fun k st'' tr3=>h k st'' (tr.trans tr3)
theorem qqc(C:Cmp prog w A s κ G lt){st:SortSt}{lo nr:Nat}{Q:Option Nat->SortSt->Prop}(hk:kindOf st = κ)(g:Gs G st)(hz:lo+nr<=(arrOf st).size)(h1:1<=nr)
  (h:∀m st',Tr lo (lo+nr) st st'->1<=m->m<=nr->Asc lt (arrOf st') lo (lo+m)->Q (some m) st'):wpS (model prog w) A E s (countRun' lo nr) Q st:=by
 rw [qtf];refine gw (qhg C hk g hz (gv _) h1 (fun i j i1 i2 i3=>by rw [show i=j by lia];exact C.irr _) fun n n1 n2 as hor=>?_);dsimp only
 split
 ·exact ml (h n st (Tr.rfl' _ _ _) n1 n2 as)
 ·rename_i hne
  have hne':n≠nr:=by simpa using hne
  have hl:=hor.resolve_left hne'
  split
  ·refine gw (wpS_ltK C hk g (by lia) (by lia) ?_)
   dsimp only;cases e:lt (Kz (arrOf st) lo) (Kz (arrOf st) (lo+n-1))
   ·simp only [gr,p8]
    have hz':lo+n<=(arrOf st).size:=by lia
    have tr:Tr lo (lo+nr) st (setArr st (mirror (arrOf st) lo (lo+n) ((lo+n-lo) / 2))):=Tr.mir (gv _) (by lia) hz';have all:∀k,lo<=k->k<lo+n->Eqv lt (Kz (arrOf st) k) (Kz (arrOf st) (lo+n-1)):=fun k k1 k2=>
     ⟨C.tra _ _ _ (as k (lo+n-1) k1 (by lia) (by lia) |> fun z=>by exact C.tra _ _ _ e (as lo k (gv _) k1 k2)) (C.irr _),as k (lo+n-1) k1 (by lia) (by lia)⟩
    refine gw (q7c (qhi C (tr.kind.trans hk) (tr.gs g) (by rw [tr.size];exact hz) (by lia) ?_ fun m st' tr2=>h m st' (tr.trans tr2)));have ev:=qak C hz' all;have ds:Des lt (arrOf st) lo (lo+(n+1)):=by
     refine q55 C (fun i j i1 i2 i3=>?_) (by lia) (C.asy _ _ hl);exact(Eqv.trans C (all i i1 (by lia)) (all j (by lia) i3).symm).1
    intro i j i1 i2 i3;exact qdu C (ev j) (ev i) (ds i j i1 i2 i3)
   ·simp only [nj]
    exact ml (h n st (Tr.rfl' _ _ _) n1 n2 as)
  ·have:n=1:=by lia
   subst this;refine qhi C hk g hz (by lia) ?_ h;exact q55 C (fun i j i1 i2 i3=>by rw [show i=j by lia];exact C.irr _) (gv _) (C.asy _ _ hl)
end
theorem qke{xs:Array Keyed}{src d:Nat}(hs:src<xs.size)(hd:d<=src)(k:Nat): Kz (bubble xs src d) k=if k=src-d then Kz xs src else if src-d<k/\k<=src then Kz xs (k-1) else Kz xs k:=by
 have e:=getElem?_bubble hs d hd k
 split
 ·rename_i h;rw [mh h] at e;exact q0h e
 ·rename_i h;rw [mi h] at e
  split
  ·rename_i h2;rw [mh h2] at e;exact q0h e
  ·rename_i h2;rw [mi h2] at e;exact q0h e
theorem Tr.bub{lo hi src d:Nat}{st:SortSt}(h1:lo<=src-d)(h2:src<hi)(h3:src<(arrOf st).size)(hd:d<=src): Tr lo hi st (setArr st (bubble (arrOf st) src d)):=
 ⟨rfl,rfl,rfl,bubble_perm _ _ _,fun k hk=>by show(bubble (arrOf st) src d)[k]? = _;rw [getElem?_bubble h3 d hd,mi (by lia),mi (by lia)]⟩
section
variable{prog:Program}{w:World}{A:Around}{E:Value->Shared->Prop}{s:Shared}{κ : SortKind}{G:Value->Prop}{lt:Value->Value->Bool}
theorem qqd(C:Cmp prog w A s κ G lt){st:SortSt}{lo n ok:Nat}{Q:Bool->SortSt->Prop}(hk:kindOf st = κ)(g:Gs G st)(hz:lo+n<=(arrOf st).size)(hok:ok<=n)(hs:Asc lt (arrOf st) lo (lo+ok))
  (h:∀st',Tr lo (lo+n) st st'->Asc lt (arrOf st') lo (lo+n)->Q true st'):wpS (model prog w) A E s (binarySort' lo n ok) Q st:=by
 rw [binarySort'_eq];refine gw (tx (ur (I:=fun k c st'=>c=(none,())/\Tr lo (lo+n) st st'/\Asc lt (arrOf st') lo (lo+min k n))
  (Q:=fun c st'=>c=(none,())/\Tr lo (lo+n) st st'/\Asc lt (arrOf st') lo (lo+n)) ?_ ?_ ?_) ?_)
 ·rintro k c st' hk1 hk2 ⟨rfl,tr,as⟩
  rw [show min k n=k by lia] at as;have hk':=tr.kind.trans hk;have g':=tr.gs g;have hz':lo+n<=(arrOf st').size:=by rw [tr.size];exact hz
  refine gw (tx (ur (I:=fun x c st''=>st''=st'/\∃l r,c=(none,l,r)/\l<=r/\r<=k/\r-l<=k-x /\
    (∀i,i<l->lt (Kz (arrOf st') (lo+k)) (Kz (arrOf st') (lo+i))=false)/\(∀i,r<=i->i<k->lt (Kz (arrOf st') (lo+k)) (Kz (arrOf st') (lo+i))=true))
   (Q:=fun c st''=>st''=st'/\∃l r,c=(none,l,r)/\l<=k /\
    (∀i,i<l->lt (Kz (arrOf st') (lo+k)) (Kz (arrOf st') (lo+i))=false)/\(∀i,l<=i->i<k->lt (Kz (arrOf st') (lo+k)) (Kz (arrOf st') (lo+i))=true)) ?_ ?_ ?_) ?_)
  ·rintro x c st'' _ hx ⟨rfl,l,r,rfl,h1,h2,h3,h4,h5⟩
   dsimp only
   by_cases hge:l>=r
   ·rw [mh hge]
    have:l=r:=by lia
    subst this;exact ml ⟨rfl,l,l,rfl,h2,h4,h5⟩
   ·rw [mi hge]
    refine gw (wpS_ltK C hk' g' (by lia) (by lia) ?_);dsimp only;cases e:lt (Kz (arrOf st'') (lo+k)) (Kz (arrOf st'') (lo+(l+r) / 2))
    ·simp only [gr,p8]
     refine ml ⟨rfl,(l+r) / 2+1,r,rfl,by lia,by lia,by lia,fun i i1=>?_,h5⟩;exact C.tra _ _ _ (as (lo+i) (lo+(l+r) / 2) (by lia) (by lia) (by lia)) e
    ·simp only [nj]
     refine ml ⟨rfl,l,(l+r) / 2,rfl,by lia,by lia,by lia,h4,fun i i1 i2=>?_⟩;cases e2:lt (Kz (arrOf st'') (lo+k)) (Kz (arrOf st'') (lo+i))
     ·have:=C.tra _ _ _ (as (lo+(l+r) / 2) (lo+i) (by lia) (by lia) (by lia)) e2
      rw [this] at e;cases e
     ·rfl
  ·rintro c st'' ⟨rfl,l,r,rfl,h1,h2,h3,h4,h5⟩
   have:l=r:=by lia
   subst this;exact⟨rfl,l,l,rfl,h2,h4,h5⟩
  ·exact⟨rfl,0,k,rfl,by lia,by lia,by lia,fun i hi=>by lia,fun i i1 i2=>by lia⟩
  ·rintro c st'' ⟨rfl,l,r,rfl,h2,h4,h5⟩
   show wpS _ _ _ _ (do moveDown' (lo+k) (lo+l);pure (ForInStep.yield (none,()))) _ _;rw [moveDown'_eq];have hks:lo+k<(arrOf st'').size:=by lia
   refine gw (g3t (ml ⟨rfl,tr.trans (Tr.bub (by lia) (by lia) hks (by lia)),?_⟩));rw [show min (k+1) n=k+1 by lia];intro i j i1 i2 i3;show lt (Kz (bubble (arrOf st'') (lo+k) (lo+k-(lo+l))) j) (Kz (bubble (arrOf st'') (lo+k) (lo+k-(lo+l))) i)=false;rw [qke hks (by lia),qke hks (by lia),show lo+k-(lo+k-(lo+l))=lo+l by lia];have q4:∀i,lo<=i->i<lo+l->lt (Kz (arrOf st'') (lo+k)) (Kz (arrOf st'') i)=false:=fun i a b=>by
    have:=h4 (i-lo) (by lia);rwa [show lo+(i-lo)=i by lia] at this
   have q5:∀i,lo+l<=i->i<lo+k->lt (Kz (arrOf st'') i) (Kz (arrOf st'') (lo+k))=false:=fun i a b=>by
    have:=C.asy _ _ (h5 (i-lo) (by lia) (by lia));rwa [show lo+(i-lo)=i by lia] at this
   repeat' split
   all_goals first
    | (exfalso;lia)
    | exact C.irr _
    | exact q4 _ (by lia) (by lia)
    | exact q5 _ (by lia) (by lia)
    | exact as _ _ (by lia) (by lia) (by lia)
 ·rintro c st' ⟨hc,tr,as⟩
  rw [show min (max (max ok 1) n) n=n by lia] at as;exact⟨hc,tr,as⟩
 ·refine⟨rfl,Tr.rfl' _ _ _,fun i j i1 i2 i3=>?_⟩
  by_cases h1:ok=0
  ·rw [show i=j by lia];exact C.irr _
  ·exact hs i j i1 i2 (by lia)
 ·rintro c st' ⟨rfl,tr,as⟩
  exact ml (h st' tr as)
end
theorem qqe(i:Nat): mergeAt' i=(do
 let s <- get
 let(some (l,n,p),some (r,m,_)):=((pendingOf s)[i]?,(pendingOf s)[i+1]?)|unsupported "internal:list.sort.pending"
 set (setPending s (((pendingOf s).setIfInBounds i (l,n+m,p)).eraseIdxIfInBounds (i+1)))
 let some k <- q2a false (<- elem' (arrOf s) r) (arrOf s) l n 0|return false
 let(l,n):=(l+k,n-k)
 if n==0 then return true
 let some m <- q2a true (<- elem' (arrOf s) (l+n-1)) (arrOf s) r m (m-1)|return false
 if m==0 then return true
 let x:=(arrOf s).extract l r
 let y:=(arrOf s).extract r (r+m)
 let z <- if n<=m then qi8 x y else qi9 x y
 modify fun s=>setArr s (z.toList.zipIdx.foldl (fun a (p,j)=>a.setIfInBounds (l+j) p) (arrOf s))
 return (failedOf (<- get)).isNone):=rfl
theorem qdv{o:Nat}: ∀(l:List Keyed) (j:Nat) (xs:Array Keyed) (T Y R:List Keyed),xs.toList=T++Y++R->T.length=o+j->Y.length=l.length ->
  ((l.zipIdx j).foldl (fun a (p,j)=>a.setIfInBounds (o+j) p) xs).toList=T++l++R
 | [],j,xs,T,Y,R,h,h1,h2=>by
  have:Y=[]:=g5d.mp h2;subst this;exact h
 | p :: l,j,xs,T,y :: Y,R,h,h1,h2=>by
  rw [g56,g5h];have e:(xs.setIfInBounds (o+j) p).toList=(T++[p])++Y++R:=by
   rw [g4n,h, <- h1];simp
  rw [qdv l (j+1) _ (T++[p]) Y R e (by simp;lia) (by simpa using h2)];simp
section
variable{prog:Program}{w:World}{A:Around}{E:Value->Shared->Prop}{s:Shared}{κ : SortKind}{G:Value->Prop}{lt:Value->Value->Bool}
theorem q2s(C:Cmp prog w A s κ G lt){xs:Array Keyed}{T X R:List Keyed}{lo hi:Nat}(h:xs.toList=T++X++R)(h1:lo=T.length)(h2:hi=lo+X.length): Asc lt xs lo hi↔X.Pairwise (le lt):=by
 have hz:xs.size=T.length+X.length+R.length:=by rw [<- ng,h];simp;lia
 have at_:∀i,(hi:i<X.length)->Kz xs (lo+i)=(X[i]).1:=by
  intro i hi;have hl:lo+i<xs.size:=by lia
  rw [jw hl, <- g3v]
  congr 1
  simp only [h];rw [g58 (by simp;lia),g4x (by lia)]
  congr 1;lia
 constructor
 ·intro as
  rw [g4w];intro i j hi hj hij;have:=as (lo+i) (lo+j) (by lia) (by lia) (by lia);rw [at_ i hi,at_ j hj] at this;exact this
 ·intro pw i j i1 i2 i3
  have e1:=at_ (i-lo) (by lia);have e2:=at_ (j-lo) (by lia);rw [show lo+(i-lo)=i by lia] at e1;rw [show lo+(j-lo)=j by lia] at e2;rw [e1,e2];exact q9f C (fun x=>C.irr _) pw (by lia) (by lia)
theorem cut(l:List Keyed)(a b:Nat)(h1:a<=b)(h2:b<=l.length): l=l.take a++(l.drop a).take (b-a)++l.drop b:=by
 rw [mm];have e:(l.drop a).take (b-a)++l.drop b=l.drop a:=by
  have:=nz (b-a) (l.drop a);rw [g47,show a+(b-a)=b by lia] at this;exact this
 rw [e,nz]
structure Aft(i l n m p:Nat)(st st':SortSt)(lt:Value->Value->Bool): Prop where
 kind:kindOf st'=kindOf st
 fail:failedOf st'=failedOf st
 pend:pendingOf st'=((pendingOf st).setIfInBounds i (l,n+m,p)).eraseIdxIfInBounds (i+1)
 perm:(arrOf st').Perm (arrOf st)
 out:∀k,(k<l\/l+n+m<=k)->Kz (arrOf st') k=Kz (arrOf st) k
 asc:Asc lt (arrOf st') l (l+n+m)
theorem qqf(C:Cmp prog w A s κ G lt){st:SortSt}{i l n m p p':Nat}{Q:Bool->SortSt->Prop}(hk:kindOf st = κ)(hf:failedOf st=none)(g:Gs G st)
  (e1:(pendingOf st)[i]? = some (l,n,p)) (e2:(pendingOf st)[i+1]? = some (l+n,m,p')) (h1:1<=n) (h2:1<=m) (hz:l+n+m<=(arrOf st).size)
  (a1:Asc lt (arrOf st) l (l+n)) (a2:Asc lt (arrOf st) (l+n) (l+n+m)) (h:∀st',Aft i l n m p st st' lt->Q true st'):wpS (model prog w) A E s (mergeAt' i) Q st:=by
 rw [qqe];refine gw (g34 ?_);rw [e1,e2];dsimp only;obtain⟨st1,hst1⟩:∃st1,st1=setPending st (((pendingOf st).setIfInBounds i (l,n+m,p)).eraseIdxIfInBounds (i+1)):=⟨_,rfl⟩
 rw [<- hst1];have hset:∀ {R:PUnit->SortSt->Prop},R ⟨⟩ st1->wpS (model prog w) A E s (set st1:StateT SortSt Sem PUnit) R st:=by
  intro R hR;unfold wpS;rw [StateT.run_set];exact g9 ⟨rfl,hR⟩
 refine gw (hset ?_);have k1:kindOf st1 = κ :=by rw [hst1];exact hk
 have f1:failedOf st1=none:=by rw [hst1];exact hf
 have r1:arrOf st1=arrOf st:=by rw [hst1]
 have p1:pendingOf st1=((pendingOf st).setIfInBounds i (l,n+m,p)).eraseIdxIfInBounds (i+1):=by rw [hst1]
 have ge:∀j,(hj:j<(arrOf st).size)->G ((arrOf st)[j]).1:=fun j hj=>g _ (by simp);have kle:∀i j,(hi:i<(arrOf st).size)->(hj:j<(arrOf st).size)->Kz (arrOf st) i=((arrOf st)[i]).1/\Kz (arrOf st) j=((arrOf st)[j]).1:=fun i j hi hj=>⟨jw hi,jw hj⟩
 refine gw (zk (by lia) (gw (q2r C k1 (ge _ (by lia)) g (by lia) (by lia) (fun x y hxy hy q1=>?_) fun k hk1 g1 g2=>?_)))
 ·simp only [far1,gr,p8,g1i] at q1 ⊢
  have:=a1 (l+x) (l+y) (by lia) (by lia) (by lia);rw [jw (by lia),jw (by lia)] at this;exact C.tra _ _ _ this q1
 dsimp only;have g1':∀x,l<=x->x<l+k->lt (Kz (arrOf st) (l+n)) (Kz (arrOf st) x)=false:=by
  intro x x1 x2;have:=g1 (x-l) (by lia) (by lia);simp only [far1,gr,p8,g1i] at this;rw [jw (by lia),jw (by lia)];rw [<- this];congr 3;lia
 have g2':∀x,l+k<=x->x<l+n->lt (Kz (arrOf st) (l+n)) (Kz (arrOf st) x)=true:=by
  intro x x1 x2;have:=g2 (x-l) (by lia) (by lia);simp only [far1,gr,p8,g2v] at this;rw [jw (by lia),jw (by lia)];rw [<- this];congr 3;lia
 by_cases hkn:k=n
 ·rw [mh (by first|(simp;done)|(simp;lia))]
  refine ml (h st1 ⟨k1.trans hk.symm,f1.trans hf.symm,p1,by rw [r1],fun _ _=>by rw [r1],?_⟩);rw [r1];intro x y x1 x2 x3
  by_cases hy:y<l+n
  ·exact a1 x y x1 x2 hy
  ·by_cases hx:x<l+n
   ·exact C.tra _ _ _ (g1' x x1 (by lia)) (a2 (l+n) y (by lia) (by lia) (by lia))
   ·exact a2 x y (by lia) x2 x3
 rw [mi (by simp;lia)];have hlast:l+k+(n-k)-1=l+n-1:=by lia
 refine gw (zk (by lia) (gw (q2r C k1 (ge _ (by lia)) g (by lia) (by lia) (fun x y hxy hy q1=>?_) fun j hj1 j1 j2=>?_)))
 ·simp only [far1,nj] at q1 ⊢
  have:=a2 (l+n+x) (l+n+y) (by lia) (by lia) (by lia);rw [jw (by lia),jw (by lia)] at this;cases e3:lt ((arrOf st)[l+n+x]'(by lia)).1 ((arrOf st)[l+k+(n-k)-1]'(by lia)).1
  ·rw [C.tra _ _ _ e3 this] at q1;cases q1
  ·rfl
 dsimp only;have j1':∀x,l+n<=x->x<l+n+j->lt (Kz (arrOf st) x) (Kz (arrOf st) (l+n-1))=true:=by
  intro x x1 x2;have:=j1 (x-(l+n)) (by lia) (by lia);simp only [far1,nj] at this;rw [jw (by lia),jw (by lia)];rw [<- this];congr 3 <;> lia
 have j2':∀x,l+n+j<=x->x<l+n+m->lt (Kz (arrOf st) x) (Kz (arrOf st) (l+n-1))=false:=by
  intro x x1 x2;have:=j2 (x-(l+n)) (by lia) (by lia);simp only [far1,nj] at this;rw [jw (by lia),jw (by lia)];rw [<- this];congr 3 <;> lia
 by_cases hj0:j=0
 ·rw [mh (by first|(simp;done)|(simp;lia))]
  refine ml (h st1 ⟨k1.trans hk.symm,f1.trans hf.symm,p1,by rw [r1],fun _ _=>by rw [r1],?_⟩);rw [r1];intro x y x1 x2 x3
  by_cases hy:y<l+n
  ·exact a1 x y x1 x2 hy
  ·by_cases hx:x<l+n
   ·exact C.tra _ _ _ (a1 x (l+n-1) x1 (by lia) (by lia)) (j2' y (by lia) (by lia))
   ·exact a2 x y (by lia) x2 x3
 rw [mi (by simp;lia)];obtain⟨a,ha⟩:∃a,a=(arrOf st).extract (l+k) (l+n):=⟨_,rfl⟩
 obtain⟨b,hb⟩:∃b,b=(arrOf st).extract (l+n) (l+n+j):=⟨_,rfl⟩
 rw [<- ha, <- hb];obtain⟨L,hL⟩:∃L,L=(arrOf st).toList:=⟨_,rfl⟩
 have hLz:L.length=(arrOf st).size:=by rw [hL];simp
 have la:a.toList=(L.drop (l+k)).take (l+n-(l+k)):=by rw [ha,hL,g0h]
 have lb:b.toList=(L.drop (l+n)).take (l+n+j-(l+n)):=by rw [hb,hL,g0h]
 have sza:a.size=n-k:=by rw [<- ng,la];simp;lia
 have szb:b.size=j:=by rw [<- ng,lb];simp;lia
 have ga:∀q∈a.toList,G q.1:=fun q hq=>g q (by rw [la] at hq;rw [<- hL];exact g3u (g0u hq));have gb:∀q∈b.toList,G q.1:=fun q hq=>g q (by rw [lb] at hq;rw [<- hL];exact g3u (g0u hq));have memA:∀q∈a.toList,∃x,l+k<=x/\x<l+n/\q.1=Kz (arrOf st) x:=by
  intro q hq;rw [la] at hq;obtain⟨y,hy,rfl⟩:=tw.mp hq;simp only [pk,uo] at hy;refine⟨l+k+y,by lia,by lia,?_⟩;rw [jw (by lia)];simp [hL]
 have memB:∀q∈b.toList,∃x,l+n<=x/\x<l+n+j/\q.1=Kz (arrOf st) x:=by
  intro q hq;rw [lb] at hq;obtain⟨y,hy,rfl⟩:=tw.mp hq;simp only [pk,uo] at hy;refine⟨l+n+y,by lia,by lia,?_⟩;rw [jw (by lia)];simp [hL]
 have sA:a.toList.Pairwise (le lt):=by
  rw [la];refine(q2s C (xs:=arrOf st) (lo:=l+k) (hi:=l+n) (T:=L.take (l+k)) (R:=L.drop (l+n)) (by rw [<- hL];exact cut L (l+k) (l+n) (by lia) (by lia)) (by simp;lia) (by simp;lia)).mp ?_;exact fun x y x1 x2 x3=>a1 x y (by lia) x2 x3
 have sB:b.toList.Pairwise (le lt):=by
  rw [lb];refine(q2s C (xs:=arrOf st) (lo:=l+n) (hi:=l+n+j) (T:=L.take (l+n)) (R:=L.drop (l+n+j)) (by rw [<- hL];exact cut L (l+n) (l+n+j) (by lia) (by lia)) (by simp;lia) (by simp;lia)).mp ?_;exact fun x y x1 x2 x3=>a2 x y (by lia) x2 (by lia)
 have H:Mh G lt a b:=by
  refine⟨ga,gb,sA,sB,by lia,by lia,fun q hq=>?_,fun q hq=>?_⟩
  ·obtain⟨x,x1,x2,e⟩:=memA q hq
   have e0:(b[0]'(by lia)).1=Kz (arrOf st) (l+n):=by
    rw [jw (by lia)];simp [hb]
   rw [e,e0];exact g2' x x1 x2
  ·obtain⟨x,x1,x2,e⟩:=memB q hq
   have e0:(a[a.size-1]'(by lia)).1=Kz (arrOf st) (l+n-1):=by
    rw [jw (by lia)];simp only [ha,Array.getElem_extract]
    congr 2
    simp;lia
   rw [e,e0];exact j1' x x1 x2
 have fin:∀z st2,Eg st1 st2->Rm lt a b z->wpS (model prog w) A E s (do
   modify fun s=>setArr s (z.toList.zipIdx.foldl (fun a (p,j)=>a.setIfInBounds (l+k+j) p) (arrOf s))
   return (failedOf (<- get)).isNone) Q st2:=by
  intro z st2 eg rm;refine gw (g3t (gw (g34 ?_)));obtain⟨Z,hZ⟩:∃Z,Z=z.toList.zipIdx.foldl (fun a (p,j)=>a.setIfInBounds (l+k+j) p) (arrOf st2):=⟨_,rfl⟩
  rw [<- hZ];show wpS (model prog w) A E s (pure (failedOf st2).isNone) Q (setArr st2 Z);rw [show(failedOf st2).isNone=true by rw [eg.2.2.2,f1];rfl];have r2:arrOf st2=arrOf st:=eg.2.1.trans r1;have zlen:z.toList.length=n-k+j:=by rw [rm.1.length_eq,pf,ng,ng,sza,szb]
  have zsz:z.size=n-k+j:=by rw [<- ng];exact zlen
  obtain⟨T,hT⟩:∃T,T=L.take l:=⟨_,rfl⟩
  obtain⟨P,hP⟩:∃P,P=(L.drop l).take k:=⟨_,rfl⟩
  obtain⟨S,hS⟩:∃S,S=(L.drop (l+n+j)).take (m-j):=⟨_,rfl⟩
  obtain⟨R,hR⟩:∃R,R=L.drop (l+n+m):=⟨_,rfl⟩
  have lenT:T.length=l:=by rw [hT];simp;lia
  have lenP:P.length=k:=by rw [hP];simp;lia
  have lenS:S.length=m-j:=by rw [hS];simp;lia
  have c1:L=T++P++a.toList++b.toList++S++R:=by
   have d1:=cut L l (l+k) (by lia) (by lia);have d2:L.drop (l+k)=a.toList++L.drop (l+n):=by
    have:=nz (l+n-(l+k)) (L.drop (l+k));rw [g47,show l+k+(l+n-(l+k))=l+n by lia, <- la] at this;exact this.symm
   have d3:L.drop (l+n)=b.toList++L.drop (l+n+j):=by
    have:=nz (l+n+j-(l+n)) (L.drop (l+n));rw [g47,show l+n+(l+n+j-(l+n))=l+n+j by lia, <- lb] at this;exact this.symm
   have d4:L.drop (l+n+j)=S++R:=by
    have:=nz (m-j) (L.drop (l+n+j));rw [g47,show l+n+j+(m-j)=l+n+m by lia, <- hS, <- hR] at this;exact this.symm
   rw [d2,d3,d4,show l+k-l=k by lia, <- hT, <- hP] at d1;rw [d1];simp only [mm]
  have c2:Z.toList=T++P++z.toList++S++R:=by
   have:=qdv (o:=l+k) z.toList 0 (arrOf st2) (T++P) (a.toList++b.toList) (S++R) (by rw [r2, <- hL,c1];simp only [mm]) (by simp;lia) (by simp;lia);rw [<- hZ] at this;rw [this];simp only [mm]
  have perm:Z.Perm (arrOf st):=by
   refine g1g.mpr ?_;rw [c2, <- hL,c1];have:=rm.1;have q1:(T++P++z.toList++S++R).Perm (T++P++(a.toList++b.toList)++S++R):=((uw _ this).append_right _).append_right _;rw [<- mm (T++P)] at q1;exact q1
  have zs:Z.size=(arrOf st).size:=perm.size_eq;have kout:∀x,(x<l\/l+n+m<=x)->Kz Z x=Kz (arrOf st) x:=by
   intro x hx;refine q0h ?_;rw [<- u9, <- u9,c2, <- hL,c1];rcases hx with hx|hx
   ·simp only [mm]
    rw [tq (by lia),tq (by lia)]
   ·rw [ud (by simp;lia),ud (by simp;lia)]
    congr 1
    simp;lia
  have sP:∀q∈P,∃x,l<=x/\x<l+k/\q.1=Kz (arrOf st) x:=by
   intro q hq;rw [hP] at hq;obtain⟨y,hy,rfl⟩:=tw.mp hq;simp only [pk,uo] at hy;refine⟨l+y,by lia,by lia,?_⟩;rw [jw (by lia)];simp [hL]
  have sS:∀q∈S,∃x,l+n+j<=x/\x<l+n+m/\q.1=Kz (arrOf st) x:=by
   intro q hq;rw [hS] at hq;obtain⟨y,hy,rfl⟩:=tw.mp hq;simp only [pk,uo] at hy;refine⟨l+n+j+y,by lia,by lia,?_⟩;rw [jw (by lia)];simp [hL]
  have asc:Asc lt Z l (l+n+m):=by
   refine(q2s C (T:=T) (X:=P++z.toList++S) (R:=R) (by rw [c2];simp only [mm]) lenT.symm (by simp;lia)).mpr ?_;have pP:P.Pairwise (le lt):=by
    refine(q2s C (xs:=arrOf st) (lo:=l) (hi:=l+k) (T:=T) (R:=a.toList++b.toList++S++R) (by rw [<- hL,c1];simp only [mm]) lenT.symm (by lia)).mp ?_;exact fun x y x1 x2 x3=>a1 x y x1 x2 (by lia)
   have pS:S.Pairwise (le lt):=by
    refine(q2s C (xs:=arrOf st) (lo:=l+n+j) (hi:=l+n+m) (T:=T++P++a.toList++b.toList) (R:=R) (by rw [<- hL,c1]) (by simp;lia) (by lia)).mp ?_;exact fun x y x1 x2 x3=>a2 x y (by lia) x2 x3
   refine nv.mpr ⟨nv.mpr ⟨pP,rm.2,fun q hq r hr=>?_⟩,pS,fun q hq r hr=>?_⟩
   ·obtain⟨x,x1,x2,ex⟩:=sP q hq
    unfold le;rcases nt.mp (rm.1.mem_iff.mp hr) with hr|hr
    ·obtain⟨y,y1,y2,ey⟩:=memA r hr
     rw [ex,ey];exact a1 x y x1 (by lia) y2
    ·obtain⟨y,y1,y2,ey⟩:=memB r hr
     rw [ex,ey];exact C.tra _ _ _ (g1' x x1 x2) (a2 (l+n) y (by lia) y1 (by lia))
   ·obtain⟨y,y1,y2,ey⟩:=sS r hr
    unfold le;have fromA:∀x,l<=x->x<l+n->lt (Kz (arrOf st) y) (Kz (arrOf st) x)=false:=fun x x1 x2=>C.tra _ _ _ (a1 x (l+n-1) x1 (by lia) (by lia)) (j2' y y1 y2);rcases nt.mp hq with hq|hq
    ·obtain⟨x,x1,x2,ex⟩:=sP q hq
     rw [ex,ey];exact fromA x x1 (by lia)
    ·rcases nt.mp (rm.1.mem_iff.mp hq) with hq|hq
     ·obtain⟨x,x1,x2,ex⟩:=memA q hq
      rw [ex,ey];exact fromA x (by lia) x2
     ·obtain⟨x,x1,x2,ex⟩:=memB q hq
      rw [ex,ey];exact a2 x y x1 (by lia) y2
  exact ml (h _ ⟨(eg.1.trans k1).trans hk.symm,(eg.2.2.2.trans f1).trans hf.symm,eg.2.2.1.trans p1,perm,kout,asc⟩)
 by_cases hc:n-k<=j
 ·rw [mh hc]
  exact gw (qq4 C H k1 fun z st2 eg rm=>fin z st2 eg rm)
 ·rw [mi hc]
  exact gw (qqa C H k1 fun z st2 eg rm=>fin z st2 eg rm)
end
abbrev Pd:=Nat×Nat×Nat
def Rn(lt:Value->Value->Bool)(xs:Array Keyed): Nat->List Pd->Nat->Prop
 | b,[],e=>b=e
 | b,q :: r,e=>q.1=b/\1<=q.2.1/\Asc lt xs b (b+q.2.1)/\Rn lt xs (b+q.2.1) r e
section
variable{lt:Value->Value->Bool}
theorem Rn.len{xs:Array Keyed}: ∀ {l:List Pd} {b e:Nat},Rn lt xs b l e->b+l.length<=e
 | [],b,e,h=>by have:b=e:=h;simp;lia
 | q :: r,b,e,h=>by have:=Rn.len h.2.2.2;have:=h.2.1;simp;lia
theorem Asc.same{xs ys:Array Keyed}{lo hi:Nat}(h:Asc lt xs lo hi)(hs:∀k,lo<=k->k<hi->Kz ys k=Kz xs k): Asc lt ys lo hi:=by
 intro i j i1 i2 i3;rw [hs i i1 (by lia),hs j (by lia) i3];exact h i j i1 i2 i3
theorem Rn.same{xs ys:Array Keyed}: ∀ {l:List Pd} {b e:Nat},Rn lt xs b l e->(∀k,b<=k->k<e->Kz ys k=Kz xs k)->Rn lt ys b l e
 | [],b,e,h,_=>h
 | q :: r,b,e,h,hs=>by
  have:=h.2.2.2.len;exact⟨h.1,h.2.1,h.2.2.1.same fun k k1 k2=>hs k k1 (by lia),h.2.2.2.same fun k k1 k2=>hs k (by lia) k2⟩
theorem Rn.push{xs:Array Keyed}: ∀ {l:List Pd} {b e n p:Nat},Rn lt xs b l e->1<=n->Asc lt xs e (e+n)->Rn lt xs b (l++[(e,n,p)]) (e+n)
 | [],b,e,n,p,h,hn,as=>by have:b=e:=h;subst this;exact⟨rfl,hn,as,rfl⟩
 | q :: r,b,e,n,p,h,hn,as=>⟨h.1,h.2.1,h.2.2.1,h.2.2.2.push hn as⟩
theorem Rn.modif{xs:Array Keyed}(f:Pd->Pd)(hf:∀q,(f q).1=q.1/\(f q).2.1=q.2.1): ∀ {l:List Pd} {i b e:Nat},Rn lt xs b l e->Rn lt xs b (l.modify i f) e
 | [],i,b,e,h=>by simpa using h
 | q :: r,0,b,e,h=>by
  rw [List.modify_zero_cons];unfold Rn at h ⊢;rw [(hf q).1,(hf q).2];exact h
 | q :: r,i+1,b,e,h=>by
  rw [List.modify_succ_cons];exact⟨h.1,h.2.1,h.2.2.1,h.2.2.2.modif f hf⟩
theorem Rn.two{xs:Array Keyed}: ∀ {l:List Pd} {i b e:Nat} {l0 n p r m p':Nat},Rn lt xs b l e->l[i]? = some (l0,n,p)->l[i+1]? = some (r,m,p') ->
  r=l0+n/\1<=n/\1<=m/\b<=l0/\l0+n+m<=e/\Asc lt xs l0 (l0+n)/\Asc lt xs (l0+n) (l0+n+m) /\
  ∀ys:Array Keyed,(∀k,(k<l0\/l0+n+m<=k)->Kz ys k=Kz xs k)->Asc lt ys l0 (l0+n+m)->Rn lt ys b ((l.set i (l0,n+m,p)).eraseIdx (i+1)) e
 | [],i,b,e,l0,n,p,r,m,p',h,e1,e2=>by simp at e1
 | [q],0,b,e,l0,n,p,r,m,p',h,e1,e2=>by simp at e2
 | q :: q2 :: r',0,b,e,l0,n,p,r,m,p',h,e1,e2=>by
  simp at e1 e2;subst e1;subst e2;obtain⟨h1,h2,h3,h4,h5,h6,h7⟩:=h;dsimp only at h1 h2 h3 h4 h5 h6 h7;subst h1;have hl:=h7.len;refine⟨h4,h2,h5,gv _,by lia,h3,h6,fun ys hs as=>?_⟩;rw [List.set_cons_zero,g37,List.eraseIdx_cons_zero];refine⟨rfl,by show 1<=n+m;lia,by show Asc lt ys l0 (l0+(n+m));rw [<- Nat.add_assoc];exact as,?_⟩;show Rn lt ys (l0+(n+m)) r' e;rw [<- Nat.add_assoc];exact h7.same fun k k1 k2=>hs k (.inr k1)
 | q :: l,i+1,b,e,l0,n,p,r,m,p',h,e1,e2=>by
  rw [g38] at e1 e2;obtain⟨h1,h2,h3,h4⟩:=h;obtain⟨a1,a2,a3,a4,a5,a6,a7,a8⟩:=Rn.two h4 e1 e2;refine⟨a1,a2,a3,by lia,a5,a6,a7,fun ys hs as=>?_⟩;rw [List.set_cons_succ,g37];exact⟨h1,h2,h3.same fun k k1 k2=>hs k (.inl (by lia)),a8 ys hs as⟩
end
abbrev OU:=Option Unit×Unit
abbrev ON:=Option Unit×Nat
noncomputable def srM(sz pw:Nat): StateT SortSt Sem OU:=
 forIn [0:sz] ((none,()):OU) fun _ _=>do
  let z <- get
  match if(pendingOf z).size>1 then(pendingOf z)[(pendingOf z).size-2]? else none with
  | some (_,_,ol)=>
   if ol<=pw then pure (.done (none,())) else do
    let y <- mergeAt' ((pendingOf z).size-2)
    if(!y)=true then pure (.done (some (),())) else pure (.yield (none,()))
  | _=>pure (.done (none,()))
noncomputable def srP(lo n:Nat): StateT SortSt Sem (ForInStep ON):=do
 modify fun z=>setPending z ((pendingOf z).push (lo,n,0))
 pure (.yield (none,lo+n))
noncomputable def srK(sz lo n:Nat): StateT SortSt Sem (ForInStep ON):=do
 let z <- get
 match(pendingOf z).back? with
 | some (s1,n1,_)=>do
  let t <- srM sz (power' sz (2*s1+n1) (2*s1+n1+n1+n) sz)
  match t.1 with
  | some r=>pure (.done (some r,lo))
  | none=>do
   modify fun z=>setPending z ((pendingOf z).modify ((pendingOf z).size-1) fun x=>(x.1,x.2.1,power' sz (2*s1+n1) (2*s1+n1+n1+n) sz))
   srP lo n
 | _=>srP lo n
noncomputable def srL(sz:Nat)(t:ON): StateT SortSt Sem (ForInStep ON):=
 if t.2>=sz then pure (.done (none,t.2))
 else do
  match <- countRun' t.2 (sz-t.2) with
  | some fo=>
   if fo<minRun' sz sz 0 then do
    rule "list.sort.binary-insertion"
    let y <- binarySort' t.2 (min (sz-t.2) (minRun' sz sz 0)) fo
    if(!y)=true then pure (.done (some (),t.2)) else srK sz t.2 (min (sz-t.2) (minRun' sz sz 0))
   else srK sz t.2 fo
  | _=>pure (.done (some (),t.2))
def srI(z:SortSt): Nat:=if Option.any (fun x=>decide (x<(pendingOf z)[(pendingOf z).size-2+1]?.elim 0 fun x=>x.2.1)) (if(pendingOf z).size-2>0 then Option.map (fun x=>x.2.1) (pendingOf z)[(pendingOf z).size-2-1]? else none)=true then(pendingOf z).size-2-1 else(pendingOf z).size-2
noncomputable def srE(sz:Nat): StateT SortSt Sem OU:=
 forIn [0:sz] ((none,()):OU) fun _ _=>do
  let z <- get
  if(pendingOf z).size<=1 then pure (.done (none,())) else do
   let y <- mergeAt' (srI z)
   if(!y)=true then pure (.done (some (),())) else pure (.yield (none,()))
theorem qqg:sortRuns'=(do
  let z <- get
  let t <- forIn [0:(arrOf z).size] ((none,0):ON) fun _=>srL (arrOf z).size
  match t.1 with
  | some r=>pure r
  | none=>do
   let u <- srE (arrOf z).size
   match u.1 with
   | some r=>pure r
   | none=>pure ()):=by
 rw [sortRuns'_eq];dsimp only;refine bc fun z=>bc2 (fc fun _ t=>?_) fun t=>?_
 ·unfold srL
  refine ux rfl (fun _=>rfl) fun _=>bc fun x=>?_;have kk:∀n (m:StateT SortSt Sem (ForInStep ON)),m=srK (arrOf z).size t.2 n->m=srK (arrOf z).size t.2 n:=fun _ _ h=>h;cases x with
  | none=>rfl
  | some fo=>
   dsimp only;refine ux rfl (fun _=>bc fun _=>bc fun y=>ux rfl (fun _=>rfl) fun _=>?_) fun _=>?_
   all_goals
    unfold srK;refine bc fun z2=>?_;cases(pendingOf z2).back? with
    | none=>rfl
    | some q=>
     obtain⟨s1,n1,p1⟩:=q;dsimp only;refine bc2 rfl fun t2=>?_;obtain⟨r2,u2⟩:=t2;cases r2 <;> rfl
 ·obtain⟨r,n⟩:=t
  cases r with
  | some r=>rfl
  | none=>
   dsimp only;refine bc2 rfl fun u=>?_;obtain⟨r2,u2⟩:=u;cases r2 <;> rfl
section
variable{prog:Program}{w:World}{A:Around}{E:Value->Shared->Prop}{s:Shared}{κ : SortKind}{G:Value->Prop}{lt:Value->Value->Bool}{a₀:Array Keyed}
structure SI(κ : SortKind)(lt:Value->Value->Bool)(a₀:Array Keyed)(lo:Nat)(st:SortSt): Prop where
 kind:kindOf st = κ
 fail:failedOf st=none
 perm:(arrOf st).Perm a₀
 runs:Rn lt (arrOf st) 0 (pendingOf st).toList lo
theorem SI.gs{lo:Nat}{st:SortSt}(h:SI κ lt a₀ lo st)(g:∀p∈a₀.toList,G p.1): Gs G st:=fun p hp=>g p ((g1g.mp h.perm).mem_iff.mp hp)
theorem SI.size{lo:Nat}{st:SortSt}(h:SI κ lt a₀ lo st): (arrOf st).size=a₀.size:=h.perm.size_eq
theorem SI.merge(C:Cmp prog w A s κ G lt)(g:∀p∈a₀.toList,G p.1){lo i:Nat}{st:SortSt}{Q:Bool->SortSt->Prop}(h:SI κ lt a₀ lo st)(hlo:lo<=a₀.size)(hi:i+1<(pendingOf st).size)
  (hq:∀st',SI κ lt a₀ lo st'->(pendingOf st').size+1=(pendingOf st).size->(∀k,lo<=k->Kz (arrOf st') k=Kz (arrOf st) k)->Q true st'):wpS (model prog w) A E s (mergeAt' i) Q st:=by
 obtain⟨l,n,p,e1⟩:∃l n p,(pendingOf st)[i]=(l,n,p):=⟨_,_,_,rfl⟩
 obtain⟨r,m,p',e2⟩:∃r m p',(pendingOf st)[i+1]=(r,m,p'):=⟨_,_,_,rfl⟩
 have f1:(pendingOf st)[i]? = some (l,n,p):=by rw [g1q _ i (by lia),e1]
 have f2:(pendingOf st)[i+1]? = some (r,m,p'):=by rw [g1q _ (i+1) hi,e2]
 obtain⟨a1,a2,a3,a4,a5,a6,a7,a8⟩:=Rn.two h.runs (by rw [u9];exact f1) (by rw [u9];exact f2);subst a1;have hz:=h.size;refine qqf C h.kind h.fail (h.gs g) f1 f2 a2 a3 (by lia) a6 a7 fun st' af=>?_;have ep:(pendingOf st').toList=((pendingOf st).toList.set i (l,n+m,p)).eraseIdx (i+1):=by
  rw [af.pend,Array.toList_eraseIdxIfInBounds,g4n]
 refine hq st' ⟨af.kind.trans h.kind,af.fail.trans h.fail,af.perm.trans h.perm,?_⟩ ?_ (fun k hk=>af.out k (.inr (by lia)))
 ·rw [ep]
  exact a8 _ af.out af.asc
 ·rw [<- ng,ep,List.length_eraseIdx,mh (by simpa using hi),g0t,ng]
  lia
theorem qqh(C:Cmp prog w A s κ G lt)(g:∀p∈a₀.toList,G p.1){lo sz pw:Nat}{st:SortSt}{Q:OU->SortSt->Prop}(h:SI κ lt a₀ lo st)(hlo:lo<=a₀.size)
  (hq:∀st',SI κ lt a₀ lo st'->(∀k,lo<=k->Kz (arrOf st') k=Kz (arrOf st) k)->Q (none,()) st'):wpS (model prog w) A E s (srM sz pw) Q st:=by
 unfold srM;refine ur (I:=fun _ c st'=>c=(none,())/\SI κ lt a₀ lo st'/\∀k,lo<=k->Kz (arrOf st') k=Kz (arrOf st) k) ?_ ?_ ⟨rfl,h,fun _ _=>rfl⟩
 ·rintro x c st' _ _ ⟨rfl,hs,hf⟩
  refine gw (g34 ?_)
  split
  ·rename_i q1 q2 ol eq
   by_cases hsz:(pendingOf st').size>1
   ·split
    ·exact ml (hq st' hs hf)
    ·refine gw (hs.merge C g hlo (by lia) fun st2 hs2 _ hf2=>?_)
     simp only [g0o,gr,p8];exact ml ⟨rfl,hs2,fun k hk=>(hf2 k hk).trans (hf k hk)⟩
   ·rw [mi hsz] at eq;cases eq
  ·exact ml (hq st' hs hf)
 ·rintro c st' ⟨rfl,hs,hf⟩
  exact hq st' hs hf
theorem qhj{lo n:Nat}{st:SortSt}{Q:ForInStep ON->SortSt->Prop}(h:SI κ lt a₀ lo st)(hn:1<=n)(as:Asc lt (arrOf st) lo (lo+n))
  (hq:∀st',SI κ lt a₀ (lo+n) st'->Q (.yield (none,lo+n)) st'):wpS (model prog w) A E s (srP lo n) Q st:=by
 unfold srP;refine gw (g3t (ml (hq _ ⟨h.kind,h.fail,h.perm,?_⟩)));show Rn lt (arrOf st) 0 ((pendingOf st).push (lo,n,0)).toList (lo+n);rw [Array.toList_push];exact h.runs.push hn as
theorem qhk(C:Cmp prog w A s κ G lt)(g:∀p∈a₀.toList,G p.1){lo n sz:Nat}{st:SortSt}{Q:ForInStep ON->SortSt->Prop}(h:SI κ lt a₀ lo st)(hlo:lo+n<=a₀.size)(hn:1<=n)(as:Asc lt (arrOf st) lo (lo+n))
  (hq:∀st',SI κ lt a₀ (lo+n) st'->Q (.yield (none,lo+n)) st'):wpS (model prog w) A E s (srK sz lo n) Q st:=by
 unfold srK;refine gw (g34 ?_)
 split
 ·refine gw (qqh C g h (by lia) fun st' hs hf=>?_)
  dsimp only;refine gw (g3t ?_);refine qhj (a₀:=a₀) (κ := κ) ⟨hs.kind,hs.fail,hs.perm,?_⟩ hn (as.same fun k k1 k2=>hf k k1) hq;show Rn lt (arrOf st') 0 ((pendingOf st').modify ((pendingOf st').size-1) _).toList lo;rw [Array.toList_modify];refine Rn.modif _ ?_ hs.runs;exact fun q=>⟨rfl,rfl⟩
 ·exact qhj h hn as hq
theorem SI.tr{lo hi:Nat}{st st':SortSt}(h:SI κ lt a₀ lo st)(t:Tr lo hi st st'): SI κ lt a₀ lo st':=
 ⟨t.kind.trans h.kind,t.fail.trans h.fail,t.perm.trans h.perm,by rw [t.pend];exact h.runs.same fun k k1 k2=>q0h (t.out k (.inl k2))⟩
theorem qn9(C:Cmp prog w A s κ G lt)(g:∀p∈a₀.toList,G p.1){st:SortSt}{Q:Unit->SortSt->Prop}(hk:kindOf st = κ)(hf:failedOf st=none)(ha:arrOf st=a₀)(hp:pendingOf st = #[])
  (hq:∀st',failedOf st'=none->(arrOf st').Perm a₀->(arrOf st').toList.Pairwise (le lt)->Q () st'):wpS (model prog w) A E s sortRuns' Q st:=by
 have h0:SI κ lt a₀ 0 st:=⟨hk,hf,by rw [ha],by rw [hp];rfl⟩
 rw [qqg];refine gw (g34 ?_);rw [ha];refine gw (tx (ur (I:=fun x c st'=>∃lo,c=(none,lo)/\min x a₀.size<=lo/\lo<=a₀.size/\SI κ lt a₀ lo st')
  (Q:=fun c st'=>∃lo,c=(none,lo)/\lo=a₀.size/\SI κ lt a₀ lo st') ?_ ?_ ⟨0,rfl,by lia,by lia,h0⟩) ?_)
 ·rintro x c st' _ hx ⟨lo,rfl,h1,h2,hs⟩
  unfold srL;dsimp only
  split
  ·exact ml ⟨lo,rfl,by lia,hs⟩
  ·have hz:=hs.size
   refine gw (qqc C hs.kind (hs.gs g) (by lia) (by lia) fun m st2 tr m1 m2 as=>?_);have hs2:=hs.tr tr;have hz2:=hs2.size;dsimp only
   split
   ·refine gw (wpS_lift (g01 ⟨rfl,?_⟩))
    refine gw (qqd C hs2.kind (hs2.gs g) (by lia) (by lia) as fun st3 tr3 as3=>?_);simp only [g0o,gr,p8];exact qhk C g (hs2.tr tr3) (by lia) (by lia) as3 fun st4 hs4=>⟨_,rfl,by lia,by lia,hs4⟩
   ·exact qhk C g hs2 (by lia) m1 as fun st4 hs4=>⟨_,rfl,by lia,by lia,hs4⟩
 ·rintro c st' ⟨lo,rfl,h1,h2,hs⟩
  exact⟨lo,rfl,by lia,hs⟩
 ·rintro c st' ⟨lo,rfl,rfl,hs⟩
  dsimp only;have fin:∀st2,SI κ lt a₀ a₀.size st2->(pendingOf st2).size<=1->Q () st2:=by
   intro st2 hs2 hp2;refine hq st2 hs2.fail hs2.perm ?_;have r:=hs2.runs;have hz:=hs2.size;have as:Asc lt (arrOf st2) 0 a₀.size:=by
    match e:(pendingOf st2).toList,r with
    | [],r=>
     have:0=a₀.size:=r;intro i j i1 i2 i3;lia
    | [q],r=>
     obtain⟨r1,r2,r3,r4⟩:=r;have:0+q.2.1=a₀.size:=r4;rw [<- this];exact r3
    | q :: q2 :: l,r=>
     have:=uz List.length e;simp at this;lia
   exact(q2s C (T:=[]) (X:=(arrOf st2).toList) (R:=[]) (by simp) rfl (by simp;lia)).mp as
  unfold srE;refine gw (tx (ur (I:=fun x c st2=>c=(none,())/\SI κ lt a₀ a₀.size st2/\((pendingOf st2).size<=1\/(pendingOf st2).size+x<=a₀.size))
   (Q:=fun c st2=>c=(none,())/\SI κ lt a₀ a₀.size st2/\(pendingOf st2).size<=1) ?_ ?_ ⟨rfl,hs,.inr (by have:=hs.runs.len;simp at this;lia)⟩) ?_)
  ·rintro x c st2 _ hx ⟨rfl,hs2,hp2⟩
   refine gw (g34 ?_)
   split
   ·rename_i h1
    exact ml ⟨rfl,hs2,h1⟩
   ·rename_i h1
    have hI:srI st2+1<(pendingOf st2).size:=by
     unfold srI;generalize (if(pendingOf st2).size-2>0 then Option.map (fun x:Pd=>x.2.1) (pendingOf st2)[(pendingOf st2).size-2-1]? else none)=zz
     split <;> lia
    refine gw (hs2.merge C g (gv _) hI fun st3 hs3 hp3 _=>?_);simp only [g0o,gr,p8];exact ml ⟨rfl,hs3,.inr (by lia)⟩
  ·rintro c st2 ⟨rfl,hs2,hp2⟩
   exact⟨rfl,hs2,by lia⟩
  ·rintro c st2 ⟨rfl,hs2,hp2⟩
   exact ml (fin st2 hs2 hp2)
end
end Srt
namespace Srt
open PySem PySem.SeqAt PySem.AutoSeq1 PySem.MeetsSeq PySem.MeetsSeq2 PySem.MeetsSeq3 PySem.SeqRoads2
def LtAt(A:Around)(s:Shared)(y x:Value)(b:Bool): Prop:=∀(prog:Program) (w:World) (E:Value->Shared->Prop) (Q:Value->Shared->Prop),Q (.bool b) s->wpAny (model prog w) A (richCompare .Lt y x) Q E s
inductive LexAt(A:Around)(s:Shared)(f:Bool): List (Value×Value)->Bool->Prop
 | nil:LexAt A s f [] f
 | eq {x y r b}:EqAt A s x y true->LexAt A s f r b->LexAt A s f ((x,y) :: r) b
 | ne {x y r b}:EqAt A s x y false->LtAt A s x y b->LexAt A s f ((x,y) :: r) b
theorem qtg(l b:Addr)(is js:Array Value)(n n2:Nat)(dd dd2:Option Addr)(sl sl2:Array (Option Value)):
  Meets (Builtin.«tuple.__lt__» ⟨[.ref l,.ref b],[]⟩)
   (fun A R s=>s.heap.get? l=some {cls:=.type "tuple",dict:=dd,data:=.seq is n,slots:=sl}/\s.heap.get? b=some {cls:=.type "tuple",dict:=dd2,data:=.seq js n2,slots:=sl2} /\
    ∃c,LexAt A.in1 s (decide (is.size<js.size)) (is.toList.zip js.toList) c/\R (.ok (.ret (.bool c))) s):=
 .of_wp fun prog w A R s h=>by
  obtain⟨hp,g,d,tk,os⟩:=s;obtain⟨hl,hb,c,hc,h⟩:=h;have f2:=g1p
  wp_walk using g2l hl,g2l hb,wpAny_forIn_list _ (fun rest b s'=>b.1=none/\s'=⟨hp,g,d,tk,os⟩/\LexAt A.in1 ⟨hp,g,d,tk,os⟩ (decide (is.size<js.size)) rest c) _
  case turn=>
   rintro⟨y,x⟩ rest b s' ⟨hb',rfl,hx⟩
   cases hx with
   | eq e r=>
    refine g0 (e prog w _ _ ?_)
    wp_walk
    exact⟨rfl,rfl,r⟩
   | ne e k=>
    refine g0 (e prog w _ _ ?_);have k':∀ {E:Value->Shared->Prop} {Q:Value->Shared->Prop},Q (.bool c) ⟨hp,g,d,tk,os⟩->wpAny (model prog w) A.in1 (richCompare .Lt y x) Q E ⟨hp,g,d,tk,os⟩:=fun h=>k prog w _ _ h
    wp_walk using k'
    exact⟨_,rfl,h⟩
  case fin=>
   rintro⟨b1,b2⟩ s' ⟨hb',rfl,hx⟩
   simp only at hb';subst hb';cases hx
   wp_walk
   exact⟨_,rfl,by simpa [Builtin.Tuple.tupleCompareSizes] using h⟩
  case h=>
   exact⟨rfl,rfl,hc⟩
theorem LtAt.tuples{A:Around}{s:Shared}{l b:Addr}{is js:Array Value}{c:Bool}(hl:s.heap.IsTuple l is)(hb:s.heap.IsTuple b js)(hu:A.units<cLine)
  (he:LexAt A.in1 s (decide (is.size<js.size)) (is.toList.zip js.toList) c):LtAt A s (.ref l) (.ref b) c:=fun prog w E Q h=>by
 obtain⟨⟨cls,dd,data,sl⟩,ho,hc,n,hd⟩:=id hl;obtain⟨⟨cls2,dd2,data2,sl2⟩,ho2,hc2,n2,hd2⟩:=id hb;simp only at hc hd hc2 hd2;subst hc hd hc2 hd2;exact richCompare_meets_room (op:=.Lt) ⟨_,ho,rfl⟩ ⟨_,ho2,rfl⟩ F.slot_tuple_lt F.entry_tuple_lt (F.args_tuple_lt_2 _ _) (qtg l b is js n n2 dd dd2 sl sl2)
  ⟨ho,ho2,c,he,show Value.bool c≠Value.notImplemented/\Q (.bool c) s from⟨(fun x=>nomatch x),h⟩⟩ hu
end Srt
namespace Srt
open PySem PyProof.Rows
def q0i(h:Heap)(a:Addr)(vs:List Value): Heap:=((h.update a (Obj.mapSeq fun _=> #[])).push (seqObj "tuple" vs.toArray 0)).push (seqObj "list" #[] 0)
section
variable{prog:Program}{w:World}{A:Around}{E:Value->Shared->Prop}{s:Shared}{κ : SortKind}{G:Value->Prop}{lt:Value->Value->Bool}
def srtH(h:Heap)(vs:List Value): Heap:=((h.push (seqObj "list" #[] 0)).update h.objs.size (Obj.mapSeq (· ++ vs.toArray))).push (seqObj "list" vs.toArray 0)
end
section
variable{prog:Program}{w:World}{A:Around}{E:Value->Shared->Prop}{s:Shared}
theorem qdw{kS:Addr}{f:Value}{vs:List Value}{J:List Value->Shared->Prop}{body:Value->PUnit->Sem (ForInStep PUnit)}(hz:vs.length<=sizeLine)
  (hb:∀x ks (s:Shared) (C:Value->Shared->Prop),ks.length<vs.length->wpAny (model prog w) A (call f [x]) (fun k s'=>(∃e,s'.heap.get? kS=some (seqObj "list" (List.toArray ks) e))/\C k {s' with heap:=s'.heap.update kS (Obj.mapSeq (·.push k))}) (fun _ _=>False) s ->
   wpAny (model prog w) A (body x ⟨⟩) (fun r s'=>r=.yield ⟨⟩/\∃k,C k s') E s)
  (hstep:∀l v r,vs=l++v :: r->∀ks s',ks.length=l.length->J ks s'->wpAny (model prog w) A (call f [v]) (fun k s''=>(∃e,s''.heap.get? kS=some (seqObj "list" (List.toArray ks) e))/\J (ks++[k]) {s'' with heap:=s''.heap.update kS (Obj.mapSeq (·.push k))}) (fun _ _=>False) s') :
  ∀(r l ks:List Value) (s:Shared),vs=l++r->ks.length=l.length->J ks s->wpAny (model prog w) A (forIn r PUnit.unit body) (fun _ s'=>∃ks,ks.length=vs.length/\J ks s') E s
 | [],l,ks,s,h1,h2,h3=>by
  rw [g32];exact g9 ⟨ks,by rw [h2,h1];simp,h3⟩
 | x :: r,l,ks,s,h1,h2,h3=>by
  rw [g1u];refine g0 (u0 (hb x ks s (fun k s'=>J (ks++[k]) s') (by rw [h1,h2];simp) (hstep l x r h1 ks s h2 h3)) (fun q s' hq=>?_) fun _ _ x=>x);obtain⟨rfl,k,hk⟩:=hq;show wpAny (model prog w) A (forIn r PUnit.unit body) _ E s';exact qdw hz hb hstep r (l++[x]) (ks++[k]) s' (by rw [h1];simp) (by simp [h2]) hk
theorem qna{a:Addr}{f:Value}{vs:List Value}{n:Nat}{P:PySem.Fin->Shared->Prop}(ho:s.heap.get? a=some (seqObj "list" vs.toArray n))(hz:vs.length<=sizeLine)(J:List Value->Shared->Prop)
  (h0:J [] {s with heap:=q0i s.heap a vs})
  (hstep:∀l v r,vs=l++v :: r->∀ks s',ks.length=l.length->J ks s'->wpAny (model prog w) A (call f [v]) (fun k s''=>(∃e,s''.heap.get? (s.heap.objs.size+1)=some (seqObj "list" (List.toArray ks) e))/\J (ks++[k]) {s'' with heap:=s''.heap.update (s.heap.objs.size+1) (Obj.mapSeq (·.push k))}) (fun _ _=>False) s')
  (hfin:∀ks s',ks.length=vs.length->J ks s'->(∃e,s'.heap.get? (s.heap.objs.size+1)=some (seqObj "list" (List.toArray ks) e))/\s'.heap.get? a=(q0i s.heap a vs).get? a /\
   ∃ κ G lt,(2<=vs.length->∀(E:Value->Shared->Prop) (Q:SortKind->Shared->Prop),Q κ s'->wpAny (model prog w) A (keyKind' ks.toArray) Q E s')/\(2<=vs.length->Cmp prog w A s' κ G lt)/\(∀k∈ks,G k) /\
    ∀T:List (Value×Value),T.Perm (ks.zip vs)->T.Pairwise (le lt)->P (.done (.ret .none)) {s' with heap:=(s'.heap.update (s.heap.objs.size+1) (Obj.mapSeq fun _=> #[])).update a (Obj.mapSeq fun _=>(T.map (·.2)).toArray)}) :
  wpAny (model prog w) A (ksk_tree a f false) P E s:=by
 have ha:a<s.heap.objs.size:=gz ho;obtain⟨e1,ho1⟩:∃e1,(s.heap.update a (Obj.mapSeq fun _=>(#[]:Array Value))).get? a=some (seqObj "list" #[] e1):=⟨_,g1v ho fun _=> #[]⟩
 have hkS:((s.heap.update a (Obj.mapSeq fun _=>(#[]:Array Value))).push (seqObj "tuple" vs.toArray 0)).objs.size=s.heap.objs.size+1:=by rw [g0v,g04]
 have ho6:(q0i s.heap a vs).get? a=some (seqObj "list" #[] e1):=by
  unfold q0i;rw [g0k _ _ _ (by rw [g0v,g04];exact m9 (g1j ha)),g0k _ _ _ (by rw [g04];exact m9 ha)];exact ho1
 have hsz:vs.toArray.size=vs.length:=by simp
 unfold ksk_tree;refine g0 (listItems_at ho rfl ?_);refine g0 (listUpdate_at ho rfl ?_ (by simpa using hz) (uj _));refine g0 (seqEpoch_at ho1 rfl ?_);refine g0 (wpAny_newTuple ?_ (by simpa using hz));refine g0 (wpAny_newList ?_ (uj _));refine t7 ?_;rw [hkS];show wpAny (model prog w) A (ksk_rest a f false vs.toArray e1 (.ref (s.heap.objs.size+1))) P E {s with heap:=q0i s.heap a vs};unfold ksk_rest;refine g0 (g01 ?_);rw [List.forIn_toArray];refine g0 (u0 (qdw (vs:=vs) (J:=J) hz (fun x ks s' C hl hx=>?_) hstep vs [] [] _ rfl rfl h0) (fun _ s' hd=>?_) fun _ _ x=>x)
 ·refine g0 (g0n (u0 hx (fun k s'' hk=>?_) fun _ _ hF=>hF.elim))
  obtain⟨⟨e,he⟩,hc⟩:=hk;dsimp only;refine g0 (listUpdate_at he rfl ?_ (by rw [gm];lia) (md (g65 (Array.size_push ..)) (by rw [gm];lia)));exact g9 ⟨rfl,k,hc⟩
 ·obtain⟨ks,hl,hJ⟩:=hd
  obtain⟨⟨e,he⟩,hA, κ,G,lt,hkind,C,g,fin⟩:=hfin ks s' hl hJ;rw [ho6] at hA;refine g0 (listItems_at he rfl ?_);unfold ksk_end;dsimp only;rw [mi (by simp)];have hks:a≠s.heap.objs.size+1:=m9 (g1j ha);have tail:∀st':SortSt,failedOf st'=none->(arrOf st').toList.Perm (ks.zip vs)->(arrOf st').toList.Pairwise (le lt)->wpAny (model prog w) A (ksk_tail a false e1 (.ref (s.heap.objs.size+1)) st') P E s':=by
   intro st' hf hp hs;unfold ksk_tail;dsimp only;have eo:(arrOf st').map (·.2)=((arrOf st').toList.map (·.2)).toArray:=by
    apply Array.ext';rw [Array.toList_map]
   rw [eo];have hlen:((arrOf st').toList.map (·.2)).length=vs.length:=by rw [mn,hp.length_eq,g2m,hl,g55]
   refine g0 (listUpdate_at he rfl ?_ (by rw [gm,hl];exact hz) (uj _));refine g0 (g4a ?_);have hA2:(s'.heap.update (s.heap.objs.size+1) (Obj.mapSeq fun _=> #[])).get? a=some (seqObj "list" #[] e1):=by
    rw [g05 _ _ _ _ hks];exact hA
   refine g0 (seqEpoch_at hA2 rfl ?_);refine g0 (listUpdate_at hA2 rfl ?_ (uj _) (by simp only [gr,p8];rw [gm,hlen];lia));rw [hf];simp only [bne_self_eq_false,gr,p8];exact g9 (fin _ hp hs)
  have ez:(ks.toArray.zip vs.toArray).toList=ks.zip vs:=by simp
  by_cases h2:vs.toArray.size<2
  ·rw [mh h2,mh h2]
   refine g0 (g9 ?_);rw [StateT.run_pure];refine g0 (g9 ?_);dsimp only;refine tail _ rfl ?_ ?_
   ·show(ks.toArray.zip vs.toArray).toList.Perm _
    rw [ez]
   ·show(ks.toArray.zip vs.toArray).toList.Pairwise _
    rw [ez];have:(ks.zip vs).length<2:=by rw [g2m,hl,g55];lia
    match ks.zip vs,this with
    | [],_=>exact .nil
    | [_],_=>exact g36 _ _
    | _ :: _ :: _,h=>simp at h;lia
  ·rw [mi h2,mi h2]
   have h2':2<=vs.length:=by lia
   refine g0 (hkind h2' _ _ ?_);have gp:∀p∈(ks.toArray.zip vs.toArray).toList,G p.1:=fun p hp=>by
    rw [ez] at hp;exact g _ (g2k hp).1
   refine g0 (u0 (qn9 (a₀:=ks.toArray.zip vs.toArray) (st:=SortSt.mk' κ (ks.toArray.zip vs.toArray) #[] 7 none)
    (Q:=fun _ st'=>failedOf st'=none/\(arrOf st').Perm (ks.toArray.zip vs.toArray)/\(arrOf st').toList.Pairwise (le lt)) (C h2') gp rfl rfl rfl rfl fun st' a1 a2 a3=>⟨a1,a2,a3⟩) ?_ fun _ _ e=>e)
   rintro⟨⟨⟩,st'⟩ s'' ⟨rfl,hf,hp,hs⟩
   dsimp only;refine tail st' hf ?_ hs;rw [<- ez];exact g1g.mp hp
theorem qfr{l fa:Addr}{vs:List Value}{Q:Value->Shared->Prop}(hl:s.heap.IsList l vs.toArray)(hz:vs.length<=sizeLine)(J:List Value->Shared->Prop)
  (h0:J [] {s with heap:=q0i (srtH s.heap vs) (s.heap.objs.size+1) vs})
  (hstep:∀l v r,vs=l++v :: r->∀ks s',ks.length=l.length->J ks s'->wpAny (model prog w) A.in1.in1 (call (.ref fa) [v]) (fun k s''=>(∃e,s''.heap.get? (s.heap.objs.size+3)=some (seqObj "list" (List.toArray ks) e))/\J (ks++[k]) {s'' with heap:=s''.heap.update (s.heap.objs.size+3) (Obj.mapSeq (·.push k))}) (fun _ _=>False) s')
  (hfin:∀ks s',ks.length=vs.length->J ks s'->(∃e,s'.heap.get? (s.heap.objs.size+3)=some (seqObj "list" (List.toArray ks) e))/\s'.heap.get? (s.heap.objs.size+1)=(q0i (srtH s.heap vs) (s.heap.objs.size+1) vs).get? (s.heap.objs.size+1) /\
   ∃ κ G lt,(2<=vs.length->∀(E:Value->Shared->Prop) (Q:SortKind->Shared->Prop),Q κ s'->wpAny (model prog w) A.in1.in1 (keyKind' ks.toArray) Q E s')/\(2<=vs.length->Cmp prog w A.in1.in1 s' κ G lt)/\(∀k∈ks,G k) /\
    ∀T:List (Value×Value),T.Perm (ks.zip vs)->T.Pairwise (le lt)->Q (.ref (s.heap.objs.size+1)) {s' with heap:=(s'.heap.update (s.heap.objs.size+3) (Obj.mapSeq fun _=> #[])).update (s.heap.objs.size+1) (Obj.mapSeq fun _=>(T.map (·.2)).toArray)}) :
  wpAny (model prog w) A (call (.builtin "sorted") [.ref l] [(Str.ofString "key",.ref fa)]) Q E s:=by
 refine call_function_entry_kw kind_sorted plain_sorted entry_sorted (ksk_s1 _ _) ?_;unfold Builtin.«sorted»;refine g0 (m:=checkCount "sorted" 1 1 _) (g9 ?_);refine g0 (collect_list hl ?_ hz);refine g0 (wpAny_newList ?_ (by simpa using hz));have hsz:((s.heap.push (seqObj "list" #[] 0)).update s.heap.objs.size (Obj.mapSeq (· ++ vs.toArray))).objs.size=s.heap.objs.size+1:=by
  rw [g04,g0v]
 have hsz2:(srtH s.heap vs).objs.size=s.heap.objs.size+2:=by unfold srtH;rw [g0v,hsz]
 have hoL:(srtH s.heap vs).get? (s.heap.objs.size+1)=some (seqObj "list" vs.toArray 0):=by
  unfold srtH;rw [<- hsz];exact gj _ rfl
 show wpAny _ _ _ _ _ {s with heap:=srtH s.heap vs};rw [hsz];refine g0 (t7 (wpAny_call_entry_kw slot_list_sort ⟨_,hoL,rfl⟩ entry_list_sort ?_ (ksk_l1 _ _)));show wpAny (model prog w) A.in1.in1 (Builtin.«list.sort» ⟨[.ref (s.heap.objs.size+1)],[(Str.ofString "key",.ref fa)]⟩) _ _ _;rw [ksk_t1];refine qna (s:={s with heap:=srtH s.heap vs}) hoL hz J h0 ?_ ?_
 ·show ∀l v r,vs=l++v :: r->∀ks s',ks.length=l.length->J ks s'->wpAny (model prog w) A.in1.in1 (call (.ref fa) [v]) (fun k s''=>(∃e,s''.heap.get? ((srtH s.heap vs).objs.size+1)=some (seqObj "list" (List.toArray ks) e))/\J (ks++[k]) {s'' with heap:=s''.heap.update ((srtH s.heap vs).objs.size+1) (Obj.mapSeq (·.push k))}) (fun _ _=>False) s'
  rw [hsz2];exact hstep
 ·intro ks s' h1 h2
  show(∃e,s'.heap.get? ((srtH s.heap vs).objs.size+1)=some (seqObj "list" (List.toArray ks) e))/\s'.heap.get? (s.heap.objs.size+1)=(q0i (srtH s.heap vs) (s.heap.objs.size+1) vs).get? (s.heap.objs.size+1)/\_;obtain⟨b1,b2, κ,G,lt,b3,b4,b5,b6⟩:=hfin ks s' h1 h2;rw [hsz2];exact⟨b1,b2, κ,G,lt,b3,b4,b5,fun T t1 t2=>⟨_,rfl,g9 ⟨_,rfl,b6 T t1 t2⟩⟩⟩
end
end Srt
namespace DL
open PySem PySem.Spec PyProof.Rows L2 Srt
variable[Lam]
theorem qkf:∀n,(∀d e:D,sizeOf d<n->shD d e=true->okE d e=true/\eqD d e=(!ltT d e && !ltT e d))/\(∀ds es:List D,sizeOf ds<n->shL ds es=true->vq ds es=true/\eqL ds es=(!q03 ds es && !q03 es ds)):=by
 intro n
 induction n with
 | zero=>exact⟨fun d e h=>absurd h (ph _),fun d e h=>absurd h (ph _)⟩
 | succ n ih=>
  refine⟨fun d e hn h=>?_,fun ds es hn h=>?_⟩
  ·cases d <;> cases e <;> simp only [shD] at h <;> first|(cases h;done)|skip
   ·refine⟨by simp [okE,flat,flD],?_⟩
    rw [vb,vb];simp only [eqD,eqF];rename_i i j
    by_cases e1:i=j
    ·subst e1;simp
    ·have:(i==j)=false:=by simpa using e1
     rw [this]
     by_cases e2:i<j
     ·simp [e2]
     ·have e3:j<i:=by lia
      simp [e3]
   ·rw [wj,wj]
    simp only [okE,eqD];exact ih.2 _ _ (by simp at hn;lia) h
  ·cases ds with
   | nil=>cases es <;> simp [vq,eqL,q33,kx]
   | cons d ds=>
    cases es with
    | nil=>simp [vq,eqL,q33,kx]
    | cons e es=>
     simp only [shL,m8] at h;obtain⟨a1,a2⟩:=ih.1 d e (by simp at hn;lia) h.1;obtain⟨b1,b2⟩:=ih.2 ds es (by simp at hn;lia) h.2;refine⟨by simp only [vq,a1,b1,g2d],?_⟩;rw [q0o,q0o];simp only [eqL,a2,b2];cases e1:ltT d e <;> cases e2:ltT e d <;> simp
theorem quy{d e:D}(h:shD d e=true): okE d e=true:=((qkf (sizeOf d+1)).1 d e (tu _) h).1
theorem qp3{d e:D}(h:shD d e=true): eqD d e=(!ltT d e && !ltT e d):=((qkf (sizeOf d+1)).1 d e (tu _) h).2
section
variable{X:Cx}{pins:List (Addr×Obj)}{σ : St}{F H:Hp}{s:Shared}
theorem qal{A:Around}(I:Inv X pins σ H s)(fh:Same F H)(f:Bool): ∀ {ds es:List D} {xs ys:List V} {us vs:List Value},(∀d∈ds,∀e x y u v,shD d e=true->A.units+ku d<cLine->Rep X.K F d x->Rep X.K F e y->RelV x u->RelV y v->LtAt A s u v (ltT d e)) ->
  shL ds es=true->A.units+v7 ds<cLine->RepL X.K F ds xs->RepL X.K F es ys->Vals xs us->Vals ys vs->f=decide (ds.length<es.length)->LexAt A s f (us.zip vs) (q03 ds es)
 | [],es,xs,ys,us,vs,_,_,_,k1,k2,w1,w2,hf=>by
  cases k1.nil_inv;cases w1;cases es with
  | nil=>rw [q33];simp only [List.zip_nil_left];rw [show false=f by rw [hf];simp];exact .nil
  | cons e es=>rw [kx];simp only [List.zip_nil_left];rw [show true=f by rw [hf];simp];exact .nil
 | d :: ds,[],xs,ys,us,vs,_,_,_,k1,k2,w1,w2,hf=>by
  cases k2.nil_inv;cases w2;rw [q33];simp only [List.zip_nil_right];rw [show false=f by rw [hf];simp];exact .nil
 | d :: ds,e :: es,xs,ys,us,vs,ih,hs,hu,k1,k2,w1,w2,hf=>by
  obtain⟨x,r,rfl,a1,a2⟩:=k1.cons_inv;obtain⟨y,r',rfl,b1,b2⟩:=k2.cons_inv;cases w1 with
  | cons p1 p2=>
   cases w2 with
   | cons p3 p4=>
    simp only [shL,m8] at hs;simp only [v7] at hu;rw [List.zip_cons_cons];have he:=q9b I fh A (quy hs.1) (by lia) a1 b1 p1 p3;have hl:=ih d gq e x y _ _ hs.1 (by lia) a1 b1 p1 p3;rw [qp3 hs.1] at he;rw [q0o];cases e1:ltT d e
    ·cases e2:ltT e d
     ·rw [e1,e2] at he
      simp only [g3f,g26,g61];exact .eq he (qal I fh f (fun d' hd'=>ih d' (gu _ hd')) hs.2 (by lia) a2 b2 p2 p4 (by rw [hf];simp))
     ·rw [e1,e2] at he
      rw [e1] at hl;exact .ne he hl
    ·rw [e1] at he hl
     exact .ne he hl
theorem qth(I:Inv X pins σ H s)(fh:Same F H): ∀ {d e:D} {x y:V} {u v:Value} (A:Around),shD d e=true->A.units+ku d<cLine->Rep X.K F d x->Rep X.K F e y->RelV x u->RelV y v->LtAt A s u v (ltT d e):=by
 suffices hh:∀n,(∀d e x y u v (A:Around),sizeOf d<n->shD d e=true->A.units+ku d<cLine->Rep X.K F d x->Rep X.K F e y->RelV x u->RelV y v->LtAt A s u v (ltT d e)) from
  fun {d e x y u v} A=>hh (sizeOf d+1) d e x y u v A (tu _)
 intro n
 induction n with
 | zero=>intro d e x y u v A h;exact absurd h (ph _)
 | succ n ih=>
  intro d e x y u v A hn hs hu r1 r2 q1 q2;cases d <;> cases e <;> simp only [shD] at hs <;> first|(cases hs;done)|skip
  ·cases rep_int.mp r1
   cases rep_int.mp r2;obtain⟨t,rfl⟩:=q1;obtain⟨t',rfl⟩:=q2;rw [vb];intro prog w E Q h;exact lt_int h
  ·rename_i ds es
   obtain⟨a,xs,rfl,k1,k2⟩:=rep_tup.mp r1;obtain⟨b,ys,rfl,k3,k4⟩:=rep_tup.mp r2;cases q1;cases q2;obtain⟨i1,v1,t1,_⟩:=I.tuple (ql fh k1);obtain⟨i2,v2,t2,_⟩:=I.tuple (ql fh k3);simp only [ku] at hu;rw [wj];refine LtAt.tuples (show s.heap.IsTuple a i1.toArray from t1) (show s.heap.IsTuple b i2.toArray from t2) (by lia) ?_;refine qal I fh _ (fun d hd e x y u v s1 s2 s3 s4 s5 s6=>ih d e x y u v A.in1 ?_ s1 s2 s3 s4 s5 s6) hs (by show A.units+1+v7 ds<cLine;lia) k2 k4 v1 v2 ?_
   ·have:=List.sizeOf_lt_of_mem hd
    simp at hn;lia
   ·rw [gm,gm, <- v1.length, <- v2.length, <- k2.length, <- k4.length]
theorem qnb(I:Inv X pins σ H s)(fh:Same F H): ∀ {d e:D} {x:V},kD d=true->kD e=true->Rep X.K F d x->Rep X.K F e x->d=e:=by
 suffices hh:∀n,(∀d e x,sizeOf d<n->kD d=true->kD e=true->Rep X.K F d x->Rep X.K F e x->d=e) from fun {d e x}=>hh (sizeOf d+1) d e x (tu _)
 intro n
 induction n with
 | zero=>intro d e x h;exact absurd h (ph _)
 | succ n ih=>
  intro d e x hn kd ke r1 r2;cases d <;> simp only [kD] at kd <;> first|(cases kd;done)|skip
  all_goals (cases e <;> simp only [kD] at ke <;> first|(cases ke;done)|skip)
  ·cases rep_int.mp r1
   cases rep_int.mp r2
   rfl
  ·cases rep_int.mp r1
   obtain⟨_,_,z,_⟩:=rep_tup.mp r2;cases z
  ·obtain⟨_,_,z,_⟩:=rep_tup.mp r1
   cases rep_int.mp r2;cases z
  ·rename_i ds es
   obtain⟨a,xs,rfl,k1,k2⟩:=rep_tup.mp r1;obtain⟨b,ys,z,k3,k4⟩:=rep_tup.mp r2;cases z;cases I.tuple_inj (ql fh k1) (ql fh k3);have seq:∀(ds es:List D) (xs:List V),sizeOf ds<n->kDL ds=true->kDL es=true->RepL X.K F ds xs->RepL X.K F es xs->ds=es:=by
    intro ds
    induction ds with
    | nil=>
     intro es xs _ _ _ k1 k2;cases k1.nil_inv;cases es with
     | nil=>rfl
     | cons e es=>obtain⟨_,_,z,_⟩:=k2.cons_inv;cases z
    | cons d ds ihd=>
     intro es xs hs h1 h2 k1 k2;obtain⟨x,r,rfl,a1,a2⟩:=k1.cons_inv;cases es with
     | nil=>cases k2.nil_inv
     | cons e es=>
      obtain⟨x',r',z,b1,b2⟩:=k2.cons_inv;cases z;simp only [kDL,m8] at h1 h2;rw [ih d e x (by simp at hs;lia) h1.1 h2.1 a1 b1,ihd es r (by simp at hs;lia) h1.2 h2.2 a2 b2]
   rw [seq ds es xs (by simp at hn;lia) kd ke k2 k4]
theorem qkg{d e:D}{x y:V}{u:Value}{K:Frag}(kd:kD d=true)(ke:kD e=true)(r1:Rep K F d x)(r2:Rep K F e y)(q1:RelV x u)(q2:RelV y u): x=y:=by
 cases d <;> simp only [kD] at kd <;> first|(cases kd;done)|skip
 all_goals (cases e <;> simp only [kD] at ke <;> first|(cases ke;done)|skip)
 ·cases rep_int.mp r1
  cases rep_int.mp r2;obtain⟨t,rfl⟩:=q1;obtain⟨t',z⟩:=q2;cases z
  rfl
 ·cases rep_int.mp r1
  obtain⟨_,_,rfl,_⟩:=rep_tup.mp r2;obtain⟨t,rfl⟩:=q1;cases q2
 ·obtain⟨_,_,rfl,_⟩:=rep_tup.mp r1
  cases rep_int.mp r2;cases q1;obtain⟨t',z⟩:=q2;cases z
 ·obtain⟨_,_,rfl,_⟩:=rep_tup.mp r1
  obtain⟨_,_,rfl,_⟩:=rep_tup.mp r2;cases q1;cases q2
  rfl
def q4f(K:Frag)(F:Hp)(d:D)(u:Value): Prop:=kD d=true/\∃x,Rep K F d x/\RelV x u
open Classical in
noncomputable def keyOf(K:Frag)(F:Hp)(u:Value): D:=if h:∃d,q4f K F d u then Classical.choose h else .non
theorem q86(I:Inv X pins σ H s)(fh:Same F H){d:D}{u:Value}(h:q4f X.K F d u): keyOf X.K F u=d:=by
 unfold keyOf;rw [dif_pos ⟨d,h⟩];obtain⟨k1,x,a1,a2⟩:=Classical.choose_spec (⟨d,h⟩:∃d,q4f X.K F d u);obtain⟨k2,y,b1,b2⟩:=h;obtain rfl:=qkg k1 k2 a1 b1 a2 b2;exact qnb I fh k1 k2 a1 b1
theorem qkh{α β : Type}(f : α -> β){l:List β}{m:List β}(p:l.Perm m): ∀ {L:List α},m=L.map f->∃L':List α,L'.Perm L/\l=L'.map f:=by
 induction p with
 | nil=>intro L h;cases L with
  | nil=>exact⟨[],.refl _,rfl⟩
  | cons a L=>cases h
 | cons x p ih=>
  intro L h;cases L with
  | nil=>cases h
  | cons a L=>
   rw [gf] at h;injection h with h1 h2
   obtain⟨L',p',e⟩:=ih h2;exact⟨a :: L',p'.cons a,by rw [gf, <- e,h1]⟩
 | swap x y r=>
  intro L h
  match L,h with
  | [],h=>cases h
  | [a],h=>injection h with h1 h2;cases h2
  | a :: b :: L,h=>
   rw [gf,gf] at h;injection h with h1 h2
   injection h2 with h2 h3
   exact⟨b :: a :: L,.swap a b L,by rw [gf,gf, <- h1, <- h2, <- h3]⟩
 | trans p q ih1 ih2=>
  intro L h;obtain⟨L2,p2,e2⟩:=ih2 h;obtain⟨L1,p1,e1⟩:=ih1 e2;exact⟨L1,p1.trans p2,e1⟩
end
end DL
namespace DL
open PySem PySem.Spec PyProof.Rows L2 Srt PySem.W
variable[Lam]
def isI:D->Bool
 | .int _=>true
 | _=>false
def qp4:D->Bool
 | .tup (.int _ :: _)=>true
 | _=>false
def q7d(ks:List D): Bool:=ks.all kD&&(ks.all fun d=>ks.all fun e=>shD d e)&&(ks.all isI || (ks.all qp4&&ks.all fun d=>decide (ku d<=50)))
section
variable{X:Cx}{pins:List (Addr×Obj)}{σ : St}{F H:Hp}{s:Shared}
theorem qki{prog:Program}{w:World}{A:Around}{f c:Bool}{Q:Bool->Shared->Prop}{l:List (Value×Value)}(h:LexAt A s f l c): ∀i,1<=i->Q c s->KatLex prog w A true f Q l i s:=by
 induction h with
 | nil=>intro i _ q;exact kat_nil q
 | eq e _ ih=>intro i hi q;exact kat_cons (e prog w _ _ (kat_yes (ih (i+1) (by lia) q)))
 | ne e k=>
  intro i hi q;refine kat_cons (e prog w _ _ (kat_no ?_));have:(true&&i==0)=false:=by simp;lia
  rw [this];exact kat_one _ _ (k prog w _ _ q)
theorem q9h{h:Heap}: ∀ {vs:List Value},(∀v∈vs,∃a o xs n i t,v=.ref a/\h.get? a=some o/\o.cls=.type "tuple" /\ o.data=.seq xs n/\xs[0]? = some (Value.int i t)) ->
  ∃fs:List Value,KatTups h vs fs/\fs.length=vs.length/\∀v∈fs,∃i t,v=Value.int i t
 | [],_=>⟨[],.nil,rfl,fun v hv=>by cases hv⟩
 | v :: vs,hh=>by
  obtain⟨a,o,xs,n,i,t,rfl,h1,h2,h3,h4⟩:=hh v gq;obtain⟨fs,k1,k2,k3⟩:=q9h fun v hv=>hh v (gu _ hv);refine⟨.int i t :: fs,.cons h1 h2 h3 h4 k1,by simp [k2],fun v hv=>?_⟩;rcases mf.mp hv with rfl|hv
  ·exact⟨i,t,rfl⟩
  ·exact k3 v hv
theorem quz(I:Inv X pins σ H s)(fh:Same F H)(A:Around)(hu:A.units+60<cLine){us:List Value}{ks:List D}(st:∀u∈us,∃d∈ks,q4f X.K F d u)(ok:q7d ks=true):
  ∃ κ,(2<=us.length->∀(E:Value->Shared->Prop) (Q:SortKind->Shared->Prop),Q κ s->wpAny (model X.prog X.w) A (keyKind' us.toArray) Q E s) /\
   Cmp X.prog X.w A s κ (fun u=>u∈us) (fun u v=>ltT (keyOf X.K F u) (keyOf X.K F v)):=by
 unfold q7d at ok;rw [m8,m8,g1c,m8] at ok;obtain⟨⟨_,o2⟩,o3⟩:=ok;have sh:∀d∈ks,∀e∈ks,shD d e=true:=fun d hd e he=>mx.mp (mx.mp o2 d hd) e he;rcases o3 with o3|⟨o3,o4⟩
 ·have hin:∀u∈us,∃n t,u=Value.int n t/\keyOf X.K F u=.int n:=fun u hu=>by
   obtain⟨d,hd,hs⟩:=st u hu;have hk:=q86 I fh hs;have:=mx.mp o3 d hd;cases d <;> simp only [isI] at this <;> first|(cases this;done)|skip
   obtain⟨_,x,r,q⟩:=hs;cases rep_int.mp r;obtain⟨t,rfl⟩:=q;exact⟨_,t,rfl,hk⟩
  refine⟨oneType',fun h2 E Q q=>?_,⟨fun x y gx gy Q q=>?_,fun x y h=>qdq h,fun x y z h k=>qdr h k⟩⟩
  ·match us,h2,hin with
   | v₁ :: v₂ :: vs,_,hin=>
    rw [keyKind_ints (intsAre_map _ fun v hv=>let⟨n,t,e,_⟩:=hin v hv; ⟨n,t,e⟩)];exact g9 q
  ·obtain⟨n,t,rfl,e1⟩:=hin x gx
   obtain⟨m,t',rfl,e2⟩:=hin y gy;rw [e1,e2,vb] at q;exact kat_lt_int q
 ·have tups:∀u∈us,∃d∈ks,q4f X.K F d u/\keyOf X.K F u=d/\ku d<=50/\∃i ds,d=.tup (.int i :: ds):=fun u hu=>by
   obtain⟨d,hd,hs⟩:=st u hu;have hk:=q86 I fh hs;have:=mx.mp o3 d hd;have h4:=tf (mx.mp o4 d hd);unfold qp4 at this
   split at this
   ·exact⟨_,hd,hs,hk,h4,_,_,rfl⟩
   ·cases this
  refine⟨tuples' true,fun h2 E Q q=>?_,⟨fun x y gx gy Q q=>?_,fun x y h=>qdq h,fun x y z h k=>qdr h k⟩⟩
  ·obtain⟨fs,k1,k2,k3⟩:=q9h (h:=s.heap) (vs:=us) fun v hv=>by
    obtain⟨d,_,⟨_,x,r,qx⟩,_,_,i,ds,rfl⟩:=tups v hv;obtain⟨a,xs,rfl,q1,q2⟩:=rep_tup.mp r;cases qx;obtain⟨x0,r0,rfl,z1,z2⟩:=q2.cons_inv;cases rep_int.mp z1;obtain⟨its,r1,⟨o,ho,hc,n,hd⟩,_⟩:=I.tuple (ql fh q1);cases r1 with
    | cons p1 p2=>
     obtain⟨t,rfl⟩:=p1;exact⟨a,o,_,n,i,t,rfl,ho,hc,hd,by simp⟩
   refine kat_kind (T:=.type "int") k1 (by lia) (fun v hv=>?_) (by rfl) q;obtain⟨i,t,rfl⟩:=k3 v hv;exact Looks.of_pure rfl
  ·obtain⟨d,hd,⟨_,x',r,qx⟩,e1,dp,i,ds,rfl⟩:=tups x gx
   obtain⟨e,he,⟨_,y',r',qy⟩,e2,dp',j,es,rfl⟩:=tups y gy;rw [e1,e2] at q;have hs:=sh _ hd _ he;obtain⟨a,xs,rfl,q1,q2⟩:=rep_tup.mp r;obtain⟨b,ys,rfl,q3,q4⟩:=rep_tup.mp r';cases qx;cases qy;obtain⟨x0,r0,rfl,z1,z2⟩:=q2.cons_inv;obtain⟨y0,w0,rfl,z3,z4⟩:=q4.cons_inv;have z1':=z1;have z3':=z3;cases rep_int.mp z1;cases rep_int.mp z3;obtain⟨its,r1,⟨o,ho,hc,n,hdt⟩,_⟩:=I.tuple (ql fh q1);obtain⟨its2,r2,⟨o2,ho2,hc2,n2,hdt2⟩,_⟩:=I.tuple (ql fh q3);have l1:=r1.length;have l2:=r2.length;have m1:=q2.length;have m2:=q4.length;cases r1 with
   | cons p1 p2=>
    cases r2 with
    | cons p3 p4=>
     have hp1:=p1;have hp3:=p3;obtain⟨t,rfl⟩:=p1;obtain⟨t',rfl⟩:=p3;simp only [shD,shL,m8] at hs;simp only [ku,v7] at dp;refine kat_lt ho hdt ho2 hdt2 ?_;rw [wj,q0o] at q;have hE:=q9b I fh A (d:=.int i) (e:=.int j) (by simp [okE,flat,flD]) (by simp only [ku];lia) z1' z3' hp1 hp3;rw [qp3 (by simp only [shD])] at hE;simp only [List.zip_cons_cons];have lex:=qal I fh (A:=A) (decide (ds.length<es.length)) (fun d _ e x y u v s1 s2 s3 s4 s5 s6=>qth I fh A s1 s2 s3 s4 s5 s6) hs.2 (by lia) z2 z4 p2 p4 rfl;have ef:∀ {m1 m2:List Value},Paired RelV r0 m1->Paired RelV w0 m2->decide ((Value.int i t :: m1).toArray.size<(Value.int j t' :: m2).toArray.size)=decide (ds.length<es.length):=fun a3 a4=>by
      simp only [gm,pz];rw [<- g4i a3, <- g4i a4, <- z2.length, <- z4.length];simp
     rw [ef p2 p4];cases c1:ltT (.int i) (.int j)
     ·cases c2:ltT (.int j) (.int i)
      ·rw [c1,c2] at hE q
       simp only [g3f,g26,g61] at q;exact kat_cons (hE X.prog X.w _ _ (kat_yes (qki lex 1 (gv _) q)))
      ·rw [c1,c2] at hE q
       refine kat_cons (hE X.prog X.w _ _ (kat_no ?_));have c1':decide (i<j)=false:=by rw [<- vb];exact c1
       refine oneLt_int ?_;rw [c1'];exact q
     ·rw [c1] at hE q
      refine kat_cons (hE X.prog X.w _ _ (kat_no ?_));have c1':decide (i<j)=true:=by rw [<- vb];exact c1
      refine oneLt_int ?_;rw [c1'];exact q
theorem qti{K:Frag}: ∀ {ds:List D} {ys:List V} {its:List Value},RepL K F ds ys->Vals ys its->∃T:List (V×Value×D),T.map (·.1)=ys/\T.map (·.2.1)=its/\T.map (·.2.2)=ds/\∀t∈T,Rep K F t.2.2 t.1/\RelV t.1 t.2.1
 | [],ys,its,k2,r1=>by
  cases k2.nil_inv;cases r1;exact⟨[],rfl,rfl,rfl,fun t ht=>by cases ht⟩
 | d :: ds,ys,its,k2,r1=>by
  obtain⟨x,r,rfl,a1,a2⟩:=k2.cons_inv;cases r1 with
  | cons b1 b2=>
   rename_i u' us';obtain⟨T,t1,t2,t3,t4⟩:=qti a2 b2;refine⟨(x,u',d) :: T,by simp [t1],by simp [t2],by simp [t3],fun t ht=>?_⟩;rcases mf.mp ht with rfl|ht
   ·exact⟨a1,b1⟩
   ·exact t4 t ht
end
section
variable{X:Cx}{pins:List (Addr×Obj)}{σ : St}{F H:Hp}{s:Shared}
structure Late(X:Cx)(pins:List (Addr×Obj))(b:Addr): Prop where
 loc:b≠X.env.locals
 up:X.s₀.heap.objs.size<=b
 cel:∀x c,X.env.cells.lookup x=some c->c≠b
 pin:∀p∈X.pn++pins,p.1≠b
 frs:b∉frs X.stack
theorem qtj(I:Inv X pins σ H s){b:Addr}(hb:s.heap.objs.size<=b): Late X pins b where
 loc:=uh (gh I.lt hb)
 up:=md I.sz hb
 cel:=fun x c e z=>by
  subst z;obtain⟨v,o,ho,_⟩:=I.cell x c e;exact absurd (gz ho) (g60.mpr hb)
 pin:=fun p hp z=>by
  subst z;exact absurd (gz (I.pin p hp).1) (g60.mpr hb)
 frs:=fun z=>(mf.mp (I.stkSub b z)).elim (uh (gh I.lt hb)) (I.nofs hb)
theorem qdx(I:Inv X pins σ H s){b:Addr}(l:Late X pins b){h':Heap}(k:∀c o,c≠b->s.heap.get? c=some o->h'.get? c=some o)(hn:H b=none): Inv X pins σ H {s with heap:=h'}:=
 I.turned (t':=s.toks) k hn l.loc (.inr l.up) l.cel l.pin
theorem qkj(I:Inv X pins σ H s){b:Addr}(l:Late X pins b){h':Heap}{o:HO}(k:∀c o,c≠b->s.heap.get? c=some o->h'.get? c=some o)(hn:H b=none)(new:ObjOk X.prog X.w (upd H b o) h' b o):
  Inv X pins σ (upd H b o) {s with heap:=h'}:=by
 have nb:∀c u,H c=some u->c≠b:=fun c u e z=>by rw [z,hn] at e;cases e
 refine I.step (t':=s.toks) (g':=s.gens) (d':=s.drawn) (ch:=[b]) (fun c hc=>?_) (fun c u _ _ hc e _=>k c u (fun z=>hc (by simp [z])) e) (fun c u _ _ hc e _=>⟨u.slots,k c u (fun z=>hc (by simp [z])) e⟩)
  (fun c u hc _ n=>by rw [qo (fun z=>hc (by simp [z]))];exact n) (fun c u hc e=>⟨u,k c u (fun z=>hc (by simp [z])) e⟩) (fun c xs e=>by rw [qo (nb c _ e)];exact e) (fun c _ _ e=>by rw [qo (nb c _ e)];exact e)
  (fun c ps e=>⟨#[],by rw [qo (nb c _ e),e];simp⟩) (fun m hm=>?_) (fun c u e=>?_) I.bare
 ·have e:c=b:=by simpa using hc
  subst e;exact⟨.inr l.up,l.loc,l.cel,l.pin⟩
 ·obtain⟨u,es,ep,ho,r⟩:=hm
  exact⟨u,es,ep,k _ u (n9 l.loc) ho,r⟩
 ·by_cases hc:c=b
  ·subst hc;rw [qz] at e;cases e;exact new
  ·rw [qo hc] at e
   refine(I.hok c u e).stay (fun d v hd q=>k d v ?_ q) (fun d q=>by rw [qo (nb d _ q)];exact q) fun d xs q=>by rw [qo (nb d _ q)];exact q
   rcases hd with z|z
   ·rw [z];exact hc
   ·exact nb d _ z
def yk(op:List D->Option D): List D->Option (List D)
 | []=>some []
 | d :: ds=>(op [d]).bind fun k=>(yk op ds).map fun ks=>k :: ks
def q6b:List D->Bool
 | []=>true
 | k :: r=>(r.all fun e=>ltT k e || ltT e k)&&q6b r
def ky(op:List D->Option D): D->Option (List D)
 | .lst ds=>(yk op ds).bind fun ks=>if q7d ks&&q6b ks then some ((q2i (ks.zip ds)).map Prod.snd) else none
 | _=>none
theorem q9i{op:List D->Option D}: ∀ {l:List D} {d k:D} {ks:List D},yk op l=some ks->op [d]=some k->yk op (l++[d])=some (ks++[k])
 | [],d,k,ks,h,e=>by
  cases h;simp [yk,e]
 | x :: l,d,k,ks,h,e=>by
  simp only [yk] at h;obtain⟨k1,h1,h2⟩:=gd.mp h;obtain⟨ks1,h3,h4⟩:=mj.mp h2;subst h4;simp only [g3i,yk,h1,m4,q9i h3 e,p6]
theorem qbk{op:List D->Option D}: ∀ {l ks:List D},yk op l=some ks->ks.length=l.length
 | [],ks,h=>by cases h;rfl
 | x :: l,ks,h=>by
  simp only [yk] at h;obtain⟨k1,h1,h2⟩:=gd.mp h;obtain⟨ks1,h3,h4⟩:=mj.mp h2;subst h4;simp [qbk h3]
theorem qbl{op:List D->Option D}: ∀ {l ks:List D} {d:D},yk op l=some ks->d∈l->∃k,op [d]=some k
 | x :: l,ks,d,h,hd=>by
  simp only [yk] at h;obtain⟨k1,h1,h2⟩:=gd.mp h;obtain⟨ks1,h3,h4⟩:=mj.mp h2;rcases mf.mp hd with rfl|hd
  ·exact⟨k1,h1⟩
  ·exact qbl h3 hd
theorem qhl:∀ {ks:List D},q6b ks=true->∀ {i j:Nat} (hi:i<ks.length) (hj:j<ks.length),ltT ks[i] ks[j]=false->ltT ks[j] ks[i]=false->i=j
 | k :: r,h,0,0,_,_,_,_=>rfl
 | k :: r,h,0,j+1,hi,hj,a,b=>by
  simp only [q6b,m8] at h;have:=mx.mp h.1 (r[j]'(by simpa using hj)) (by simp);simp only [g5q,g1z] at a b;rw [a,b] at this;cases this
 | k :: r,h,i+1,0,hi,hj,a,b=>by
  simp only [q6b,m8] at h;have:=mx.mp h.1 (r[i]'(by simpa using hi)) (by simp);simp only [g5q,g1z] at a b;rw [a,b] at this;cases this
 | k :: r,h,i+1,j+1,hi,hj,a,b=>by
  simp only [q6b,m8] at h;simp only [g1z] at a b;rw [qhl h.2 (by simpa using hi) (by simpa using hj) a b]
theorem qdy{α β γ δ : Type}: ∀ {a:List α} {b:List β} {c:List γ} {d:List δ},a.length=b.length->b.length=c.length->c.length=d.length ->
  ∃T:List (α × β × γ × δ),T.map (·.1)=a/\T.map (·.2.1)=b/\T.map (·.2.2.1)=c/\T.map (·.2.2.2)=d
 | [],[],[],[],_,_,_=>⟨[],rfl,rfl,rfl,rfl⟩
 | x :: a,y :: b,z :: c,w :: d,h1,h2,h3=>by
  obtain⟨T,t1,t2,t3,t4⟩:=qdy (a:=a) (b:=b) (c:=c) (d:=d) (by simpa using h1) (by simpa using h2) (by simpa using h3);exact⟨(x,y,z,w) :: T,by simp [t1],by simp [t2],by simp [t3],by simp [t4]⟩
theorem qdz{h:Heap}{a:Addr}{ks:List Value}{e:Nat}(ho:h.get? a=some (seqObj "list" ks.toArray e))(k:Value): ∃e',(h.update a (Obj.mapSeq (·.push k))).get? a=some (seqObj "list" (ks++[k]).toArray e'):=by
 have:=g1v ho (·.push k);have e2:(ks.toArray.push k)=(ks++[k]).toArray:=by simp
 rw [e2] at this;exact⟨_,this⟩
theorem qbm{k k':Nat}{fn l:Addr}{fd:FuncData}{ps:List Str}{sp:Sp}{op:List D->Option D}{ds es:List D}{Q:VK}(Fk:FnOk X.prog X.w X.K X.mg X.base CX0 k fn fd ps sp)
  (hsp:∀(F' H':Hp) (dv kd:D) (x:V) (Q':VK),Grow F H F' H'->Rep X.K F' dv x->op [dv]=some kd->(∀v F'' H'',Grow F' H' F'' H''->Rep X.K F'' kd v->Q' v H'')->sp [x] H' Q' E0) (hb:Binds X.K fd ps []) (hr:Room k' X.A) (hk:k+2<=k')
  (I:Inv X pins σ H s) (fh:Same F H) (rl:Rep X.K F (.lst ds) (.ref l)) (ho:ky op (.lst ds)=some es)
  (q:∀a ys F' H',Grow F H F' H'->F' a=none->H a=none->H' a=some (.lst ys)->RepL X.K F' es ys->Q (.ref a) H') :
  wpAny (model X.prog X.w) X.A (call (.builtin "sorted") [.ref l] [(Str.ofString "key",.ref fn)]) (EP X pins σ Q) X.xe s:=by
 unfold ky at ho;dsimp only at ho;obtain⟨dks,hks,ho⟩:=gd.mp ho
 split at ho
 ·rename_i hok
  rw [m8] at hok;cases ho;obtain⟨a,ys,z,k1,k2⟩:=rep_lst.mp rl;cases z;obtain⟨its,r1,p1,hz⟩:=I.list (fh.seq k1);have hlen:its.length<=sizeLine:=by rw [<- r1.length];exact hz
  have hlds:ds.length=its.length:=by rw [k2.length,r1.length]
  have hlks:=qbk hks;have L1:Late X pins (s.heap.objs.size+1):=qtj I (g1x _);have L3:Late X pins (s.heap.objs.size+3):=qtj I (g2a _ _);have rm:Room k X.A.in1.in1:=((hr.mono hk).in1).in1;have hu:X.A.in1.in1.units+60<cLine:=by have:=rm.units;lia
  have z1:((s.heap.push (seqObj "list" #[] 0)).update s.heap.objs.size (Obj.mapSeq (· ++ its.toArray))).objs.size=s.heap.objs.size+1:=by rw [g04,g0v]
  have keep:∀b o,s.heap.get? b=some o->(q0i (srtH s.heap its) (s.heap.objs.size+1) its).get? b=some o:=fun b o qb=>by
   have hlt:b<s.heap.objs.size:=gz qb;unfold q0i srtH;have ne:∀k,b≠s.heap.objs.size+k:=fun k=>m9 (gh hlt (g2a _ _));rw [g0k _ _ _ (by rw [g0v,g04,g0v,z1];exact ne 3),g0k _ _ _ (by rw [g04,g0v,z1];exact ne 2),g05 _ _ _ _ (ne 1),
    g0k _ _ _ (by rw [z1];exact ne 1),g05 _ _ _ _ (show b≠s.heap.objs.size from ne 0),g0k _ _ _ (show b≠s.heap.objs.size from ne 0)]
   exact qb
  have I6:Inv X pins σ H {s with heap:=q0i (srtH s.heap its) (s.heap.objs.size+1) its}:=I.kept (t':=s.toks) keep;have hoL:(srtH s.heap its).get? (s.heap.objs.size+1)=some (seqObj "list" its.toArray 0):=by
   unfold srtH;rw [<- z1];exact gj _ rfl
  have zs:(srtH s.heap its).objs.size=s.heap.objs.size+2:=by unfold srtH;rw [g0v,z1]
  obtain⟨e1,ho1⟩:∃e1,((srtH s.heap its).update (s.heap.objs.size+1) (Obj.mapSeq fun _=>(#[]:Array Value))).get? (s.heap.objs.size+1)=some (seqObj "list" #[] e1):=⟨_,g1v hoL fun _=> #[]⟩
  have hoA:(q0i (srtH s.heap its) (s.heap.objs.size+1) its).get? (s.heap.objs.size+1)=some (seqObj "list" #[] e1):=by
   unfold q0i;rw [g0k _ _ _ (by rw [g0v,g04,zs];exact m9 (by lia)),g0k _ _ _ (by rw [g04,zs];exact m9 (by lia))];exact ho1
  have hoK:(q0i (srtH s.heap its) (s.heap.objs.size+1) its).get? (s.heap.objs.size+3)=some (seqObj "list" ([]:List Value).toArray 0):=by
   unfold q0i;have:s.heap.objs.size+3=(((srtH s.heap its).update (s.heap.objs.size+1) (Obj.mapSeq fun _=>(#[]:Array Value))).push (seqObj "tuple" its.toArray 0)).objs.size:=by rw [g0v,g04,zs]
   rw [this];exact gj _ rfl
  have hn1:H (s.heap.objs.size+1)=none:=I.hok.fresh (g1x _);have hn3:H (s.heap.objs.size+3)=none:=I.hok.fresh (g2a _ _);refine qfr p1.isList hlen (fun ks s'=>∃F' H' xks kds e,Inv X pins σ H' s'/\Grow F H F' H'/\RepL X.K F' kds xks/\Vals xks ks/\yk op (ds.take ks.length)=some kds /\
   s'.heap.get? (s.heap.objs.size+3)=some (seqObj "list" ks.toArray e)/\H' (s.heap.objs.size+3)=none/\s'.heap.get? (s.heap.objs.size+1)=some (seqObj "list" #[] e1)/\H' (s.heap.objs.size+1)=none)
   ⟨F,H,[],[],0,I6,.refl fh,.nil,.nil,rfl,hoK,hn3,hoA,hn1⟩ ?_ ?_
  ·rintro l0 v r0 hv ks s' hl ⟨F',H',xks,kds,e,I',g',rk,vk,hkd,hK,nK,hA,nA⟩
   -- the next item
   have hi:ks.length<ds.length:=by rw [hlds,hv,hl];simp
   have hvi:its[ks.length]? = some v:=by rw [hv,hl];simp
   obtain⟨dv,hdv⟩:∃dv,ds[ks.length]? = some dv:=⟨_,g1q ds _ hi⟩
   obtain⟨x,hx,rx⟩:=k2.get hdv;obtain⟨u,hu',ru⟩:=r1.get hx;rw [hvi] at hu';obtain rfl:v=u:=ma hu';obtain⟨kd,hkd'⟩:=qbl hks (g00 hdv);have hbs:BindsTo s' fd ⟨[v],[]⟩ (ps.zip ([v]++[])):=hb s' [v] I'.kIn (by
    have:=Fk.len [x] H' (fun v H''=>∃F'',Grow F' H' F'' H''/\Rep X.K F'' kd v) E0 (hsp F' H' dv kd x _ g' (rx.mono g'.ff) hkd' fun v F'' H'' g'' r''=>⟨F'',g'',r''⟩)
    simpa using this)
   refine g3o (g2p (Fk.run X.A.in1.in1 X.stack s' H' ⟨[v],[]⟩ [v] [x] (fun v H''=>∃F'',Grow F' H' F'' H''/\Rep X.K F'' kd v) E0 rm ⟨I'.ok.frames,I'.ok.mod,I'.bs,md I'.ok.bsz I'.sz,I'.stack,I'.stkFree,I'.hok,I'.bare⟩ hbs (.cons ru .nil)
    (hsp F' H' dv kd x _ g' (rx.mono g'.ff) hkd' fun v F'' H'' g'' r''=>⟨F'',g'',r''⟩)) fun r s'' hq=>?_)
   cases r with
   | error er=>exact hq.elim
   | ok fl=>
    cases fl with
    | next=>exact False.elim hq
    | brk=>exact False.elim hq
    | cont=>exact False.elim hq
    | ret kv=>
     obtain⟨vv,H'',os,bare,un,hok',rv,F'',g'',rr⟩:=(show CE X.stack X.prog X.w H' s' _ kv s'' from hq)
     have hK2:=un.keep _ _ hK nK L3.frs (by simp);have hA2:=un.keep _ _ hA nA L1.frs (by simp);have nK2:=un.free _ _ hK nK (by simp);have nA2:=un.free _ _ hA nA (by simp);obtain⟨hh,gg,dd,tt,oo⟩:=s'';obtain rfl:oo=s'.os:=os;have I2:=I'.call (h':=hh) (g':=gg) (d':=dd) (t':=tt) (ch:=[]) un hok' bare (fun b z=>absurd z (by simp));obtain⟨e',hK3⟩:=qdz hK2 kv;have I3:=qdx I2 L3 (h':=hh.update (s.heap.objs.size+3) (Obj.mapSeq (·.push kv))) (fun c o hc e=>by rw [g05 _ _ _ _ hc];exact e) nK2;refine⟨⟨e,hK2⟩,F'',H'',xks++[vv],kds++[kd],e',I3,g'.trans g'',(rk.mono g''.ff).append (.cons rr .nil),vk.append (.cons rv .nil),?_,hK3,nK2,?_,nA2⟩
     ·rw [pf,g3k,t5 hi]
      refine q9i hkd ?_;have:ds[ks.length]=dv:=by rw [g1q ds _ hi] at hdv;exact ma hdv
      rw [this];exact hkd'
     ·show(hh.update _ _).get? _=_
      rw [g05 _ _ _ _ (m9 (by lia))];exact hA2
  ·rintro ks s' hl ⟨F',H',xks,kds,e,I',g',rk,vk,hkd,hK,nK,hA,nA⟩
   rw [hl, <- hlds,g54,hks] at hkd;obtain rfl:dks=kds:=ma hkd;refine⟨⟨e,hK⟩,by rw [hA,hoA],?_⟩;have hkl:ks.length=dks.length:=by rw [<- vk.length,rk.length]
   obtain⟨T,t1,t2,t3,t4⟩:=qti rk vk;have kdk:∀d∈dks,kD d=true:=by
    have:=hok.1;unfold q7d at this;rw [m8,m8] at this;exact mx.mp this.1.1
   have st:∀u∈ks,∃d∈dks,q4f X.K F' d u:=fun u hu=>by
    rw [<- t2] at hu;obtain⟨t,ht,rfl⟩:=ny.mp hu;have hm:t.2.2∈dks:=by rw [<- t3];exact g2g ht
    exact⟨t.2.2,hm,kdk _ hm,t.1,t4 t ht⟩
   obtain⟨κ,hkind,C⟩:=quz I' g'.fh X.A.in1.in1 hu st hok.1;refine⟨κ,_,_,fun h2=>hkind (by lia),fun _=>C,fun _ h=>h,fun Tz tp ts=>?_⟩
   -- all five rows together
   obtain⟨T,w1,w2,w3,w4⟩:=qdy (a:=xks.zip ks) (b:=dks) (c:=its) (d:=ys.zip ds) (by rw [g2m,rk.length,vk.length];simp) (by rw [hlks,hlds]) (by rw [g2m,r1.length,hlds];simp);have uT:ks.zip its=T.map fun t=>(t.1.2,t.2.2.1):=by
    rw [<- w3, <- List.map_snd_zip (l₁:=xks) (l₂:=ks) (by rw [vk.length];exact gv _), <- w1];simp [g4o,ni,g4t]
   obtain⟨T',pT,eT⟩:=qkh (fun t:(V×Value)×D×Value×V×D=>(t.1.2,t.2.2.1)) tp uT;have rel:∀t∈T,Rep X.K F' t.2.1 t.1.1/\RelV t.1.1 t.1.2/\Rep X.K F' t.2.2.2.2 t.2.2.2.1/\RelV t.2.2.2.1 t.2.2.1/\t.2.1∈dks:=by
    intro t ht;obtain⟨i,hi,rfl⟩:=tw.mp ht;have e1':(xks.zip ks)[i]? = some T[i].1:=by rw [<- w1];simp [hi]
    have e2':dks[i]? = some T[i].2.1:=by rw [<- w2];simp [hi]
    have e3':its[i]? = some T[i].2.2.1:=by rw [<- w3];simp [hi]
    have e4':(ys.zip ds)[i]? = some T[i].2.2.2:=by rw [<- w4];simp [hi]
    rw [List.getElem?_zip_eq_some] at e1' e4';obtain⟨x,hx,rx⟩:=rk.get e2';rw [e1'.1] at hx;obtain rfl:=ma hx;obtain⟨u,hu2,ru⟩:=vk.get e1'.1;rw [e1'.2] at hu2;obtain rfl:=ma hu2;obtain⟨y,hy,ry⟩:=k2.get e4'.2;rw [e4'.1] at hy;obtain rfl:=ma hy;obtain⟨w,hw,rw'⟩:=r1.get e4'.1;rw [e3'] at hw;obtain rfl:=ma hw;exact⟨rx,ru,ry.mono g'.ff,rw',g00 e2'⟩
   have rel':∀t∈T',_:=fun t ht=>rel t (pT.mem_iff.mp ht);have hkey:∀t∈T',keyOf X.K F' t.1.2=t.2.1:=fun t ht=>q86 I' g'.fh ⟨kdk _ (rel' t ht).2.2.2.2,_,(rel' t ht).1,(rel' t ht).2.1⟩;have eD:T'.map (fun t=>t.2.2.2.2)=(q2i (dks.zip ds)).map Prod.snd:=by
    have ez:dks.zip ds=T.map fun t=>(t.2.1,t.2.2.2.2):=by
     rw [<- w2, <- List.map_snd_zip (l₁:=ys) (l₂:=ds) (by rw [<- k2.length];exact gv _), <- w4];simp [g4o,ni,g4t]
    have e1:T'.map (fun t=>(t.2.1,t.2.2.2.2))=q2i (dks.zip ds):=by
     refine qn3 ?_ ?_ ?_
     ·rw [ez];exact pT.map _
     ·rw [g1k]
      rw [eT,g1k] at ts;refine g2y (fun {x y} hx hy h=>?_) ts;have h':ltT (keyOf X.K F' y.1.2) (keyOf X.K F' x.1.2)=false:=h;rw [hkey x hx,hkey y hy] at h';exact h'
     ·intro x hx y hy h1 h2
      obtain⟨i,hi,rfl⟩:=tw.mp hx;obtain⟨j,hj,rfl⟩:=tw.mp hy;rw [g2m] at hi hj;simp only [List.getElem_zip] at h1 h2 ⊢;have:i=j:=qhl hok.2 (by lia) (by lia) h1 h2;subst this;rfl
    rw [<- e1,ni]
    rfl
   have hout:Tz.map (·.2)=T'.map fun t=>t.2.2.1:=by rw [eT,ni];rfl
   have vo:Vals (T'.map fun t=>t.2.2.2.1) (Tz.map (·.2)):=by
    rw [hout];clear eT eD pT hkey hout
    induction T' with
    | nil=>exact .nil
    | cons t T' ih=>exact .cons (rel' t gq).2.2.2.1 (ih fun t ht=>rel' t (gu _ ht))
   have ro:RepL X.K F' (T'.map fun t=>t.2.2.2.2) (T'.map fun t=>t.2.2.2.1):=by
    clear eT eD pT hkey hout vo
    induction T' with
    | nil=>exact .nil
    | cons t T' ih=>exact .cons (rel' t gq).2.2.1 (ih fun t ht=>rel' t (gu _ ht))
   have ll:(T'.map fun t=>t.2.2.2.1).length<=sizeLine:=by
    rw [mn,pT.length_eq];have:=uz List.length w3;rw [mn] at this;rw [this];exact hlen
   have I8:=qdx I' L3 (h':=s'.heap.update (s.heap.objs.size+3) (Obj.mapSeq fun _=> #[])) (fun c o hc e=>by rw [g05 _ _ _ _ hc];exact e) nK;have hA8:(s'.heap.update (s.heap.objs.size+3) (Obj.mapSeq fun _=> #[])).get? (s.heap.objs.size+1)=some (seqObj "list" #[] e1):=by
    rw [g05 _ _ _ _ (m9 (by lia))];exact hA
   obtain⟨e9,hA9⟩:∃e9,((s'.heap.update (s.heap.objs.size+3) (Obj.mapSeq fun _=> #[])).update (s.heap.objs.size+1) (Obj.mapSeq fun _=>(Tz.map (·.2)).toArray)).get? (s.heap.objs.size+1)=some (seqObj "list" (Tz.map (·.2)).toArray e9):=⟨_,g1v hA8 fun _=>(Tz.map (·.2)).toArray⟩
   have I9:=qkj I8 L1 (o:=.lst (T'.map fun t=>t.2.2.2.1)) (h':=(s'.heap.update (s.heap.objs.size+3) (Obj.mapSeq fun _=> #[])).update (s.heap.objs.size+1) (Obj.mapSeq fun _=>(Tz.map (·.2)).toArray))
    (fun c o hc e=>by rw [g05 _ _ _ _ hc];exact e) nA ⟨ll,_,e9,vo,hA9⟩
   refine⟨.ref (s.heap.objs.size+1),_,I9,rfl,?_⟩;have gg:Grow F' H' F' (upd H' (s.heap.objs.size+1) (.lst (T'.map fun t=>t.2.2.2.1))):=Grow.own g'.fh nA;exact q _ _ F' _ (g'.trans gg) (g'.fh.free nA) hn1 qz (by rw [<- eD];exact ro)
 ·cases ho
def q0p(op:List D->Option D): List D->Option (List D)
 | [d]=>ky op d
 | _=>none
theorem qnc{e:Expr}{p pg kp pos:Pos}{g:Str}{k k':Nat}{fn:Addr}{fd:FuncData}{ps:List Str}{op:List D->Option D}{fa:FA}(C:Cal X.prog X.w X.K X.mg X.base g k ps 1 op fn fd)(b:Binds X.K fd ps [])(hr:Room k' X.A)(hk:k+2<=k')
  (hgs:Gl X "sorted") (hms:X.mg "sorted" = none) (hgg:Gl X g) (ha:PA X [e] (tDA X.K fa)) (hdb:(g==("__debug__" : Str))=false:=by decide) (he:backTo pos (starEach [e] X.env)=(false,eval e X.env) :: backTo pos (starEach [] X.env):=by rfl)
  (hpl:(backTo pos (starEach [e] X.env)).any (·.1)=false:=by rfl):PE X (.Call (.Name "sorted" p) [e] [⟨some "key",.Name g pg,kp⟩] pos) (tL X.K (q9a (q0p op) fa)):=by
 intro pins s σ H Q I h;obtain⟨F0,H0,F, ρ,ds,r,hf,q⟩:=h;obtain⟨es,h1,h2⟩:=gd.mp hf;unfold q0p at h2
 split at h2
 ·rename_i d
  refine g14 (q06 I hgs hms boot_sorted ?_ (by decide) (by decide));refine callWith_kw (thn (ha pos pins s σ H (fun vs H1=>∃F1,Grow F H F1 H1/\RepL X.K F1 [d] vs) I ⟨F0,H0,F, ρ,[d],r,h1,fun vs F1 H1 g1 r1=>⟨F1,g1,r1⟩⟩) fun us s1 ⟨vs,H1,I1,rv,F1,g1,r1⟩=>?_) he hpl rfl rfl;refine kws_cons (qa7 I1 hgg C.mg (kws_nil ?_) hdb);obtain⟨x,rfl,rx⟩:=rep1 r1;obtain⟨u,rfl,ru⟩:=vals1 rv;cases d <;> simp only [ky] at h2 <;> first|(cases h2;done)|skip
  rename_i ds';obtain⟨a,ys,rfl,_⟩:=rep_lst.mp rx;cases ru;exact qbm C.ok (fun F' H' dv kd x Q' g' rx' hk' q'=>⟨F',[dv],kd,(r.sameT g1).grow g',.cons rx' .nil,rfl,hk',q'⟩) b hr hk I1 g1.fh rx (by simp only [ky];exact h2) fun a ys F2 H2 g2 k1 k2 k3 k4=>q a ys F2 H2 (g1.trans g2) k1 (g1.hh.free k2) k3 k4
 ·cases h2
end
end DL
namespace Srt
end Srt
namespace DL
open PySem PySem.Spec PyProof.Rows L2 Srt PySem.W
variable[Lam]
structure ClsOk(K:Frag)(x:Str)(C:Addr): Prop where
 ns:PySem.W.nsIn K mainGlobals x=some (some (.ref C))
 makes:PySem.W.makesIn K C=true
 init:PySem.W.findIn K (.ref C) "__init__" = some (some (.builtin "object.__init__"))
 kp:PySem.W.keepIn K (.ref C)=true
 cls:Cls K C
 n:qmi K C
structure CalM(P:Program)(w:World)(K:Frag)(mg:Str->Option Value)(base:Heap)(x m:Str)(C:Addr)(k:Nat)(ps:List Str)(ar:Nat)(op:List D->Option D)(fn:Addr)(fd:FuncData): Prop where
 ok:FnOk P w K mg base CX0 k fn fd ps (spD K ar op)
 me:Meth K C m fn
theorem qkk{K:Frag}{C:Addr}{T:String}(hm:PySem.W.kitMeta T=true)(h:PySem.W.subIn K (.ref C) (.type T)=some false): PySem.W.kitOne K (.ref C) (.type T)=some false:=by
 unfold PySem.W.kitOne PySem.W.kitCls;rw [mi (fun z=>by have:=eq_of_beq z;cases this)];dsimp only;rw [mh hm];exact h
theorem qqi{K:Frag}{C:Addr}(h1:PySem.W.subIn K (.ref C) (.type "int")=some false)(h2:PySem.W.subIn K (.ref C) (.type "bool")=some false)(h3:PySem.W.subIn K (.ref C) (.type "tuple")=some false)
  (h4:PySem.W.subIn K (.ref C) (.type "list")=some false) (h5:PySem.W.subIn K (.ref C) (.type "str")=some false) (h6:PySem.W.subIn K (.ref C) (.type "dict")=some false) :
  ∀T:String,T∈["int","bool","tuple","list","str","dict"]->PySem.W.kitOne K (.ref C) (.type T)=some false:=by
 intro T hT;simp only [mf,uq,g1o] at hT;rcases hT with rfl|rfl|rfl|rfl|rfl|rfl <;> exact qkk (by decide +kernel) (by assumption)
section
variable{X:Cx}{pins:List (Addr×Obj)}{σ : St}{F H:Hp}{s:Shared}
theorem qkl{C:Addr}{Q:VK}(makes:PySem.W.makesIn X.K C=true)(init:PySem.W.findIn X.K (.ref C) "__init__" = some (some (.builtin "object.__init__")))(I:Inv X pins σ H s)
  (h:Q (.ref (s.heap.objs.size+1)) (upd (upd H s.heap.objs.size (.own (s.heap.objs.size+1))) (s.heap.objs.size+1) (.ins C s.heap.objs.size []))):wpAny (model X.prog X.w) X.A (call (.ref C) []) (EP X pins σ Q) X.xe s:=by
 have I2:=Inv.made (C:=C) I;have kin:=I.kIn;obtain⟨hh,g,d,t,os⟩:=s;have Y:=makes_of (M:=model X.prog X.w) kin makes;refine g3o (make_core Y (looks_findIn kin init) (fun self=>Looks.of_pure (oi_bind self)) (.inr ⟨rfl,rfl⟩) ?_);have hx:((hh.push emptyDict).push (instObj C hh.objs.size)).get? (hh.objs.size+1)=some (instObj C hh.objs.size):=by
  have:hh.objs.size+1=(hh.push emptyDict).objs.size:=(g0v _ _).symm;rw [this];exact gj _ rfl
 have t1:Looks (model X.prog X.w) ((hh.push emptyDict).push (instObj C hh.objs.size)) (typeOf (.ref (hh.objs.size+1))) (.ref C):=(Looks.ld hx).andThen .now;have t2:Looks (model X.prog X.w) ((hh.push emptyDict).push (instObj C hh.objs.size)) (isInstance (.ref (hh.objs.size+1)) (.type "object")) true:=t1.andThen (Y.top.keeps fun b o e=>gc _ (gc _ e));refine g28 oi_plain entry_oi (@check_slot (model X.prog X.w) _ _ _ "object.__init__" "object" "__init__" (.ref (hh.objs.size+1)) [] [] _ oi_kind oi_split t2 (oi_args (.ref (hh.objs.size+1))) ?_);rw [oi_run];exact g9 (And.intro rfl ⟨V.ref (hh.objs.size+1),_,I2,rfl,h⟩)
theorem qkm{x:Str}{C:Addr}{p pos:Pos}(O:ClsOk X.K x C)(hm:X.mg x=some (.ref C))(hg:Gl X x)(hdb:(x==("__debug__" : Str))=false:=by decide): PE X (.Call (.Name x p) [] [] pos) (tD X.K (eC (.obj x))):=by
 intro pins s σ H Q I h;obtain⟨F0,H0,F, ρ,d,r,hf,q⟩:=h;cases hf;refine g14 (qa7 I hg hm ?_ hdb);refine PySem.W.callWith_K0 I.kIn O.kp (qkl O.makes O.init I ?_);have n0:H s.heap.objs.size=none:=I.hok.fresh (gv _);have n1:H (s.heap.objs.size+1)=none:=I.hok.fresh (g1x _);have fh:=r.fh;have g1:Grow F H F (upd H s.heap.objs.size (.own (s.heap.objs.size+1))):=Grow.own fh n0;have n1':upd H s.heap.objs.size (.own (s.heap.objs.size+1)) (s.heap.objs.size+1)=none:=by rw [qo (uh (tu _))];exact n1
 have g2:=Grow.new (o:=.ins C s.heap.objs.size []) g1.fh n1';exact q _ _ _ (g1.trans g2) (rep_obj.mpr ⟨s.heap.objs.size+1,s.heap.objs.size,C,rfl,qz,O.ns,O.n⟩)
def isO(x:Str): D->Bool
 | .obj y=>x==y
 | _=>false
def q87(x:Str)(ar:Nat)(op:List D->Option D)(g:FE)(fa:FA): FE:=fun ρ =>(g ρ).bind fun d=>(fa ρ).bind fun ds=>if isO x d then qj ar [] op (d :: ds) else none
theorem qe0{x m:Str}{C:Addr}{o e:Expr}{es:List Expr}{apos pos:Pos}{k k' ar:Nat}{fn:Addr}{fd:FuncData}{ps:List Str}{op:List D->Option D}{g:FE}{fa:FA}{pl:Sem Bool}(O:ClsOk X.K x C)
  (M:CalM X.prog X.w X.K X.mg X.base x m C k ps ar op fn fd) (b:Binds X.K fd ps []) (hr:Room k' X.A) (hk:k<=k') (ho:PE X o (tD X.K g)) (ha:PA X (e :: es) (tDA X.K fa))
  (hst:starEach (e :: es) X.env=(false,eval e X.env) :: starEach es X.env:=by rfl) (hpl:(backTo pos (starEach es X.env)).any (·.1)=false:=by rfl)
  (ht:eval (.Call (.Attribute o m apos) (e :: es) [] pos) X.env=(do
   let ov <- eval o X.env
   standAt apos.atName
   let(f,first) <- holding [ov] (getMethod ov m pl)
   callWith pos f first (backTo pos (starEach (e :: es) X.env)) (backToKw pos (keywordEach [] X.env))):=by rfl) :
  PE X (.Call (.Attribute o m apos) (e :: es) [] pos) (tD X.K (q87 x ar op g fa)):=
 jk (qpk (pl:=pl) ho O.cls M.me M.ok (hr.mono hk) b .nil qov ha hst hpl ht) fun σ H Q ⟨F0,H0,F, ρ,d,r,hf,q⟩=>by
  obtain⟨d1,h1,hf⟩:=gd.mp hf;obtain⟨ds,h2,hf⟩:=gd.mp hf
  split at hf
  ·rename_i hi
   obtain rfl:d1=.obj x:=by
    cases d1 <;> simp only [isO] at hi <;> first|(cases hi;done)|skip
    rw [(by simpa using hi:x=_)]
   refine⟨F0,H0,F, ρ,.obj x,r,h1,fun v F1 H1 g1 r1=>?_⟩;obtain⟨a,dx,C',rfl,e1,e2,e3⟩:=rep_obj.mp r1;have hC:C'=C:=by
    have:=e2.symm.trans O.ns;cases this;rfl
   subst hC;refine⟨a,dx,[],rfl,g1.fh _ _ e1,rfl,F0,H0,F1, ρ,ds,r.grow g1,h2,fun vs F2 H2 g2 r2=>?_⟩;unfold qj at hf
   split at hf
   ·rename_i hl
    refine⟨F2,(.obj x :: ds)++[],d,r.sameT (g1.trans g2),(RepL.cons (r1.mono g2.ff) r2).append .nil,hl,hf,fun v F3 H3 g3 r3=>q v F3 H3 (g1.trans (g2.trans g3)) r3⟩
   ·cases hf
  ·cases hf
end
end DL
namespace DL
open PySem PySem.Spec PyProof.Rows L2
variable[Lam]
theorem qkn{P:Program}{w:World}{K:Frag}{mg:Str->Option Value}{base:Heap}{k ar:Nat}{f:Addr}{fd:FuncData}{ps:List Str}: FnOk P w K mg base CX0 k f fd ps (spD K ar fun _=>none):=
 FnOk.mk (fun vs H Q E z=>by
   obtain⟨F,ds,d,_,_,_,h,_⟩:=z;cases h)
  (fun A outer s H args us vs Q E _ _ _ _ z=>by
   obtain⟨F,ds,d,_,_,_,h,_⟩:=z;cases h)
end DL
namespace DL
open PySem PySem.Spec PyProof.Rows L2 Srt PySem.W
variable[Lam]
def q2k(mg:Str->Option Value)(base:Heap): Prop:=∃bm ob,mg "__builtins__" = some (.ref bm)/\bm≠builtinsNs/\base.get? bm=some ob/\ob.cls=.type "module" /\ ob.dict=some builtinsNs/\ob.data=.plain
def tabOf(o:Obj): Option Addr:=match o.data with
 | .fields vs=>(match(vs[11]? : Option Value) with
  | some (.ref P)=>some P
  | _=>none)
 | _=>none
omit [Lam] in
theorem qnd{K:Frag}{x:Str}{f c P:Addr}{oc:Value}{od:Option Addr}{fd:FuncData}{sl:Array (Option Value)}{o:Obj}(h1:nsIn K mainGlobals x=some (some (.ref f)))(h2:K.lookup f=some ⟨oc,od,.func fd,sl⟩)(h3:fd.code=.ref c)(h4:K.lookup c=some o)(h5:tabOf o=some P): tabIn K x=some (c,P):=by
 unfold tabIn;rw [h1];dsimp only;rw [h2];dsimp only;rw [h3];dsimp only;rw [h4];obtain⟨a,b,d,e⟩:=o;unfold tabOf at h5;dsimp only at h5;cases d <;> simp only at h5 ⊢ <;> first|(cases h5;done)|skip
 split at h5
 ·rename_i hv
  rw [hv];cases h5
  rfl
 ·cases h5
omit [Lam] in
theorem qfs{K:Frag}{c P:Addr}{o:Obj}(h1:K.lookup c=some o)(h2:codeHdIn [(c,o)] c P=true): codeHdIn K c P=true:=by
 have e:List.lookup c [(c,o)]=some o:=by simp [List.lookup]
 unfold codeHdIn at h2 ⊢;rw [h1];rw [e] at h2;exact h2
def qv0(K:Frag)(ar:Nat)(op:List D->Option D)(f c:Addr)(φ ψ : Heap->Prop): Sp:=fun vs H Q E=>H f=some (.ext φ)/\H c=some (.ext ψ)/\spD K ar op vs H Q E
theorem qtk{P:Program}{w:World}{K:Frag}{mg:Str->Option Value}{base:Heap}{k:Nat}{f c:Addr}{qual:Str}{params:Arguments}{body:Expr}{scope:Scope}{pm ct:Value}{N ps:List Str}{u:FE}{φ ψ : Heap->Prop}
  (hφ : ∀h, φ h->h.get? f=some (kla_obj "<lambda>" qual params body scope [] pm c ct)) (hψ : ∀h, ψ h->h.CodeRec (.ref c) qual) (S:FnScope N ps scope)
  (hb:∀(A:Around) (outer:List Env) (s:Shared) (H:Hp) (E:XK),Room k (A.deeper (envOfC qual scope s.heap.objs.size f (.ref c)))->PE (zj CX0 P w K mg base N qual scope f (.ref c) A outer s H E).nox body (tD K u)) :
  FnOk P w K mg base CX0 (k+1) f (kla_fn "<lambda>" qual params body scope [] pm (.ref c) ct) ps (qv0 K ps.length (z9 N.length (zd u)) f c φ ψ):=by
 have hpl:ps.length<=N.length:=by have:=uz List.length S.pre;rw [pk] at this;omega
 refine⟨fun vs H Q E h=>?_,fun A outer s H args us vs Q E hr e0 hbd r ⟨h1,h2,hsp⟩=>?_⟩
 ·obtain⟨_,_,F,ds,d,_,rl,el,_⟩:=h
  rw [<- rl.length];exact el
 have hl:vs.length=ps.length:=by
  obtain⟨F,ds,d,_,rl,el,_⟩:=id hsp;rw [<- rl.length];exact el
 have lim:s.heap.NoLimit:=e0.mod.nolimit.keeps fun b o e=>(e0.bs b o e).1;have hkind:∀y∈ps.zip us,scope.names.lookup y.1=some .local\/(scope.names.lookup y.1=some .cell/\((cellsFrom (s.heap.objs.size+1) scope.names []).lookup y.1).isSome=true):=fun⟨n,v⟩ hy=>by
  rcases S.par n (g2k hy).1 with q|q
  ·exact .inl q
  ·exact .inr ⟨q,g3c _ _ _ (.inl q)⟩
 have ho:=hφ _ (e0.hok f _ h1).1;have hcd:=hψ _ (e0.hok c _ h2).1;refine kla_callFunE hr.depth ho rfl S.co S.gen rfl hcd (hbd _ _ _ _ ?_);refine wpAny_newFunctionEnv_cells S.kind hkind fun env he s1 x=>?_;subst he;refine⟨lim.keeps x.toInCall.keep,kla_codeExpr ?_⟩;have I:Inv (zj CX0 P w K mg base N qual scope f (.ref c) A outer s H E) [] (start N vs) H s1:=qba S hr.hd e0 hl r x;have hD:tD K u (start N vs) H Q:=by
  obtain⟨F0,H0,F, ρ,fl, ρ',r',hf,q⟩:=qk1 (P:=P) (w:=w) hpl hsp;obtain⟨d,h3,h4⟩:=mj.mp hf;cases h4;exact⟨F0,H0,F, ρ,d,r',h3,fun v F' H' g' r''=>q v F' H' (r'.g.trans g') r''⟩
 refine u0 ((hb A outer s H E (hr.deeper _)).nox [] s1 (start N vs) H Q I hD) (fun v s' hs=>?_) fun e s' hs=>hs;obtain⟨v',H',J,rv,q⟩:=hs;exact⟨v',H',J.os,J.bare,J.base,J.hok,rv,q⟩
theorem qia{pos pos':Pos}{c cv:Value}: ∀(l:List Value),TriplesOk l->codeAmong pos' (l++[rawInt pos.line,rawInt pos.col,c])=some cv->codeAmong pos' l=some cv\/cv=c:=fun l h e=>by
 fun_induction TriplesOk l with
 | case1=>
  simp only [g0l,codeAmong,rawInt] at e
  split at e
  ·exact .inr (ma e).symm
  ·cases e
 | case2 a t b u x rest ih=>
  simp only [g3i,codeAmong] at e ⊢
  split at e
  ·rename_i hc;rw [mh hc];exact .inl e
  ·rename_i hc;rw [mi hc];exact ih h e
 | case3 l h1 h2=>exact h.elim
section
variable{X:Cx}{pins:List (Addr×Obj)}{σ : St}{F H:Hp}{s:Shared}
theorem qne{c P:Addr}{q:Str}{params:Arguments}{body:Expr}{scope:Scope}{pos:Pos}{Q:Value->Shared->Prop}(hcode:X.env.code=.ref c)(hd:codeHdIn X.K c P=true)(hP:(P,q)∈Lam.tab)(hU:∀p∈Lam.tab,p.1=P->p.2=q)
  (hq:X.env.qual++"<lambda>" = q) (B:q2k X.mg X.base) (hdef:defaultsOf params X.env=([],[])) (hcl:closureFor scope X.env=pure []) (I:Inv X pins σ H s) (st:SameT F H)
  (h:∀f c' φ ψ ct pm s' H',Inv X pins σ H' s'->Grow F H F H'->H' f=some (.ext φ)->H' c'=some (.ext ψ)->(∀h, φ h->h.get? f=some (kla_obj "<lambda>" q params body scope [] pm c' ct))->(∀h, ψ h->h.CodeRec (.ref c') q)->Q (.ref f) s') :
  wpAny (model X.prog X.w) X.A (eval (.Lambda params body scope pos) X.env) Q X.xe s:=by
 refine kla_eval hdef ?_;rw [hq];obtain⟨ps,e,ht,k⟩:=st.t _ hP;have hPg:s.heap.get? P=some (tabObj ps):=I.hok P _ e;have C:CodeHd s.heap c P:=codeHd_of_K I.kIn hd;have hg:s.heap.Ns mainGlobals X.mg:=I.mod.glob.keeps I.bk;obtain⟨bm,ob,B1,B2,B3,B4,B5,B6⟩:=B;have hbo:=I.bk _ _ B3;have hbP:bm≠P:=fun z=>by
  have e1:=hbo;rw [z,hPg] at e1;have e2:=B4;rw [<- ma e1] at e2;cases e2
 have hgP:mainGlobals≠P:=fun z=>by
  obtain⟨o,es,ep,e1,e2,_⟩:=hg;rw [z,hPg] at e1;rw [<- ma e1] at e2;cases e2
 have hb:s.heap.BuiltinsAt X.mg P:=⟨bm,ob,B1,B2,fun z=>(by
  obtain⟨o,es,ep,e1,e2,_⟩:=hg;rw [<- z,hbo] at e1;rw [<- ma e1,B6] at e2;cases e2),hbP,hbo,B4,B5,B6⟩
 cases hf:codeAmong pos ps.toList with
 | some cv=>
  obtain⟨c', ψ,rfl,e2,e3⟩:=k pos cv hf;refine kla_makeFunctionHit hcl I.ok.glob hg hcode C hPg ht hf hb fun ctv h' tk hk hsz=>?_;have I1:Inv X pins σ H {s with heap:=h',toks:=tk}:=I.kept (t':=tk) hk;have hn:H h'.objs.size=none:=I1.hok.fresh (gv _);have I2:=I1.laid (t':=tk) (a:=h'.objs.size) (o:=.ext fun g=>g.get? h'.objs.size=some (kla_obj "<lambda>" q params body scope [] ((X.mg "__name__").getD .none) c' ctv)) (h':=h'.push (kla_obj "<lambda>" q params body scope [] ((X.mg "__name__").getD .none) c' ctv))
   (fun b u z=>gc _ z) (gv _) ⟨gj _ rfl,⟨_,gj _ rfl⟩,fun h1 h2 z1 z2=>z2 _ z1⟩
  exact h _ c' _ ψ ctv _ _ _ I2 (Grow.own st.s hn) qz ((Kept.new hn).ext _ _ e2) (fun g z=>z) e3
 | none=>
  refine kla_makeFunction hcl I.ok.glob hg hcode C hPg ht hf hgP hb fun c' ctv h' tk hx hge hlt hrec htb=>?_;have hnc:H c'=none:=I.hok.fresh hge;have hcP:c'≠P:=fun z=>by rw [z,e] at hnc;cases hnc
  have nP:∀b o,H b=some o->(∀ps,o ≠ .tbl ps)->b≠P:=fun b o z n y=>by rw [y,e] at z;exact n _ (ma z).symm
  have nP':∀b,H b=none->b≠P:=fun b z y=>by rw [y,e] at z;cases z
  have nc:∀b o,H b=some o->b≠c':=fun b o z y=>by rw [y,hnc] at z;cases z
  have ncs:∀b o,s.heap.get? b=some o->b≠c':=fun b o z y=>absurd (gz z) (by rw [y];exact g60.mpr hge)
  let H1:Hp:=upd (upd H P (.tbl (ps ++ #[rawInt pos.line,rawInt pos.col,.ref c']))) c' (.ext fun g=>g.CodeRec (.ref c') q)
  have a1:∀b,b≠P->b≠c'->H1 b=H b:=fun b z1 z2=>by show upd (upd H P _) c' _ b=_;rw [qo z2,qo z1]
  have a2:H1 P=some (.tbl (ps ++ #[rawInt pos.line,rawInt pos.col,.ref c'])):=by show upd (upd H P _) c' _ P=_;rw [qo (n9 hcP),qz]
  have a3:H1 c'=some (.ext fun g=>g.CodeRec (.ref c') q):=qz;have un:Un X.fs [] H H1 s.heap h':=⟨fun b o z n _ _=>hx b o (nP' b n) z,fun b o z n _ _=>⟨o.slots,hx b o (nP' b n) z⟩,fun b o z n _=>by rw [a1 b (nP' b n) (ncs b o z)];exact n,
   fun b o z _=>by
    by_cases y:b=P
    ·exact⟨_,by rw [y];exact htb⟩
    ·exact⟨o,hx b o y z⟩,fun b xs z=>by rw [a1 b (nP b _ z nofun) (nc b _ z)];exact z,fun b o' u z=>by rw [a1 b (nP b _ z nofun) (nc b _ z)];exact z,
   fun b ps' z=>by
    by_cases y:b=P
    ·subst y
     rw [e] at z;cases z;exact⟨_,a2⟩
    ·exact⟨#[],by rw [a1 b y (nc b _ z),z];simp⟩⟩
  have hok:HOk X.prog X.w H1 h':=fun b o z=>by
   by_cases y:b=P
   ·subst y
    rw [a2] at z;cases z;exact htb
   by_cases y2:b=c'
   ·subst y2
    rw [a3] at z;cases z;obtain⟨c2,oc,vs,t,e2,hoc,r⟩:=hrec;cases e2;exact⟨⟨_,oc,vs,t,rfl,hoc,r⟩,⟨_,hoc⟩,fun h1 h2 ⟨c3,o3,v3,t3,e3,h3,r3⟩ z2=>by cases e3;exact⟨_,o3,v3,t3,rfl,z2 _ h3,r3⟩⟩
   rw [a1 b y y2] at z;refine(I.hok b o z).stay (fun b' u hb' z'=>hx b' u ?_ z') (fun b' z'=>by rw [a1 b' (nP b' _ z' nofun) (nc b' _ z')];exact z') fun b' xs z'=>by rw [a1 b' (nP b' _ z' nofun) (nc b' _ z')];exact z'
   rcases hb' with z1|z1
   ·rw [z1];exact y
   ·exact nP b' _ z1 nofun
  have I1:Inv X pins σ H1 {s with heap:=h',toks:=tk}:=I.un (t':=tk) un hok;have hn:H1 h'.objs.size=none:=I1.hok.fresh (gv _);have I2:=I1.laid (t':=tk) (a:=h'.objs.size) (o:=.ext fun g=>g.get? h'.objs.size=some (kla_obj "<lambda>" q params body scope [] ((X.mg "__name__").getD .none) c' ctv)) (h':=h'.push (kla_obj "<lambda>" q params body scope [] ((X.mg "__name__").getD .none) c' ctv))
   (fun b u z=>gc _ z) (gv _) ⟨gj _ rfl,⟨_,gj _ rfl⟩,fun h1 h2 z1 z2=>z2 _ z1⟩
  have hfP:h'.objs.size≠P:=fun z=>by rw [z,a2] at hn;cases hn
  have kp:Kept H H1:=⟨fun b xs z=>by rw [a1 b (nP b _ z nofun) (nc b _ z)];exact z,fun b φ z=>by rw [a1 b (nP b _ z nofun) (nc b _ z)];exact z,fun {b} z=>by
    by_cases y:b=P
    ·subst y;rw [a2] at z;cases z
    by_cases y2:b=c'
    ·rw [y2];exact hnc
    rw [a1 b y y2] at z;exact z,fun t p hp=>by
    obtain⟨ps1,e1,t1,k1⟩:=t p hp
    by_cases y:p.1=P
    ·have e2:=hU p hp y
     rw [y,e] at e1;cases e1;rw [y];refine⟨_,a2,by simpa using TriplesOk_snoc pos.line pos.col (.ref c') ps.toList ht,fun pos' cv z=>?_⟩;rw [pj] at z;rcases qia ps.toList ht (by simpa using z) with z|z
     ·obtain⟨c2, φ,z1,z2,z3⟩:=k1 pos' cv z
      exact⟨c2, φ,z1,by rw [a1 c2 (nP _ _ z2 nofun) (nc _ _ z2)];exact z2,z3⟩
     ·exact⟨c',_,z,a3,fun g z=>by rw [e2];exact z⟩
    ·refine⟨ps1,by rw [a1 _ y (nc _ _ e1)];exact e1,t1,fun pos' cv z=>?_⟩
     obtain⟨c2, φ,z1,z2,z3⟩:=k1 pos' cv z;exact⟨c2, φ,z1,by rw [a1 c2 (nP _ _ z2 nofun) (nc _ _ z2)];exact z2,z3⟩,fun b φ z=>by rw [a1 b (nP b _ z nofun) (nc b _ z)];exact z⟩
  have g1:Grow F H F H1:=⟨.refl _,kp,fun b o z=>by
    have y:b≠P:=fun y=>by have:=st.f _ hP;rw [show b=P from y] at z;rw [z] at this;cases this
    rw [a1 b y (nc b _ (st.s b o z))];exact st.s b o z,fun _ z=>.inl z⟩
  exact h _ c' _ _ ctv _ _ _ I2 (g1.trans (Grow.own g1.fh hn)) qz ((Kept.new hn).ext _ _ a3) (fun g z=>z) fun g z=>z
end
section
variable{X:Cx}{pins:List (Addr×Obj)}{σ : St}{F H:Hp}{s:Shared}
theorem qnf{e:Expr}{p kp pos lpos:Pos}{params:Arguments}{body:Expr}{scope:Scope}{k k':Nat}{c P:Addr}{q:Str}{N ps:List Str}{u:FE}{fa:FA}(hcode:X.env.code=.ref c)(hd:codeHdIn X.K c P=true)(hP:(P,q)∈Lam.tab)
  (hU:∀p∈Lam.tab,p.1=P->p.2=q) (B:q2k X.mg X.base) (hr:Room k' X.A) (hgs:Gl X "sorted") (hms:X.mg "sorted" = none) (ha:PA X [e] (tDA X.K fa)) (S:FnScope N ps scope)
  (hb:∀(f c':Addr) (A:Around) (outer:List Env) (s:Shared) (H:Hp) (E:XK),Room k (A.deeper (envOfC q scope s.heap.objs.size f (.ref c')))->PE (zj CX0 X.prog X.w X.K X.mg X.base N q scope f (.ref c') A outer s H E).nox body (tD X.K u))
  (hbd:∀(pm cdv ct:Value) (us:List Value),us.length=ps.length->bindArgs (kla_fn "<lambda>" q params body scope [] pm cdv ct) ⟨us,[]⟩=pure (ps.zip us)) (hk:k+3<=k') (h1:ps.length=1)
  (hq:X.env.qual++"<lambda>" = q:=by rfl) (hdef:defaultsOf params X.env=([],[]):=by rfl) (hcl:closureFor scope X.env=pure []:=by rfl) (he:backTo pos (starEach [e] X.env)=(false,eval e X.env) :: backTo pos (starEach [] X.env):=by rfl)
  (hpl:(backTo pos (starEach [e] X.env)).any (·.1)=false:=by rfl):PE X (.Call (.Name "sorted" p) [e] [⟨some "key",.Lambda params body scope lpos,kp⟩] pos) (tL X.K (q9a (q0p (z9 N.length (zd u))) fa)):=by
 intro pins s σ H Q I h;obtain⟨F0,H0,F, ρ,ds,r,hf,q'⟩:=h;obtain⟨es,h3,h2⟩:=gd.mp hf;unfold q0p at h2
 split at h2
 ·rename_i d
  refine g14 (q06 I hgs hms boot_sorted ?_ (by decide) (by decide));refine callWith_kw (thn (ha pos pins s σ H (fun vs H1=>∃F1,Grow F H F1 H1/\RepL X.K F1 [d] vs) I ⟨F0,H0,F, ρ,[d],r,h3,fun vs F1 H1 g1 r1=>⟨F1,g1,r1⟩⟩) fun us s1 ⟨vs,H1,I1,rv,F1,g1,r1⟩=>?_) he hpl rfl rfl;refine kws_cons (qne hcode hd hP hU hq B hdef hcl I1 (r.sameT g1) fun f c' φ ψ ct pm s2 H2 I2 g2 hf' hc' hφ hψ =>kws_nil ?_);obtain⟨x,rfl,rx⟩:=rep1 r1;obtain⟨v,rfl,ru⟩:=vals1 rv;cases d <;> simp only [ky] at h2 <;> first|(cases h2;done)|skip
  rename_i ds';obtain⟨a,ys,rfl,_⟩:=rep_lst.mp rx;cases ru;exact qbm (qtk hφ hψ S (hb f c')) (fun F' H' dv kd x Q' g' rx' hk' q''=>⟨g'.hh.ext _ _ hf',g'.hh.ext _ _ hc',F',[dv],kd,((r.sameT g1).grow g2).grow g',.cons rx' .nil,h1.symm,hk',q''⟩) (.all (hbd pm _ ct)) hr (by omega) I2 g2.fh (rx.mono g2.ff) (by simp only [ky];exact h2)
   fun a ys F3 H3 g3 k1 k2 k3 k4=>q' a ys F3 H3 (g1.trans (g2.trans g3)) k1 (g1.hh.free (g2.hh.free k2)) k3 k4
 ·cases h2
end
structure Fun3(K:Frag)(x qual:Str)(st:Stmt)(dV:Value)(f:Addr)(fd:FuncData)(c P:Addr): Prop where
 ex:∃(oc:Value) (od:Option Addr) (kV doc pm:Value) (an:Option Addr) (ct:Value) (osl:Array (Option Value)),
  fd=PySem.W.fnOf x qual (vz st) (qp st) (qc st) dV kV doc pm an (.ref c) ct/\K.lookup f=some ⟨oc,od,.func fd,osl⟩/\PySem.W.codeIn K (.ref c) qual=true
 hd:codeHdIn K c P=true
 kp:PySem.W.keepIn K (.ref f)=true
section
variable{P:Program}{w:World}{K:Frag}{mg:Str->Option Value}{base:Heap}{x qual:Str}{st:Stmt}{dV:Value}{f c T:Addr}{fd:FuncData}{N ps:List Str}
theorem Fun3.okn{k n ar k1:Nat}{u:FS}(F:Fun3 K x qual st dV f fd c T)(S:FnScope N ps (qc st))(hn:N.length=n)(ha:ps.length=ar)(hk:k+1=k1)
  (hb:∀(A:Around) (outer:List Env) (s:Shared) (H:Hp) (E:XK),Room k (A.deeper (envOfC qual (qc st) s.heap.objs.size f (.ref c)))->PSs (zj CX0 P w K mg base N qual (qc st) f (.ref c) A outer s H E).nox (qp st) (tDS K u)) :
  FnOk P w K mg base CX0 k1 f fd ps (spD K ar (z9 n u)):=by
 subst hn ha hk;obtain⟨oc,od,kV,doc,pm,an,ct,osl,rfl,lk,hcd⟩:=F.ex;exact qoy lk hcd S fun A outer s H E hr=>hb A outer s H E hr
theorem qqj{oc:Value}{od an:Option Addr}{osl:Array (Option Value)}{kV doc pm ct:Value}(l:K.lookup f=some ⟨oc,od,.func (PySem.W.fnOf x qual (vz st) (qp st) (qc st) dV kV doc pm an (.ref c) ct),osl⟩)
  (cd:PySem.W.codeIn K (.ref c) qual=true) (hd:codeHdIn K c T=true) (k:PySem.W.keepIn K (.ref f)=true):Fun3 K x qual st dV f (PySem.W.fnOf x qual (vz st) (qp st) (qc st) dV kV doc pm an (.ref c) ct) c T:=⟨⟨oc,od,kV,doc,pm,an,ct,osl,rfl,l,cd⟩,hd,k⟩
theorem Fun3.bindsTo(F:Fun3 K x qual st dV f fd c T){P:FuncData->Prop}(h:∀(kV doc pm:Value) (an:Option Addr) (cdv ct:Value),P (PySem.W.fnOf x qual (vz st) (qp st) (qc st) dV kV doc pm an cdv ct)): P fd:=by
 obtain⟨oc,od,kV,doc,pm,an,ct,osl,rfl,lk,hcd⟩:=F.ex;exact h kV doc pm an _ ct
end
theorem qko{P:Program}{w:World}{K:Frag}{mg mb:Str->Option Value}{k:Nat}{fa a:Addr}{fd:FuncData}{x:Str}{s₁:Shared}{vs:List Value}{ns:List Int}{tabs:List (Addr×Addr)}(hT:TabsAt tabs s₁.heap)(hL:∀p∈Lam.tab,p.1∈tabs.map (·.2))(hKT:∀p∈tabs,K.lookup p.2=none)
  (KX:K.In s₁.heap) (hns:s₁.heap.Ns mainGlobals mg) (hb:s₁.heap.Ns builtinsNs mb) (hbb:∀x:Str,x≠"__name__" -> mb x=bootBuiltins x) (hlim:s₁.heap.NoLimit) (hg:s₁.gens = #[])
  (ha:s₁.heap.get? a=some {cls:=.type "list",data:=.seq vs.toArray}) (hi:IntsAre vs ns) (hl:ns.length<=63) (hr:Room k callerA)
  (hB:q2k mg s₁.heap) (Fn:∀base:Heap,K.In base->base.Ns mainGlobals mg->q2k mg base->FnOk P w K mg base CX0 k fa fd [x] (qcs K)) (hbind:∀(s:Shared) (u:Value),BindsTo s fd ⟨[u],[]⟩ [(x,u)]) :
  codeAny (model P w) callerA (.call (.ref fa) ⟨[.ref a],[]⟩) (fun r s'=>r=.ok (.ret (.bool true))/\OldK s₁.heap s'.heap/\s'.os=s₁.os/\AllBare s'.gens) s₁:=by
 have rv:=q1z hi;have lenV:=hi.length;have aT:a∉tabs.map (·.2):=fun z=>by
  obtain⟨p,hp,e⟩:=ny.mp z;have e1:=(hT p hp).2;rw [e,ha] at e1;cases e1
 let G:Hp:=fun b=>if b=a/\K.lookup a=none then some (.frz {cls:=.type "list",data:=.seq vs.toArray} (.lst (ns.map V.int))) else none
 let H:Hp:=fun b=>if b∈tabs.map (·.2) then some (.tbl #[]) else G b
 have hG:∀b o,G b=some o->b=a/\K.lookup a=none/\o=.frz {cls:=.type "list",data:=.seq vs.toArray} (.lst (ns.map V.int)):=fun b o z=>by
  by_cases y:b=a/\K.lookup a=none
  ·exact⟨y.1,y.2,(ma ((mh y).symm.trans z)).symm⟩
  ·have:=(mi y).symm.trans z;cases this
 have hH1:∀b,b∈tabs.map (·.2)->H b=some (.tbl #[]):=fun b z=>mh z;have hH2:∀b,b∉tabs.map (·.2)->H b=G b:=fun b z=>mi z;have tabAt:∀b,b∈tabs.map (·.2)->∃c,CodeHd s₁.heap c b/\s₁.heap.get? b=some (tabObj #[])/\K.lookup b=none:=fun b z=>by
  obtain⟨p,hp,rfl⟩:=ny.mp z;exact⟨p.1,(hT p hp).1,(hT p hp).2,hKT p hp⟩
 have gH:Same G H:=fun b o z=>by
  obtain⟨rfl,_,_⟩:=hG b o z;rw [hH2 _ aT];exact z
 have hok:HOk P w H s₁.heap:=fun b u z=>by
  by_cases y:b∈tabs.map (·.2)
  ·rw [hH1 b y] at z
   cases z;exact(tabAt b y).elim fun c z=>z.2.1
  ·rw [hH2 b y] at z
   obtain⟨rfl,_,rfl⟩:=hG b u z;exact⟨ha,by rw [mn];exact md hl (by decide),vs,_,rv,ha⟩
 have base_of:∀ {b:Addr} {o:Obj},s₁.heap.get? b=some o->H b=none->(q3u s₁.heap H).get? b=some o:=fun e n=>qlv e n;have noA:∀ {b:Addr} {o:Obj} {es:Array DictEntry} {ep:Nat},s₁.heap.get? b=some o->o.data=.dict es ep->H b=none:=fun {b o es ep} e d=>by
  by_cases y:b∈tabs.map (·.2)
  ·obtain⟨c,_,e1,_⟩:=tabAt b y
   rw [e] at e1;rw [ma e1] at d;cases d
  ·rw [hH2 b y]
   cases q:G b with
   | none=>rfl
   | some u=>
    obtain⟨rfl,_,_⟩:=hG b u q;rw [ha] at e;rw [<- ma e] at d;cases d
 have nsK:∀ {b:Addr} {m:Str->Option Value},s₁.heap.Ns b m->(q3u s₁.heap H).Ns b m:=fun {b m} ⟨o,es,ep,e,d,r⟩=>⟨o,es,ep,base_of e (noA e d),d,r⟩
 have hKb:K.In (q3u s₁.heap H):=fun b o e=>base_of (KX b o e) (by
  by_cases y:b∈tabs.map (·.2)
  ·obtain⟨c,_,_,e1⟩:=tabAt b y
   rw [e1] at e;cases e
  ·rw [hH2 b y]
   cases q:G b with
   | none=>rfl
   | some u=>
    obtain⟨rfl,e1,_⟩:=hG b u q;rw [e1] at e;cases e)
 have hM:Mod K mg (q3u s₁.heap H):=⟨hKb,nsK hns,⟨mb,nsK hb,hbb⟩,let⟨mc,h1,h2⟩:=hlim; ⟨mc,nsK h1,h2⟩⟩
 have e0:Env0 P w K mg (q3u s₁.heap H) callerA [] s₁ H:=⟨rfl,hM,fun b o e=>qp8 e,g65 (qj8 _ _),trivial,fun b hb=>absurd (show b∈([]:List Addr) from hb) (by simp),hok,.of_eq hg⟩
 have hS:SqL K G a (ns.map V.int):=by
  cases hk:K.lookup a with
  | some o=>
   have e:=KX a o hk;rw [ha] at e;cases e;exact .inr ⟨_,vs.toArray,_,hk,rfl,rfl,rfl,by rw [gm,lenV];exact md hl (by decide),by simpa using rv⟩
  | none=>exact .inl (.inr ⟨{cls:=.type "list",data:=.seq vs.toArray},mh ⟨rfl,hk⟩⟩)
 have sT:SameT G H:=⟨gH,fun p hp=>⟨#[],hH1 _ (hL p hp),trivial,fun pos cv z=>by simp [codeAmong] at z⟩,fun p hp=>by
  cases q:G p.1 with
  | none=>rfl
  | some u=>
   obtain⟨e,_,_⟩:=hG _ u q;exact absurd (e ▸ hL p hp) aT⟩
 have hBb:q2k mg (q3u s₁.heap H):=by
  obtain⟨bm,ob,B1,B2,B3,B4,B5,B6⟩:=hB;refine⟨bm,ob,B1,B2,base_of B3 ?_,B4,B5,B6⟩
  by_cases y:bm∈tabs.map (·.2)
  ·obtain⟨c,_,e1,_⟩:=tabAt bm y
   rw [B3] at e1;rw [ma e1] at B4;cases B4
  ·rw [hH2 bm y]
   cases q:G bm with
   | none=>rfl
   | some u=>
    obtain⟨rfl,_,_⟩:=hG bm u q;rw [ha] at B3;rw [<- ma B3] at B6;cases B6
 refine g2p ((Fn _ hKb (nsK hns) hBb).run callerA [] s₁ H ⟨[.ref a],[]⟩ [.ref a] [.ref a] (fun v _=>v=.bl true) E0 hr e0 (hbind s₁ (.ref a)) (.cons rfl .nil) ⟨a,ns,G,rfl,sT,hS,hl,fun _=>rfl⟩) fun r s' h=>?_;cases r with
 | error e=>exact h.elim
 | ok fl=>
  cases fl with
  | next=>exact False.elim h
  | brk=>exact False.elim h
  | cont=>exact False.elim h
  | ret u=>
   obtain⟨v,H',os,bare,un,hok',r',q⟩:=h;have q':v=.bl true:=q;subst q';obtain rfl:u=Value.bool true:=r';have tab':∀b,b∈tabs.map (·.2)->∃more,s'.heap.get? b=some (tabObj (#[]++more)):=fun b y=>by
    obtain⟨more,e⟩:=un.tbls b #[] (hH1 b y);exact⟨more,hok' b _ e⟩
   have keep:∀b o,b∉tabs.map (·.2)->s₁.heap.get? b=some o->s'.heap.get? b=some o:=fun b o y e=>by
    cases q:H b with
    | none=>exact un.keep b o e q (by intro z;exact absurd (show b∈([]:List Addr) from z) (by simp)) (by simp)
    | some u=>
     have q2:=q;rw [hH2 b y] at q2;obtain⟨rfl,_,rfl⟩:=hG b u q2;obtain⟨e2,_⟩:=hok' _ _ (un.frzs _ _ _ q);rw [ha] at e;rw [<- ma e];exact e2
   refine⟨rfl,⟨fun b o e=>?_,fun b o e=>?_⟩,os,bare⟩
   ·by_cases y:b∈tabs.map (·.2)
    ·obtain⟨c,C,e1,_⟩:=tabAt b y
     rw [e] at e1;obtain rfl:=ma e1;obtain⟨more,e2⟩:=tab' b y;exact .inr (.inl ⟨(C.tab e).isCodeTable,rfl, #[],more,rfl,e2⟩)
    ·exact .inl (keep b o y e)
   ·by_cases y:b∈tabs.map (·.2)
    ·obtain⟨more,e2⟩:=tab' b y
     exact⟨_,e2⟩
    ·exact⟨o,keep b o y e⟩
omit [Lam] in
theorem qqk{l:PySem.W.OpenLaw}{k:Nat}{x:Str}{q:Program}{loose:List Str}{XP:(Str->Option Value)->Heap->Prop}{YP:World->Heap->Prop}{d:DefRec}{K:Params->Frag}(hn:l.most=some 63)(hdf:d.params.defaults=[])(hk:Room k callerA)
  (hY:∀(w:World) (h:Heap),YP w h->(K w.params).In h)
  (F:∀(w:World) (mg:Str->Option Value) (fa:Addr) (h:Heap),(K w.params).In h->h.Ns mainGlobals mg->mg d.name=some (.ref fa) ->
   ∃(L:Lam) (tabs:List (Addr×Addr)) (fd:FuncData),(∀p∈L.tab,p.1∈tabs.map (·.2))/\(∀p∈tabs,(K w.params).lookup p.2=none/\∃y:Str,((recsOf q).find? (fun e=>e.name==y)).isSome=true/\tabIn (K w.params) y=some p) /\
    (∀(s:Shared) (u:Value),BindsTo s fd ⟨[u],[]⟩ [(x,u)])/\∀base:Heap,(K w.params).In base->base.Ns mainGlobals mg->q2k mg base->FnOk l.prog w (K w.params) mg base CX0 k fa fd [x] (qcs (K w.params))) :
  PySem.W.WalkO q loose XP YP l.row.toRowW d [] (fun f vs=>PySem.call f vs):=by
 refine Att.attach_call hn hdf fun w s₀ s₁ mg mb fa o pm cd doc a vs ns G Y ho hd hcd hmg hobj hints hlen hg=>?_;have KX:=hY w _ Y;obtain⟨L,tabs,fd,hL,hT,hb,hF⟩:=F w mg fa _ KX G.T.g hmg;refine qko (tabs:=tabs) (fun p hp=>?_) hL (fun p hp=>(hT p hp).1) KX G.T.g G.T.b G.T.builtins G.T.nolimit hg hobj hints hlen hk (let⟨bm,ob,b1,b2,b3,b4,b5,b6⟩:=G.T.bmain; ⟨bm,ob,b1,b2,b3,b4,b5,b6⟩) hF hb;obtain⟨_,y,e1,e2⟩:=hT p hp;obtain⟨d',e3⟩:=g0q.mp e1;exact tab_of G.T KX e3 e2
end DL
namespace Srt
end Srt
namespace DL
open PySem PySem.Spec PyProof.Rows L2 Srt PySem.W
variable[Lam]
set_option maxRecDepth 8000 in
omit [Lam] in
theorem qng(l:Addr)(items:Array Value)(n:Nat)(b:Addr)(items2:Array Value)(n2:Nat)(sl:Array (Option Value))(hc0:¬(!items.isEmpty&&Builtin.List.listTooLong (items.size+items2.size))=true)(hc1:items.size<=sizeLine)(hs2:items.size+items2.size<=sizeLine+1):
  Meets (Builtin.«list.extend» ⟨[.ref l,.ref b],[]⟩) (fun _ R s=>s.heap.get? l=some {cls:=.type "list",dict:=none,data:=.seq items n,slots:= #[]}/\s.heap.get? b=some {cls:=.type "list",dict:=none,data:=.seq items2 n2,slots:=sl} /\
   R (.ok (.ret Value.none)) {s with heap:=s.heap.update l (Obj.mapSeq fun x=>x++items2),toks:=s.toks}):=
 .of_wp fun prog w A R s h=>by
  obtain⟨hp,g,d,tk,os⟩:=s;obtain⟨hl,hb,h⟩:=h;have hz':(items++items2).size<=sizeLine+1:=by rw [Array.size_append];exact hs2
  have f3:=sub_list_list
  wp_walk using(g3x hl rfl (hz:=hc1) (_hz':=hz')),g2l hl,g2l hb
  exact⟨_,rfl,h⟩
section
variable{X:Cx}
omit [Lam] in
theorem qql:MtM X "list.extend" (fun x vs H Q=>∃l b xs zs,x=.ref l/\vs=[.ref b]/\H l=some (.lst xs)/\SqL X.K H b zs/\xs.length+zs.length<=sizeLine/\Q .non (upd H l (.lst (xs++zs)))):=by
 intro pins s σ H x vs v us Q I rx rv h;obtain⟨l,b,xs,zs,rfl,rfl,hH,hB,hz,q⟩:=h;cases rx;obtain⟨u,rfl,ru⟩:=rv.one;cases ru;obtain⟨z,its,n,r,hl,e⟩:=I.lstM hH;obtain⟨its2,r2,⟨o,n2,e2,c1,c2,c3⟩,hl2⟩:=I.list hB;obtain⟨oc,od,oda,osl⟩:=o;dsimp only at c1 c2 c3;subst c1 c2 c3;have hl1:=r.length;have hl3:=r2.length;have hsz:its.toArray.size+its2.toArray.size<=sizeLine:=by rw [gm,gm];lia
 have hlong:¬(!its.toArray.isEmpty&&Builtin.List.listTooLong (its.toArray.size+its2.toArray.size))=true:=by
  rw [qm9 hsz,Bool.and_false];exact m5
 refine g3p F.slot_list_extend ⟨_,e,rfl⟩ F.entry_list_extend (F.args_list_extend_2 _ _)
  (qng l its.toArray n b its2.toArray n2 osl hlong (by rw [gm];lia) (by lia)) ⟨e,e2,?_⟩
 refine⟨.non,_,I.lset (its':=its++its2) hH e (by simp) (r.append r2) ?_,rfl,q⟩;rw [pf];lia
def qnh(i:Nat)(f:FE): FS:=fun ρ =>(q82 i ρ).bind fun ds=>(f ρ).bind fun d=>match d with
 | .lst es=>if ds.length+es.length<=lim then some (.nx, ρ.set i (some (.ow (ds++es)))) else none
 | _=>none
theorem qtl{i:Nat}{x:Str}{e:Expr}{f:FE}{px apos cpos pos:Pos}(hv:PE X (.Name x px) (qcw i))(he:PE X e (tD X.K f))
  (hbase:attributeBase (.Name x px) "extend" X.env (eval (.Name x px) X.env)=eval (.Name x px) X.env:=by rfl)
  (hfew:((backTo cpos (starEach [e] X.env)).all (fun x=> !x.1)&&(backToKw cpos (keywordEach [] X.env)).all (fun x=>x.1.isSome)&&decide ([e].length+([]:List Keyword).length+(if([]:List Keyword).isEmpty then 0 else 1)<30))=true:=by rfl)
  (hline:(apos.endLine==cpos.line)=true:=by rfl) (hse:starEach [e] X.env=(false,eval e X.env) :: starEach [] X.env:=by rfl)
  (hs:swapsWith (.Call (.Attribute (.Name x px) "extend" apos) [e] [] cpos) none pos.line X.env=pure false:=by rfl):PS X (.Expr (.Call (.Attribute (.Name x px) "extend" apos) [e] [] cpos) pos) (tDS X.K (qnh i f)):=
 q0u (qgq (qou g5c PySem.F.slot_list_extend PySem.F.type_list_extend qql hv (q0l he q2u hse) hbase hfew hline hse rfl) hs) fun D σ H ⟨F0,H0,F, ρ,fl, ρ',r,hf,q⟩=>by
  obtain⟨ds,h1,hf⟩:=gd.mp hf;obtain⟨d,h2,h3⟩:=gd.mp hf;have h1:=qbd h1;cases d <;> simp only at h3 <;> first|(cases h3;done)|skip
  rename_i es
  split at h3
  ·rename_i hl
   cases h3;obtain⟨a,xs,e1,e2,e3,e4,e5⟩:=r.ow i ds h1;refine⟨.ref a,e1,.inl ⟨rfl,xs,SqL.of e2⟩,F0,H0,F, ρ,_,r,h2,fun v F' H' g' r'=>?_⟩;have r2:=r.grow g';obtain⟨b,zs,rfl,k1,k2⟩:=rep_lst.mp r';refine⟨a,b,xs,zs,rfl,rfl,g'.hh.lst _ _ e2,g'.fh.seq k1,md (by rw [<- e5.length, <- k2.length];exact hl) (by decide),?_⟩;exact q _ F' _ g'.ff (r2.wrt h1 e1 ((e5.mono g'.ff).append k2))
  ·cases h3
end
end DL
namespace Js
open PySem
theorem qib(A B:List Nat)(j:Nat)(hA:∀x∈A,x<j)(hB:∀x∈B,j<=x): ∀fuel lo hi,lo<=A.length->A.length<=hi->hi<=A.length+B.length->hi-lo<=fuel ->
  SetTable.below.go (A++B).toArray j fuel lo hi=A.length
 | 0,lo,hi,h1,h2,_,h3=>by unfold SetTable.below.go;lia
 | fuel+1,lo,hi,h1,h2,h4,h3=>by
  unfold SetTable.below.go
  by_cases c:lo<hi
  ·rw [mh c]
   show(if(A++B).toArray.getD ((lo+hi) / 2) j<j then _ else _)=_;have hm:(lo+hi) / 2<hi:=by lia
   have hm2:lo<=(lo+hi) / 2:=by lia
   by_cases d:(lo+hi) / 2<A.length
   ·have e:(A++B).toArray.getD ((lo+hi) / 2) j=A[(lo+hi) / 2]:=by
     simp [Array.getD,g58 d];lia
    rw [e,mh (hA _ (g3j d))];exact qib A B j hA hB fuel _ _ (by lia) h2 h4 (by lia)
   ·have hb:(lo+hi) / 2-A.length<B.length:=by lia
    have e:(A++B).toArray.getD ((lo+hi) / 2) j=B[(lo+hi) / 2-A.length]:=by
     have hlt:(lo+hi) / 2<A.length+B.length:=by lia
     simp [Array.getD,g4x (Nat.le_of_not_lt d),hlt]
    rw [e,mi (g60.mpr (hB _ (g3j hb)))];exact qib A B j hA hB fuel _ _ h1 (by lia) (by lia) (by lia)
  ·rw [mi c];lia
theorem below_at{A B:List Nat}{j:Nat}(hA:∀x∈A,x<j)(hB:∀x∈B,j<=x): SetTable.below (A++B).toArray j=A.length:=by
 unfold SetTable.below;exact qib A B j hA hB _ 0 _ (uj _) (by simp) (by simp) (by simp)
theorem cut(j:Nat): ∀l:List Nat,l.Pairwise (· < ·)->∃A B,l=A++B/\(∀x∈A,x<j)/\(∀x∈B,j<=x)
 | [],_=>⟨[],[],rfl,by simp,by simp⟩
 | x :: l,h=>by
  by_cases c:x<j
  ·obtain⟨A,B,e,a,b⟩:=cut j l (g17.mp h).2
   exact⟨x :: A,B,by rw [e];rfl,by intro y hy;rcases mf.mp hy with rfl|hy;exact c;exact a y hy,b⟩
  ·exact⟨[],x :: l,rfl,by simp,by
    intro y hy;rcases mf.mp hy with rfl|hy
    ·lia
    ·have:=(g17.mp h).1 y hy;lia⟩
theorem q7m{α : Type}(A B:List α)(x : α): SetTable.insertAt (A++B).toArray A.length x=(A++x :: B).toArray:=by
 unfold SetTable.insertAt;apply Array.ext';simp
theorem has_none(j:Nat): SetTable.has #[] j=false:=by unfold SetTable.has;simp
theorem qe1{t:SetTable}{l:List Nat}{j:Nat}(ep:t.place=l.toArray)(ed:t.dummies = #[])(hr:l.Pairwise (· < ·))(h:j∉l): t.slot j=.empty:=by
 obtain⟨A,B,rfl,hA,hB⟩:=cut j l hr;unfold SetTable.slot;rw [ep,ed,below_at hA hB,has_none];have:((A++B).toArray[A.length]? == some j)=false:=by
  cases B with
  | nil=>simp
  | cons b B=>
   have:b≠j:=fun e=>h (by simp [e]);simp [this]
 simp only [this];rfl
theorem qqm{t:SetTable}{l:List Nat}{j:Nat}(ep:t.place=l.toArray)(ed:t.dummies = #[])(hr:l.Pairwise (· < ·))(h:j∈l): ∃i,t.slot j=.live i:=by
 obtain⟨A,B,rfl,hA,hB⟩:=cut j l hr;unfold SetTable.slot;rw [ep,below_at hA hB];have:((A++B).toArray[A.length]? == some j)=true:=by
  rcases nt.mp h with h|h
  ·have:=hA j h;lia
  ·cases B with
   | nil=>simp at h
   | cons b B=>
    have hb:=hB b (gq ..);have:b=j:=by
     rcases mf.mp h with rfl|h
     ·rfl
     ·have:=(g17.mp (nv.mp hr).2.1).1 j h;lia
    simp [this]
 simp only [this, ↓reduceIte];exact⟨_,rfl⟩
def orb:Nat->Nat->Nat
 | 0,i=>i
 | d+1,i=>orb d ((i*5+1)%8)
theorem qqn:∀i<8,∀j<8,∃d<8,orb d i=j:=by decide
theorem qvx{t:SetTable}(hm:t.mask=7){i pt:Nat}(hp:pt<32)(hi:i<8): t.advance {j:=i,more:=0,i:=i,perturb:=pt,dummy:=none} = {j:=(i*5+1)%8,more:=0,i:=(i*5+1)%8,perturb:=0,dummy:=none}:=by
 have e0:pt / 32=0:=by lia
 have e1:SetTable.runEnd 7 ((i*5+1)%8)=(i*5+1)%8:=by unfold SetTable.runEnd;rw [mi (by lia)]
 unfold SetTable.advance;rw [mi (by simp),hm];unfold SetTable.leap;simp only [e0,Nat.add_zero];show({j:=(i*5+1)%8,more:=SetTable.runEnd 7 ((i*5+1)%8)-(i*5+1)%8,i:=(i*5+1)%8,perturb:=0,dummy:=none}:SetTable.Probe)=_;rw [e1,Nat.sub_self]
theorem go7{t:SetTable}{l:List Nat}{h:Int}(ep:t.place=l.toArray)(ed:t.dummies = #[])(hr:l.Pairwise (· < ·))(hm:t.mask=7): ∀(k:Nat) (i pt:Nat),pt<32->i<8->(∃d<k,orb d i∉l) ->
  ∃j,SetTable.probe.go t (fun _=>h+1) h k {j:=i,more:=0,i:=i,perturb:=pt,dummy:=none}=some (.empty j none)/\j∉l/\j<8
 | 0,i,pt,_,_,⟨d,hd,_⟩=>by lia
 | k+1,i,pt,hp,hi,⟨d,hd,hn⟩=>by
  unfold SetTable.probe.go
  by_cases c:i∈l
  ·obtain⟨x,e⟩:=qqm ep ed hr c
   have hne:(h+1==h)=false:=by simp;lia
   simp only [e,hne,gr, ↓reduceIte];rw [qvx hm hp hi];refine go7 ep ed hr hm k _ 0 (by lia) (Nat.mod_lt _ (by lia)) ?_;cases d with
   | zero=>exact absurd c hn
   | succ d=>exact⟨d,by lia,hn⟩
  ·simp only [qe1 ep ed hr c]
   exact⟨i,rfl,c,hi⟩
theorem q88{α : Type}[DecidableEq α]: ∀ {a l:List α},a.Nodup->a ⊆ l->a.length<=l.length
 | [],_,_,_=>by simp
 | x :: a,l,hn,hs=>by
  have hx:x∈l:=hs (gq ..);have h2:a ⊆ l.erase x:=fun y hy=>(List.mem_erase_of_ne (fun e:y=x=>(g0p.mp hn).1 (e ▸ hy))).mpr (hs (gu _ hy));have:=q88 (g0p.mp hn).2 h2;rw [List.length_erase_of_mem hx] at this;have:0<l.length:=g5r hx;simp only [pz];lia
theorem qic:∀(l:List Nat),(∀j<8,j∈l)->8<=l.length:=by
 intro l h;have:(List.range 8) ⊆ l:=fun j hj=>h j (uk.mp hj);have h2:=q88 g1r this
 simpa using h2
theorem qv1{t:SetTable}{l:List Nat}{n:Nat}(ep:t.place=l.toArray)(ed:t.dummies = #[])(hr:l.Pairwise (· < ·))(hm:t.mask=7)(hl:l.length<8)(hn:n<12):
  ∃j,t.freeSlot (n:Int)=some (j,false)/\j∉l/\j<8:=by
 have hb:SetTable.bits (n:Int)=n:=by unfold SetTable.bits;lia
 have hi:n%8<8:=Nat.mod_lt _ (by lia);have hex:∃d<10*SetTable.turns t.mask,orb d (n%8)∉l:=by
  have:∃j,j<8/\j∉l:=g1l fun c=>by
   have:=qic l (fun j hj=>g1l fun d=>c ⟨j,hj,d⟩);lia
  obtain⟨j,hj,hnj⟩:=this;obtain⟨d,hd,e⟩:=qqn _ hi j hj;refine⟨d,?_,by rw [e];exact hnj⟩;rw [hm];unfold SetTable.turns;lia
 have hst:t.probeStart (n:Int) = {j:=n%8,more:=0,i:=n%8,perturb:=n,dummy:=none}:=by
  unfold SetTable.probeStart;rw [hb,hm];have e1:SetTable.runEnd 7 (n%(7+1))=n%8:=by unfold SetTable.runEnd;rw [mi (by lia)]
  simp only [e1];simp
 obtain⟨j,e,h1,h2⟩:=go7 (h:=(n:Int)) ep ed hr hm (10*SetTable.turns t.mask) (n%8) n (by lia) hi hex;refine⟨j,?_,h1,h2⟩;unfold SetTable.freeSlot SetTable.probe;rw [hst,e]
 rfl
theorem qtm{t:SetTable}{l:List Nat}{n:Nat}(ep:t.place=l.toArray)(ed:t.dummies = #[])(hr:l.Pairwise (· < ·))(hm:15<=t.mask)(hn:n<12)(hnl:n∉l):
  t.freeSlot (n:Int)=some (n,false):=by
 have hb:SetTable.bits (n:Int)=n:=by unfold SetTable.bits;lia
 have hmod:n%(t.mask+1)=n:=Nat.mod_eq_of_lt (by lia);unfold SetTable.freeSlot SetTable.probe SetTable.probeStart;rw [hb];simp only [hmod];have:10*SetTable.turns t.mask=(10*SetTable.turns t.mask-1)+1:=by unfold SetTable.turns;lia
 rw [this];unfold SetTable.probe.go;simp only [qe1 ep ed hr hnl]
 rfl
def el(p:Nat×Nat): Int×Value:=((p.1:Int),.int (p.1:Int) p.2)
structure Tb(t:SetTable)(ks:List (Nat×Nat)): Prop where
 dm:t.dummies = #[]
 pl:t.plain=true
 nd:(ks.map Prod.fst).Nodup
 lt:∀p∈ks,p.1<12
 sz:t.place.toList.length=ks.length
 rs:t.place.toList.Pairwise (· < ·)
 mz:(t.mask=7/\(∀p∈t.place.toList,p<8))\/((t.mask=15\/t.mask=31\/t.mask=63)/\t.place.toList=ks.map Prod.fst)
theorem Tb.n12{t:SetTable}{ks:List (Nat×Nat)}(T:Tb t ks): ks.length<=12:=by
 have:=q88 (l:=List.range 12) T.nd (fun x hx=>by
  obtain⟨p,hp,rfl⟩:=ny.mp hx;exact uk.mpr (T.lt p hp))
 simpa using this
theorem Tb.fits{t:SetTable}{ks:List (Nat×Nat)}(T:Tb t ks)(h:t.mask=7->ks.length<8): t.fits ks.length=true:=by
 have h1:t.place.size=ks.length:=by rw [<- T.sz];simp
 have h2:=T.n12;unfold SetTable.fits SetTable.fill;rw [T.dm,h1];have:ks.length<=t.mask:=by
  rcases T.mz with⟨e,_⟩|⟨e,_⟩
  ·have:=h e;lia
  ·lia
 simp [this]
theorem toArr(a:Array Nat): a=a.toList.toArray:=by simp
theorem qtn{A B:List Nat}{j:Nat}(h:(A++B).Pairwise (· < ·))(hA:∀x∈A,x<j)(hB:∀x∈B,j<=x)(hj:j∉A++B): (A++j :: B).Pairwise (· < ·):=by
 have hB':∀x∈B,j<x:=fun x hx=>by
  have:=hB x hx;have:x≠j:=fun e=>hj (by rw [<- e];exact n8 _ hx);lia
 obtain⟨a,b,c⟩:=nv.mp h;refine nv.mpr ⟨a,g17.mpr ⟨hB',b⟩,fun x hx y hy=>?_⟩;rcases mf.mp hy with rfl|hy
 ·exact hA x hx
 ·exact c x hx y hy
theorem qni:∀ {l:List Nat},l.Pairwise (· < ·)->l.Nodup:=fun h=>List.Pairwise.imp (fun a=>m9 a) h
theorem lay{t:SetTable}{ks:List (Nat×Nat)}(T:Tb t ks){n k:Nat}(hn:n<12)(hnk:n∉ks.map Prod.fst)(h7:t.mask=7->ks.length<7):
  ∃t' ks',layNew t (ks.map el).toArray (n:Int) (.int (n:Int) k)=((ks'.map el).toArray,t',false,false)/\Tb t' ks'/\ks'.Perm ((n,k) :: ks)/\t'.mask=t.mask/\t'.led=t.led/\t'.finger=t.finger/\t'.moves=t.moves:=by
 have key:∃j,t.freeSlot (n:Int)=some (j,false)/\j∉t.place.toList/\((t.mask=7/\j<8)\/((t.mask=15\/t.mask=31\/t.mask=63)/\j=n)):=by
  rcases T.mz with⟨e,_⟩|⟨e,ep⟩
  ·obtain⟨j,h1,h2,h3⟩:=qv1 (n:=n) (toArr t.place) T.dm T.rs e (by rw [T.sz];have:=h7 e;lia) hn
   exact⟨j,h1,h2,.inl ⟨e,h3⟩⟩
  ·exact⟨n,qtm (toArr t.place) T.dm T.rs (by lia) hn (by rw [ep];exact hnk),by rw [ep];exact hnk,.inr ⟨e,rfl⟩⟩
 obtain⟨j,hf,hj,hm⟩:=key;obtain⟨A,B,eAB,hA,hB⟩:=cut j _ T.rs;have hp:t.place=(A++B).toArray:=by rw [<- eAB]
 have hbel:SetTable.below t.place j=A.length:=by rw [hp];exact below_at hA hB
 have hlen:A.length<=ks.length:=by have:=T.sz;rw [eAB,pf] at this;lia
 let ks':=ks.take A.length++(n,k) :: ks.drop A.length
 let t':SetTable:={t with place:=(A++j :: B).toArray,dummies:= #[]}
 have hput:t.put j=(t',A.length):=by
  unfold SetTable.put;simp only [hbel,T.dm,has_none,gr, ↓reduceIte];rw [hp,q7m]
 have hins:SetTable.insertAt (ks.map el).toArray A.length ((n:Int),Value.int (n:Int) k)=(ks'.map el).toArray:=by
  have e:ks.map el=(ks.take A.length).map el++(ks.drop A.length).map el:=by rw [<- g0a,nz]
  have el1:((ks.take A.length).map el).length=A.length:=by simp [hlen]
  have:=q7m ((ks.take A.length).map el) ((ks.drop A.length).map el) ((n:Int),Value.int (n:Int) k);rw [el1] at this;rw [e,this];simp [ks',el]
 have hperm:ks'.Perm ((n,k) :: ks):=by
  have:=@List.perm_middle _ (n,k) (ks.take A.length) (ks.drop A.length);rwa [nz] at this
 have hrs:(A++j :: B).Pairwise (· < ·):=qtn (by rw [<- eAB];exact T.rs) hA hB (by rw [<- eAB];exact hj);have T':Tb t' ks':=by
  refine⟨rfl,T.pl,?_,?_,?_,by simpa [t'] using hrs,?_⟩
  ·refine((hperm.map Prod.fst).nodup_iff).mpr ?_
   exact g0p.mpr ⟨hnk,T.nd⟩
  ·intro p hp
   rcases mf.mp (hperm.mem_iff.mp hp) with rfl|h
   ·exact hn
   ·exact T.lt p h
  ·rw [hperm.length_eq]
   have:=T.sz;rw [eAB] at this;simp only [pf] at this;simp [t'];lia
  ·rcases hm with⟨e,hj8⟩|⟨e,rfl⟩
   ·refine .inl ⟨e,fun p hp=>?_⟩
    have hp':p∈A++j :: B:=by simpa [t'] using hp
    rcases T.mz with⟨_,hq⟩|⟨e',_⟩
    ·rw [eAB] at hq
     rcases nt.mp hp' with h|h
     ·exact hq p (g27 _ h)
     ·rcases mf.mp h with rfl|h
      ·exact hj8
      ·exact hq p (n8 _ h)
    ·lia
   ·refine .inr ⟨e,?_⟩
    rcases T.mz with⟨e',_⟩|⟨_,ep⟩
    ·lia
    ·have e1:A=(ks.map Prod.fst).take A.length:=by rw [<- ep,eAB];simp
     have e2:B=(ks.map Prod.fst).drop A.length:=by rw [<- ep,eAB];simp
     show(A++j :: B).toArray.toList=ks'.map Prod.fst;simp only [ks',g0a,gf,List.map_take,g62];rw [<- e1, <- e2]
 have h7':t'.mask=7->ks'.length<8:=fun e=>by rw [hperm.length_eq];have:=h7 e;simp;lia
 have hfit:t'.fits (ks'.map el).toArray.size=true:=by
  have:=T'.fits h7'
  simpa using this
 refine⟨t',ks',?_,T',hperm,rfl,rfl,rfl,rfl⟩;unfold layNew;simp only [hf,hput,hins];unfold SetTable.orStandIn;rw [mh hfit,hfit]
 rfl
theorem qnj{mask:Nat}{owner:Array (Option Nat)}{i pt f:Nat}(h:owner.getD i (some 0)=none): SetTable.layClean.free mask owner (f+1) i pt=some i:=by
 unfold SetTable.layClean.free;have hr:SetTable.runEnd mask i+1-i=(SetTable.runEnd mask i-i)+1:=by
  unfold SetTable.runEnd;split <;> lia
 rw [hr,g1y];have:(List.find? (fun k=>(owner.getD (i+k) (some 0)).isNone) (0 :: List.map Nat.succ (List.range (SetTable.runEnd mask i-i))))=some 0:=by
  rw [List.find?_cons];simp only [Nat.add_zero,h,Option.isNone_none]
 rw [this];rfl
def Own(mask:Nat)(hs:List Nat)(c:Nat)(owner:Array (Option Nat)): Prop:=owner.size=mask+1/\∀j,j<=mask->∀k,owner[j]? = some (some k)↔(k<c/\hs[k]? = some j)
theorem qe2(mask:Nat)(hm:15<=mask)(hs:List Nat)(hnd:hs.Nodup)(hlt:∀x∈hs,x<12): ∀(r:List Nat) (c:Nat) (owner:Array (Option Nat)),hs.drop c=r->c<=hs.length->Own mask hs c owner ->
  ∃ ow,(r.map (Int.ofNat)).foldl (fun acc h=>do
    let(owner,k) <- acc
    let j <- SetTable.layClean.free mask owner (SetTable.turns mask) (SetTable.bits h%(mask+1)) (SetTable.bits h)
    pure (owner.setIfInBounds j (some k),k+1)) (some (owner,c))=some (ow,hs.length)/\Own mask hs hs.length ow
 | [],c,owner,hd,hc,ho=>by
  have:c=hs.length:=by have:=uz List.length hd;simp at this;lia
  subst this;exact⟨owner,rfl,ho⟩
 | x :: r,c,owner,hd,hc,ho=>by
  have hcl:c<hs.length:=by have:=uz List.length hd;simp at this;lia
  have hx:hs[c]? = some x:=by
   have:=uz (fun l=>l[0]?) hd
   simpa using this
  have hxm:x∈hs:=g00 hx;have hx12:=hlt x hxm;have hb:SetTable.bits (Int.ofNat x)=x:=by unfold SetTable.bits;simp;lia
  have hmod:x%(mask+1)=x:=Nat.mod_eq_of_lt (by lia);have hnone:owner.getD x (some 0)=none:=by
   have hlt':x<owner.size:=by rw [ho.1];lia
   simp only [Array.getD,hlt', ↓reduceDIte,Array.getInternal_eq_getElem];cases e:owner[x] with
   | none=>rfl
   | some k=>
    have:owner[x]? = some (some k):=by rw [g2n hlt',e]
    obtain⟨h1,h2⟩:=(ho.2 x (by lia) k).mp this;have hkl:k<hs.length:=by lia
    rw [my hkl] at h2;rw [my hcl] at hx;have:=(g50 hnd).mp ((ma h2).trans (ma hx).symm);lia
  have hfree:SetTable.layClean.free mask owner (SetTable.turns mask) (SetTable.bits (Int.ofNat x)%(mask+1)) (SetTable.bits (Int.ofNat x))=some x:=by
   rw [hb,hmod];have:SetTable.turns mask=(mask+14)+1:=by unfold SetTable.turns;lia
   rw [this];exact qnj hnone
  rw [gf,g5h];have hstep:(do
    let(owner,k) <- some (owner,c)
    let j <- SetTable.layClean.free mask owner (SetTable.turns mask) (SetTable.bits (Int.ofNat x)%(mask+1)) (SetTable.bits (Int.ofNat x))
    pure (owner.setIfInBounds j (some k),k+1):Option (Array (Option Nat)×Nat))=some (owner.setIfInBounds x (some c),c+1):=by
   show(SetTable.layClean.free mask owner (SetTable.turns mask) (SetTable.bits (Int.ofNat x)%(mask+1)) (SetTable.bits (Int.ofNat x))).bind _=_;rw [hfree];rfl
  refine qe2 mask hm hs hnd hlt r (c+1) (owner.setIfInBounds x (some c)) ?_ hcl ⟨by simp [ho.1],fun j hj k=>?_⟩ |> fun⟨ow,a,b⟩=>⟨ow,?_,b⟩
  ·rw [<- List.tail_drop,hd];rfl
  ·rw [Array.getElem?_setIfInBounds]
   have hxs:x<owner.size:=by rw [ho.1];lia
   by_cases e:x=j
   ·subst e
    rw [mh rfl,mh hxs]
    constructor
    ·intro h;have:c=k:=by simpa using h
     subst this;exact⟨by lia,hx⟩
    ·rintro⟨h1,h2⟩
     have hkl:k<hs.length:=by lia
     rw [my hkl] at h2;rw [my hcl] at hx;have:=(g50 hnd).mp ((ma h2).trans (ma hx).symm);rw [this]
   ·rw [mi e,ho.2 j hj k]
    constructor
    ·rintro⟨h1,h2⟩;exact⟨by lia,h2⟩
    ·rintro⟨h1,h2⟩
     refine⟨?_,h2⟩;have:k≠c:=fun e2=>by subst e2;rw [hx] at h2;exact e (ma h2)
     lia
  ·rw [<- a];exact uz (fun z=>List.foldl _ z _) hstep
theorem qe3{mask:Nat}(hm:15<=mask){hs:List Nat}(hnd:hs.Nodup)(hlt:∀x∈hs,x<12): ∃ow,SetTable.layClean mask (hs.map Int.ofNat).toArray=some ow/\Own mask hs hs.length ow:=by
 obtain⟨ow,a,b⟩:=qe2 mask hm hs hnd hlt hs 0 (Array.replicate (mask+1) none) rfl (uj _) ⟨by simp,fun j hj k=>by simp [Array.getElem?_replicate]⟩;refine⟨ow,?_,b⟩;unfold SetTable.layClean;rw [List.foldl_toArray',a]
 ·rfl
 ·simp
theorem qnk{mask:Nat}{hs:List Nat}(hnd:hs.Nodup)(hlt:∀x∈hs,x<=mask){ow:Array (Option Nat)}(ho:Own mask hs hs.length ow):
  let live:=(List.range (mask+1)).filterMap fun j=>(ow.getD j none).map (j, ·)
  (live.map Prod.fst).Pairwise (· < ·)/\(∀p∈live,hs[p.2]? = some p.1)/\(live.map Prod.snd).Perm (List.range hs.length):=by
 intro live;have hmem:∀p:Nat×Nat,p∈live↔hs[p.2]? = some p.1:=by
  intro p;obtain⟨j,k⟩:=p;simp only [live,g4b,uk,mj];have hg:∀j,j<=mask->(ow.getD j none=some k↔hs[k]? = some j):=fun j hj=>by
   have hlt':j<ow.size:=by rw [ho.1];lia
   have:ow.getD j none=some k↔ow[j]? = some (some k):=by
    simp [Array.getD,hlt']
   rw [this,ho.2 j hj k];exact⟨fun h=>h.2,fun h=>⟨(nu.mp h).1,h⟩⟩
  constructor
  ·rintro⟨j',hj',k',e,e2⟩
   injection e2 with e3 e4
   subst e3;subst e4;exact(hg _ (by lia)).mp e
  ·intro h
   have hj:=hlt j (g00 h);exact⟨j,by lia,k,(hg j hj).mpr h,rfl⟩
 have hf:live.map Prod.fst=(List.range (mask+1)).filter (fun j=>(ow.getD j none).isSome):=by
  simp only [live];generalize List.range (mask+1)=l
  induction l with
  | nil=>rfl
  | cons a l ih=>
   rw [g12,pb];cases e:ow.getD a none with
   | none=>simpa using ih
   | some k=>simpa using ih
 have hpw:(live.map Prod.fst).Pairwise (· < ·):=by
  rw [hf];exact g0c _ g5s
 refine⟨hpw,fun p hp=>(hmem p).mp hp,?_⟩;have hn2:(live.map Prod.snd).Nodup:=by
  have h1:=qni hpw;refine g1k.mpr ?_;have h1':=g1k.mp h1;refine g2y ?_ h1';intro p q hp hq hne e;have a:=(hmem p).mp hp;have b:=(hmem q).mp hq;rw [e,b] at a;exact hne (ma a).symm
 refine(g4p hn2 g1r).mpr fun k=>?_;rw [uk,ny]
 constructor
 ·rintro⟨p,hp,rfl⟩
  exact(nu.mp ((hmem p).mp hp)).1
 ·intro hk
  exact⟨(hs[k],k),(hmem _).mpr (my hk),rfl⟩
theorem range_all{α : Type}: ∀l:List α,(List.range l.length).filterMap (l[·]?)=l
 | []=>rfl
 | a :: l=>by
  rw [pz,g1y,g12];simp only [g39,g2s];have:((fun x=>(a :: l)[x]?) ∘ Nat.succ)=(l[·]?):=by funext i;simp
  rw [this,range_all l]
theorem q89{mask f m:Nat}{led:Bool}(hm:mask=15\/mask=31\/mask=63){ks:List (Nat×Nat)}(hnd:(ks.map Prod.fst).Nodup)(hlt:∀p∈ks,p.1<12):
  ∃t order ks',SetTable.laid mask f m led true ((ks.map el).toArray.map (·.1))=some (t,order)/\order.filterMap ((ks.map el).toArray[·]?)=(ks'.map el).toArray/\ks'.Perm ks/\Tb t ks'/\t.mask=mask/\t.led=led /\
   coversAll order ks.length=true:=by
 have hlt':∀x∈ks.map Prod.fst,x<12:=fun x hx=>by obtain⟨p,hp,rfl⟩:=ny.mp hx;exact hlt p hp
 obtain⟨ow,a,b⟩:=qe3 (mask:=mask) (by lia) hnd hlt';obtain⟨h1,h2,h3⟩:=qnk hnd (fun x hx=>by have:=hlt' x hx;lia) b;generalize hlv:((List.range (mask+1)).filterMap fun j=>(ow.getD j none).map (j, ·))=live at h1 h2 h3;have ehs:(ks.map el).toArray.map (·.1)=((ks.map Prod.fst).map Int.ofNat).toArray:=by
  simp [el,g4t]
 have h3':(live.map Prod.snd).Perm (List.range ks.length):=by simpa using h3
 let ks':=live.filterMap (fun p=>ks[p.2]?)
 have hk2:∀p∈live,∃q,ks[p.2]? = some q/\q.1=p.1:=fun p hp=>by
  have:=h2 p hp;rw [mr,mj] at this;exact this
 have hfst:ks'.map Prod.fst=live.map Prod.fst:=by
  simp only [ks'];clear h3 h3' h1 hlv h2
  induction live with
  | nil=>rfl
  | cons p l ih=>
   obtain⟨q,e,e2⟩:=hk2 p (gq ..);rw [g12,e,gf,gf,e2,ih (fun r hr=>hk2 r (gu _ hr))]
 have hperm:ks'.Perm ks:=by
  have e1:ks'=(live.map Prod.snd).filterMap (ks[·]?):=by rw [g2s];rfl
  rw [e1];refine(List.Perm.filterMap _ h3').trans ?_;rw [range_all]
 refine⟨{mask:=mask,place:=(live.map (·.1)).toArray,dummies:= #[],finger:=f,led:=led,moves:=m,plain:=true},(live.map (·.2)).toArray,ks',?_,?_,hperm,?_,rfl,rfl,?_⟩
 ·unfold SetTable.laid
  rw [ehs,a];simp only [Option.bind_eq_bind,m4,hlv]
  rfl
 ·rw [List.filterMap_toArray]
  congr 1
  rw [g2s];have e3:((fun x=>(ks.map el).toArray[x]?) ∘ fun x:Nat×Nat=>x.2)=fun p=>(ks[p.2]?).map el:=by
   funext p;simp
  rw [e3];simp only [ks'];rw [List.map_filterMap]
 ·refine⟨rfl,rfl,?_,?_,?_,?_,.inr ⟨hm,?_⟩⟩
  ·exact((hperm.map Prod.fst).nodup_iff).mpr hnd
  ·exact fun p hp=>hlt p (hperm.mem_iff.mp hp)
  ·have:=uz List.length hfst
   simpa using this.symm
  ·simpa using h1
  ·simpa using hfst.symm
 ·unfold coversAll
  rw [List.isPerm_iff]
  simpa using h3'
theorem q9j{α : Type}: ∀(l:List α) {i:Nat} (hi:i<l.length),([l[i]]++l.eraseIdx i).Perm l
 | [],i,hi=>by simp at hi
 | a :: l,0,hi=>by simp
 | a :: l,i+1,hi=>by
  have:=q9j l (i:=i) (by simpa using hi);simp only [g1z,g37,g3i,g0l] at this ⊢;exact(List.Perm.swap _ _ _).trans (List.Perm.cons _ this)
theorem qbn{α : Type}(nx:Nat->Nat): ∀(f k:Nat) (l:List α) (out:Array α),l.length<=f->((pickOrder.go nx f k l out).toList).Perm (out.toList++l)
 | 0,k,l,out,h=>by
  have:l=[]:=by cases l <;> simp_all
  subst this;simp [pickOrder.go]
 | f+1,k,[],out,h=>by simp [pickOrder.go]
 | f+1,k,a :: l,out,h=>by
  have hi:nx k%(a :: l).length<(a :: l).length:=Nat.mod_lt _ (by simp);unfold pickOrder.go;rw [my hi];refine(qbn nx f (k+1) _ _ (by rw [List.length_eraseIdx];simp only [hi,nj];simp at h ⊢;lia)).trans ?_;rw [Array.toList_push,mm];exact uw _ (q9j _ hi)
theorem q4g{α : Type}(nx:Nat->Nat)(xs:Array α): ((pickOrder nx xs).toList).Perm xs.toList:=by
 unfold pickOrder;have:=qbn nx xs.size 0 xs.toList #[] (by simp)
 simpa using this
theorem q3x{n:Nat}(h:8<=n)(h2:n<64): (SetTable.sizeAbove n=16/\n<16)\/(SetTable.sizeAbove n=32/\16<=n/\n<32)\/(SetTable.sizeAbove n=64/\32<=n):=by
 have:∀n<64,8<=n->((SetTable.sizeAbove n=16/\n<16)\/(SetTable.sizeAbove n=32/\16<=n/\n<32)\/(SetTable.sizeAbove n=64/\32<=n)):=by decide +kernel
 exact this n h2 h
abbrev byT(w:World): Bool:=w.params.followText "set-order"
structure SI(w:World)(h:Heap)(a:Addr)(t:SetTable)(ks:List (Nat×Nat)): Prop where
 ob:∃o ep,h.get? a=some o/\o.ExactSet/\o.data=.set (ks.map el).toArray ep t
 tb:Tb t ks
 ld:t.led = !byT w
section
variable{prog:Program}{w:World}{A:Around}{E:Value->Shared->Prop}{s:Shared}{a:Addr}{t:SetTable}{ks:List (Nat×Nat)}
theorem q56{n:Nat}(h:n<12): (intKind prog w).hash (n:Int)=(n:Int):=by
 have:∀n<12,hashInt ((n:Nat):Int)=((n:Nat):Int):=by decide
 exact this n h
theorem elems(hl:∀p∈ks,p.1<12): ElemsOf (intKind prog w) (ks.map el):=by
 intro e he;obtain⟨p,hp,rfl⟩:=ny.mp he;exact⟨⟨(p.1:Int),g3y _ _ _ _,(q56 (hl p hp)).symm⟩,rfl⟩
theorem q57(T:Tb t ks)(h7:t.mask=7->ks.length<8): t.fits (ks.map el).toArray.size=true:=by
 have:=T.fits h7;simpa using this
theorem qqo{n:Nat}(h:n∈ks.map Prod.fst): ∃j,List.findIdx? (fun e=>(intKind prog w).is (n:Int) e.2) (ks.map el)=some j:=by
 obtain⟨p,hp,rfl⟩:=ny.mp h;cases e:List.findIdx? (fun e=>(intKind prog w).is (p.1:Int) e.2) (ks.map el) with
 | some j=>exact⟨j,rfl⟩
 | none=>
  have:=g4y.mp e (el p) (g2g hp);have h2:(intKind prog w).is (p.1:Int) (el p).2=true:=g3y _ _ _ _;rw [h2] at this;exact absurd this (by decide)
theorem qnl{n:Nat}(h:n∉ks.map Prod.fst): List.findIdx? (fun e=>(intKind prog w).is (n:Int) e.2) (ks.map el)=none:=by
 refine g4y.mpr fun e he=>?_;obtain⟨p,hp,rfl⟩:=ny.mp he;cases e:(intKind prog w).is (n:Int) (el p).2 with
 | false=>rfl
 | true=>
  have:=(intKind prog w).inj (el p).2 _ _ e (g3y _ _ (p.1:Int) p.2);have:n=p.1:=by lia
  exact absurd (g2g hp) (this ▸ h)
def Step(t:SetTable)(ks:List (Nat×Nat))(p:Nat×Nat)(t':SetTable)(ks':List (Nat×Nat)): Prop:=
 Tb t' ks'/\t'.led=t.led/\if p.1∈ks.map Prod.fst then ks'=ks/\t'=t else
  ks'.Perm (p :: ks)/\t'.mask=(if(ks.length+1)*5>=t.mask*3 then SetTable.sizeAbove ((ks.length+1)*4)-1 else t.mask)
theorem qqp{h:Heap}{o:Obj}{es es':Array (Int×Value)}{ep:Nat}{t t':SetTable}(ho:h.get? a=some o)(hd:o.data=.set es ep t):
  (h.update a (Obj.putSet es' t')).get? a=some {o with data:=.set es' (ep+1) t'}:=by
 have:=g0f (Obj.putSet es' t') ho (by rw [putSet_of es' t' hd];rfl);rw [putSet_of es' t' hd] at this;exact this
theorem SI.put{h:Heap}{t':SetTable}{ks':List (Nat×Nat)}(S:SI w h a t ks)(T':Tb t' ks')(hl:t'.led=t.led): SI w (h.update a (Obj.putSet (ks'.map el).toArray t')) a t' ks':=by
 obtain⟨o,ep,ho,hx,hd⟩:=S.ob;exact⟨⟨_,_,qqp ho hd,hx,rfl⟩,T',by rw [hl];exact S.ld⟩
theorem size_le(T:Tb t ks): (ks.map el).toArray.size<=sizeLine:=by
 have:=T.n12;rw [g2e];simp;lia
theorem qkp{n k:Nat}{Q:Bool->Shared->Prop}(S:SI w s.heap a t ks)(hn:n<12)(h7:t.mask=7->ks.length<7)
  (h:∀h' t' ks',Heap.SameBut a s.heap h'->SI w h' a t' ks'->Step t ks (n,k) t' ks'->Q (!(decide (n∈ks.map Prod.fst))) {s with heap:=h'}) :
  wpAny (model prog w) A (setAddHashed a (.int (n:Int) k) (n:Int)) Q E s:=by
 obtain⟨o,ep,ho,hx,hd⟩:=id S.ob;have T:=S.tb;have hf:t.fits (ks.map el).toArray.size=true:=q57 T (fun e=>by have:=h7 e;lia);have hel:ElemsOf (intKind prog w) (ks.map el).toArray.toList:=by simpa using elems T.lt
 have hn12:=T.n12;unfold setAddHashed setAddHashedIn;refine t7 (g0 (g3b ho hd hf ?_));dsimp only;rw [byScan_of (knd:=intKind prog w) rfl (by unfold scanBound;simp;lia) hel];simp only [↓reduceIte];unfold setAddByScan;refine g0 ?_;refine g0 (g01 ?_);have hsc:=@wpAny_setScan_of prog w Int _ (intKind prog w) A E s a o (ks.map el).toArray ep t (.int (n:Int) k) (n:Int) true;rw [q56 hn] at hsc;refine g0 (hsc (g3y _ _ _ _) ho hd hf hel ?_)
 by_cases hm:n∈ks.map Prod.fst
 ·obtain⟨j,hj⟩:=qqo (prog:=prog) (w:=w) hm
  have hj':List.findIdx? (fun e=>(intKind prog w).is (n:Int) e.2) (ks.map el).toArray.toList=some j:=by simpa using hj
  rw [hj'];dsimp only;refine g9 (g9 ?_);have e:s = {s with heap:=s.heap}:=by cases s;rfl
  have:=h s.heap t ks (g20 a s.heap) S ⟨T,rfl,by rw [mh hm];exact⟨rfl,rfl⟩⟩;rw [mq hm] at this;rw [e];exact this
 ·have hj':List.findIdx? (fun e=>(intKind prog w).is (n:Int) e.2) (ks.map el).toArray.toList=none:=by simpa using qnl (prog:=prog) (w:=w) hm
  rw [hj'];dsimp only;obtain⟨t1,ks1,hL,T1,p1,m1,l1,f1,v1⟩:=lay T (k:=k) hn hm h7;rw [hL];dsimp only;have hgw:∀(b:Bool) {s₁:Shared} {Q':Unit->Shared->Prop},Q' () s₁->wpAny (model prog w) A (match b with|true=>rule "set.scan.the-table-gave-way" | false=>pure ()) Q' E s₁:=
   fun b s₁ Q' hq=>by cases b <;> first|exact g9 hq|exact g01 hq
  refine g0 (hgw false ?_);rw [T1.pl];simp only [↓reduceIte];rw [hashByValue_scannable 8 rfl];refine g0 (g9 ?_);simp only [plainKind, ↓reduceIte];have S1:SI w (s.heap.update a (Obj.putSet (ks1.map el).toArray t1)) a t1 ks1:=S.put T1 l1;have hsb1:=uc s.heap a (Obj.putSet (ks1.map el).toArray t1);have hlen:ks1.length=ks.length+1:=by rw [p1.length_eq];rfl
  have htf:t1.tooFull=decide ((ks.length+1)*5>=t.mask*3):=by
   unfold SetTable.tooFull SetTable.fill;have:t1.place.size=ks.length+1:=by rw [<- hlen, <- T1.sz];simp
   rw [T1.dm,this,m1];simp
  refine g0 (g24 ho hd ?_ (size_le T1))
  by_cases hfull:(ks.length+1)*5>=t.mask*3
  ·rw [htf,mq hfull]
   simp only [g26,g4q, ↓reduceIte];have hn1:=T1.n12;have hg:SetTable.grown (ks1.map el).toArray.size=(ks.length+1)*4:=by
    unfold SetTable.grown;simp only [gm,mn,hlen];rw [mi (by lia)]
   have hsa:SetTable.sizeAbove ((ks.length+1)*4)-1=15\/SetTable.sizeAbove ((ks.length+1)*4)-1=31\/SetTable.sizeAbove ((ks.length+1)*4)-1=63:=by
    have hm7:7<=t.mask:=by rcases T.mz with⟨e,_⟩|⟨e,_⟩ <;> lia
    rcases q3x (n:=(ks.length+1)*4) (by lia) (by lia) with h|h|h <;> lia
   obtain⟨t2,ord,ks2,e2,f2,p2,T2,m2,l2,c2⟩:=q89 (f:=t1.finger) (m:=t1.movedTo (SetTable.sizeAbove ((ks.length+1)*4)-1)) (led:=t1.led) hsa T1.nd T1.lt;have hrl:t1.relaid ((ks1.map el).toArray.map (·.1)) (SetTable.grown (ks1.map el).toArray.size)=some (t2,ord):=by
    unfold SetTable.relaid;rw [hg,T1.pl];exact e2
   have hlen2:ks2.length=ks1.length:=p2.length_eq;have hra:relayAll t1 (ks1.map el).toArray (SetTable.grown (ks1.map el).toArray.size)=((ks2.map el).toArray,t2,false):=by
    unfold relayAll;rw [hrl];dsimp only;rw [f2];have hc:coversAll ord (ks1.map el).toArray.size=true:=by simpa using c2
    have hft:t2.fits (ks2.map el).toArray.size=true:=q57 T2 (fun e=>by lia);rw [hc,hft];rfl
   rw [hra];dsimp only;refine g0 (hgw false ?_);obtain⟨o1,ep1,ho1,hx1,hd1⟩:=id S1.ob;refine g0 (g24 ho1 hd1 ?_ (size_le T2));refine g9 ?_;dsimp only;refine g9 ?_;have:=h _ t2 ks2 (hsb1.trans (uc _ a _)) (S1.put T2 l2) ⟨T2,l2.trans l1,by
    rw [mi hm,mh hfull];exact⟨p2.trans p1,m2⟩⟩
   rw [nk hm] at this;exact this
  ·rw [htf,nk hfull]
   simp only [g26,g61,gr, ↓reduceIte];refine g9 ?_;have:=h _ t1 ks1 hsb1 S1 ⟨T1,l1,by rw [mi hm,mi hfull];exact⟨p1,m1⟩⟩;rw [nk hm] at this;exact g9 this
end
theorem q8a{α β : Type}[DecidableEq α]{f : α -> β}: ∀ {l:List β} {ks:List α},l.Perm (ks.map f)->∃ls:List α,ls.Perm ks/\l=ls.map f
 | [],ks,h=>by
  have:ks=[]:=by simpa using h.symm
  exact⟨[],by rw [this],rfl⟩
 | x :: l,ks,h=>by
  have hx:x∈ks.map f:=h.mem_iff.mp (gq ..);obtain⟨p,hp,rfl⟩:=ny.mp hx;have h1:=List.perm_cons_erase hp;have h2:(f p :: l).Perm (f p :: (ks.erase p).map f):=h.trans (h1.map f);obtain⟨ls,a,e⟩:=q8a (List.Perm.cons_inv h2);exact⟨p :: ls,(List.Perm.cons _ a).trans h1.symm,by rw [e];rfl⟩
section
variable{prog:Program}{w:World}{A:Around}{E:Value->Shared->Prop}{s:Shared}{a b:Addr}{t u:SetTable}{ks ls:List (Nat×Nat)}
theorem SI.state{Q:(Array (Int×Value)×Nat×SetTable)->Shared->Prop}(S:SI w s.heap a t ks)(h7:t.mask=7->ks.length<8)
  (h:∀ep,(∃o,s.heap.get? a=some o/\o.ExactSet/\o.data=.set (ks.map el).toArray ep t)->Q ((ks.map el).toArray,ep,t) s):wpAny (model prog w) A (setState a) Q E s:=by
 obtain⟨o,ep,ho,hx,hd⟩:=S.ob;exact g3b ho hd (q57 S.tb h7) (h ep ⟨o,ho,hx,hd⟩)
theorem SI.keep{h h':Heap}(S:SI w h a t ks)(e:∀o,h.get? a=some o->h'.get? a=some o): SI w h' a t ks:=by
 obtain⟨o,ep,ho,r⟩:=S.ob;exact⟨⟨o,ep,e o ho,r⟩,S.tb,S.ld⟩
theorem q9k{es:Array (Int×Value)}{t':SetTable}{ord:Array Nat}{es':Array (Int×Value)}{α : Type}{F:Array (Int×Value)×SetTable->Sem α}{Q : α -> Shared->Prop}(e:ord.filterMap (es[·]?)=es')(hs:es'.size=es.size)
  (h:wpAny (model prog w) A (F (es',t')) Q E s) :
  wpAny (model prog w) A ((do
   let some (t,order):=some (t',ord)|unsupported "internal:set-table-without-room"
   let es':=order.filterMap (es[·]?)
   if es'.size != es.size then unsupported "internal:set-table-lost-an-element"
   pure (es',t):Sem (Array (Int×Value)×SetTable)) >>= F) Q E s:=by
 refine g0 ?_;dsimp only;rw [e];have:(es'.size != es.size)=false:=by simp [hs]
 rw [this];simp only [gr, ↓reduceIte];exact g9 h
theorem qnm{wanted:Nat}{Q:Unit->Shared->Prop}(S:SI w s.heap a t ks)(h7:t.mask=7->ks.length<8)(hw:8<=wanted)(hw2:wanted<64)
  (h:∀h' t' ks',Heap.SameBut a s.heap h'->SI w h' a t' ks'->t'.mask=SetTable.sizeAbove wanted-1->ks'.Perm ks->Q () {s with heap:=h'}) :
  wpAny (model prog w) A (setRelay a wanted) Q E s:=by
 unfold setRelay;refine g0 (S.state h7 fun ep ⟨o,ho,hx,hd⟩=>?_);dsimp only;have hc:=q3x hw hw2;have hsz:¬(SetTable.sizeAbove wanted>sizeLine):=by rw [g2e];lia
 rw [mi hsz];obtain⟨t2,ord,ks2,e2,f2,p2,T2,m2,l2,c2⟩:=q89 (f:=t.finger) (m:=t.movedTo (SetTable.sizeAbove wanted-1)) (led:=t.led) (mask:=SetTable.sizeAbove wanted-1) (by lia) S.tb.nd S.tb.lt;have hrl:t.relaid ((ks.map el).toArray.map (·.1)) wanted=some (t2,ord):=by
  unfold SetTable.relaid;rw [S.tb.pl];exact e2
 rw [hrl];refine q9k f2 (by simp [p2.length_eq]) ?_;dsimp only;refine g24 ho hd ?_ (size_le T2);exact h _ t2 ks2 (uc _ a _) (S.put T2 l2) m2 p2
theorem wp_walk{Q:Array (Int×Value)->Shared->Prop}(S:SI w s.heap a t ks)(h7:t.mask=7->ks.length<8)
  (h:∀ls:List (Nat×Nat),ls.Perm ks->Q (ls.map el).toArray s):wpAny (model prog w) A (setWalk a) Q E s:=by
 unfold setWalk;refine g0 (S.state h7 fun ep _=>?_);dsimp only;unfold setsByText;refine g0 (g0 (ue (g9 ?_)))
 by_cases hb:byT w=true
 ·refine td (fun _=>?_) (fun c=>absurd hb c)
  refine g0 (ue (g9 ?_));have hp:=q4g ((⟨(model prog w).prog,(model prog w).w.params⟩:Setting).params.setOrder a ep) (ks.map el).toArray;generalize pickOrder ((⟨(model prog w).prog,(model prog w).w.params⟩:Setting).params.setOrder a ep) (ks.map el).toArray=xs at hp;have hp':xs.toList.Perm (ks.map el):=by simpa using hp
  obtain⟨ls,hl,e⟩:=q8a hp';have:=h ls hl;rw [<- e] at this;exact this
 ·refine td (fun c=>absurd c hb) (fun _=>?_)
  refine td (fun c=>?_) (fun _=>?_)
  ·have c':(!t.plain&&decide ((ks.map el).toArray.size>1))=true:=c
   rw [S.tb.pl] at c';simp at c'
  ·have hld:t.led=true:=by rw [S.ld];simpa using hb
   show wpAny _ _ ((do if !t.led&&(ks.map el).toArray.size>1 then unsupported "set:maker-not-led" : Sem Unit) >>= fun _=>pure (ks.map el).toArray) _ _ _;rw [hld];simp only [g0o,g43,gr, ↓reduceIte];exact g0 (g9 (g9 (h ks (g46 _))))
end
section
variable{prog:Program}{w:World}{A:Around}{E:Value->Shared->Prop}{s:Shared}{a b:Addr}{t u:SetTable}{ks ls:List (Nat×Nat)}
theorem qkq{os:List Addr}{f:Option Addr}{Q:Array (Int×Value)->Shared->Prop}(S:SI w s.heap a t ks)(h7:t.mask=7->ks.length<8)
  (h:∀ls:List (Nat×Nat),ls.Perm ks->Q (ls.map el).toArray s):wpAny (model prog w) A (setWalkUnseen a os f) Q E s:=by
 unfold setWalkUnseen;refine g0 (S.state h7 fun ep _=>?_);dsimp only;refine g0 ?_;unfold setsByText;refine g0 (ue (g9 ?_));dsimp only;refine td (fun _=>?_) (fun c=>?_)
 ·exact wp_walk S h7 h
 ·refine absurd ?_ c
  have:t.led = !(model prog w).w.params.followText "set-order" :=S.ld;rw [this,S.tb.pl];cases(model prog w).w.params.followText "set-order" <;> simp
theorem qhm{ep:Nat}{ob:Obj}{each:Sem Unit}(hab:a≠b)(hob:∀ {s':Shared} {Q:(Array (Int×Value)×Nat×SetTable)->Shared->Prop},s'.heap.get? b=some ob->Q ((ls.map el).toArray,ep,u) s'->wpAny (model prog w) A (setState b) Q E s')
  (hea:∀ {s':Shared} {Q:Unit->Shared->Prop},s'.heap.get? b=some ob->Q () s'->wpAny (model prog w) A each Q E s') :
  ∀(r:List (Nat×Nat)) (s:Shared) (t:SetTable) (ks:List (Nat×Nat)) (Q:Unit->Shared->Prop),(∀p∈r,p.1<12)->SI w s.heap a t ks->(ks.length+r.length)*5<t.mask*3->s.heap.get? b=some ob ->
  (∀h' t' ks',Heap.SameBut a s.heap h'->SI w h' a t' ks'->t'.mask=t.mask->(∀n,n∈ks'.map Prod.fst↔n∈ks.map Prod.fst\/n∈r.map Prod.fst)->ks'.length<=ks.length+r.length->Q () {s with heap:=h'}) ->
  wpAny (model prog w) A (forIn (r.map el) PUnit.unit fun(x:Int×Value) (_:PUnit)=>do
   let _ <- holding [x.2] (setAddHashed a x.2 x.1)
   each
   if(<- setState b).2.1 != ep then unsupported "set.changed-during-merge"
   pure (ForInStep.yield PUnit.unit)) Q E s
 | [],s,t,ks,Q,hr,S,hm,hb,h=>by
  simp only [g0s,g32];refine g9 ?_;have:=h s.heap t ks (g20 _ _) S rfl (fun n=>by simp) (by simp);exact this
 | p :: r,s,t,ks,Q,hr,S,hm,hb,h=>by
  simp only [gf,g1u];have hp:=hr p (gq ..);have hml:(ks.length+1+r.length)*5<t.mask*3:=by simp only [pz] at hm;lia
  refine g0 ?_;refine g0 (t7 (qkp (n:=p.1) (k:=p.2) S hp (fun e=>by lia) fun h' t' ks' hsb S' st=>?_));have hb':h'.get? b=some ob:=by rw [hsb.2 b (fun e=>hab e.symm)];exact hb
  obtain⟨T',l',c⟩:=st;have hlen:ks'.length<=ks.length+1/\t'.mask=t.mask/\(∀n,n∈ks'.map Prod.fst↔n∈ks.map Prod.fst\/n=p.1):=by
   split at c
   ·rename_i hin
    obtain⟨rfl,rfl⟩:=c;exact⟨by lia,rfl,fun n=>⟨.inl,fun h=>h.elim id (fun e=>e ▸ hin)⟩⟩
   ·obtain⟨c1,c2⟩:=c
    rw [mi (by lia)] at c2;refine⟨by rw [c1.length_eq];simp,c2,fun n=>?_⟩;rw [(c1.map Prod.fst).mem_iff,gf,mf];exact Or.comm
  refine g0 (hea (s':={s with heap:=h'}) hb' ?_);refine g0 (hob (s':={s with heap:=h'}) hb' ?_);dsimp only;rw [mi (by simp)];refine g9 ?_;refine qhm hab hob hea r {s with heap:=h'} t' ks' Q (fun q hq=>hr q (gu _ hq)) S' (by rw [hlen.2.1];lia) hb' fun h2 t2 ks2 sb2 S2 m2 i2 l2=>?_;refine h h2 t2 ks2 (hsb.trans sb2) S2 (m2.trans hlen.2.1) (fun n=>?_) (by simp only [pz];lia);rw [i2 n,hlen.2.2 n,gf,mf,or_assoc]
theorem qqq{m:Nat}{Q:Unit->Shared->Prop}(S:SI w s.heap a t ks)(h7:t.mask=7->ks.length<8)(hm:m<=12)
  (h:∀h' t' ks',Heap.SameBut a s.heap h'->SI w h' a t' ks'->ks'.Perm ks->(ks.length+m)*5<t'.mask*3 ->
   ((ks.length+m)*5<t.mask*3/\t'.mask=t.mask\/t'.mask=SetTable.sizeAbove ((ks.length+m)*2)-1/\t.mask*3<=(ks.length+m)*5)->Q () {s with heap:=h'}) :
  wpAny (model prog w) A (setRoomFor a m) Q E s:=by
 unfold setRoomFor;refine g0 (S.state h7 fun ep _=>?_);dsimp only;have hsz:t.place.size=ks.length:=by rw [<- S.tb.sz];simp
 have hfl:t.fill=ks.length:=by unfold SetTable.fill;rw [S.tb.dm,hsz];simp
 have hn:=S.tb.n12;unfold SetTable.roomFor;rw [hfl,hsz];have hmk:=S.tb.mz
 by_cases c:(ks.length+m)*5>=t.mask*3
 ·rw [mh c]
  dsimp only;refine qnm S h7 (by rcases hmk with⟨e,_⟩|⟨e,_⟩ <;> lia) (by lia) fun h' t' ks' sb S' m' p'=>?_;have hc:=q3x (n:=(ks.length+m)*2) (by rcases hmk with⟨e,_⟩|⟨e,_⟩ <;> lia) (by lia);exact h h' t' ks' sb S' p' (by lia) (.inr ⟨m',c⟩)
 ·rw [mi c]
  dsimp only;refine g9 ?_;exact h s.heap t ks (g20 _ _) S (g46 _) (by lia) (.inl ⟨by lia,rfl⟩)
theorem qe4{each:Sem Unit}{Q:Unit->Shared->Prop}(hab:a≠b)(S:SI w s.heap a t ks)(hbm:ks=[]->t.mask=7)(h7:t.mask=7->ks.length<8)(U:SI w s.heap b u ls)(hu:ls.length<5->u.mask=7)(hu7:u.mask=7->ls.length<8)
  (hea:∀ {s':Shared} {Q:Unit->Shared->Prop},s'.heap.get? b=s.heap.get? b->Q () s'->wpAny (model prog w) A each Q E s')
  (h:∀h' t' ks',Heap.SameBut a s.heap h'->SI w h' a t' ks'->(t'.mask=7->ks'.length<8)->(∀n,n∈ks'.map Prod.fst↔n∈ks.map Prod.fst\/n∈ls.map Prod.fst)->(ks=[]->ks'=[]->t'.mask=7)->Q () {s with heap:=h'}) :
  wpAny (model prog w) A (setMerge a b each) Q E s:=by
 unfold setMerge;have hne:(a==b)=false:=by simpa using hab
 rw [hne];simp only [gr, ↓reduceIte];have hn:=S.tb.n12;have hnu:=U.tb.n12;refine g0 (U.state hu7 fun ep ⟨o,ho,hx,hd⟩=>?_);dsimp only
 by_cases he:ls=[]
 ·subst he
  have:((([]:List (Nat×Nat)).map el).toArray).isEmpty=true:=rfl;rw [mh this];refine g9 ?_;exact h s.heap t ks (g20 _ _) S h7 (fun n=>by simp) (fun e _=>hbm e)
 ·have:((ls.map el).toArray).isEmpty=false:=by cases ls <;> simp_all
  rw [this];simp only [gr, ↓reduceIte];have hsz:((ls.map el).toArray).size=ls.length:=by simp
  rw [hsz];refine g0 (qqq S h7 hnu fun h1 t1 ks1 sb1 S1 p1 r1 q1=>?_);have U1:SI w h1 b u ls:=U.keep fun o e=>by rw [sb1.2 b (fun e=>hab e.symm)];exact e
  have ho1:h1.get? b=some o:=by rw [sb1.2 b (fun e=>hab e.symm)];exact ho
  have hl1:ks1.length=ks.length:=p1.length_eq;have hpos:0<ls.length:=List.length_pos_iff.mpr he;refine g0 (SI.state (s:={s with heap:=h1}) S1 (fun e=>by lia) fun ep1 ⟨o1,ho1',hx1,hd1⟩=>?_);dsimp only;have hfl:t1.fill=ks.length:=by unfold SetTable.fill;rw [S1.tb.dm, <- hl1, <- S1.tb.sz];simp
  unfold SetTable.road;rw [hfl,U.tb.dm]
  by_cases hk:ks=[]
  ·subst hk
   have hk1:ks1=[]:=by simpa using hl1
   subst hk1;simp only [g1w,bne_self_eq_false,gr, ↓reduceIte];have hld:(t1.led&&u.led) = !byT w:=by rw [S1.ld,U.ld];simp
   have hpl:(t1.plain&&u.plain)=true:=by rw [S1.tb.pl,U.tb.pl];rfl
   by_cases hmk:t1.mask=u.mask
   ·have hc:((t1.mask==u.mask)&&(#[]:Array Nat).isEmpty)=true:=by simp [hmk]
    rw [hc];simp only [↓reduceIte];refine g24 (s:={s with heap:=h1}) ho1' hd1 ?_ (size_le U.tb);rw [hld,hpl];have T':Tb {u with dummies:= #[],finger:=t1.finger,led:= !byT w,moves:=t1.moves,plain:=true} ls:=⟨rfl,rfl,U.tb.nd,U.tb.lt,U.tb.sz,U.tb.rs,U.tb.mz⟩
    refine h _ _ ls (sb1.trans (uc _ a _)) (S1.put T' (by rw [S1.ld])) hu7 (fun n=>by simp) (fun _ e=>absurd e he)
   ·have hc:((t1.mask==u.mask)&&(#[]:Array Nat).isEmpty)=false:=by simp [hmk]
    rw [hc];simp only [gr, ↓reduceIte];have ht7:=hbm rfl;have hm1:t1.mask=15\/t1.mask=31\/t1.mask=63:=by
     rcases S1.tb.mz with⟨e,_⟩|⟨e,_⟩
     ·exfalso
      have:ls.length<5:=by rw [e] at r1;simp at r1;lia
      exact hmk (e.trans (hu this).symm)
     ·exact e
    obtain⟨t2,ord,ks2,e2,f2,p2,T2,m2,l2,c2⟩:=q89 (f:=t1.finger) (m:=t1.moves) (led:=t1.led&&u.led) (mask:=t1.mask) hm1 U.tb.nd U.tb.lt;rw [hpl,e2];refine q9k f2 (by simp [p2.length_eq]) ?_;dsimp only;refine g24 (s:={s with heap:=h1}) ho1' hd1 ?_ (size_le T2);refine h _ t2 ks2 (sb1.trans (uc _ a _)) (S1.put T2 (by rw [l2,hld,S1.ld])) (fun e=>by lia) (fun n=>?_) (fun _ e=>?_)
    ·rw [(p2.map Prod.fst).mem_iff];simp
    ·rw [e] at p2;exact absurd (by simpa using p2.symm) he
  ·have hfn:(ks.length != 0)=true:=by simp [hk]
   rw [hfn];simp only [↓reduceIte];refine g0 (qkq (s:={s with heap:=h1}) U1 hu7 fun xs px=>?_);rw [<- Array.forIn_toList];have hxl:xs.length=ls.length:=px.length_eq;have key:=qhm (prog:=prog) (w:=w) (A:=A) (E:=E) (ls:=ls) (u:=u) (ep:=ep) (ob:=o) (each:=each) hab (fun {s'} {Q'} e q=>g3b e hd (q57 U.tb hu7) q) (fun {s'} {Q'} e q=>hea (by rw [e,ho]) q)
    xs {s with heap:=h1} t1 ks1 (fun _ s'=>wpAny (model prog w) A (pure ()) Q E s') (fun p hp=>U.tb.lt p (px.mem_iff.mp hp)) S1 (by rw [hl1,hxl];exact r1) ho1 (fun h2 t2 ks2 sb2 S2 m2 i2 l2=>?_)
   ·exact g0 key
   ·refine g9 ?_
    refine h h2 t2 ks2 (sb1.trans sb2) S2 (fun e=>by lia) (fun n=>?_) (fun e=>absurd e hk);rw [i2 n,(p1.map Prod.fst).mem_iff,(px.map Prod.fst).mem_iff]
end
theorem qe5:entryFor table "set.__or__" = some Builtin.«frozenset.__or__» :=
 entryFor_alias (id':="frozenset.__or__") (by kernel_rfl) rfl (by decide +kernel) (by kernel_rfl)
theorem qhn:isSubtype (.type "set") (.type "set")=pure true:=by rw [g1m];kernel_rfl
section
variable{prog:Program}{w:World}{A:Around}{E:Value->Shared->Prop}{s:Shared}{a b:Addr}{t u:SetTable}{ks ls:List (Nat×Nat)}
theorem SI.typeIs(S:SI w s.heap a t ks): s.TypeIs (.ref a) "set" :=let⟨o,_,ho,hc,_⟩:=S.ob; ⟨o,ho,hc.1⟩
def y9(w:World): Obj:={cls:=.type "set",dict:=none,data:=.set #[] 0 (.fresh 0 0 (!byT w))}
theorem qnn{led:Bool}: Tb (.fresh 0 0 led) []:=⟨rfl,rfl,by simp,by simp,by simp [SetTable.fresh],by simp [SetTable.fresh],.inl ⟨rfl,by simp [SetTable.fresh]⟩⟩
theorem qe6{h:Heap}(ho:h.get? a=some (y9 w)): SI w h a (.fresh 0 0 (!byT w)) []:=⟨⟨_,0,ho,⟨rfl,rfl,rfl⟩,rfl⟩,qnn,rfl⟩
theorem qkr{Q:Value->Shared->Prop}(h:Q (.ref s.heap.objs.size) {s with heap:=s.heap.push (y9 w)}): wpAny (model prog w) A (newSet (.type "set")) Q E s:=by
 unfold newSet setsByText;refine g0 (g0 (ue (g9 ?_)));dsimp only;simp only [newObj];exact g0 (wpAny_alloc (g9 h))
theorem qe7(S:SI w s.heap a t ks){Q:Bool->Shared->Prop}(h:Q true s): wpAny (model prog w) A (Builtin.Frozenset.isAnySet (.ref a)) Q E s:=by
 unfold Builtin.Frozenset.isAnySet;show wpAny _ _ (isInstance (.ref a) (.type "set") >>= fun b=>_) _ _ _;refine g0 (g1n S.typeIs qhn ?_);exact g9 h
theorem qv2{Q:Value->Shared->Prop}(hab:a≠b)(S:SI w s.heap a t ks)(hs:ks.length<5->t.mask=7)(hs7:t.mask=7->ks.length<8)(U:SI w s.heap b u ls)(hu:ls.length<5->u.mask=7)(hu7:u.mask=7->ls.length<8)
  (h:∀h' t' ks',(∀c o,c<s.heap.objs.size->s.heap.get? c=some o->h'.get? c=some o)->SI w h' s.heap.objs.size t' ks'->(t'.mask=7->ks'.length<8)->(∀n,n∈ks'.map Prod.fst↔n∈ks.map Prod.fst\/n∈ls.map Prod.fst)->Q (.ref s.heap.objs.size) {s with heap:=h'}) :
  wpAny (model prog w) A (binaryOp .BitOr (.ref a) (.ref b)) Q E s:=by
 refine wpAny_binaryOp_same S.typeIs U.typeIs F.fills_set_or F.slot_set_or (p9 F.slot_set_or S.typeIs qe5 ?_ (F.args_set_or_2 _ _));have hla:a<s.heap.objs.size:=let⟨o,_,ho,_⟩:=S.ob;gz ho
 have hlb:b<s.heap.objs.size:=let⟨o,_,ho,_⟩:=U.ob;gz ho
 show wpAny _ _ ((Builtin.Frozenset.slot1 "__or__" ⟨[.ref a,.ref b],[]⟩) >>= _) _ _ _;refine g0 (g9 ?_);dsimp only;refine g0 ?_;show wpAny _ _ (Builtin.Frozenset.isAnySet (.ref a) >>= _) _ _ _;refine g0 (qe7 S ?_);refine qe7 U ?_;simp only [g0o,gr, ↓reduceIte];refine g0 (g9 ?_);refine g0 ?_;show wpAny _ _ (Builtin.Frozenset.copyOf a >>= _) _ _ _;refine g0 ?_;unfold Builtin.Frozenset.copyOf Builtin.Frozenset.baseOf;refine g0 (g0 (g1n S.typeIs qhn (g9 ?_)));simp only [↓reduceIte];refine g0 (qkr ?_);refine g0 (g9 ?_);have hget:(s.heap.push (y9 w)).get? s.heap.objs.size=some (y9 w):=gj _ rfl;have old:∀c o,s.heap.get? c=some o->(s.heap.push (y9 w)).get? c=some o:=fun c o e=>gc _ e;refine g0 (qe4 (s:={s with heap:=s.heap.push (y9 w)}) (uh hla) (qe6 hget) (fun _=>rfl) (fun _=>by simp) (S.keep (old a)) hs hs7 (fun _ q=>g9 q) fun h1 t1 ks1 sb1 S1 z1 i1 g1=>?_);refine g9 ?_;have old1:∀c o,c<s.heap.objs.size->s.heap.get? c=some o->h1.get? c=some o:=fun c o hc e=>by
  rw [sb1.2 c (m9 hc)];exact old c o e
 have hbne:((Value.ref b) != (Value.ref a))=true:=by simp [n9 hab]
 rw [mh hbne];have U1:SI w h1 b u ls:=U.keep fun o e=>old1 b o hlb e;refine g0 (g9 ?_);refine g0 (t7 ?_);unfold Builtin.Frozenset.updateFrom;refine g0 (qe7 (s:={s with heap:=h1}) U1 ?_);simp only [↓reduceIte];refine g0 (g9 ?_);unfold Builtin.Frozenset.merge;obtain⟨ob,ep,hob,hxb,hdb⟩:=id U1.ob;refine g0 (wpAny_setEpoch_of (s:={s with heap:=h1}) hob hdb (q57 U.tb hu7) ?_);refine qe4 (s:={s with heap:=h1}) (uh hlb) S1 (fun e=>g1 rfl e) z1 U1 hu hu7 (fun {s'} {Q'} e q=>?_) fun h2 t2 ks2 sb2 S2 z2 i2 g2=>?_
 ·unfold Builtin.Frozenset.unchanged
  have e':s'.heap.get? b=some ob:=e.trans hob;refine g0 (wpAny_setEpoch_of e' hdb (q57 U.tb hu7) ?_);rw [mi (by simp)];exact g9 q
 ·refine g9 (g9 ⟨_,rfl,by simp,?_⟩)
  refine h h2 t2 ks2 (fun c o hc e=>?_) S2 z2 (fun n=>?_)
  ·rw [sb2.2 c (m9 hc)];exact old1 c o hc e
  ·rw [i2 n,i1 n];simp
end
def MR(t:SetTable)(ks:List (Nat×Nat)): Prop:=(ks.length<5->t.mask=7)/\(5<=ks.length->t.mask=31)
theorem MR.step{t t':SetTable}{ks ks':List (Nat×Nat)}{p:Nat×Nat}(m:MR t ks)(st:Step t ks p t' ks'): MR t' ks':=by
 obtain⟨T',l',c⟩:=st
 split at c
 ·obtain⟨rfl,rfl⟩:=c;exact m
 ·obtain⟨c1,c2⟩:=c
  have hl:ks'.length=ks.length+1:=by rw [c1.length_eq];rfl
  have h12:=T'.n12
  by_cases h5:ks.length<4
  ·rw [m.1 (by lia),mi (by lia)] at c2
   exact⟨fun _=>c2,fun h=>by lia⟩
  ·by_cases h6:ks.length=4
   ·rw [m.1 (by lia),h6] at c2
    have:t'.mask=31:=by rw [c2];decide
    exact⟨fun h=>by lia,fun _=>this⟩
   ·rw [m.2 (by lia),mi (by lia)] at c2
    exact⟨fun h=>by lia,fun _=>c2⟩
theorem Step.mem{t t':SetTable}{ks ks':List (Nat×Nat)}{p:Nat×Nat}(st:Step t ks p t' ks')(n:Nat): n∈ks'.map Prod.fst↔n∈ks.map Prod.fst\/n=p.1:=by
 obtain⟨T',l',c⟩:=st
 split at c
 ·rename_i hin
  obtain⟨rfl,rfl⟩:=c;exact⟨.inl,fun h=>h.elim id (fun e=>e ▸ hin)⟩
 ·rw [(c.1.map Prod.fst).mem_iff,gf,mf]
  exact Or.comm
def iv(p:Nat×Nat): Value:=.int (p.1:Int) p.2
section
variable{prog:Program}{w:World}{A:Around}{R:Result->Shared->Prop}{I:Addr}{fp wr:List Addr}{G:Array GenState->Array GenState->Prop}{P:Nat->Value->Prop}{St:Nat->Shared->Prop}
theorem qno(qs:List (Nat×Nat))(hq:∀p∈qs,p.1<12)(W:WalksS prog w A.in1 I fp wr G qs.length P St)(S:Addr)(hSf:S∉fp)
  (hval:∀i v,P i v->∃p,qs[i]? = some p/\v=iv p) :
  ∀(k i:Nat) (s:Shared) (t:SetTable) (ks:List (Nat×Nat)),qs.length-i=k->i<=qs.length->St i s ->
   SI w s.heap S t ks->MR t ks->(∀n,n∈ks.map Prod.fst↔n∈(qs.take i).map Prod.fst) ->
   (∀s' t' ks',Moved (S :: wr) G s s'->SI w s'.heap S t' ks'->MR t' ks'->(∀n,n∈ks'.map Prod.fst↔n∈qs.map Prod.fst)->R (.ok (.ret .none)) s') ->
   codeAny (model prog w) A (.builtin "set.update.loop" ⟨[.ref S,.ref I],[]⟩) R s:=by
 have hSw:S∉wr:=fun h=>hSf (W.sub _ h);have hsub:∀b∈wr,b∈S :: wr:=fun b hb=>gu _ hb;intro k
 induction k with
 | zero=>
  intro i s t ks hk hi hst hS hM hmem hR;have hin:i=qs.length:=by lia
  subst hin;refine g09 g2z ?_;rw [g02 g18 _];show wpAny _ A.in1 (pyNext (.ref I) >>= _) _ _ s;refine g0 (W.done s _ _ hst fun s' hm=>?_);show wpAny _ A.in1 (ret Value.none) _ _ s';exact g9 (hR s' t ks (hm.mono hsub) (hS.keep fun o e=>hm.heap S _ hSw e) hM (by simpa using hmem))
 | succ k ih=>
  intro i s t ks hk hi hst hS hM hmem hR;have hlt:i<qs.length:=by lia
  refine g09 g2z ?_;rw [g02 g18 _];show wpAny _ A.in1 (pyNext (.ref I) >>= _) _ _ s;refine g0 (W.item i s _ _ hlt hst fun v s' hP hst' hm=>?_);obtain⟨p,hp,rfl⟩:=hval i v hP;have hp12:=hq p (g00 hp);have hS':SI w s'.heap S t ks:=hS.keep fun o e=>hm.heap S _ hSw e;show wpAny _ A.in1 (holding [iv p] (setAdd S (iv p)) >>= _) _ _ s';refine g0 (t7 ?_);unfold setAdd;refine t7 ?_;refine g0 ((intKind prog w).pyHash (k:=(p.1:Int)) (g3y _ _ _ _) ?_);rw [q56 hp12];refine qkp (s:={s' with toks:=s'.toks+1}) hS' hp12 (fun e=>g1l fun c=>by have:=hM.2 (by lia);lia) fun h' t' ks' hsb S2 st=>?_;refine g9 ⟨g11 g18 _,ih (i+1) _ t' ks' (by lia) hlt (W.frame _ s' _ _ hst' (g1x _) fun b hb o e=>?_) S2 (hM.step st) (fun n=>?_) fun s'' t'' ks'' hm'' hS'' hM'' hi''=>?_⟩
  ·rw [hsb.2 b (fun h:b=S=>hSf (by rw [<- h];exact hb))];exact e
  ·rw [st.mem n,hmem n]
   have:qs.take (i+1)=qs.take i++[p]:=by
    rw [g48,hp];rfl
   rw [this,g0a,nt];simp
  ·refine hR s'' t'' ks'' (Moved.trans W.gtrans ((hm.mono hsub).then_heap (g1x _) fun b o hb e=>?_) hm'') hS'' hM'' hi''
   rw [hsb.2 b (fun h:b=S=>hb (by rw [h];exact gq))];exact e
end
theorem sub_tuple_set:isSubtype (.type "tuple") (.type "set")=pure false:=by rw [g1m];kernel_rfl
theorem sub_tuple_frozenset:isSubtype (.type "tuple") (.type "frozenset")=pure false:=by rw [g1m];kernel_rfl
section
variable{prog:Program}{w:World}{A:Around}{E:Value->Shared->Prop}{s:Shared}
theorem qks(a:Value){Q₁:Value->Shared->Prop}(h:Q₁ (.ref s.heap.objs.size) {s with heap:=s.heap.push (y9 w)}):
  codeAny (model prog w) A (.call (.builtin "set.__new__") ⟨[.type "set",a],[]⟩) (wants Q₁ E) s:=by
 refine codeAny_of_tree ?_;show wpAny _ A.in1 (do checkBuiltinCall "set.__new__" ⟨[.type "set",a],[]⟩;again (.builtin "set.__new__" ⟨[.type "set",a],[]⟩)) _ _ s;refine g0 (g5n (F.newCall_set_1 a) (g9 ⟨g11 F.plain_set_new _,g09 F.entry_set_new ?_⟩));rw [g02 F.plain_set_new _];unfold Builtin.«set.__new__» Builtin.Frozenset.newClass;have hsub:=sub_set_self;obtain⟨hp,g,d,tk,os⟩:=s;dsimp only
 wp_walk
 refine ue (g9 ?_);dsimp only;simp only [newObj];refine g0 (wpAny_alloc (g9 ?_));exact g9 h
set_option maxHeartbeats 3200000 in
theorem qam{l:Addr}(qs:List (Nat×Nat))(hq:∀p∈qs,p.1<12){Q:Value->Shared->Prop}
  (hh:A.handled=none) (hl:s.heap.IsTuple l (qs.map iv).toArray)
  (h:∀(h':Heap) (tk:Nat) t ks,SI w h' s.heap.objs.size t ks->MR t ks->(∀n,n∈ks.map Prod.fst↔n∈qs.map Prod.fst)->s.toks<=tk ->
   (∀b o,b<s.heap.objs.size->s.heap.get? b=some o->h'.get? b=some o)->Q (.ref s.heap.objs.size) {s with heap:=h',toks:=tk}) :
  wpAny (model prog w) A (call (.type "set") [.ref l]) Q E s:=by
 obtain⟨c,tl,hmro⟩:=g1s.mro;have hmade:=g1s.made;have hsub:=g1s.sub;refine g3o (codeAny_of_tree ?_);show wpAny _ _ (callAny (.type "set") _) _ _ _;refine g9 ⟨Code.quiet_builtin _ (by decide +kernel),g09 F.entry_type_call ?_⟩;rw [Around.under_plain (weight_type_call_type "set" [.ref l] []) rfl];have h1:=g1s.notType;have h2:=g1s.canCreate;have hct:=F.typeCall_set_1 (.ref l)
 repeat (any_goals (first|assumption|wp_step))
 refine g2p (qks (.ref l) (E:=E) (Q₁:=fun obj s₁=>obj=.ref s.heap.objs.size/\s₁ = {s with heap:=s.heap.push (y9 w)}) ⟨rfl,rfl⟩) fun r s₁ hr=>?_;cases r with
 | error e=>exact hr
 | ok fl=>
  cases fl with
  | ret obj=>
   obtain⟨rfl,rfl⟩:=hr;have hS:(s.heap.push (y9 w)).get? s.heap.objs.size=some (y9 w):=gj _ rfl;have hT:Shared.TypeIs {s with heap:=s.heap.push (y9 w)} (.ref s.heap.objs.size) "set" :=⟨_,hS,rfl⟩
   have hli:=g1s.init.lookup;have hbi:=g1s.init.bind (.ref s.heap.objs.size)
   repeat (any_goals (first|assumption|wp_step))
   refine g2p (g28 (R:=wants (fun r s₂=>r=.none/\∃h' tk t ks,s₂ = {s with heap:=h',toks:=tk}/\SI w h' s.heap.objs.size t ks/\MR t ks/\(∀n,n∈ks.map Prod.fst↔n∈qs.map Prod.fst)/\s.toks<=tk /\
     (∀b o,b<s.heap.objs.size->s.heap.get? b=some o->h'.get? b=some o)) E) g1s.init.plain F.entry_set_init (check_set_init_1 hT ?_)) fun r₂ s₂ hr₂=>?_
   ·have hl1:(s.heap.push (y9 w)).IsTuple l (qs.map iv).toArray:=hl.push _
    obtain⟨ol,hol,hcl,hdl⟩:=id hl1;have hsls:=sub_tuple_set;have hslf:=sub_tuple_frozenset;have hne:(Value.type "tuple" == Value.type "dict")=false:=by decide
    have hTl:Shared.TypeIs {s with heap:=s.heap.push (y9 w)} (.ref l) "tuple" :=⟨_,hol,hcl⟩
    unfold Builtin.«set.__init__» noKeywords Builtin.Frozenset.updateFrom;generalize hPI:pyIter=PI
    wp_walk
    subst hPI;refine g2t hl1 ?_;refine g0 (wpAny_runValue ?_);have hlS:l<s.heap.objs.size:=let⟨_,h0,_⟩:=hl;gz h0
    have hh3:A.in1.in1.in1.handled=none:=by simp [hh]
    have hneI:l≠(s.heap.push (y9 w)).objs.size:=by
     rw [p7];exact m9 (g1j hlS)
    have hSf:s.heap.objs.size∉[(s.heap.push (y9 w)).objs.size,l]:=by
     rw [p7];simp only [mf,mv,uq,g1o,g5x];exact⟨m9 (tu _),uh hlS⟩
    have hval:∀(i:Nat) (v:Value),(qs.map iv).toArray[i]? = some v->∃p,qs[i]? = some p/\v=iv p:=fun i v hv=>by
     simp only [List.getElem?_toArray,mr,mj] at hv;obtain⟨p,e1,e2⟩:=hv;exact⟨p,e1,e2.symm⟩
    have W:=(Walks.tuple (prog:=prog) (w:=w) hh3 (s.heap.push (y9 w)).objs.size l hneI (qs.map iv).toArray).toS;have hsz:(qs.map iv).toArray.size=qs.length:=by simp
    rw [hsz] at W;refine qno qs hq W s.heap.objs.size hSf hval (qs.length-0) 0 _ (.fresh 0 0 (!byT w)) [] (by lia) (uj _)
     ⟨⟨_,gj _ rfl,rfl,rfl⟩,(hl1.push _)⟩ (qe6 (gc _ hS)) ⟨fun _=>rfl,fun h=>by simp at h⟩ (fun n=>by simp) fun s' t' ks' hm hS' hM' hi'=>?_
    obtain⟨h',g',d',tk',os'⟩:=s';have eg:g'=s.gens:=hm.gens;have ed:d'=s.drawn:=hm.drawn;have eo:os'=s.os:=hm.os;have etk:s.toks<=tk':=hm.toks;subst eg;subst ed;subst eo;show wpAny _ _ _ _ _ _;refine g9 ?_;show wpAny _ _ (ret Value.none) _ _ _;refine g9 ⟨rfl,h',tk',t',ks',rfl,hS',hM',hi',etk,fun b o hb e=>?_⟩;have hb1:b≠s.heap.objs.size:=m9 hb;have hb2:b≠(s.heap.push (y9 w)).objs.size:=by
     rw [p7];exact m9 (g1j hb)
    exact hm.heap b o (by simp only [mf,mv,uq,g1o,g5x];exact⟨hb1,hb2⟩) (gc _ (gc _ e))
   ·cases r₂ with
    | error e=>exact hr₂
    | ok fl₂=>
     cases fl₂ with
     | ret r=>
      obtain⟨rfl,h',tk,t,ks,rfl,hS',hM',hi',htk',hk'⟩:=hr₂
      repeat (any_goals (first|assumption|wp_step))
      exact h _ _ _ _ hS' hM' hi' htk' hk'
     | _=>exact hr₂.elim
  | _=>exact hr.elim
end
theorem qe8:Manifest.owners.lookup (String.ofList ['r','o','t','a','r','e','t','i','_','t','e','s'].reverse)=some Manifest.sig_set_iterator:=by kernel_rfl
theorem slot_si_next:Slot "set_iterator" "__next__" "set_iterator.__next__" :=
 .of (owner:="set_iterator") (n:="__next__") (by rw [g0w,g07];kernel_rfl) (by decide +kernel) (by decide +kernel) (by decide +kernel)
  (by first|exact .inl (by decide +kernel)|exact .inr (by decide +kernel)) (by rw [g1m];kernel_rfl)
theorem q5u:entryFor table "set_iterator.__next__" = some Builtin.«set_iterator.__next__» :=entryFor_of_tree (by kernel_rfl)
theorem q6c(a:Value): argsOk "set_iterator.__next__" ⟨[a],[]⟩:=by
 unfold argsOk;rw [signature?_of (id:="set_iterator.__next__") (n:=['_','_','t','x','e','n','_','_']) (o:=['r','o','t','a','r','e','t','i','_','t','e','s']) (by kernel_rfl) qe8];kernel_rfl
theorem q6d:Slot "set_iterator" "__iter__" "set_iterator.__iter__" :=
 .of (owner:="set_iterator") (n:="__iter__") (by rw [g0w,g07];kernel_rfl) (by decide +kernel) (by decide +kernel) (by decide +kernel)
  (by first|exact .inl (by decide +kernel)|exact .inr (by decide +kernel)) (by rw [g1m];kernel_rfl)
theorem qci:entryFor table "set_iterator.__iter__" = some Builtin.«dict_keyiterator.__iter__» :=
 entryFor_alias (id':="dict_keyiterator.__iter__") (by kernel_rfl) rfl (by decide +kernel) (by kernel_rfl)
theorem qe9(a:Value): argsOk "set_iterator.__iter__" ⟨[a],[]⟩:=by
 unfold argsOk;rw [signature?_of (id:="set_iterator.__iter__") (n:=['_','_','r','e','t','i','_','_']) (o:=['r','o','t','a','r','e','t','i','_','t','e','s']) (by kernel_rfl) qe8];kernel_rfl
theorem qan:entryFor table "set.__iter__" = some Builtin.«frozenset.__iter__» :=
 entryFor_alias (id':="frozenset.__iter__") (by kernel_rfl) rfl (by decide +kernel) (by kernel_rfl)
def SIt(h:Heap)(it a:Addr)(slot i n ep:Nat): Prop:=∃o,h.get? it=some o/\o.cls=.type "set_iterator" /\ o.data=.fields #[.int slot 0,.int i 0,.ref a,.int n 0,.int ep 0]
def Row(w:World)(a:Addr)(ep:Nat)(ks vals:List (Nat×Nat)): Prop:=
 (byT w=true->(vals.map el).toArray=pickOrder (w.params.setOrder a ep) (ks.map el).toArray)/\(byT w=false->vals=ks)
theorem qto(w:World)(a:Addr)(ep:Nat)(ks:List (Nat×Nat)): ∃vals,Row w a ep ks vals/\vals.Perm ks:=by
 cases hb:byT w
 ·exact⟨ks,⟨by simp [hb],fun _=>rfl⟩,g46 _⟩
 ·have hp:=q4g (w.params.setOrder a ep) (ks.map el).toArray
  generalize hx:pickOrder (w.params.setOrder a ep) (ks.map el).toArray=xs at hp;have hp':xs.toList.Perm (ks.map el):=by simpa using hp
  obtain⟨ls,hl,e⟩:=q8a hp';refine⟨ls,⟨fun _=>?_,by simp [hb]⟩,hl⟩;rw [hx, <- e]
def SAt(w:World)(h:Heap)(a:Addr)(t:SetTable)(ks:List (Nat×Nat))(ep:Nat): Prop:=
 (∃o,h.get? a=some o/\o.ExactSet/\o.data=.set (ks.map el).toArray ep t)/\Tb t ks/\t.led=(!byT w)/\(t.mask=7->ks.length<8)
def Far(w:World)(t:SetTable)(slot i:Nat): Prop:=byT w=false->(∀x∈t.place.toList.take i,x<slot)/\(∀x∈t.place.toList.drop i,slot<=x)
section
variable{prog:Program}{w:World}{A:Around}{E:Value->Shared->Prop}{s:Shared}{a it:Addr}{t:SetTable}{ks vals:List (Nat×Nat)}{ep slot i:Nat}
theorem SAt.typeIs(S:SAt w s.heap a t ks ep): s.TypeIs (.ref a) "set" :=let⟨⟨o,ho,hc,_⟩,_⟩:=S; ⟨o,ho,hc.1⟩
theorem SIt.typeIs{n:Nat}(S:SIt s.heap it a slot i n ep): s.TypeIs (.ref it) "set_iterator" :=let⟨o,ho,hc,_⟩:=S; ⟨o,ho,hc⟩
theorem SAt.state{Q:(Array (Int×Value)×Nat×SetTable)->Shared->Prop}(S:SAt w s.heap a t ks ep)(h:Q ((ks.map el).toArray,ep,t) s): wpAny (model prog w) A (setState a) Q E s:=by
 obtain⟨⟨o,ho,hc,hd⟩,T,l,h7⟩:=S;exact g3b ho hd (q57 T h7) h
theorem SAt.keep{h h':Heap}(S:SAt w h a t ks ep)(e:∀o,h.get? a=some o->h'.get? a=some o): SAt w h' a t ks ep:=by
 obtain⟨⟨o,ho,r⟩,q⟩:=S;exact⟨⟨o,e o ho,r⟩,q⟩
theorem qnp{Q:Value->Shared->Prop}(S:SAt w s.heap a t ks ep)(h:Q (.ref s.heap.objs.size) {s with heap:=s.heap.push {cls:=.type "set_iterator",data:=.fields #[.int 0 0,.int 0 0,.ref a,.int ks.length 0,.int ep 0]} }):
  wpAny (model prog w) A (pyIter (.ref a)) Q E s:=by
 refine g4u S.typeIs F.slot_set_iter (p9 F.slot_set_iter S.typeIs qan ?_ (F.args_set_iter_1 _));unfold Builtin.«frozenset.__iter__»;refine g0 (m:=Builtin.Frozenset.slot0 "__iter__" _) (g9 ?_);refine g0 ?_;unfold Builtin.Frozenset.sizeOf setEntries;refine g0 (g0 (S.state (g9 (g9 ?_))));refine g0 ?_;unfold setDrawn setsByText;refine g0 (S.state ?_);dsimp only;refine g0 (g0 (ue (g9 (g9 ?_))));refine td (fun c=>?_) (fun _=>?_)
 ·have c':(!byT w&&(!t.plain&&decide ((ks.map el).toArray.size>1)))=true:=c
  rw [S.2.1.pl] at c';simp at c'
 refine g0 (g9 ?_);refine g0 ?_;unfold setEpoch;refine g0 (S.state (g9 ?_));have hsz:(ks.map el).toArray.size=ks.length:=by simp
 rw [hsz];refine g0 (ui (g9 ⟨_,rfl,"set_iterator",_,⟨_,gj _ rfl,rfl⟩,slot_si_next.lookup,?_⟩));exact h
theorem q9l{h:Heap}{o:Obj}{vs:Array Value}{x:Value}{j:Nat}(ho:h.get? it=some o)(hd:o.data=.fields vs):
  ∃o',(h.update it (Obj.mapFields (·.setIfInBounds j x))).get? it=some o'/\o'.cls=o.cls/\o'.data=.fields (vs.setIfInBounds j x):=
 ⟨_,g0f _ ho (Obj.isFreed_of_fields (g2u hd _)),Obj.cls_mapFields ..,g2u hd _⟩
theorem next_item{Q:Option Value->Shared->Prop}{p:Nat×Nat}(I:SIt s.heap it a slot i ks.length ep)(S:SAt w s.heap a t ks ep)(R:Row w a ep ks vals)(F:Far w t slot i)(hp:vals[i]? = some p)
  (h:∀h' slot',SIt h' it a slot' (i+1) ks.length ep->Far w t slot' (i+1)->Heap.SameBut it s.heap h'->Q (some (.int (p.1:Int) p.2)) {s with heap:=h'}) :
  wpAny (model prog w) A (pyNext (.ref it)) Q E s:=by
 obtain⟨o,ho,hc,hd⟩:=id I;unfold pyNext;refine g0 (g0n (tm (name:=Str.ofString "__next__") I.typeIs slot_si_next
  (p9 slot_si_next I.typeIs q5u ?_ (q6c _))))
 unfold Builtin.«set_iterator.__next__»;refine g0 (m:=slotArgs "__next__" 0 _) (g9 ?_);dsimp only;refine g0 (g49 ho hd ?_);dsimp only;unfold setEntries;refine g0 (g0 (S.state (g9 ?_)));have hsz:(((ks.map el).toArray.size:Int) != (ks.length:Int))=false:=by simp
 dsimp only;rw [hsz];simp only [gr, ↓reduceIte,p0];have key:∃slot',Far w t slot' (i+1)/\∀ {Q':Option (Value×Nat)->Shared->Prop} {E':Value->Shared->Prop},Q' (some (.int (p.1:Int) p.2,slot')) s->wpAny (model prog w) A.in1 (setNext a slot i ep) Q' E' s:=by
  cases hb:byT w
  ·have hv:vals=ks:=R.2 hb
   rw [hv] at hp;obtain⟨f1,f2⟩:=F hb;have hpl:t.place=(t.place.toList.take i++t.place.toList.drop i).toArray:=by simp
   have hi:i<ks.length:=(nu.mp hp).1;have hi':i<t.place.toList.length:=by rw [S.2.1.sz];exact hi
   have hbel:SetTable.below t.place slot=i:=by
    rw [hpl,below_at f1 f2];simp at hi' ⊢;lia
   have hpj:t.place[i]? = some (t.place.toList[i]):=by rw [<- u9];exact my hi'
   have hei:(ks.map el).toArray[i]? = some (el p):=by simp [hp]
   have hdr:t.place.toList.drop i=t.place.toList[i] :: t.place.toList.drop (i+1):=t6 hi';have htk:t.place.toList.take (i+1)=t.place.toList.take i++[t.place.toList[i]]:=by
    rw [g48,my hi'];rfl
   have hrs:=S.2.1.rs;rw [<- nz i t.place.toList,hdr] at hrs;obtain⟨r1,r2,r3⟩:=nv.mp hrs;refine⟨t.place.toList[i]+1,fun _=>⟨fun x hx=>?_,fun x hx=>?_⟩,fun {Q'} {E'} q=>?_⟩
   ·rw [htk] at hx
    rcases nt.mp hx with h|h
    ·have:=r3 x h _ (gq ..);lia
    ·have:=mv.mp h;lia
   ·have:=(g17.mp r2).1 x hx;lia
   ·unfold setNext setsByText
    refine g0 (S.state ?_);dsimp only;refine g0 (g0 (ue (g9 ?_)));refine td (fun c=>?_) (fun _=>?_)
    ·have c':byT w=true:=c
     rw [hb] at c';exact absurd c' (by decide)
    refine td (fun c=>?_) (fun _=>?_)
    ·have c':(!t.plain&&decide ((ks.map el).toArray.size>1))=true:=c
     rw [S.2.1.pl] at c';simp at c'
    have hld:t.led=true:=by rw [S.2.2.1,hb];rfl
    show wpAny _ _ ((do if !t.led && !(ks.map el).toArray.isEmpty then unsupported "set:maker-not-led" : Sem Unit) >>= fun _=>_) _ _ _;rw [hld];simp only [g0o,g43,gr, ↓reduceIte];refine g0 (g9 (g9 ?_));rw [hbel,hei,hpj];exact q
  ·have hv:=R.1 hb
   refine⟨slot,fun c=>?_,fun {Q'} {E'} q=>?_⟩
   ·rw [hb] at c;exact absurd c (by decide)
   ·unfold setNext setsByText
    refine g0 (S.state ?_);dsimp only;refine g0 (g0 (ue (g9 ?_)));refine td (fun _=>?_) (fun c=>absurd hb c);rw [mi (by simp)];refine g0 ?_;unfold setWalk setsByText;refine g0 (S.state ?_);dsimp only;refine g0 (g0 (ue (g9 ?_)));refine td (fun _=>?_) (fun c=>absurd hb c);refine g0 (ue (g9 (g9 ?_)));have:(pickOrder (w.params.setOrder a ep) (ks.map el).toArray)[i]? = some (el p):=by rw [<- hv];simp [hp]
    show Q' (((pickOrder (w.params.setOrder a ep) (ks.map el).toArray)[i]?).map fun e=>(e.2,slot)) s;rw [this];exact q
 obtain⟨slot',F',kn⟩:=key;refine g0 (kn ?_);dsimp only;refine g0 (g33 ho hd (by simp) ?_);obtain⟨o1,ho1,hc1,hd1⟩:=q9l (x:=rawInt slot') (j:=0) ho hd;refine g0 (g33 (s:={s with heap:=s.heap.update it (Obj.mapFields (·.setIfInBounds 0 (rawInt slot')))}) ho1 hd1 (by simp) (g9 ⟨_,rfl,g9 (h _ slot' ?_ F' ((uc ..).trans (uc ..)))⟩));obtain⟨o2,ho2,hc2,hd2⟩:=q9l (x:=rawInt (i+1)) (j:=1) ho1 hd1;exact⟨o2,ho2,hc2.trans (hc1.trans hc),by rw [hd2];simp [rawInt]⟩
theorem next_end{Q:Option Value->Shared->Prop}(hh:A.handled=none)(hi:i=ks.length)(I:SIt s.heap it a slot i ks.length ep)(S:SAt w s.heap a t ks ep)(R:Row w a ep ks vals)(hvl:vals.length=ks.length)(F:Far w t slot i)
  (h:∀h',Heap.ExtBut it s.heap h'->Q none {s with heap:=h'}) :
  wpAny (model prog w) A (pyNext (.ref it)) Q E s:=by
 obtain⟨o,ho,hc,hd⟩:=id I;unfold pyNext;refine g0 (g0n (tm (name:=Str.ofString "__next__") I.typeIs slot_si_next
  (p9 slot_si_next I.typeIs q5u ?_ (q6c _))))
 unfold Builtin.«set_iterator.__next__»;refine g0 (m:=slotArgs "__next__" 0 _) (g9 ?_);dsimp only;refine g0 (g49 ho hd ?_);dsimp only;unfold setEntries;refine g0 (g0 (S.state (g9 ?_)));have hsz:(((ks.map el).toArray.size:Int) != (ks.length:Int))=false:=by simp
 dsimp only;rw [hsz];simp only [gr, ↓reduceIte,p0];have key:∀ {Q':Option (Value×Nat)->Shared->Prop} {E':Value->Shared->Prop},Q' none s->wpAny (model prog w) A.in1 (setNext a slot i ep) Q' E' s:=by
  intro Q' E' q;unfold setNext setsByText;refine g0 (S.state ?_);dsimp only;refine g0 (g0 (ue (g9 ?_)));cases hb:byT w
  ·refine td (fun c=>?_) (fun _=>?_)
   ·have c':byT w=true:=c
    rw [hb] at c';exact absurd c' (by decide)
   refine td (fun c=>?_) (fun _=>?_)
   ·have c':(!t.plain&&decide ((ks.map el).toArray.size>1))=true:=c
    rw [S.2.1.pl] at c';simp at c'
   have hld:t.led=true:=by rw [S.2.2.1,hb];rfl
   show wpAny _ _ ((do if !t.led && !(ks.map el).toArray.isEmpty then unsupported "set:maker-not-led" : Sem Unit) >>= fun _=>_) _ _ _;rw [hld];simp only [g0o,g43,gr, ↓reduceIte];refine g0 (g9 (g9 ?_));obtain⟨f1,f2⟩:=F hb;have hpl:t.place=(t.place.toList.take i++t.place.toList.drop i).toArray:=by simp
   have hbel:SetTable.below t.place slot=i:=by
    rw [hpl,below_at f1 f2];have:=S.2.1.sz;simp at this ⊢;lia
   have hei:(ks.map el).toArray[i]? = none:=by simp [hi]
   rw [hbel,hei];exact q
  ·refine td (fun _=>?_) (fun c=>absurd hb c)
   rw [mi (by simp)];refine g0 ?_;unfold setWalk setsByText;refine g0 (S.state ?_);dsimp only;refine g0 (g0 (ue (g9 ?_)));refine td (fun _=>?_) (fun c=>absurd hb c);refine g0 (ue (g9 (g9 ?_)));have:(pickOrder (w.params.setOrder a ep) (ks.map el).toArray)[i]? = none:=by rw [<- R.1 hb];simp [hi,hvl]
   show Q' (((pickOrder (w.params.setOrder a ep) (ks.map el).toArray)[i]?).map fun e=>(e.2,slot)) s;rw [this];exact q
 refine g0 (key ?_);dsimp only;refine g0 (g33 ho hd (by simp) ?_);show wpAny _ _ (newExc (.type "StopIteration") [] >>= _) _ _ _;refine g0 ?_;simp only [newExc,newTuple];refine g0 (ui ?_ (by size_fits));refine g0 (m:=firstArgMember _ _) (g5n (a:=Value.none) (by first|rfl|(simp only [firstArgMember];rfl)) ?_);refine ui ?_ (by size_fits);simp only [raiseNew];refine g0 (g4l ?_)
 first|rw [show A.in1.handled=none from hh]|rw [hh]
 refine g0 (g9 (wpAny_throw ?_));refine g0 (g1n (T:="StopIteration") (b:=true) ⟨_,gj _ rfl,rfl⟩ isSubtype_stop ?_);exact g9 (h _ (((uc ..).extBut.push _).push _))
theorem qkt(hh:A.handled=none)(hne:a≠it)(R:Row w a ep ks vals)(hvl:vals.length=ks.length):
  Walks prog w A it [it,a] [it] ks.length (fun i v=>∃p,vals[i]? = some p/\v=.int (p.1:Int) p.2) (fun i h=>∃slot,SIt h it a slot i ks.length ep/\SAt w h a t ks ep/\Far w t slot i) where
 sub:=fun b hb=>by simp at hb;simp [hb]
 frame:=fun i h h' st hk=>by
  obtain⟨slot,⟨o,ho,r⟩,S,F⟩:=st;exact⟨slot,⟨o,hk it (by simp) o ho,r⟩,S.keep (fun o e=>hk a (by simp) o e),F⟩
 item:=fun i s Q E hi st hQ=>by
  obtain⟨slot,I,S,F⟩:=st;have hi':i<vals.length:=by lia
  refine next_item I S R F (my hi') fun h' slot' I' F' sb=>?_;exact hQ _ h' s.toks ⟨_,my hi',rfl⟩ ⟨slot',I',S.keep (fun o e=>sb.extBut a o hne e),F'⟩ fun b o hb e=>sb.extBut b o (fun h=>hb (by simp [h])) e
 done:=fun s Q E st hQ=>by
  obtain⟨slot,I,S,F⟩:=st;exact next_end hh rfl I S R hvl F fun h' he=>hQ h' s.toks fun b o hb e=>he b o (fun h=>hb (by simp [h])) e
 self:=fun i s Q E st hQ=>by
  obtain⟨slot,I,S,F⟩:=st;refine g4u I.typeIs q6d (p9 q6d I.typeIs qci ?_ (qe9 _));show wpAny _ _ (ret (.ref it)) _ _ s;exact g9 ⟨_,rfl,"set_iterator",_,I.typeIs,slot_si_next.lookup,hQ⟩
end
end Js
namespace Js
open PySem PyProof.Rows
section
variable{prog:Program}{w:World}{A:Around}{E:Value->Shared->Prop}{s:Shared}{a:Addr}{t:SetTable}{ks vals:List (Nat×Nat)}{ep:Nat}
theorem qnq{Q:Bool->Shared->Prop}(hT:s.TypeIs (.ref a) "set")(h:Q false s): wpAny (model prog w) A (Builtin.List.listLengthHint (.ref a)) Q E s:=by
 unfold Builtin.List.listLengthHint;refine g0 (g5i hT F.slot_set_len.lookup ?_);generalize hid:("set.__len__" : String)=id0;dsimp only;rw [show splitId id0=some ("set","__len__") from by subst hid;decide +kernel];subst hid;dsimp only;refine g0 (g1n (T:="set") (b:=true) hT (by rw [g1m];kernel_rfl) ?_);refine td (fun hab=>absurd hab (by decide)) (fun _=>?_);refine td (fun _=>?_) (fun hab=>absurd (by decide +kernel) hab);refine g0 (g0r hT ?_);exact g9 h
def iv'(p:Nat×Nat): Value:=.int (p.1:Int) p.2
theorem qnr{vals:List (Nat×Nat)}{n:Nat}{acc:Array Value}(hn:vals.length=n)(h:ItemsOf (fun i v=>∃p,vals[i]? = some p/\v=.int (p.1:Int) p.2) acc n): acc.toList=vals.map iv':=by
 apply List.ext_getElem?;intro i
 by_cases hi:i<n
 ·have h1:i<acc.size:=by rw [h.1];exact hi
  have e:acc[i]? = some acc[i]:=g2n h1;obtain⟨p,hp,hv⟩:=h.2 i _ e;rw [u9,e,mr,hp,hv];rfl
 ·rw [u9,g5t (by rw [h.1];omega),mr,g3l (by omega)];rfl
theorem qft{Q:List Value->Shared->Prop}(hh:A.handled=none)(S:SAt w s.heap a t ks ep)
  (h:∀(s':Shared) (vals:List (Nat×Nat)),vals.Perm ks->(∀b o,b<s.heap.objs.size->s.heap.get? b=some o->s'.heap.get? b=some o)->s.heap.objs.size<=s'.heap.objs.size->s'.gens=s.gens->s'.drawn=s.drawn->s'.os=s.os->s.toks<=s'.toks->Q (vals.map iv') s') :
  wpAny (model prog w) A (collect (.ref a)) Q E s:=by
 have hla:a<s.heap.objs.size:=let⟨⟨o,ho,_⟩,_⟩:=S;gz ho
 unfold collect;refine g0 (wpAny_runValue (g09 F.entry_proto_collect ?_));rw [g02 F.plain_proto_collect _];show wpAny _ A.in1 (newList [] >>= fun l=>again (.builtin "list.__iadd__" ⟨[l,.ref a],[]⟩)) _ _ s;refine g0 (ui ?_);refine g9 ⟨g11 F.plain_list_iadd _,g09 F.entry_list_iadd ?_⟩;rw [g02 F.plain_list_iadd _]
 let lo:Obj:={cls:=.type "list",data:=.seq ([]:List Value).toArray}
 have S1:SAt w (s.heap.push lo) a t ks ep:=S.keep fun o e=>gc _ e;show wpAny _ A.in1 (Builtin.List.listExtendWith (.ref s.heap.objs.size) (.ref a) (.ref s.heap.objs.size)) _ _ _;unfold Builtin.List.listExtendWith;refine g0 (g0r S1.typeIs ?_);have h1:Builtin.List.listSameRef (.ref s.heap.objs.size) (.ref a)=false:=by simp [Builtin.List.listSameRef];exact uh hla
 have h2:(Value.type "set" == Value.type "list")=false:=by decide
 have h3:(Value.type "set" == Value.type "tuple")=false:=by decide
 simp only [h1,h2,h3,Bool.or_false,gr,p8]
 let io:Obj:={cls:=.type "set_iterator",data:=.fields #[.int 0 0,.int 0 0,.ref a,.int ks.length 0,.int ep 0]}
 refine g0 (qnp (s:={s with heap:=s.heap.push lo}) S1 ?_);have hsz1:(s.heap.push lo).objs.size=s.heap.objs.size+1:=p7 ..;have S2:SAt w ((s.heap.push lo).push io) a t ks ep:=S1.keep fun o e=>gc _ e;refine g0 (t7 (qnq (s:={s with heap:=(s.heap.push lo).push io}) S2.typeIs ?_));refine td (fun _=>?_) (fun hab=>absurd (by decide +kernel) hab);refine g0 (g01 ?_);have hL1:((s.heap.push lo).push io).get? s.heap.objs.size=some lo:=gc _ (gj _ rfl);refine g0 ?_;show wpAny _ A.in1 (updateSeq s.heap.objs.size (·.push .none) >>= fun _=>updateSeq s.heap.objs.size (·.pop)) _ _ _;refine g0 (g3x (s:={s with heap:=(s.heap.push lo).push io}) hL1 rfl ?_);have hL2:=g0f (Obj.mapSeq (·.push Value.none)) hL1 rfl;refine g3x hL2 rfl ?_;have hL3:=g0f (Obj.mapSeq (·.pop)) hL2 rfl
 let h3':=(((s.heap.push lo).push io).update s.heap.objs.size (Obj.mapSeq (·.push Value.none))).update s.heap.objs.size (Obj.mapSeq (·.pop))
 have oth:∀b o,b≠s.heap.objs.size->((s.heap.push lo).push io).get? b=some o->h3'.get? b=some o:=
  fun b o hb e=>(g0m _ _ (n9 hb)).trans ((g0m _ _ (n9 hb)).trans e)
 obtain⟨vals,hR,hvp⟩:=qto w a ep ks;have hvl:vals.length=ks.length:=hvp.length_eq;have W:=(qkt (prog:=prog) (w:=w) (A:=A.in1) (it:=(s.heap.push lo).objs.size) (t:=t) (vals:=vals) (by simpa using hh) (by rw [hsz1];exact m9 (g1j hla)) hR hvl).toS;have hIt:SIt h3' (s.heap.push lo).objs.size a 0 0 ks.length ep:=⟨io,oth _ _ (by rw [hsz1];exact Nat.succ_ne_self _) (gj _ rfl),rfl,rfl⟩
 have hn12:=S.2.1.n12;refine g9 ⟨g11 F.plain_extend_loop _,codeAny_extend_loopS W (by rw [g2e];omega) s.heap.objs.size (by rw [hsz1];simp only [mf,uq,g1o,g5x];exact⟨m9 (tu _),uh hla⟩) _ ks.length 0 _ _ _ rfl (uj _)
  ⟨0,hIt,S2.keep fun o e=>oth a o (m9 hla) e,fun _=>⟨by simp,by simp⟩⟩ hL3 (ItemsOf.nil _) fun s' acc' c' hm hS' hacc=>?_⟩
 show wpAny _ A (load s.heap.objs.size >>= _) _ _ s';refine g0 (wpAny_load hS' ?_);refine g9 ?_;rw [qnr hvl hacc];refine h s' vals hvp (fun b o hb e=>hm.heap b o (by rw [hsz1];simp only [mf,uq,g1o,g5x];exact⟨m9 hb,m9 (g1j hb)⟩) (oth b o (m9 hb) (gc _ (gc _ e)))) (g4z (gz hS')) hm.gens hm.drawn hm.os hm.toks
theorem qid{Q:Value->Shared->Prop}(hh:A.handled=none)(S:SAt w s.heap a t ks ep)
  (h:∀(h':Heap) (tk:Nat) (c:Addr) (out:List Value) (ns':List Int) (e:Nat),IntsAre out ns'->ns'.Perm (ks.map fun p=>(p.1:Int))->ns'.Pairwise (· <= ·)->(∀b o,b<s.heap.objs.size->s.heap.get? b=some o->h'.get? b=some o) ->
   s.heap.objs.size<=c->h'.get? c=some (seqObj "list" out.toArray e)->s.toks<=tk->Q (.ref c) {s with heap:=h',toks:=tk}) :
  wpAny (model prog w) A (call (.builtin "sorted") [.ref a]) Q E s:=by
 refine Calls.call_function_entry kind_sorted plain_sorted entry_sorted (args_sorted1 _) ?_;unfold Builtin.«sorted»;refine g0 (m:=checkCount "sorted" 1 1 _) (g9 ?_);have hn12:=S.2.1.n12;refine g0 (qft (A:=A.in1) (by simpa using hh) S fun s1 vals hp hk hz hg hd ho ht=>?_);have hvl:vals.length=ks.length:=hp.length_eq;refine g0 (wpAny_newList ?_);have hoL:(s1.heap.push (seqObj "list" (vals.map iv').toArray 0)).get? s1.heap.objs.size=some (seqObj "list" (vals.map iv').toArray 0):=gj _ rfl;have hI:IntsAre (vals.map iv') (vals.map fun p=>(p.1:Int)):=by
  clear hoL hvl hp
  induction vals with
  | nil=>exact .nil
  | cons p l ih=>exact .cons _ _ ih
 refine g0 (t7 (p9 slot_list_sort ⟨_,hoL,rfl⟩ entry_list_sort (list_sort_tree (s:={s1 with heap:=s1.heap.push (seqObj "list" (vals.map iv').toArray 0)}) hoL hI (by simp;omega) fun out ns' a1 a2 a3=>⟨_,rfl,?_⟩) (args_list_sort _)));refine g9 ⟨_,rfl,?_⟩;obtain⟨h1,g1,d1,t1,o1⟩:=s1;dsimp only at hk hz hg hd ho ht hoL;subst hg;subst hd;subst ho;have hz1:(h1.push (seqObj "list" (vals.map iv').toArray 0)).objs.size=h1.objs.size+1:=p7 ..;have e1:=g1v hoL (fun _=> #[]);have e2:=gc (seqObj "tuple" (vals.map iv').toArray 0) e1;have e3:=gc (seqObj "list" #[] 0) e2;have e4:=g1v e3 (fun _=>out);refine h (sortedHeap (h1.push (seqObj "list" (vals.map iv').toArray 0)) h1.objs.size (vals.map iv') out) t1 h1.objs.size out.toList ns' _ a1 (a2.trans (hp.map _)) a3 (fun b ob hb e=>?_) hz (by unfold sortedHeap;simpa using e4) ht;have nb:b≠h1.objs.size:=m9 (gh hb hz);unfold sortedHeap;refine(g0m _ _ (n9 nb)).trans ?_;refine gc _ (gc _ ?_);refine(g0m _ _ (n9 nb)).trans ?_;exact gc _ (hk b ob hb e)
end
end Js
namespace DL
open PySem PySem.Spec PyProof.Rows L2
variable[Lam]
def q3y:List D->Option (List Nat)
 | []=>some []
 | .int i :: r=>if 0<=i/\i<12 then(q3y r).map (i.toNat :: ·) else none
 | _ :: _=>none
def qie:D->D->Option (List D)
 | .tup ds,.tup es=>(q3y ds).bind fun a=>(q3y es).bind fun b=>some (((List.range 12).filter fun n=>decide (n∈a\/n∈b)).map fun n=>D.int (n:Nat))
 | _,_=>none
def qif(f g:FE): FA:=fun ρ =>(f ρ).bind fun x=>(g ρ).bind fun y=>qie x y
def q58(w:World)(a:Addr)(ns:List Nat): HO:=.ext fun h=>∃t ks,Js.SI w h a t ks/\Js.MR t ks/\∀n,n∈ks.map Prod.fst↔n∈ns
def qig(w:World)(a:Addr)(ns:List Nat): HO:=.ext fun h=>∃t ks,Js.SI w h a t ks/\(t.mask=7->ks.length<8)/\∀n,n∈ks.map Prod.fst↔n∈ns
def qvy(K:Frag)(w:World): List V->Hp->VK->Prop:=fun xs H Q=>∃F ds ns,Same F H/\RepL K F [.tup ds] xs/\q3y ds=some ns/\∀a,H a=none->Q (.ref a) (upd H a (q58 w a ns))
def rOr(w:World): R2:=fun x y H Q=>∃a b ns ms,x=.ref a/\y=.ref b/\a≠b/\H a=some (q58 w a ns)/\H b=some (q58 w b ms)/\∀c,H c=none->Q (.ref c) (upd H c (qig w c (ns++ms)))
def qv3(w:World): List V->Hp->VK->Prop:=fun xs H Q=>∃a ns,xs=[.ref a]/\H a=some (qig w a ns)/\∀c,H c=none->Q (.ref c) (upd H c (.lst (((List.range 12).filter fun n=>decide (n∈ns)).map fun n=>V.int (n:Nat))))
omit [Lam] in
theorem qbo{K:Frag}{F:Hp}: ∀ {ds:List D} {ys:List V} {its:List Value} {ns:List Nat},q3y ds=some ns->RepL K F ds ys->Vals ys its->∃qs:List (Nat×Nat),its=qs.map Js.iv/\(∀p∈qs,p.1<12)/\qs.map Prod.fst=ns
 | [],ys,its,ns,h,k,r=>by
  cases h;cases k.nil_inv;cases r;exact⟨[],rfl,by simp,rfl⟩
 | .int i :: ds,ys,its,ns,h,k,r=>by
  unfold q3y at h
  split at h
  ·rename_i hi
   obtain⟨ms,h1,rfl⟩:=mj.mp h;obtain⟨x,ys',rfl,a1,a2⟩:=k.cons_inv;cases rep_int.mp a1;cases r with
   | cons b1 b2=>
    obtain⟨qs,e1,e2,e3⟩:=qbo h1 a2 b2;obtain⟨tk,rfl⟩:=b1;refine⟨(i.toNat,tk) :: qs,?_,?_,by simp [e3]⟩
    ·rw [e1,gf]
     congr 1
     show _=Value.int ((i.toNat:Nat):Int) tk;rw [g2f hi.1]
    ·intro p hp
     rcases mf.mp hp with rfl|hp
     ·show i.toNat<12
      lia
     ·exact e2 p hp
  ·cases h
 | .non :: _,_,_,_,h,_,_=>by cases h
 | .bl _ :: _,_,_,_,h,_,_=>by cases h
 | .str _ :: _,_,_,_,h,_,_=>by cases h
 | .tup _ :: _,_,_,_,h,_,_=>by cases h
 | .lst _ :: _,_,_,_,h,_,_=>by cases h
 | .dct _ _ :: _,_,_,_,h,_,_=>by cases h
 | .dtt _ _ :: _,_,_,_,h,_,_=>by cases h
 | .obj _ :: _,_,_,_,h,_,_=>by cases h
 | .exc _ :: _,_,_,_,h,_,_=>by cases h
section
variable{X:Cx}
theorem qku(hc:X.calm=true): xp X (.type "set") (qvy X.K X.w):=fun pins s σ H xs us Q I rv ⟨F,ds,ns,fh,rl,hn,q⟩=>by
 obtain⟨x,rfl,rx⟩:=rep1 rl;obtain⟨a,ys,rfl,k1,k2⟩:=rep_tup.mp rx;obtain⟨u,rfl,ru⟩:=vals1 rv;cases ru;obtain⟨its,r1,p1,hz⟩:=I.tuple (ql fh k1);obtain⟨qs,rfl,hq,rfl⟩:=qbo hn k2 r1;refine Js.qam qs hq (I.ok.hd hc) p1 fun h' tk t ks S M m ht old=>?_;have hnn:H s.heap.objs.size=none:=I.hok.fresh (gv _);obtain⟨o,ep,ho,hx,hd⟩:=id S.ob;refine⟨.ref _,_,I.laid (t':=tk) (a:=s.heap.objs.size) (o:=q58 X.w s.heap.objs.size (qs.map Prod.fst)) (fun b ob qb=>old b ob (gz qb) qb) (gv _) ⟨⟨t,ks,S,M,m⟩,⟨o,ho⟩,fun h1 h2 ⟨t,ks,S,M,m⟩ e=>⟨t,ks,S.keep e,M,m⟩⟩,rfl,q _ hnn⟩
theorem qtp:OpR X (binaryOp .BitOr) (rOr X.w):=fun pins s σ H x y v u Q I rx ry ⟨a,b,ns,ms,e1,e2,hab,ha,hb,q⟩=>by
 subst e1;subst e2;cases rx;cases ry;obtain⟨⟨t,ks,S,M,m⟩,_,_⟩:=I.hok a _ ha;obtain⟨⟨t',ks',S',M',m'⟩,_,_⟩:=I.hok b _ hb;have m7:∀ {t:SetTable} {ks:List (Nat×Nat)},Js.MR t ks->t.mask=7->ks.length<8:=fun M e=>g1l fun c=>by
  have:=M.2 (by lia);lia
 refine Js.qv2 hab S M.1 (m7 M) S' M'.1 (m7 M') fun h2 t2 ks2 old S2 h72 m2=>?_;have hnn:H s.heap.objs.size=none:=I.hok.fresh (gv _);obtain⟨o,ep,ho,hx,hd⟩:=id S2.ob;refine⟨.ref _,_,I.laid (t':=s.toks) (a:=s.heap.objs.size) (o:=qig X.w s.heap.objs.size (ns++ms)) (fun c ob qb=>old c ob (gz qb) qb) (gv _) ⟨⟨t2,ks2,S2,h72,fun n=>?_⟩,⟨o,ho⟩,fun h1 h2 ⟨t,ks,S,M,m⟩ e=>⟨t,ks,S.keep e,M,m⟩⟩,rfl,q _ hnn⟩;rw [m2 n,m n,m' n,nt]
theorem qqr(hc:X.calm=true): xp X (.builtin "sorted") (qv3 X.w):=fun pins s σ H xs us Q I rv ⟨a,ns,e1,ha,q⟩=>by
 subst e1;obtain⟨u,rfl,ru⟩:=vals1 rv;cases ru;obtain⟨⟨t,ks,S,h7,m⟩,_,_⟩:=I.hok a _ ha;obtain⟨o,ep,ho,hx,hd⟩:=id S.ob;refine Js.qid (I.ok.hd hc) ⟨⟨o,ho,hx,hd⟩,S.tb,S.ld,h7⟩ fun h' tk c out ns' e hI hp hs old hc' hget ht=>?_;have hnn:H c=none:=I.hok.fresh hc';have hL:ns'=((List.range 12).filter fun n=>decide (n∈ns)).map fun n:Nat=>(n:Int):=by
  refine q68 (hp.trans ?_) hs ?_
  ·have:(ks.map Prod.fst).Perm ((List.range 12).filter fun n=>decide (n∈ns)):=by
    refine(g4p S.tb.nd (g0c _ g1r)).mpr fun n=>?_;rw [mw,uk,g4h, <- m n];refine⟨fun h=>⟨?_,h⟩,fun h=>h.2⟩;obtain⟨p,hp,rfl⟩:=ny.mp h;exact S.tb.lt p hp
   have h2:=this.map fun n:Nat=>(n:Int)
   rw [ni] at h2;exact h2
  ·rw [g1k]
   refine List.Pairwise.imp (fun {a b} h=>?_) (g0c _ (g5s (n:=12)));lia
 subst hL;have vo:=q1z hI;rw [ni] at vo;refine⟨.ref c,_,I.laid (t':=tk) (a:=c) (o:=.lst (((List.range 12).filter fun n=>decide (n∈ns)).map fun n=>V.int (n:Nat))) (fun b ob qb=>old b ob (gz qb) qb) hc' ⟨?_,out,e,vo,hget⟩,rfl,q _ hnn⟩;rw [mn];exact md (nh _ _) (xa (by simp;decide))
theorem qqs{a b:Expr}{f g:FE}{p p1 p2 q1 q2 q3 pos:Pos}(hc:X.calm=true)(hgs:Gl X "sorted")(hms:X.mg "sorted" = none)(hgt:Gl X "set")(hmt:X.mg "set" = none)(ha:PE X a (tD X.K f))(hb:PE X b (tD X.K g))
  (s1:starEach [a] X.env=(false,eval a X.env) :: starEach [] X.env:=by rfl) (s2:starEach [b] X.env=(false,eval b X.env) :: starEach [] X.env:=by rfl)
  (s3:starEach [.BinOp (.Call (.Name "set" p1) [a] [] q1) .BitOr (.Call (.Name "set" p2) [b] [] q2) q3] X.env=(false,eval (.BinOp (.Call (.Name "set" p1) [a] [] q1) .BitOr (.Call (.Name "set" p2) [b] [] q2) q3) X.env) :: starEach [] X.env:=by rfl)
  (h1:∀pos,(backTo pos (starEach [] X.env)).any (·.1)=false:=by intro _;rfl) :
  PE X (.Call (.Name "sorted" p) [.BinOp (.Call (.Name "set" p1) [a] [] q1) .BitOr (.Call (.Name "set" p2) [b] [] q2) q3] [] pos) (tL X.K (qif f g)):=by
 refine jk (q80 (qqr hc) hgs hms boot_sorted (q0l (qot qtp (q60 (qku hc) hgt hmt (T:="set") (by rfl) (q0l ha q2u s1) (he:=s1) (hpl:=h1 _)) (q60 (qku hc) hgt hmt (T:="set") (by rfl) (q0l hb q2u s2) (he:=s2) (hpl:=h1 _))) q2u s3) (he:=s3) (hpl:=h1 _)) fun σ H Q ⟨F0,H0,F, ρ,ds,r,hf,q⟩=>?_;obtain⟨x,hx,hf⟩:=gd.mp hf;obtain⟨y,hy,hj⟩:=gd.mp hf;unfold qie at hj
 split at hj
 ·rename_i xs ys
  obtain⟨ns,hn,hj⟩:=gd.mp hj;obtain⟨ms,hm,hj⟩:=gd.mp hj;cases hj;refine⟨F0,H0,F, ρ,.tup xs,r,hx,fun v F1 H1 g1 r1=>?_⟩;refine⟨F1,xs,ns,g1.fh,.cons r1 .nil,hn,fun c1 hc1=>?_⟩;have g2:Grow F1 H1 F1 (upd H1 c1 (q58 X.w c1 ns)):=Grow.own g1.fh hc1;refine⟨F0,H0,F1, ρ,.tup ys,r.grow (g1.trans g2),hy,fun u F3 H3 g3 r3=>?_⟩;refine⟨F3,ys,ms,g3.fh,.cons r3 .nil,hm,fun c2 hc2=>?_⟩;have g4:Grow F3 H3 F3 (upd H3 c2 (q58 X.w c2 ms)):=Grow.own g3.fh hc2;have e1:H3 c1=some (q58 X.w c1 ns):=g3.hh.ext _ _ qz;have hne:c1≠c2:=jt e1 hc2;refine⟨c1,c2,ns,ms,rfl,rfl,hne,by rw [qo hne];exact e1,qz,fun c3 hc3=>?_⟩;have g5:Grow F3 (upd H3 c2 (q58 X.w c2 ms)) F3 (upd (upd H3 c2 (q58 X.w c2 ms)) c3 (qig X.w c3 (ns++ms))):=Grow.own g4.fh hc3;refine⟨c3,ns++ms,rfl,qz,fun c4 hc4=>?_⟩;have g6:=Grow.own (o:=.lst (((List.range 12).filter fun n=>decide (n∈ns++ms)).map fun n=>V.int (n:Nat))) g5.fh hc4;have gg:=g1.trans (g2.trans (g3.trans (g4.trans (g5.trans g6))));refine q c4 _ F3 _ gg (g5.fh.free hc4) ((g1.trans (g2.trans (g3.trans (g4.trans g5)))).hh.free hc4) qz ?_
  ·have e:((List.range 12).filter fun n=>decide (n∈ns++ms))=(List.range 12).filter fun n=>decide (n∈ns\/n∈ms):=by
    congr 1;funext n;simp [nt]
   rw [e];have:=(RepL.ints (K:=X.K) (H:=F3) (ns:=((List.range 12).filter fun n=>decide (n∈ns\/n∈ms)).map fun n:Nat=>(n:Int)) (xs:=((List.range 12).filter fun n=>decide (n∈ns\/n∈ms)).map fun n=>V.int (n:Nat))).mpr (by rw [ni];rfl);rw [ni] at this;exact this
 ·cases hj
end
end DL
namespace Js
open PySem
open Sem (wp)
theorem qea:typeLookup (.type "list") "keys" = pure none:=by rw [g0w,g07];kernel_rfl
theorem q9m:typeLookup (.type "list") "__getattr__" = pure none:=by rw [g0w,g07];kernel_rfl
section
variable{prog:Program}{w:World}{A:Around}{E:Value->Shared->Prop}{s:Shared}{a:Addr}
theorem qkv{xs:Array Value}{n:Nat}{u:Tok}{Q:Value->Shared->Prop}{sl:Array (Option Value)}(hx:s.heap.get? a=some {cls:=.type "list",dict:=none,data:=.seq xs n,slots:=sl})(hh:A.handled=none)
  (h:∀h' tk e,Heap.NewAttrErr s.heap h' e (.ref a) "keys" -> E (.ref e) {s with heap:=h',toks:=tk}) :
  wpAny (model prog w) A (call (.builtin "list.__getattribute__") [.ref a,.str "keys" u]) Q E s:=by
 refine p9 g30 ⟨_,hx,rfl⟩ F.entry_list_ga ?_ (F.args_list_getattribute_2 _ _);obtain⟨hp,g,d,tk,os⟩:=s;have hT:(⟨hp,g,d,tk,os⟩:Shared).TypeIs (.ref a) "list" :=⟨_,hx,rfl⟩
 have f4:=qea;unfold Builtin.«object.__getattribute__»
 repeat (any_goals (first|assumption|wp_step))
 exact wpAny_raiseAttrError (by simpa using hh) (fun h' tk e x=>h h' tk e x) (attrMsg_fits (by decide +kernel) (by size_fits))
theorem qkw{xs:Array Value}{n:Nat}{Q:Option Value->Shared->Prop}{sl:Array (Option Value)}(hx:s.heap.get? a=some {cls:=.type "list",dict:=none,data:=.seq xs n,slots:=sl})(hh:A.handled=none)
  (h:∀h' tk,(∀b o,s.heap.get? b=some o->h'.get? b=some o)->Q none {s with heap:=h',toks:=tk}) :
  wpAny (model prog w) A (getAttr? (.ref a) "keys") Q E s:=by
 obtain⟨hp,g,d,tk,os⟩:=s;have hT:(⟨hp,g,d,tk,os⟩:Shared).TypeIs (.ref a) "list" :=⟨_,hx,rfl⟩
 have f1:=sub_AttributeError;have f3:=g30.lookup;have f4:=g30.bind (.ref a);have f5:=q9m;unfold getAttr? getAttrBy? getAttrBy
 repeat (any_goals (first|assumption|((with_reducible show wpAny _ _ (call (Value.builtin "list.__getattribute__") _ _) _ _ _);refine qkv hx (by first|exact hh|simpa using hh) fun h' tk' e x=>?_)|wp_step))
 obtain⟨t',u',he⟩:=x.there
 repeat (any_goals (first|assumption|wp_step))
 exact h _ _ x.keeps
end
end Js
namespace Js
open PySem
theorem q3n:entryFor table "dict.update.loop" = some Builtin.«dict.update.loop» :=entryFor_of_tree (by kernel_rfl)
theorem yt:plainId "dict.update.loop" = true:=by decide +kernel
abbrev TK(prog:Program)(w:World):=tupleKind (intKind prog w)
structure Prs(prog:Program)(w:World)(h:Heap)(vs:List Value)(ps:List (List Int×Addr×Value)): Prop where
 len:vs.length=ps.length
 pair:∀(i:Nat) (p:List Int×Addr×Value),ps[i]? = some p->∃q,vs[i]? = some (.ref q)/\h.IsTuple q #[.ref p.2.1,p.2.2]
 key:∀p∈ps,(TK prog w).is h p.1 p.2.1
theorem q1j{prog:Program}{w:World}{h h':Heap}{k:List Int}{a:Addr}(x:(TK prog w).is h k a)(e:∀o,h.get? a=some o->h'.get? a=some o): (TK prog w).is h' k a:=by
 obtain⟨o,items,n,ho,r⟩:=x;exact⟨o,items,n,e o ho,r⟩
section
variable{prog:Program}{w:World}{A:Around}{R:Result->Shared->Prop}
theorem qkx{vs:List Value}{ps:List (List Int×Addr×Value)}{N I S L:Addr}(hu:A.units+1<cLine)(hh:A.in1.handled=none)(hSN:N<=S)(hIN:N<=I)(hLN:L<N)(hSI:S≠I)(h0:Heap)(hN:∀b o,h0.get? b=some o->b<N)(P0:Prs prog w h0 vs ps)(hl0:h0.IsList L vs.toArray)(hnd:(ps.map (·.1)).Nodup)(hz:ps.length<=sizeLine):
  ∀(k i:Nat) (s:Shared) (j:Int) (tj:Tok),ps.length-i=k->i<=ps.length->s.heap.IsListIter I L i->(∀b o,h0.get? b=some o->s.heap.get? b=some o)->s.heap.DictOfH (TK prog w) S (ps.take i) ->
   (∀s',s'.gens=s.gens->s'.drawn=s.drawn->s'.os=s.os->s.toks<=s'.toks->(∀b o,h0.get? b=some o->s'.heap.get? b=some o)->s'.heap.DictOfH (TK prog w) S ps->R (.ok (.ret .none)) s') ->
   codeAny (model prog w) A (.builtin "dict.update.loop" ⟨[.ref S,.ref I,.int j tj,.none],[]⟩) R s:=by
 intro k
 induction k with
 | zero=>
  intro i s j tj hk hi hit hkeep hd hR;have hin:i=ps.length:=by lia
  subst hin;refine g09 q3n ?_;rw [g02 yt _];have hls:s.heap.IsList L vs.toArray:=let⟨o,ho,r⟩:=hl0; ⟨o,hkeep L o ho,r⟩
  show wpAny _ A.in1 (pyNext (.ref I) >>= _) _ _ s;refine g0 (wpAny_pyNext_list_end hh hit hls (by simp [P0.len]) fun h' he=>?_);show wpAny _ A.in1 (Builtin.Dict.addKeywords S [] >>= _) _ _ _;refine g0 (g9 (g9 ?_));rw [g03 (gv _)] at hd;refine hR _ rfl rfl rfl (gv _) (fun b o e=>he b o (m9 (gh (hN b o e) hIN)) (hkeep b o e)) ?_;obtain⟨o,es,ep,ho,hc,hdd,hes,his,hn⟩:=hd;exact⟨o,es,ep,he S o hSI ho,hc,hdd,hes,fun x hx=>q1j (P0.key x hx) fun o' e=>he _ o' (m9 (gh (hN _ o' e) hIN)) (hkeep _ o' e),hn⟩
 | succ k ih=>
  intro i s j tj hk hi hit hkeep hd hR;have hlt:i<ps.length:=by lia
  have hp:ps[i]? = some ps[i]:=my hlt;obtain⟨q,hq,hqt⟩:=P0.pair i _ hp;have hkey:=P0.key _ (g3j hlt);generalize ps[i]=p at hp hq hqt hkey;refine g09 q3n ?_;rw [g02 yt _];have hls:s.heap.IsList L vs.toArray:=let⟨o,ho,r⟩:=hl0; ⟨o,hkeep L o ho,r⟩
  show wpAny _ A.in1 (pyNext (.ref I) >>= _) _ _ s;refine g0 (wpAny_pyNext_list_item hit hls (x:=.ref q) (by simpa using hq) fun h' hit' hs'=>?_);have keep1:∀b o,h0.get? b=some o->h'.get? b=some o:=fun b o e=>hs'.extBut b o (m9 (gh (hN b o e) hIN)) (hkeep b o e);have hqt1:h'.IsTuple q #[.ref p.2.1,p.2.2]:=let⟨o,ho,r⟩:=hqt; ⟨o,keep1 q o ho,r⟩
  have hkey1:(TK prog w).is h' p.1 p.2.1:=q1j hkey fun o e=>keep1 _ o e;have hd1:h'.DictOfH (TK prog w) S (ps.take i):=by
   obtain⟨o,es,ep,ho,hc,hdd,hes,his,hn⟩:=hd;exact⟨o,es,ep,hs'.extBut S o hSI ho,hc,hdd,hes,fun x hx=>q1j (P0.key x (g0u hx)) fun o' e=>keep1 _ o' e,hn⟩
  dsimp only;refine g0 (t7 ?_);refine g0 (wpAny_tryCatch ?_);unfold Builtin.Dict.pairItems;obtain⟨oq,hoq,hcq,nq,hdq⟩:=hqt1;refine g0 (g0r (s:={s with heap:=h'}) (T:="tuple") ⟨oq,hoq,hcq⟩ ?_);rw [mh (by decide)];refine g0 (g0e (s:={s with heap:=h'}) hoq hdq (g9 ?_));dsimp only [Option.getD_some];refine t7 ?_;have hnone:atKey (ps.take i) p.1=none:=by
   refine atKey_none_of_get fun jj pp e=>?_;have hjj:jj<i:=by
    have:=(nu.mp e).1;rw [pk] at this;lia
   have e':ps[jj]? = some (p.1,pp):=by rw [g2q hjj] at e;exact e
   have:=idxH_unique hnd e' (show ps[i]? = some (p.1,p.2) from hp);lia
  refine wpAny_dictSet_heap (s:={s with heap:=h'}) (show(TK prog w).room A.in1 from hu) hkey1 hd1 (fun h2 hd2 hs2=>?_) (by rw [pk];lia);rw [storedH_new hnone,show ps.take i++[(p.1,p.2.1,p.2.2)]=ps.take (i+1) by rw [g48,hp];rfl] at hd2;have ne2:∀b o,h0.get? b=some o->b≠S:=fun b o e=>m9 (gh (hN b o e) hSN);refine g9 ⟨g11 yt _,ih (i+1) _ _ _ (by lia) hlt ?_ (fun b o e=>?_) hd2 fun s' a1 a2 a3 a4 a5 a6=>?_⟩
  ·obtain⟨o,ho,r⟩:=hit'
   exact⟨o,hs2.extBut I o (n9 hSI) ho,r⟩
  ·exact hs2.extBut b o (ne2 b o e) (keep1 b o e)
  ·exact hR s' a1 a2 a3 (md (g2a _ _) a4) a5 a6
end
section
variable{prog:Program}{w:World}{A:Around}{E:Value->Shared->Prop}{s:Shared}
theorem q9n{L:Addr}{vs:List Value}{n0:Nat}{ps:List (List Int×Addr×Value)}{Q:Value->Shared->Prop}(hu:A.units+4<cLine)(hh:A.handled=none){sl:Array (Option Value)}(hL:s.heap.get? L=some {cls:=.type "list",dict:=none,data:=.seq vs.toArray n0,slots:=sl})(P0:Prs prog w s.heap vs ps)(hnd:(ps.map (·.1)).Nodup)(hz:ps.length<=sizeLine)
  (h:∀h' tk,(∀b o,s.heap.get? b=some o->h'.get? b=some o)->h'.DictOfH (TK prog w) s.heap.objs.size ps->Q (.ref s.heap.objs.size) {s with heap:=h',toks:=tk}) :
  wpAny (model prog w) A (call (.type "dict") [.ref L]) Q E s:=by
 refine callType_codes (Q₁:=fun obj s₁=>obj=.ref s.heap.objs.size/\s₁ = {s with heap:=s.heap.push {cls:=.type "dict",data:=.dict #[]} }) F.kt_called_dict (F.kt_typeCall_dict_1 _) F.entry_dict_init (kt_code_dict_new _ ⟨rfl,rfl⟩) ?_
 rintro obj s₁ ⟨rfl,rfl⟩
 let dO:Obj:={cls:=.type "dict",data:=.dict #[]}
 have hnew:(s.heap.push dO).DictOfH (TK prog w) s.heap.objs.size []:=Heap.DictOfH.new s.heap;have hTd:Shared.TypeIs {s with heap:=s.heap.push dO} (.ref s.heap.objs.size) "dict" :=⟨dO,gj _ rfl,rfl⟩
 have hL1:(s.heap.push dO).get? L=some {cls:=.type "list",dict:=none,data:=.seq vs.toArray n0,slots:=sl}:=gc _ hL;refine⟨hTd,F.args_dict_init_2 _ _,?_⟩;unfold Builtin.«dict.__init__»;refine g0 ?_;unfold Builtin.Dict.selfAndRest;refine g0 (g3m hTd ?_);show wpAny _ _ (pure (s.heap.objs.size,[Value.ref L])) _ _ _;refine g9 ?_;show wpAny _ _ (Builtin.Dict.updateFrom "dict.__init__" s.heap.objs.size (.ref L) [] .none) _ _ _;unfold Builtin.Dict.updateFrom;refine g0 (g0r (T:="list") ⟨_,hL1,rfl⟩ ?_);rw [mh (by decide)];refine g0 (qkw (s:={s with heap:=s.heap.push dO}) hL1 (by simpa using hh) fun h1 tk1 k1=>?_);rw [mh (by rfl)];refine g0 (g01 ?_);have hL2:h1.IsList L vs.toArray:=⟨_,k1 _ _ hL1,rfl,n0,rfl⟩
 refine g0 (g21 (s:={s with heap:=h1,toks:=tk1}) hL2 ?_)
 let iO:Obj:={cls:=.type "list_iterator",data:=.fields #[.ref L,.int 0 0]}
 have hz1:s.heap.objs.size+1<=h1.objs.size:=gz (k1 _ _ (gj s.heap (o:=dO) rfl));have hLs:L<s.heap.objs.size:=gz hL;have keep:∀b o,s.heap.get? b=some o->(h1.push iO).get? b=some o:=fun b o e=>gc _ (k1 b o (gc _ e));have hd0:(h1.push iO).DictOfH (TK prog w) s.heap.objs.size []:=by
  obtain⟨o,es,ep,ho,hc,hdd,hes,his,hn⟩:=hnew;exact⟨o,es,ep,gc _ (k1 _ _ ho),hc,hdd,hes,fun x hx=>(nomatch hx),hn⟩
 refine g9 ⟨g11 yt _,qkx (A:=A.in1) (N:=s.heap.objs.size) (I:=h1.objs.size) (S:=s.heap.objs.size) (L:=L) (vs:=vs) (ps:=ps) (by show A.units+1+1<cLine;lia) (by simpa using hh) (gv _) (g0y hz1) hLs (m9 hz1) s.heap (fun b o e=>gz e) P0 ⟨_,hL,rfl,n0,rfl⟩ hnd hz
  ps.length 0 _ _ _ rfl (uj _) ⟨iO,gj _ rfl,rfl,rfl⟩ keep hd0 fun s' a1 a2 a3 a4 a5 a6=>?_⟩
 obtain⟨h',g',d',tk',os'⟩:=s';dsimp only at a1 a2 a3 a4 a5 a6;subst a1;subst a2;subst a3;exact⟨rfl,h h' tk' a5 a6⟩
end
end Js
namespace DL
open PySem PySem.Spec PyProof.Rows L2
variable[Lam]
def q34:List D->Option (List (List Int)×List D)
 | []=>some ([],[])
 | .tup [.tup kd,v] :: r=>(yx kd).bind fun k=>(q34 r).map fun p=>(k :: p.1,v :: p.2)
 | _ :: _=>none
def q7e:List D->Option D
 | [.lst ds]=>(q34 ds).bind fun p=>if p.1.Nodup/\ds.length<=lim then some (.dtt p.1 p.2) else none
 | _=>none
def q1k:D->D->Option D
 | .tup kd,.dtt ks _=>(yx kd).map fun k=>.bl (decide (k∈ks))
 | _,_=>none
omit [Lam] in
theorem ints_rep{K:Frag}{F:Hp}: ∀ {kd:List D} {xs:List V} {k:List Int},yx kd=some k->RepL K F kd xs->xs=k.map V.int
 | [],xs,k,h,r=>by cases h;exact r.nil_inv
 | .int i :: kd,xs,k,h,r=>by
  obtain⟨k',h1,rfl⟩:=mj.mp h;obtain⟨x,ys,rfl,a1,a2⟩:=r.cons_inv;rw [rep_int.mp a1,ints_rep h1 a2];rfl
 | .non :: _,_,_,h,_=>by cases h
 | .bl _ :: _,_,_,h,_=>by cases h
 | .str _ :: _,_,_,h,_=>by cases h
 | .tup _ :: _,_,_,h,_=>by cases h
 | .lst _ :: _,_,_,h,_=>by cases h
 | .dct _ _ :: _,_,_,h,_=>by cases h
 | .dtt _ _ :: _,_,_,h,_=>by cases h
 | .obj _ :: _,_,_,h,_=>by cases h
 | .exc _ :: _,_,_,h,_=>by cases h
omit [Lam] in
theorem items_int{P:Program}{w:World}: ∀ {k:List Int} {us:List Value},Vals (k.map V.int) us->ItemsAre (intKind P w) k us
 | [],_,r=>by cases r;exact .nil
 | i :: k,_,r=>by
  cases r with
  | cons h t=>
   obtain⟨tk,rfl⟩:=h;exact .cons (g3y _ _ _ _) (items_int t)
section
variable{X:Cx}{pins:List (Addr×Obj)}{σ : St}{H F:Hp}{s:Shared}
omit [Lam] in
theorem qeb(I:Inv X pins σ H s)(fh:Same F H){k:List Int}{a:Addr}(h:SqT X.K F a (k.map V.int)): (Js.TK X.prog X.w).is s.heap k a:=by
 obtain⟨its,r,⟨o,ho,hc,n,hd⟩,_⟩:=I.tuple (ql fh h);exact⟨o,its.toArray,n,ho,hc,hd,by simpa using items_int r⟩
omit [Lam] in
theorem qec (I:Inv X pins σ H s) (fh:Same F H):∀ {ds:List D} {ys:List V} {its:List Value} {ks:List (List Int)} {vs:List D},q34 ds=some (ks,vs)->RepL X.K F ds ys->Vals ys its ->
  ∃(ps:List (List Int×Addr×Value)) (ws:List V),Js.Prs X.prog X.w s.heap its ps/\ps.map (·.1)=ks/\(∀p∈ps,SqT X.K F p.2.1 (p.1.map V.int))/\Vals ws (ps.map fun p=>p.2.2)/\RepL X.K F vs ws
 | [],ys,its,ks,vs,h,k,r=>by
  cases h;cases k.nil_inv;cases r;exact⟨[],[],⟨rfl,fun i p e=>by simp at e,fun p hp=>(nomatch hp)⟩,rfl,fun p hp=>(nomatch hp),.nil,.nil⟩
 | d :: ds,ys,its,ks,vs,h,k,r=>by
  unfold q34 at h
  split at h
  ·cases ‹_ :: _=[]›
  ·rename_i kd v r' e
   injection e with e1 e2
   subst e1;subst e2;obtain⟨kk,h1,h2⟩:=gd.mp h;obtain⟨p,h3,h4⟩:=mj.mp h2;cases h4;obtain⟨x,ys',rfl,a1,a2⟩:=k.cons_inv;obtain⟨q,qs,rfl,b1,b2⟩:=rep_tup.mp a1;obtain⟨x1,z1,rfl,c1,c2⟩:=b2.cons_inv;obtain⟨x2,z2,rfl,d1,d2⟩:=c2.cons_inv;cases d2.nil_inv;obtain⟨ka,kxs,rfl,k1,k2⟩:=rep_tup.mp c1;rw [ints_rep h1 k2] at k1;cases r with
   | cons r1 r2=>
    cases r1;obtain⟨uu,hu,⟨oq,hoq,hcq,nq,hdq⟩,_⟩:=I.tuple (ql fh b1);cases hu with
    | cons u1 u2=>
     cases u1;cases u2 with
     | cons u3 u4=>
      cases u4;rename_i uv;obtain⟨ps,ws,P,e1,e2,e3,e4⟩:=qec I fh h3 a2 r2;refine⟨(kk,ka,uv) :: ps,x2 :: ws,⟨by simp [P.len],fun i p e=>?_,fun p hp=>?_⟩,by simp [e1],fun p hp=>?_,.cons u3 e3,.cons d1 e4⟩
      ·cases i with
       | zero=>
        simp only [g39,g3a] at e;subst e;exact⟨q,rfl,oq,hoq,hcq,nq,hdq⟩
       | succ i=>exact P.pair i p (by simpa using e)
      ·rcases mf.mp hp with rfl|hp
       ·exact qeb I fh k1
       ·exact P.key p hp
      ·rcases mf.mp hp with rfl|hp
       ·exact k1
       ·exact e2 p hp
  ·cases h
end
section
variable{X:Cx}
theorem qao(hc:X.calm=true)(hu:X.A.units+64<cLine): xp X (.type "dict") (rC X.K q7e):=fun pins s σ H xs us Q I rv ⟨F,ds,d,fh,rl,ho,q⟩=>by
 unfold q7e at ho
 split at ho
 ·rename_i ds'
  obtain⟨⟨ks,vs⟩,h1,h2⟩:=gd.mp ho
  split at h2
  ·rename_i hok
   cases h2;obtain⟨x,rfl,rx⟩:=rep1 rl;obtain⟨a,ys,rfl,k1,k2⟩:=rep_lst.mp rx;obtain⟨u,rfl,ru⟩:=vals1 rv;cases ru;obtain⟨its,r1,⟨o,n,e1,e2,e3,e4⟩,hz⟩:=I.list (fh.seq k1);obtain⟨oc,od,oda,osl⟩:=o;dsimp only at e2 e3 e4;subst e2;subst e3;subst e4;obtain⟨ps,ws,P,p1,p2,p3,p4⟩:=qec I fh h1 k2 r1;have hl:ps.length<=lim:=by
    rw [<- P.len, <- r1.length, <- k2.length];exact hok.2
   refine Js.q9n (by lia) (I.ok.hd hc) e1 P (by rw [p1];exact hok.1) (xa hl) fun h' tk old hd=>?_;have hnn:H s.heap.objs.size=none:=I.hok.fresh (gv _);obtain⟨o,es,ep,g1,g2,g3,g4,_,g5⟩:=hd;have de:DE s.heap.objs.size ps ep h':=⟨o,es,g1,g2,g3,g4⟩
   refine⟨.ref _,_,I.laid (t':=tk) (a:=s.heap.objs.size) (o:=.ext (DE s.heap.objs.size ps ep)) old (gv _) ⟨de,⟨o,g1⟩,fun h1 h2 ⟨o,es,z,r⟩ e=>⟨o,es,e o z,r⟩⟩,rfl,?_⟩;have g:=Grow.new (o:=.ext (DE s.heap.objs.size ps ep)) fh hnn;refine q _ _ _ g (rep_dtt.mpr ⟨_,ps,ws,ep,rfl,qz,p1,hok.1,xa hl,g42.mpr (uh (qh9 I)),fun x hx=>ql g.ff (p2 x hx),p3,p4.mono g.ff⟩)
  ·cases h2
 ·cases ho
theorem qed(hu:X.A.units+64<cLine): OpR X (compareOp .In) (rD X.K q1k):=fun pins s σ H x y v u Q I rx ry ⟨F,d1,d2,d,fh,r1,r2,ho,q⟩=>by
 unfold q1k at ho
 split at ho
 ·rename_i kd ks vs
  obtain⟨k,h1,rfl⟩:=mj.mp ho;obtain⟨b,kxs,rfl,k1,k2⟩:=rep_tup.mp r1;obtain⟨a,xs,ys,ep,rfl,e1,e2,e3,e4,e5,e6,e7,e8⟩:=rep_dtt.mp r2;cases rx;cases ry;rw [ints_rep h1 k2] at k1;obtain⟨⟨o,es,g1,g2,g3,g4⟩,_,_⟩:=(show ObjOk X.prog X.w H s.heap a _ from I.hok a _ (fh _ _ e1))
  have dd:s.heap.DictOfH (Js.TK X.prog X.w) a xs:=⟨o,es,ep,g1,g2,g3,g4,fun x hx=>qeb I fh (e6 x hx),by rw [e2];exact e3⟩
  refine wpAny_in_heap (tupleKind_room_in1 (by lia)) (qeb I fh k1) e5 dd ?_;have:(atKey xs k).isSome=decide (k∈ks):=by
   rw [<- e2,pd,p5]
   constructor
   ·intro h
    obtain⟨p,hp⟩:=g0q.mp h;obtain⟨z,hz,rfl⟩:=mj.mp hp;have:=List.find?_some hz;exact ny.mpr ⟨z,List.mem_of_find?_eq_some hz,by simpa using this⟩
   ·intro h
    obtain⟨z,hz,rfl⟩:=ny.mp h;obtain⟨i,hi⟩:=g5w.mp hz;rw [atKey_of_get (by rw [e2];exact e3) (show xs[i]? = some (z.1,z.2) from hi)]
    rfl
  rw [this];exact⟨.bl _,H,I.tok _,rfl,q _ F H (.refl fh) (rep_bl.mpr rfl)⟩
 ·cases ho
end
section
variable{X:Cx}
end
section
variable{X:Cx}{e:Expr}{pos:Pos}{f:FE}
end
theorem qns{xs:List V}{us:List Value}(h:Vals xs us): Vals xs.reverse us.reverse:=by
 induction h with
 | nil=>exact .nil
 | cons a b ih=>rw [g23,g23];exact ih.append (.cons a .nil)
theorem qee{K:Frag}{F:Hp}: ∀ {ds:List D} {xs:List V},RepL K F ds xs->RepL K F ds.reverse xs.reverse
 | [],xs,h=>by cases h.nil_inv;exact .nil
 | d :: ds,xs,h=>by
  obtain⟨x,r,rfl,a,b⟩:=h.cons_inv;rw [g23,g23];exact(qee b).append (.cons a .nil)
section
variable{X:Cx}{N':List Str}{scope:Scope}{cap:List (Option Nat)}{tg iter elt:Expr}{ifs:List Expr}{it:FA}{b:FB}{c:FT}{f:FE}{pos:Pos}
theorem zc(hc:X.calm=true)(co:CapOkC X N' scope cap)(fr:q96 b cap)(hi:PI X tg iter (tDI X.K it))
  (hg:∀cl C s₀ H₀ fp,PG (jb X N' scope cl C s₀ H₀ fp) tg (tDG X.K b)) (hcs:∀cl C s₀ H₀ fp,q29 (jb X N' scope cl C s₀ H₀ fp) ifs (tDT X.K c)) (he:∀cl C s₀ H₀ fp,PE (jb X N' scope cl C s₀ H₀ fp) elt (tD X.K f))
  (hs:∀x,foldedSetIterable iter X.env x=pure x:=by intro _;rfl):PE X (.ListComp elt [⟨tg,iter,ifs,0⟩] scope pos) (tL X.K (qu it cap b c f)):=
 jk (qmd hc co hi hg hcs he hs) fun σ H Q h=>qk4 fr h
end
def qp5 (outer:List (Str×NameKind)) (N N':List Str) (scope:Scope) (cap:List (Option Nat)):Bool:=
 scope.names.all (fun y=> !(y.2 == .cell) || (scope.names.lookup y.1==some .cell))&&(scope.names.all (fun y=> !(y.2 == .local) || (scope.names.lookup y.1==some .local))&&(scope.names.all (fun y=> !(y.2 == .free) || (outer.lookup y.1==some .cell) || (outer.lookup y.1==some .free)) &&
  (cap.length==N'.length&&(List.range cap.length).all fun i=>match(cap[i]?).join with
   | none=>true
   | some j=>match N'[i]? with
    | none=>false
    | some x=>N[j]? == some x&&scope.names.lookup x==some .free)))
omit [Lam] in
theorem z7{X:Cx}{N':List Str}{scope:Scope}{cap:List (Option Nat)}(hk:scope.kind=.function)(h:qp5 X.env.scope.names X.N N' scope cap=true): CapOkC X N' scope cap:=by
 unfold qp5 at h;simp only [m8,mx] at h;obtain⟨h1,h2,h3,h4,h5⟩:=h;refine⟨hk,fun y hy e=>?_,fun y hy e=>?_,fun y hy e=>?_,by simpa using h4,fun i j e=>?_⟩
 ·have:=h1 y hy;rw [e] at this;simpa using this
 ·have:=h2 y hy;rw [e] at this;simpa using this
 ·have:=h3 y hy
  rw [e] at this;simp only [beq_self_eq_true,g0o,g3f,g1c,g31] at this;exact this
 ·have hi:i<cap.length:=(nu.mp e).1
  have:=h5 i (uk.mpr hi);rw [e] at this;simp only [g3g] at this
  split at this
  ·cases this
  ·rename_i x hx
   simp only [m8,g31] at this;exact⟨x,hx,this.1,this.2⟩
end DL
namespace Js
open PySem PyProof.Rows
section
variable{prog:Program}{w:World}{A:Around}{E:Value->Shared->Prop}{s:Shared}
theorem qap{it d:Addr}{i ep:Nat}{od:Obj}{es:Array DictEntry}{Q:Option Value->Shared->Prop}(hit:s.heap.IsKeyIter it d i es.size ep)(hod:s.heap.get? d=some od)(hdd:od.data=.dict es ep)(hlt:i<es.size)
  (hQ:∀h',h'.IsKeyIter it d (i+1) es.size ep->Heap.SameBut it s.heap h'->Q (some (es[i]'hlt).key) {s with heap:=h'}):wpAny (model prog w) A (pyNext (.ref it)) Q E s:=by
 obtain⟨o,ho,hc,hd⟩:=id hit;unfold pyNext;refine g0 (g0n (tm hit.typeIs g0i (p9 g0i hit.typeIs g41 ?_ (g3z _))));unfold Builtin.«dict_keyiterator.__next__»
 wp_delta
 wp_walk using g0g hit.typeIs,g0x hit.typeIs,g49 ho hd,g4v hod hdd,g5j hod hdd,g1d hit.typeIs
 rw [mi (by omega:¬((i:Int)<0)),show((i:Int)).toNat=i from by simp,g1q es i hlt];dsimp only;have hit':(s.heap.update it (Obj.mapFields fun x_1=>x_1.setIfInBounds (0+1) (rawInt ((i:Int)+1)))).IsKeyIter it d (i+1) es.size ep:=by
  obtain⟨c1,c2,c3,c4⟩:=o;dsimp only at hc hd;subst hc hd;exact⟨_,g0f _ ho rfl,rfl,rfl⟩
 have T':Shared.TypeIs {s with heap:=s.heap.update it (Obj.mapFields fun x_1=>x_1.setIfInBounds (0+1) (rawInt ((i:Int)+1)))} (.ref it) "dict_keyiterator" :=hit'.typeIs
 wp_walk using g0g hit.typeIs,g0x hit.typeIs,g1d hit.typeIs
 rw [hd];dsimp only;rw [show(if Builtin.Dict_items.ownsTuple "dict_keyiterator" = true then 2 else 0)=0 from by decide +kernel];rw [mh (by simp)];rw [mi (show ¬(List.any _ _=true) from by decide +kernel)];refine wpAny_update ho ?_
 wp_walk using g0g T',g0x T',g1d T'
 exact⟨_,rfl,g9 (hQ _ hit' ⟨g04 ..,fun b hb=>g05 _ _ _ _ hb⟩)⟩
theorem qcj{it d:Addr}{ep:Nat}{od:Obj}{es:Array DictEntry}{Q:Option Value->Shared->Prop}(hh:A.handled=none)(hit:s.heap.IsKeyIter it d es.size es.size ep)(hod:s.heap.get? d=some od)(hdd:od.data=.dict es ep)
  (hQ:∀h',Heap.ExtBut it s.heap h'->Q none {s with heap:=h'}):wpAny (model prog w) A (pyNext (.ref it)) Q E s:=by
 obtain⟨o,ho,hc,hd⟩:=id hit;unfold pyNext;refine g0 (g0n (tm hit.typeIs g0i (p9 g0i hit.typeIs g41 ?_ (g3z _))));unfold Builtin.«dict_keyiterator.__next__»
 wp_delta
 wp_walk using g0g hit.typeIs,g0x hit.typeIs,g49 ho hd,g4v hod hdd,g5j hod hdd,g1d hit.typeIs
 rw [mi (by omega:¬((es.size:Int)<0)),show((es.size:Int)).toNat=es.size from by simp,Array.getElem?_size];dsimp only
 wp_walk using g0g hit.typeIs,g0x hit.typeIs,g1d hit.typeIs
 rw [hd];dsimp only;rw [show(if Builtin.Dict_items.ownsTuple "dict_keyiterator" = true then 2 else 0)=0 from by decide +kernel];rw [mh (by simp)];refine wpAny_update ho ?_;have hA1:A.in1.handled=none:=hh
 wp_walk using ui,g4l hA1
 ·dsimp only
  unfold raiseNew
  wp_walk using g4l hA1,wpAny_throw
  refine g5n isSubtype_stop (g9 ?_);exact(hQ _ (((uc _ _ _).extBut.push _).push _))
 ·exact sizeOk_excFields _ _ _ _ _ _ _ _
 ·show(0:Nat)<=_
  exact uj _
theorem qky{d:Addr}{ep:Nat}{od:Obj}{es:Array DictEntry}{Q:Value->Shared->Prop}(hs:(d==sysModules)=false)(hod:s.heap.get? d=some od)(hx:od.ExactDict)(hdd:od.data=.dict es ep)
  (hQ:Q (.ref s.heap.objs.size) {s with heap:=s.heap.push {cls:=.type "dict_keyiterator",data:=.fields #[.ref d,.int 0 0,.int (es.size:Int) 0,.int (ep:Int) 0]} }):wpAny (model prog w) A (pyIter (.ref d)) Q E s:=by
 have hT:s.TypeIs (.ref d) "dict" :=⟨od,hod,hx.1⟩
 refine g4u hT F.slot_dict_iter (p9 F.slot_dict_iter hT F.entry_dict_iter ?_ (F.args_dict_iter_1 _));unfold Builtin.«dict.__iter__»
 wp_walk using g3m hT,g4v hod hdd,g5j hod hdd
 exact⟨_,rfl,"dict_keyiterator",_,⟨_,gj _ rfl,rfl⟩,g0i.lookup,hQ⟩
end
end Js
namespace DL
open PySem PySem.Spec PyProof.Rows L2
variable[Lam]
section
variable{X:Cx}{pos:Pos}
end
abbrev DX:=List (List Int×Addr×Value)
def Itd(a:Addr)(xs:DX)(ep:Nat): It:=
 ⟨fun i H=>H a=some (.ext (DE a xs ep))/\i<xs.length,fun i H v H'=>H'=H/\∃x,xs[i]? = some x/\v=.ref x.2.1,fun i H=>H a=some (.ext (DE a xs ep))/\xs.length<=i⟩
theorem qkz{P:Program}{w:World}{K:Frag}{tg:Expr}(a it:Addr)(xs:DX)(ep:Nat): Turn P w K tg (Itd a xs ep) [it] it (fun i h=>i<=xs.length/\h.IsKeyIter it a i xs.length ep) where
 mem:=by simp
 obj:=fun i h st b hb=>by
  have e:b=it:=by simpa using hb
  subst e;obtain⟨_,o,e,c,d⟩:=st;exact⟨o,e,fun v z=>by rw [d] at z;cases z⟩
 keep:=fun i h h' st k=>⟨st.1,st.2.at fun o e=>k it (by simp) o e⟩
 item:=by
  intro X hP hw hK hc i pins s σ H E I hf st hg;subst hP hw hK;obtain⟨hq,hi⟩:=hg;obtain⟨⟨o,es,g1,g2,g3,g4⟩,_,_⟩:=(show ObjOk X.prog X.w H s.heap a _ from I.hok a _ hq)
  have hsz:es.size=xs.length:=by rw [<- ng,g4,mn]
  obtain⟨f0,f1,f2,f3,f4,f5⟩:=hf it (by simp);have st2:=st.2;rw [<- hsz] at st2;have hi':i<es.size:=by rw [hsz];exact hi
  refine Js.qap st2 g1 g3 hi' fun h' st' sb=>?_;have I1:Inv X pins σ H {s with heap:=h'}:=I.turned (t':=s.toks) (fun b o hb e=>(sb.2 b hb).trans e) f0 f1 f3 f4 f5;obtain⟨o',e,c,d⟩:=id st';have hx:xs[i]? = some xs[i]:=my hi;have hk:(es[i]'hi').key=.ref xs[i].2.1:=by
   have h2:es.toList[i]? = some (qsp xs[i]):=by rw [g4,mr,hx];rfl
   rw [u9,g1q es i hi'] at h2;rw [ma h2];rfl
  rw [hsz] at st';exact⟨_,rfl,qcq (s:={s with heap:=h'}) e c d (by decide) ⟨.ref xs[i].2.1,H,I1,by rw [hk];rfl,⟨rfl,_,hx,rfl⟩,⟨hi,st'⟩,fun b hb=>(hf b hb).1⟩⟩
 done:=by
  intro X hP hw hK hc i pins s σ H E I hf st hg;subst hP hw hK;obtain⟨hq,hi⟩:=hg;obtain⟨⟨o,es,g1,g2,g3,g4⟩,_,_⟩:=(show ObjOk X.prog X.w H s.heap a _ from I.hok a _ hq)
  have hsz:es.size=xs.length:=by rw [<- ng,g4,mn]
  obtain⟨f0,f1,f2,f3,f4,f5⟩:=hf it (by simp);have st2:=st.2;rw [show i=xs.length from Nat.le_antisymm st.1 hi, <- hsz] at st2;exact Js.qcj (I.ok.hd hc) st2 g1 g3 fun h' eb=>⟨rfl,I.turned (t':=s.toks) (fun b o hb e=>eb b o hb e) f0 f1 f3 f4 f5⟩
 self:=fun _ _ _ _ _ st h=>wpAny_pyIter_keyiter st.2 h
abbrev q7f(ks:List (List Int)): List D:=ks.map fun k=>.tup (k.map .int)
theorem qnt{K:Frag}{F:Hp}{a:Addr}{xs:DX}{ep:Nat}{ks:List (List Int)}(h:F a=some (.ext (DE a xs ep)))(e2:xs.map (·.1)=ks)(e6:∀x∈xs,SqT K F x.2.1 (x.1.map V.int)): ItD K F (q7f ks) (Itd a xs ep) where
 go:=fun i F' H s1 s2 hi=>⟨s2 _ _ (s1 _ _ h),by rw [<- e2] at hi;simpa using hi⟩
 yld:=fun i d F' H x H' s1 s2 hi ⟨e,y,hy,hx⟩=>by
  subst e hx e2;rw [mr,mr,hy] at hi;cases hi;exact⟨F',.refl s2,rep_tup.mpr ⟨_,_,rfl,ql s1 (e6 y (g00 hy)),RepL.ints.mpr rfl⟩⟩
 stop:=fun i F' H s1 s2 hi=>⟨s2 _ _ (s1 _ _ h),by rw [<- e2] at hi;simpa using hi⟩
section
variable{X:Cx}{pos:Pos}{tg e:Expr}
theorem qqt{l:Expr}{tl:TE}(hl:PE X l tl): PI X tg l (fun σ H R=>tl σ H fun x H1=>∃a xs ep,x=.ref a/\H1 a=some (.ext (DE a xs ep))/\(a==sysModules)=false/\R (Itd a xs ep) H1):=by
 intro pins s σ H R I h;refine thn (hl pins s σ H _ I h) fun v s1 ⟨x,H1,I1,r1,q1⟩=>?_;obtain⟨a,xs,ep,e,hq,hm,q⟩:=q1;subst e;cases r1;obtain⟨⟨o,es,g1,g2,g3,g4⟩,_,_⟩:=(show ObjOk X.prog X.w H1 s1.heap a _ from I1.hok a _ hq)
 have hsz:es.size=xs.length:=by rw [<- ng,g4,mn]
 refine Js.qky hm g1 g2 g3 ?_;refine⟨s1.heap.objs.size,[s1.heap.objs.size],_,_,H1,rfl,I1.kept (t':=s1.toks) fun b o e=>gc _ e,qkz a _ xs ep,⟨uj _,_,gj _ rfl,rfl,by rw [hsz];rfl⟩,fun b hb=>?_,q⟩;have e:b=s1.heap.objs.size:=by simpa using hb
 subst e;exact I1.fpOk (gv _) (I1.hok.fresh (gv _))
def qef(f:FE): FA:=fun ρ =>(f ρ).bind fun d=>match d with
 | .dtt ks _=>some (q7f ks)
 | _=>none
theorem ql0{f:FE}(h:PE X e (tD X.K f)): PI X tg e (tDI X.K (qef f)):=q65 (qqt h) fun σ H R ⟨F0,H0,F, ρ,ds,r,hf,q⟩=>by
 obtain⟨d,h1,h2⟩:=gd.mp hf;refine⟨F0,H0,F, ρ,d,r,h1,fun v F' H' g' r'=>?_⟩
 split at h2
 ·cases h2
  obtain⟨a,xs,ys,ep,rfl,e1,e2,e3,e4,e5,e6,e7,e8⟩:=rep_dtt.mp r';exact⟨a,xs,ep,rfl,g'.fh _ _ e1,e5,q _ F' H' g' (qnt e1 e2 e6)⟩
 ·cases h2
end
section
variable{X:Cx}{pos:Pos}
end
section
variable{K:Frag}{F0 H0 F H F' H':Hp}{σ : St}{ρ : Rho}
structure GD(K:Frag)(F H:Hp)(a:Addr)(ks:List (List Int))(vs:List D): Prop where
 ex:∃xs ys ep,H a=some (.ext (DE a xs ep))/\xs.map (·.1)=ks/\(∀x∈xs,SqT K F x.2.1 (x.1.map V.int))/\Vals ys (xs.map fun x=>x.2.2)/\RepL K F vs ys
 f:F a=none
end
section
variable{X:Cx}{pos:Pos}
end
section
variable{X:Cx}{pos:Pos}{e:Expr}
end
end DL
namespace Srt
open PySem PyProof.Rows
section
variable{prog:Program}{w:World}{A:Around}{E:Value->Shared->Prop}{s:Shared}{κ : SortKind}{G:Value->Prop}{lt:Value->Value->Bool}
end
end Srt
namespace DL
open PySem PySem.Spec PyProof.Rows L2 Srt PySem.W
variable[Lam]
section
variable{X:Cx}{F H:Hp}{pos:Pos}
end
end DL
namespace DL
open PySem PySem.Spec PyProof.Rows L2
variable[Lam]
section
variable{X:Cx}{N':List Str}{scope:Scope}{cap:List (Option Nat)}{tg iter elt:Expr}{ifs:List Expr}{it:FA}{b:FB}{c:FT}{f:FE}{pos:Pos}
theorem qnu{i:Nat}{x:Str}{px pe:Pos}(hc:X.calm=true)(hN:X.N.Nodup)(hx0:X.N[i]? = some x)(hx:X.env.scope.names.lookup x=some .local)(co:CapOkC X N' scope cap)(fr:q96 b cap)(hi:PI X tg iter (tDI X.K it))
  (hg:∀cl C s₀ H₀ fp,PG (jb X N' scope cl C s₀ H₀ fp) tg (tDG X.K b)) (hcs:∀cl C s₀ H₀ fp,q29 (jb X N' scope cl C s₀ H₀ fp) ifs (tDT X.K c)) (he:∀cl C s₀ H₀ fp,PE (jb X N' scope cl C s₀ H₀ fp) elt (tD X.K f))
  (hsw:swapsWith (.ListComp elt [⟨tg,iter,ifs,0⟩] scope pe) (some (.Name x px)) pos.line X.env=pure true:=by rfl)
  (hs:∀x,foldedSetIterable iter X.env x=pure x:=by intro _;rfl):PS X (.Assign [.Name x px] (.ListComp elt [⟨tg,iter,ifs,0⟩] scope pe) pos) (tDS X.K (q3v i (qu it cap b c f))):=
 q0u (qfq hc hN hx0 hx co hi hg hcs he hsw hs) fun D σ H h=>qk4 fr (qox h)
end
end DL
namespace Rv
open PySem PyProof.Rows
theorem qnv:typeLookup (.type "list_reverseiterator") "__len__" = pure none:=by rw [g0w,g07];kernel_rfl
theorem qqu:typeLookup (.type "list_reverseiterator") "__length_hint__" = pure (some (.builtin "list_reverseiterator.__length_hint__")):=by rw [g0w,g07];kernel_rfl
section
variable{prog:Program}{w:World}{A:Around}{E:Value->Shared->Prop}{s:Shared}{I:Addr}{fp wr:List Addr}{G:Array GenState->Array GenState->Prop}{n:Nat}{P:Nat->Value->Prop}{St:Nat->Shared->Prop}
end
end Rv
namespace DL
open PySem PySem.Spec PyProof.Rows L2
variable[Lam]
section
variable{X:Cx}{pos:Pos}{tg:Expr}
theorem qnw:bootBuiltins "reversed" = some (.type "reversed"):=by decide +kernel
omit [Lam] in
theorem ql1{its:List Value}{acc:Array Value}(h:ItemsOf (fun i v=>its.toArray[its.toArray.size-1-i]? = some v) acc its.toArray.size): acc.toList=its.reverse:=by
 apply List.ext_getElem?;intro i;have hs:acc.size=its.length:=by have:=h.1;simpa using this
 by_cases hi:i<its.length
 ·have e:acc[i]? = some acc[i]:=g2n (by lia)
  have:=h.2 i _ e;rw [u9,e,List.getElem?_reverse hi, <- this];simp
 ·rw [u9,g5t (by lia),g3l (by rw [g2h];lia)]
end
end DL
namespace Rv
open PySem PyProof.Rows
section
variable{prog:Program}{w:World}{A:Around}{s:Shared}{R:Result->Shared->Prop}
variable{I:Addr}{fp wr:List Addr}{G:Array GenState->Array GenState->Prop}{n:Nat}{P:Nat->Value->Prop}{St:Nat->Shared->Prop}
theorem qih(W:WalksS prog w A.in1 I fp wr G n P St)(hT:∀i s,St i s->s.TypeIs (.ref I) "list_reverseiterator")(S:Addr)(res:Value)(c₀:Nat)(hst:St 0 s)(hSf:S∉fp)(hI:I∈fp)
  (hS:s.heap.get? S=some {cls:=.type "list",data:=.seq #[] c₀})
  (hR:∀s' acc' c',Moved (S :: wr) G s s'->s'.heap.get? S=some {cls:=.type "list",dict:=none,data:=.seq acc' c',slots:= #[]}->ItemsOf P acc' n->R (.ok (.ret res)) s') (hn:n<=sizeLine) :
  wpAny (model prog w) A.in1 (Builtin.List.listExtendWith (.ref S) (.ref I) res)
   (fun fin s'=>match fin with | .done f=>R (.ok f) s' | .again c'=>c'.quiet=true/\codeAny (model prog w) A c' R s') (fun e s'=>R (.error e) s') s:=by
 have hSI:S≠I:=fun e=>hSf (e ▸ hI);unfold Builtin.List.listExtendWith;refine g0 (g0r (hT 0 _ hst) ?_);have h1:Builtin.List.listSameRef (.ref S) (.ref I)=false:=by simp [Builtin.List.listSameRef,hSI]
 rw [mi (by rw [h1];decide)];refine g0 (W.self 0 _ _ _ hst ?_);refine g0 (t7 ?_);unfold Builtin.List.listLengthHint;refine g0 (g5i (hT 0 _ hst) qnv ?_);show wpAny _ A.in1 (specialOf (Value.ref I) (Str.ofString "__length_hint__") >>= _) _ _ _;refine g0 (g5i (hT 0 _ hst) qqu ?_)
 (generalize hid:("list_reverseiterator.__length_hint__" : String)=id0;(fail_if_success (clear hid id0));wp_delta;rw [show splitId id0=some ("list_reverseiterator","__length_hint__") from by subst hid;decide +kernel];subst hid)
 refine g0 (g1n (b:=true) (hT 0 _ hst) (by rw [g1m];kernel_rfl) ?_);refine g9 ?_;rw [mi (by decide)];exact g9 ⟨g11 F.plain_extend_loop _,codeAny_extend_loopS W hn _ hSf _ n 0 _ _ _ rfl (uj _) hst hS (ItemsOf.nil P) hR⟩
theorem qnx(W:WalksS prog w A.in1 I fp wr G n P St)(hT:∀i s,St i s->s.TypeIs (.ref I) "list_reverseiterator")(S:Addr)(hst:St 0 s)(hSf:S∉fp)(hI:I∈fp)
  (hS:s.heap.get? S=some {cls:=.type "list",data:=.seq #[]})
  (hR:∀s' acc' c',Moved (S :: wr) G s s'->s'.heap.get? S=some {cls:=.type "list",dict:=none,data:=.seq acc' c',slots:= #[]}->ItemsOf P acc' n->R (.ok (.ret .none)) s') (hn:n<=sizeLine) :
  wpAny (model prog w) A.in1 (Builtin.«list.__init__» ⟨[.ref S,.ref I],[]⟩)
   (fun fin s'=>match fin with | .done f=>R (.ok f) s' | .again c'=>c'.quiet=true/\codeAny (model prog w) A c' R s') (fun e s'=>R (.error e) s') s:=by
 show wpAny _ A.in1 (do let old <- Builtin.List.listItems (.ref S);Builtin.List.listUpdate (.ref S) (fun _=> #[]);letGo old.toList.reverse;Builtin.List.listExtendWith (.ref S) (.ref I) .none) _ _ s;refine g0 ?_;unfold Builtin.List.listItems;refine g0 (g0e hS rfl (g9 ?_));show wpAny _ A.in1 (updateSeq S (fun _=> #[]) >>= fun _=>letGo (#[]:Array Value).toList.reverse >>= fun _=>Builtin.List.listExtendWith (.ref S) (.ref I) .none) _ _ s;refine g0 (g3x hS rfl ?_);have hS₂:=g0f (Obj.mapSeq (fun _=>(#[]:Array Value))) hS rfl;have oth:∀b o,b≠S->s.heap.get? b=some o->(s.heap.update S (Obj.mapSeq (fun _=>(#[]:Array Value)))).get? b=some o:=
  fun b o hb e=>(g0m _ _ (n9 hb)).trans e
 refine g0 (g4a ?_);refine qih (hn:=hn) W hT S .none _ (W.frame 0 s _ s.toks hst (gv _) fun b hb o e=>oth b o (fun h=>hSf (h ▸ hb)) e) hSf hI hS₂ fun s' acc' c' hm hS' hacc=>?_;exact hR s' acc' c' (Moved.trans W.gtrans ((Moved.refl W.grefl).then_heap (gv _) fun b o hb e=>oth b o (fun h=>hb (h ▸ gq)) e) hm) hS' hacc
end
section
variable{prog:Program}{w:World}{A:Around}{E:Value->Shared->Prop}{s:Shared}
variable{I:Addr}{fp wr:List Addr}{G:Array GenState->Array GenState->Prop}{n:Nat}{P:Nat->Value->Prop}{St:Nat->Shared->Prop}
theorem qck{Q:Value->Shared->Prop}(W:WalksS prog w A.in1.in1 I fp wr G n P St)(hT:∀i s,St i s->s.TypeIs (.ref I) "list_reverseiterator")(hst:St 0 s)(hfp:∀b∈fp,b<s.heap.objs.size)(hI:I∈fp)
  (hQ:∀s' acc' c',Moved (s.heap.objs.size :: wr) G {s with heap:=s.heap.push {cls:=.type "list",data:=.seq #[]} } s' ->
   s'.heap.get? s.heap.objs.size=some {cls:=.type "list",dict:=none,data:=.seq acc' c',slots:= #[]}->ItemsOf P acc' n->Q (.ref s.heap.objs.size) s') (hn:n<=sizeLine) :
  wpAny (model prog w) A (call (.type "list") [.ref I]) Q E s:=by
 have hSf:s.heap.objs.size∉fp:=fun hm=>g0d _ (hfp _ hm);refine callType_codes (Q₁:=fun obj s₁=>obj=.ref s.heap.objs.size/\s₁ = {s with heap:=s.heap.push {cls:=.type "list",data:=.seq #[]} }) F.called_list (F.typeCall_list_1 _) F.entry_list_init
  (code_list_new _ ⟨rfl,rfl⟩) fun obj s₁ h₁=>?_
 obtain⟨rfl,rfl⟩:=h₁;have hS:(s.heap.push {cls:=.type "list",data:=.seq #[]}).get? s.heap.objs.size=some {cls:=.type "list",data:=.seq #[]}:=gj _ rfl;refine⟨⟨_,hS,rfl⟩,F.args_list_init_2 _ _,qnx (hn:=hn) W hT _ (W.frame 0 s _ s.toks hst (gv _) fun b _ o e=>gc _ e) hSf hI hS fun s' acc' c' hm hS' hacc=>?_⟩;exact⟨rfl,hQ s' acc' c' hm hS' hacc⟩
end
end Rv
namespace Js
open PySem
open Sem (wp)
theorem qfu:typeLookup (.type "tuple") "keys" = pure none:=by rw [g0w,g07];kernel_rfl
theorem qaq:typeLookup (.type "tuple") "__getattr__" = pure none:=by rw [g0w,g07];kernel_rfl
section
variable{prog:Program}{w:World}{A:Around}{E:Value->Shared->Prop}{s:Shared}{a:Addr}
theorem qii{xs:Array Value}{n:Nat}{u:Tok}{Q:Value->Shared->Prop}{sl:Array (Option Value)}(hx:s.heap.get? a=some {cls:=.type "tuple",dict:=none,data:=.seq xs n,slots:=sl})(hh:A.handled=none)
  (h:∀h' tk e,Heap.NewAttrErr s.heap h' e (.ref a) "keys" -> E (.ref e) {s with heap:=h',toks:=tk}) :
  wpAny (model prog w) A (call (.builtin "tuple.__getattribute__") [.ref a,.str "keys" u]) Q E s:=by
 refine p9 g2o ⟨_,hx,rfl⟩ F.entry_tuple_ga ?_ (F.args_tuple_getattribute_2 _ _);obtain⟨hp,g,d,tk,os⟩:=s;have hT:(⟨hp,g,d,tk,os⟩:Shared).TypeIs (.ref a) "tuple" :=⟨_,hx,rfl⟩
 have f4:=qfu;unfold Builtin.«object.__getattribute__»
 repeat (any_goals (first|assumption|wp_step))
 exact wpAny_raiseAttrError (by simpa using hh) (fun h' tk e x=>h h' tk e x) (attrMsg_fits (by decide +kernel) (by size_fits))
theorem qij{xs:Array Value}{n:Nat}{Q:Option Value->Shared->Prop}{sl:Array (Option Value)}(hx:s.heap.get? a=some {cls:=.type "tuple",dict:=none,data:=.seq xs n,slots:=sl})(hh:A.handled=none)
  (h:∀h' tk,(∀b o,s.heap.get? b=some o->h'.get? b=some o)->Q none {s with heap:=h',toks:=tk}) :
  wpAny (model prog w) A (getAttr? (.ref a) "keys") Q E s:=by
 obtain⟨hp,g,d,tk,os⟩:=s;have hT:(⟨hp,g,d,tk,os⟩:Shared).TypeIs (.ref a) "tuple" :=⟨_,hx,rfl⟩
 have f1:=sub_AttributeError;have f3:=g2o.lookup;have f4:=g2o.bind (.ref a);have f5:=qaq;unfold getAttr? getAttrBy? getAttrBy
 repeat (any_goals (first|assumption|((with_reducible show wpAny _ _ (call (Value.builtin "tuple.__getattribute__") _ _) _ _ _);refine qii hx (by first|exact hh|simpa using hh) fun h' tk' e x=>?_)|wp_step))
 obtain⟨t',u',he⟩:=x.there
 repeat (any_goals (first|assumption|wp_step))
 exact h _ _ x.keeps
end
section
variable{prog:Program}{w:World}{A:Around}{R:Result->Shared->Prop}
theorem qik{vs:List Value}{ps:List (List Int×Addr×Value)}{N I S L:Addr}(hu:A.units+1<cLine)(hh:A.in1.handled=none)(hSN:N<=S)(hIN:N<=I)(hLN:L<N)(hSI:S≠I)(h0:Heap)(hN:∀b o,h0.get? b=some o->b<N)(P0:Prs prog w h0 vs ps)(hl0:h0.IsTuple L vs.toArray)(hnd:(ps.map (·.1)).Nodup)(hz:ps.length<=sizeLine):
  ∀(k i:Nat) (s:Shared) (j:Int) (tj:Tok),ps.length-i=k->i<=ps.length->s.heap.IsTupleIter I L i->(∀b o,h0.get? b=some o->s.heap.get? b=some o)->s.heap.DictOfH (TK prog w) S (ps.take i) ->
   (∀s',s'.gens=s.gens->s'.drawn=s.drawn->s'.os=s.os->s.toks<=s'.toks->(∀b o,h0.get? b=some o->s'.heap.get? b=some o)->s'.heap.DictOfH (TK prog w) S ps->R (.ok (.ret .none)) s') ->
   codeAny (model prog w) A (.builtin "dict.update.loop" ⟨[.ref S,.ref I,.int j tj,.none],[]⟩) R s:=by
 intro k
 induction k with
 | zero=>
  intro i s j tj hk hi hit hkeep hd hR;have hin:i=ps.length:=by lia
  subst hin;refine g09 q3n ?_;rw [g02 yt _];have hls:s.heap.IsTuple L vs.toArray:=let⟨o,ho,r⟩:=hl0; ⟨o,hkeep L o ho,r⟩
  show wpAny _ A.in1 (pyNext (.ref I) >>= _) _ _ s;refine g0 (wpAny_pyNext_tuple_end hh hit hls (by simp [P0.len]) fun h' he=>?_);show wpAny _ A.in1 (Builtin.Dict.addKeywords S [] >>= _) _ _ _;refine g0 (g9 (g9 ?_));rw [g03 (gv _)] at hd;refine hR _ rfl rfl rfl (gv _) (fun b o e=>he b o (m9 (gh (hN b o e) hIN)) (hkeep b o e)) ?_;obtain⟨o,es,ep,ho,hc,hdd,hes,his,hn⟩:=hd;exact⟨o,es,ep,he S o hSI ho,hc,hdd,hes,fun x hx=>q1j (P0.key x hx) fun o' e=>he _ o' (m9 (gh (hN _ o' e) hIN)) (hkeep _ o' e),hn⟩
 | succ k ih=>
  intro i s j tj hk hi hit hkeep hd hR;have hlt:i<ps.length:=by lia
  have hp:ps[i]? = some ps[i]:=my hlt;obtain⟨q,hq,hqt⟩:=P0.pair i _ hp;have hkey:=P0.key _ (g3j hlt);generalize ps[i]=p at hp hq hqt hkey;refine g09 q3n ?_;rw [g02 yt _];have hls:s.heap.IsTuple L vs.toArray:=let⟨o,ho,r⟩:=hl0; ⟨o,hkeep L o ho,r⟩
  show wpAny _ A.in1 (pyNext (.ref I) >>= _) _ _ s;refine g0 (wpAny_pyNext_tuple_item hit hls (x:=.ref q) (by simpa using hq) fun h' hit' hs'=>?_);have keep1:∀b o,h0.get? b=some o->h'.get? b=some o:=fun b o e=>hs'.extBut b o (m9 (gh (hN b o e) hIN)) (hkeep b o e);have hqt1:h'.IsTuple q #[.ref p.2.1,p.2.2]:=let⟨o,ho,r⟩:=hqt; ⟨o,keep1 q o ho,r⟩
  have hkey1:(TK prog w).is h' p.1 p.2.1:=q1j hkey fun o e=>keep1 _ o e;have hd1:h'.DictOfH (TK prog w) S (ps.take i):=by
   obtain⟨o,es,ep,ho,hc,hdd,hes,his,hn⟩:=hd;exact⟨o,es,ep,hs'.extBut S o hSI ho,hc,hdd,hes,fun x hx=>q1j (P0.key x (g0u hx)) fun o' e=>keep1 _ o' e,hn⟩
  dsimp only;refine g0 (t7 ?_);refine g0 (wpAny_tryCatch ?_);unfold Builtin.Dict.pairItems;obtain⟨oq,hoq,hcq,nq,hdq⟩:=hqt1;refine g0 (g0r (s:={s with heap:=h'}) (T:="tuple") ⟨oq,hoq,hcq⟩ ?_);rw [mh (by decide)];refine g0 (g0e (s:={s with heap:=h'}) hoq hdq (g9 ?_));dsimp only [Option.getD_some];refine t7 ?_;have hnone:atKey (ps.take i) p.1=none:=by
   refine atKey_none_of_get fun jj pp e=>?_;have hjj:jj<i:=by
    have:=(nu.mp e).1;rw [pk] at this;lia
   have e':ps[jj]? = some (p.1,pp):=by rw [g2q hjj] at e;exact e
   have:=idxH_unique hnd e' (show ps[i]? = some (p.1,p.2) from hp);lia
  refine wpAny_dictSet_heap (s:={s with heap:=h'}) (show(TK prog w).room A.in1 from hu) hkey1 hd1 (fun h2 hd2 hs2=>?_) (by rw [pk];lia);rw [storedH_new hnone,show ps.take i++[(p.1,p.2.1,p.2.2)]=ps.take (i+1) by rw [g48,hp];rfl] at hd2;have ne2:∀b o,h0.get? b=some o->b≠S:=fun b o e=>m9 (gh (hN b o e) hSN);refine g9 ⟨g11 yt _,ih (i+1) _ _ _ (by lia) hlt ?_ (fun b o e=>?_) hd2 fun s' a1 a2 a3 a4 a5 a6=>?_⟩
  ·obtain⟨o,ho,r⟩:=hit'
   exact⟨o,hs2.extBut I o (n9 hSI) ho,r⟩
  ·exact hs2.extBut b o (ne2 b o e) (keep1 b o e)
  ·exact hR s' a1 a2 a3 (md (g2a _ _) a4) a5 a6
end
section
variable{prog:Program}{w:World}{A:Around}{E:Value->Shared->Prop}{s:Shared}
theorem q8b{L:Addr}{vs:List Value}{n0:Nat}{ps:List (List Int×Addr×Value)}{Q:Value->Shared->Prop}(hu:A.units+4<cLine)(hh:A.handled=none){sl:Array (Option Value)}(hL:s.heap.get? L=some {cls:=.type "tuple",dict:=none,data:=.seq vs.toArray n0,slots:=sl})(P0:Prs prog w s.heap vs ps)(hnd:(ps.map (·.1)).Nodup)(hz:ps.length<=sizeLine)
  (h:∀h' tk,(∀b o,s.heap.get? b=some o->h'.get? b=some o)->h'.DictOfH (TK prog w) s.heap.objs.size ps->Q (.ref s.heap.objs.size) {s with heap:=h',toks:=tk}) :
  wpAny (model prog w) A (call (.type "dict") [.ref L]) Q E s:=by
 refine callType_codes (Q₁:=fun obj s₁=>obj=.ref s.heap.objs.size/\s₁ = {s with heap:=s.heap.push {cls:=.type "dict",data:=.dict #[]} }) F.kt_called_dict (F.kt_typeCall_dict_1 _) F.entry_dict_init (kt_code_dict_new _ ⟨rfl,rfl⟩) ?_
 rintro obj s₁ ⟨rfl,rfl⟩
 let dO:Obj:={cls:=.type "dict",data:=.dict #[]}
 have hnew:(s.heap.push dO).DictOfH (TK prog w) s.heap.objs.size []:=Heap.DictOfH.new s.heap;have hTd:Shared.TypeIs {s with heap:=s.heap.push dO} (.ref s.heap.objs.size) "dict" :=⟨dO,gj _ rfl,rfl⟩
 have hL1:(s.heap.push dO).get? L=some {cls:=.type "tuple",dict:=none,data:=.seq vs.toArray n0,slots:=sl}:=gc _ hL;refine⟨hTd,F.args_dict_init_2 _ _,?_⟩;unfold Builtin.«dict.__init__»;refine g0 ?_;unfold Builtin.Dict.selfAndRest;refine g0 (g3m hTd ?_);show wpAny _ _ (pure (s.heap.objs.size,[Value.ref L])) _ _ _;refine g9 ?_;show wpAny _ _ (Builtin.Dict.updateFrom "dict.__init__" s.heap.objs.size (.ref L) [] .none) _ _ _;unfold Builtin.Dict.updateFrom;refine g0 (g0r (T:="tuple") ⟨_,hL1,rfl⟩ ?_);rw [mh (by decide)];refine g0 (qij (s:={s with heap:=s.heap.push dO}) hL1 (by simpa using hh) fun h1 tk1 k1=>?_);rw [mh (by rfl)];refine g0 (g01 ?_);have hL2:h1.IsTuple L vs.toArray:=⟨_,k1 _ _ hL1,rfl,n0,rfl⟩
 refine g0 (g2t (s:={s with heap:=h1,toks:=tk1}) hL2 ?_)
 let iO:Obj:={cls:=.type "tuple_iterator",data:=.fields #[.ref L,.int 0 0]}
 have hz1:s.heap.objs.size+1<=h1.objs.size:=gz (k1 _ _ (gj s.heap (o:=dO) rfl));have hLs:L<s.heap.objs.size:=gz hL;have keep:∀b o,s.heap.get? b=some o->(h1.push iO).get? b=some o:=fun b o e=>gc _ (k1 b o (gc _ e));have hd0:(h1.push iO).DictOfH (TK prog w) s.heap.objs.size []:=by
  obtain⟨o,es,ep,ho,hc,hdd,hes,his,hn⟩:=hnew;exact⟨o,es,ep,gc _ (k1 _ _ ho),hc,hdd,hes,fun x hx=>(nomatch hx),hn⟩
 refine g9 ⟨g11 yt _,qik (A:=A.in1) (N:=s.heap.objs.size) (I:=h1.objs.size) (S:=s.heap.objs.size) (L:=L) (vs:=vs) (ps:=ps) (by show A.units+1+1<cLine;lia) (by simpa using hh) (gv _) (g0y hz1) hLs (m9 hz1) s.heap (fun b o e=>gz e) P0 ⟨_,hL,rfl,n0,rfl⟩ hnd hz
  ps.length 0 _ _ _ rfl (uj _) ⟨iO,gj _ rfl,rfl,rfl⟩ keep hd0 fun s' a1 a2 a3 a4 a5 a6=>?_⟩
 obtain⟨h',g',d',tk',os'⟩:=s';dsimp only at a1 a2 a3 a4 a5 a6;subst a1;subst a2;subst a3;exact⟨rfl,h h' tk' a5 a6⟩
end
end Js
namespace DL
open PySem PySem.Spec PyProof.Rows L2
variable[Lam]
section
variable{X:Cx}{pos:Pos}
def qct(f:FE): FE:=fun ρ =>(f ρ).bind fun d=>match d with
 | .lst ds=>some (.lst ds.reverse)
 | _=>none
theorem q9o{a:Expr}{f:FE}{p p2 q2:Pos}(hc:X.calm=true)(hgt:Gl X "list")(hmt:X.mg "list" = none)(hgr:Gl X "reversed")(hmr:X.mg "reversed" = none)(ha:PE X a (tD X.K f))
  (s1:starEach [a] X.env=[(false,eval a X.env)]:=by first|exact q78 rfl|rfl) (s2:starEach [.Call (.Name "reversed" p2) [a] [] q2] X.env=[(false,eval (.Call (.Name "reversed" p2) [a] [] q2) X.env)]:=by first|exact q78 rfl|rfl) :
  PE X (.Call (.Name "list" p) [.Call (.Name "reversed" p2) [a] [] q2] [] pos) (tD X.K (qct f)):=by
 intro pins s σ H Q I ⟨F0,H0,F, ρ,d,r,hf,q⟩;obtain⟨d',h1,h2⟩:=gd.mp hf
 split at h2
 case h_2=>cases h2
 cases h2;rename_i ds;refine Call_ (q06 I hgt hmt DL.boot_list (g0b ?_ (by rw [s2];rfl) (by rfl)));rw [s2];refine Calls.spliced_cons ?_;have hp:PA X [a] (tDA X.K (qa f qe)):=qh1 (hs:=by rw [s1];rfl) ha qd;refine Call_ (q06 I hgr hmr qnw (g0b (thn (hp q2 pins s σ H (fun vs H1=>∃F',Grow F H F' H1/\RepL X.K F' [.lst ds] vs) I ⟨F0,H0,F, ρ,[.lst ds],r,by simp only [qa,qe,h1,m4,p6],fun vs F' H' g' r'=>⟨F',g',r'⟩⟩) fun us s1' ⟨vs,H1,I1,r1,F',g',q1⟩=>?_) (by rw [s1];rfl) (by rfl)));obtain⟨v1,t,rfl,e1,e2⟩:=q1.cons_inv;cases e2.nil_inv;obtain⟨u1,rfl,e3⟩:=vals1 r1;obtain⟨a1,xs,rfl,k1,l1⟩:=rep_lst.mp e1;cases e3;obtain⟨its,rv,pl,hz⟩:=I1.list (g'.fh.seq k1);have hlen:=rv.length;have hla:a1<s1'.heap.objs.size:=by obtain⟨o,ho,_⟩:=pl.isList;exact gz ho
 refine call_reversed_list pl.isList (Calls.spliced_nil ?_);have kp:∀b o,s1'.heap.get? b=some o->(s1'.heap.push (revObj a1 ((its.toArray.size:Int)-1))).get? b=some o:=fun b o e=>gc _ e;have g:(s1'.heap.push (revObj a1 ((its.toArray.size:Int)-1))).IsRevIter s1'.heap.objs.size a1 ((its.toArray.size:Int)-1-((0:Nat):Int)):=⟨_,gj _ rfl,rfl,by simp [revObj]⟩
 refine Rv.qck (Walks.listRev (prog:=X.prog) (w:=X.w) (A:=X.A.in1.in1) (I.ok.hd hc) s1'.heap.objs.size a1 (m9 hla) its.toArray).toS (fun i s st=>st.2.1.typeIs) ⟨uj _,g,pl.isList.at fun o e=>kp a1 o e⟩ (fun b hb=>?_) (by simp) (fun s' acc c' hm hget hacc=>?_) (by simp only [gm];lia)
 ·show b<(s1'.heap.push _).objs.size
  rw [p7];simp only [mf,uq,g1o] at hb;rcases hb with rfl|rfl <;> lia
 ·have hkp:∀b o,s1'.heap.get? b=some o->s'.heap.get? b=some o:=fun b o e=>hm.heap b o (by
   have:=gz e;simp only [mf,uq,g1o,p7];lia) (gc _ (kp b o e))
  have es:s' = {s1' with heap:=s'.heap,toks:=s'.toks}:=by
   obtain⟨h1,h2,h3,h4,h5⟩:=hm;obtain⟨ha,hb,hc,hd,he⟩:=s';simp only at h2 h3 h4;subst h2 h3 h4
   rfl
  have ea:acc.toList=its.reverse:=ql1 hacc;have e:acc=its.reverse.toArray:=by rw [<- ea]
  subst e;rw [p7] at hget;have hz':xs.reverse.length<=sizeLine:=by rw [g2h];exact hz
  have I3:Inv X pins σ (upd H1 (s1'.heap.objs.size+1) (.lst xs.reverse)) s':=by
   rw [es];exact I1.laid (t':=s'.toks) (a:=s1'.heap.objs.size+1) (o:=.lst xs.reverse) hkp (g1x _) ⟨hz',its.reverse,c',qns rv,hget⟩
  have g2:Grow F' H1 (upd F' (s1'.heap.objs.size+1) (.lst xs.reverse)) (upd H1 (s1'.heap.objs.size+1) (.lst xs.reverse)):=Grow.new g'.fh (I1.hok.fresh (g1x _));rw [p7];exact⟨.ref (s1'.heap.objs.size+1),_,I3,rfl,q _ _ _ (g'.trans g2) (rep_lst.mpr ⟨_,_,rfl,SqL.of qz,qee (l1.mono g2.ff)⟩)⟩
def q9p:List D->Option D
 | [.tup ds]=>(q34 ds).bind fun p=>if p.1.Nodup/\ds.length<=lim then some (.dtt p.1 p.2) else none
 | _=>none
theorem qny(hc:X.calm=true)(hu:X.A.units+64<cLine): xp X (.type "dict") (rC X.K q9p):=fun pins s σ H xs us Q I rv ⟨F,ds,d,fh,rl,ho,q⟩=>by
 unfold q9p at ho
 split at ho
 ·rename_i ds'
  obtain⟨⟨ks,vs⟩,h1,h2⟩:=gd.mp ho
  split at h2
  ·rename_i hok
   cases h2;obtain⟨x,rfl,rx⟩:=rep1 rl;obtain⟨a,ys,rfl,k1,k2⟩:=rep_tup.mp rx;obtain⟨u,rfl,ru⟩:=vals1 rv;cases ru;obtain⟨its,r1,⟨o,e1,e2,e3,n,e4⟩,hz⟩:=I.tupleX (ql fh k1);obtain⟨oc,od,oda,osl⟩:=o;dsimp only at e2 e3 e4;subst e2;subst e3;subst e4;obtain⟨ps,ws,P,p1,p2,p3,p4⟩:=qec I fh h1 k2 r1;have hl:ps.length<=lim:=by
    rw [<- P.len, <- r1.length, <- k2.length];exact hok.2
   refine Js.q8b (by lia) (I.ok.hd hc) e1 P (by rw [p1];exact hok.1) (xa hl) fun h' tk old hd=>?_;have hnn:H s.heap.objs.size=none:=I.hok.fresh (gv _);obtain⟨o,es,ep,g1,g2,g3,g4,_,g5⟩:=hd;have de:DE s.heap.objs.size ps ep h':=⟨o,es,g1,g2,g3,g4⟩
   refine⟨.ref _,_,I.laid (t':=tk) (a:=s.heap.objs.size) (o:=.ext (DE s.heap.objs.size ps ep)) old (gv _) ⟨de,⟨o,g1⟩,fun h1 h2 ⟨o,es,z,r⟩ e=>⟨o,es,e o z,r⟩⟩,rfl,?_⟩;have g:=Grow.new (o:=.ext (DE s.heap.objs.size ps ep)) fh hnn;refine q _ _ _ g (rep_dtt.mpr ⟨_,ps,ws,ep,rfl,qz,p1,hok.1,xa hl,g42.mpr (uh (qh9 I)),fun x hx=>ql g.ff (p2 x hx),p3,p4.mono g.ff⟩)
  ·cases h2
 ·cases ho
end
end DL
namespace DL
open PySem L2
theorem qeg(a b:Int): decide (V.int a=V.int b)=decide (a=b):=g2b.mpr ⟨fun h=>by injection h,fun h=>by rw [h]⟩
theorem qar(a b:Int): oEq (.int a) (.int b)=some (.bl (decide (a=b))):=by
 simp only [oEq,qmk,flD,qa8,m4,nj,g5z,qeg]
theorem qqv(a b:Int): q4s (.int a) (.int b)=some (.bl (!decide (a=b))):=by
 simp only [q4s,flD,qa8,m4,nj,qeg]
theorem qtq(a b:Bool): oEq (.bl a) (.bl b)=some (.bl (a==b)):=by
 cases a <;> cases b <;> rfl
theorem q8c(a b:Int)(h:0<b): oMod (.int a) (.int b)=some (.int (a%b)):=by simp [oMod,oI,h]
theorem qnz(a b:Int)(h:0<b)(h2:b<1073741824): oDiv (.int a) (.int b)=some (.int (a / b)):=by simp [oDiv,oI,h,h2]
theorem ql2(a b:Int): zr (.int a) (.int b)=some (.int (a+b)):=rfl
theorem qo0(a b:Int): oSub (.int a) (.int b)=some (.int (a-b)):=rfl
theorem qqw(a b:Int): oLt' (.int a) (.int b)=some (.bl (decide (a<b))):=rfl
theorem qqx(a b:Int): oLe (.int a) (.int b)=some (.bl (decide (a<=b))):=rfl
theorem qho(a b:Int): oGt (.int a) (.int b)=some (.bl (decide (b<a))):=rfl
theorem qqy(a b:Int): oGe (.int a) (.int b)=some (.bl (decide (b<=a))):=rfl
theorem qbp(xs ys:List D)(h:xs.length+ys.length<=1000000): zr (.tup xs) (.tup ys)=some (.tup (xs++ys)):=by
 show(oAdd (.tup xs) (.tup ys)).or (qdg (.tup xs) (.tup ys))=_;simp only [oAdd,oI,Option.none_or,qdg,lim,mh h]
theorem qeh(a b:Int)(h:0<=b)(h2:b<=1000000)(h3:a.natAbs<2 ^ 64): oShl (.int a) (.int b)=some (.int (a*2 ^ b.toNat)):=by simp [oShl,oI,h,h2,h3]
theorem qo1(a b:Int)(h:0<=b): oShr (.int a) (.int b)=some (.int (a / 2 ^ b.toNat)):=by simp [oShr,oI,h]
theorem qo2(a b:Int)(h:0<=b)(h2:b<=1000000)(h3:a.natAbs<2 ^ 64): oPow (.int a) (.int b)=some (.int (a ^ b.toNat)):=by simp [oPow,oI,h,h2,h3]
theorem qbq(ns:List Int): qdd [.lst (ns.map .int)]=some (.int ns.sum):=by simp [qdd,o1L,q21]
theorem qil(bs:List Bool): qac [.lst (bs.map .bl)]=some (.bl (bs.all id)):=by simp [qac,o1L,q4z]
theorem q9q(bs:List Bool): qde [.lst (bs.map .bl)]=some (.bl (bs.any id)):=by simp [qde,o1L,q4z]
theorem qhp{α : Type}{xs:List α}{i:Int}(h0:0<=i): atI xs i=xs[i.toNat]? :=by
 unfold atI ixN;rw [mh h0]
 by_cases h:i<xs.length
 ·rw [mh h];rfl
 ·rw [mi h,g3l (by omega)];rfl
theorem qo3{α : Type}(xs:List α): atI xs (-1)=xs.getLast? :=by
 unfold atI ixN;rw [mi (by decide)];cases xs with
 | nil=>rfl
 | cons a r=>
  rw [mh (by simp only [pz];omega)];show(a :: r)[((-1:Int)+((a :: r).length:Nat)).toNat]? = _;rw [List.getLast?_eq_getElem?]
  congr 1
  simp only [pz];omega
section
variable{b:FB}{body:FS}{d:D}{ds:List D}{ρ ρ1 ρ2:Rho}
theorem j9(h1:b d ρ = some ρ1)(h2:body ρ1=some (.nx, ρ2)): runFor b body (d :: ds) ρ = runFor b body ds ρ2:=by simp only [runFor,h1,h2,m4]
end
theorem q59{b:FB}{c:FT}{f:FE}{ρ : Rho}(p:D->Bool)(g:D->D): ∀ {ds:List D},(∀d∈ds,∃ ρ1,b d ρ = some ρ1/\c ρ1=some (p d)/\(p d=true->f ρ1=some (g d)))->qv b c f ρ ds=some ((ds.filter p).map g)
 | [],_=>rfl
 | d :: ds,h=>by
  obtain⟨ρ1,e1,e2,e3⟩:=h d gq;have ih:=q59 p g fun e he=>h e (gu _ he);simp only [qv,e1,e2,m4];cases hp:p d with
  | true=>simp only [nj,e3 hp,m4,ih,p6,pb,hp,gf]
  | false=>simp only [gr,p8,ih,pb,hp]
theorem q08{b:FB}{f:FE}{ρ : Rho}(g:D->D){ds:List D}(h:∀d∈ds,∃ ρ1,b d ρ = some ρ1/\f ρ1=some (g d)): qv b zg f ρ ds=some (ds.map g):=by
 have:=q59 (b:=b) (c:=zg) (f:=f) (ρ := ρ) (fun _=>true) g (ds:=ds) fun d hd=>let⟨ρ1,e1,e2⟩:=h d hd; ⟨ρ1,e1,rfl,fun _=>e2⟩
 rw [List.filter_eq_self.mpr (fun _ _=>rfl)] at this;exact this
theorem q7n(lo:Int)(n:Nat): z5 lo (n+1)=.int lo :: z5 (lo+1) n:=by
 unfold z5;rw [g1y,gf,ni]
 congr 1
 ·simp
 ·apply g2i
  intro a _;simp only [Function.comp,Nat.succ_eq_add_one,Int.natCast_add]
  congr 1
  omega
theorem wk(lo:Int)(n:Nat): (z5 lo n).length=n:=by simp [z5]
theorem q1l(fa:FA)(ρ : Rho)(j:Int)(h:fa ρ = some [.int j])(h1 : -(2 ^ 62)<=j)(h2:j<2 ^ 62): iR1 fa ρ = some (z5 0 j.toNat):=by
 simp only [iR1,h,m4,mq h1,mq h2,g4q,nj]
theorem qfv{α : Type}(xs:List D)(k:Nat): cutD xs none (some (k:Int))=xs.take k:=by
 unfold cutD;rw [HT.sIx_nat,HT.sIx_none];simp only [g44,Nat.sub_zero]
 by_cases h:k<=xs.length
 ·rw [g5k h]
 ·rw [g59 (by omega),g54,g03 (by omega)]
theorem qo4{α : Type}(xs:List D)(k:Nat): cutD xs (some (k:Int)) none=xs.drop k:=by
 unfold cutD;rw [HT.sIx_nat,HT.sIx_none]
 by_cases h:k<=xs.length
 ·rw [g5k h,g03 (by rw [uo];exact gv _)]
 ·rw [g59 (by omega),g53,List.drop_eq_nil_of_le (by omega)];simp
section
variable{ρ ρ1 ρ':Rho}{f g:FE}{d x y z:D}{i n m ar:Nat}{fa fk:FA}{ds es:List D}{t t2:FT}{c:Bool}{u w:FS}{r:Option (Fl×Rho)}
theorem x_c:eC d ρ = some d:=rfl
theorem x_v(h : ρ[i]? = some (some (.fz d))): eV i ρ = some d:=by unfold eV;rw [h]
theorem q6e{o:D->D->Option D}(h1:f ρ = some x)(h2:g ρ = some y)(h3:o x y=some z): eOp o f g ρ = some z:=by unfold eOp;rw [h1,m4,h2,m4,h3]
theorem qvz{o:D->Option D}(h1:f ρ = some x)(h3:o x=some z): eUn o f ρ = some z:=by unfold eUn;rw [h1,m4,h3]
theorem q2l:qe ρ = some []:=rfl
theorem q09(h1:f ρ = some d)(h2:fa ρ = some ds): qa f fa ρ = some (d :: ds):=by unfold qa;rw [h1,m4,h2,p6]
theorem x_call{o:List D->Option D}(h1:fa ρ = some ds)(h2:o ds=some d): qf o fa ρ = some d:=by unfold qf;rw [h1,m4,h2]
theorem qei{o:List D->Option D}{dds:List D}(h1:fa ρ = some ds)(hl:(ds++dds).length=ar)(h2:o (ds++dds)=some d): qf (qj ar dds o) fa ρ = some d:=by unfold qf qj;rw [h1,m4,mh hl,h2]
theorem qv4(h1:fa ρ = some ds)(hl:ds.length<=lim): x5 fa ρ = some (.tup ds):=by unfold x5;rw [h1,m4,mh hl]
theorem x_l(h1:fa ρ = some ds): eL fa ρ = some (.lst ds):=by unfold eL;rw [h1,p6]
theorem qv5{o:D->D->Option D}(h1:f ρ = some x)(h2:g ρ = some y)(h3:o x y=some (.bl c)): zw o f g ρ = some c:=by unfold zw;rw [q6e h1 h2 h3,m4];rfl
theorem qo5(h1:f ρ = some d)(h2:qd8 d=some c): bT f ρ = some c:=by unfold bT;rw [h1,m4,h2]
theorem qtr(h1:t ρ = some c)(hc:c=true)(h2:u ρ = r): sIf t u w ρ = r:=by subst hc;unfold sIf;rw [h1,m4];exact h2
theorem qts(h1:t ρ = some c)(hc:c=false)(h2:w ρ = r): sIf t u w ρ = r:=by subst hc;unfold sIf;rw [h1,m4];exact h2
theorem qtt:v5 ρ = some (.nx, ρ):=rfl
theorem qtu(h:u (ds.map (fun d=>some (.fz d))++List.replicate (n-ds.length) none)=some (.rt d, ρ')): z9 n u ds=some d:=by unfold z9;rw [h]
end
theorem eV0(d:D)(r:Rho): eV 0 (some (.fz d) :: r)=some d:=rfl
theorem eVs(i:Nat)(x:Option B)(r:Rho): eV (i+1) (x :: r)=eV i r:=rfl
theorem qp6(ds:List D): vp [.tup ds]=some (.int ds.length):=rfl
theorem qv6(ds:List D): vp [.lst ds]=some (.int ds.length):=rfl
theorem qw0(i:Int): (match D.int i with | .int i=>some (some i)|_=>none:Option (Option Int))=some (some i):=rfl
theorem qw1(ds:List D)(r:Rho): frz 0 (some (.ow ds) :: r)=some (.fz (.lst ds)) :: r:=rfl
theorem frzs(i:Nat)(x:Option B)(r:Rho): frz (i+1) (x :: r)=x :: frz i r:=by
 unfold frz;rw [g38];cases h:r[i]? with
 | none=>rfl
 | some y=>
  cases y with
  | none=>rfl
  | some z=>cases z <;> rfl
theorem wm(a b:Int)(h : -(2 ^ 64)<b/\b<2 ^ 64): jv (.int a) (.int b)=some (.int (a*b)):=by
 have h2:(decide (-(2 ^ 64)<b)&&decide (b<2 ^ 64))=true:=by rw [mq h.1,mq h.2];rfl
 show(if((decide (-(2 ^ 64)<a)&&decide (a<2 ^ 64)) || (decide (-(2 ^ 64)<b)&&decide (b<2 ^ 64)))=true then some (D.int (a*b)) else none).or _=_;rw [h2,Bool.or_true,mh rfl,g5z]
theorem qfw(a b:Int)(h : -(2 ^ 64)<a/\a<2 ^ 64): jv (.int a) (.int b)=some (.int (a*b)):=by
 have h2:(decide (-(2 ^ 64)<a)&&decide (a<2 ^ 64))=true:=by rw [mq h.1,mq h.2];rfl
 show(if((decide (-(2 ^ 64)<a)&&decide (a<2 ^ 64)) || (decide (-(2 ^ 64)<b)&&decide (b<2 ^ 64)))=true then some (D.int (a*b)) else none).or _=_;rw [h2,Bool.true_or,mh rfl,g5z]
theorem qw2(ds:List D)(i:Int): oIx (.lst ds) (.int i)=atI ds i:=rfl
theorem qtv(ds:List D)(i:Int): oIx (.tup ds) (.int i)=atI ds i:=rfl
theorem qqz{α : Type}(xs:List α)(n:Nat): atI xs (no_index (OfNat.ofNat n:Int))=xs[n]? :=by
 show atI xs (n:Int)=xs[n]?;rw [qhp (show(0:Int)<=(n:Int) by omega)]
 rfl
theorem qo6{α : Type}(xs:List α)(n:Nat): atI xs (n:Int)=xs[n]? :=by
 rw [qhp (show(0:Int)<=(n:Int) by omega)]
 rfl
theorem qr0(ds:List D): qoz [.lst ds]=some ds:=rfl
theorem qr1(ds:List D): qoz [.tup ds]=some ds:=rfl
theorem vw(ds:List D): ju [.lst ds]=some (.tup ds):=rfl
theorem qo7(ds:List D): ju [.tup ds]=some (.tup ds):=rfl
theorem q5a(ds:List D)(r:Rho): q82 0 (some (.ow ds) :: r)=some ds:=rfl
theorem q5b(i:Nat)(x:Option B)(r:Rho): q82 (i+1) (x :: r)=q82 i r:=rfl
theorem za{n:Nat}{u:FS}{ds:List D}{d:D}(h:(u (ds.map (fun d=>some (.fz d))++List.replicate (n-ds.length) none)).map Prod.fst=some (.rt d)): z9 n u ds=some d:=by
 cases e:u (ds.map (fun d=>some (.fz d))++List.replicate (n-ds.length) none) with
 | none=>rw [e] at h;cases h
 | some p=>
  obtain⟨fl, ρ'⟩:=p;rw [e] at h;have h':fl=.rt d:=by simpa using h
  subst h';exact qtu e
theorem qr2:zh .int .non=false/\(∀b:Bool,zh .int (.bl b)=true)/\(∀i:Int,zh .int (.int i)=true)/\(∀x:Str,zh .int (.str x)=false)/\(∀ds:List D,zh .int (.tup ds)=false)/\(∀ds:List D,zh .int (.lst ds)=false)/\(∀(ks:List Key) (vs:List D),zh .int (.dct ks vs)=false)/\(∀(ks:List (List Int)) (vs:List D),zh .int (.dtt ks vs)=false)/\zh .bool .non=false/\(∀b:Bool,zh .bool (.bl b)=true)/\(∀i:Int,zh .bool (.int i)=false)/\(∀x:Str,zh .bool (.str x)=false)/\(∀ds:List D,zh .bool (.tup ds)=false)/\(∀ds:List D,zh .bool (.lst ds)=false)/\(∀(ks:List Key) (vs:List D),zh .bool (.dct ks vs)=false)/\(∀(ks:List (List Int)) (vs:List D),zh .bool (.dtt ks vs)=false)/\zh .tuple .non=false/\(∀b:Bool,zh .tuple (.bl b)=false)/\(∀i:Int,zh .tuple (.int i)=false)/\(∀x:Str,zh .tuple (.str x)=false)/\(∀ds:List D,zh .tuple (.tup ds)=true)/\(∀ds:List D,zh .tuple (.lst ds)=false)/\(∀(ks:List Key) (vs:List D),zh .tuple (.dct ks vs)=false)/\(∀(ks:List (List Int)) (vs:List D),zh .tuple (.dtt ks vs)=false)/\zh .list .non=false/\(∀b:Bool,zh .list (.bl b)=false)/\(∀i:Int,zh .list (.int i)=false)/\(∀x:Str,zh .list (.str x)=false)/\(∀ds:List D,zh .list (.tup ds)=false)/\(∀ds:List D,zh .list (.lst ds)=true)/\(∀(ks:List Key) (vs:List D),zh .list (.dct ks vs)=false)/\(∀(ks:List (List Int)) (vs:List D),zh .list (.dtt ks vs)=false)/\zh .str .non=false/\(∀b:Bool,zh .str (.bl b)=false)/\(∀i:Int,zh .str (.int i)=false)/\(∀x:Str,zh .str (.str x)=true)/\(∀ds:List D,zh .str (.tup ds)=false)/\(∀ds:List D,zh .str (.lst ds)=false)/\(∀(ks:List Key) (vs:List D),zh .str (.dct ks vs)=false)/\(∀(ks:List (List Int)) (vs:List D),zh .str (.dtt ks vs)=false)/\zh .dict .non=false/\(∀b:Bool,zh .dict (.bl b)=false)/\(∀i:Int,zh .dict (.int i)=false)/\(∀x:Str,zh .dict (.str x)=false)/\(∀ds:List D,zh .dict (.tup ds)=false)/\(∀ds:List D,zh .dict (.lst ds)=false)/\(∀(ks:List Key) (vs:List D),zh .dict (.dct ks vs)=true)/\(∀(ks:List (List Int)) (vs:List D),zh .dict (.dtt ks vs)=true):=by
 refine⟨?_,?_,?_,?_,?_,?_,?_,?_,?_,?_,?_,?_,?_,?_,?_,?_,?_,?_,?_,?_,?_,?_,?_,?_,?_,?_,?_,?_,?_,?_,?_,?_,?_,?_,?_,?_,?_,?_,?_,?_,?_,?_,?_,?_,?_,?_,?_,?_⟩ <;> intros <;> rfl
theorem qr3{x:Int}{n:Nat}(hn:0<n): ∃k:Nat,k<n/\oMod (.int x) (.int (n:Int))=some (.int (k:Int)):=by
 have h1:=g1e x (show(n:Int)≠0 by omega);have h2:=g19 x (show(0:Int)<(n:Int) by omega);refine⟨(x%n).toNat,by omega,?_⟩;rw [q8c _ _ (by omega),g2f h1]
end DL
namespace My
open PySem PySem.Spec PyProof.Rows L2 DL
local macro_rules | `(tactic| walk_at "A")=> `(tactic| ((refine qh1 (hs:=?hs) ?a ?_);(case hs=>exact q78 rfl)))
local macro_rules | `(tactic| walk_at "L")=> `(tactic| first|exact .inl rfl|exact .inr rfl|assumption)
def top(i:Nat): Stmt:=PySem.Challenge.pw_oftentogether_k25_whole_borders.main.body.getD i (.Pass ⟨0,0,0,0⟩)
def qtw(i j:Nat): Stmt:=match top i with | .ClassDef _ _ _ body _ _ _ _ _ _ _=>body.getD j (.Pass ⟨0,0,0,0⟩)|x=>x
section
variable[Lam]{P:Program}{w:World}{K:Frag}{mg:Str->Option Value}{base:Heap}
abbrev q0q:Stmt:=top 29
noncomputable def q6f:List Str:=["_law_mark","_law_some","_law_ware"]
theorem q2m:(q6f).Nodup:=by decide +kernel
theorem qim:FnScope q6f ["_law_mark"] (qc q0q):=⟨rfl,rfl,rfl,q2m,rfl,by decide +kernel,by decide +kernel⟩
noncomputable def vx:FS:=(z8 (sIf (zw oEq (eOp oMod (eV 0) (eC (.int 2))) (eC (.int 1))) (q2z 1 (eV 2)) v5) (zu 0 (eOp oDiv (eV 0) (eC (.int 2)))))
noncomputable def q23:FS:=(z8 (q3v 1 (q2y qe)) (z8 (xm (iR1 (qa (eC (.int 12)) qe)) (bN 2) vx) (q4v 1 (zd (qf ju (qa (eV 1) qe))))))
noncomputable def j4:List D->Option D:=z9 3 q23
theorem q9r{fa:Addr}{cdv:Value}{A:Around}{outer:List Env}{s:Shared}{H:Hp}{E:XK}(n_range:mg "range" = none)(n_tuple:mg "tuple" = none)(hr:Room 0 (A.deeper (envOfC "_law_set" (qc q0q) s.heap.objs.size fa cdv))):
  PSs (zj CX0 P w K mg base q6f "_law_set" (qc q0q) fa cdv A outer s H E).nox (qp q0q) (tDS K q23):=by
 unfold q23 vx;refine(qi ?_ ?_);exact(q64 (i:=1) q2m rfl (Or.inl rfl) (q0x qd));refine(qi ?_ ?_);refine(k5 um rfl ?_ (qt q2m rfl (Or.inl rfl) (.inl rfl)) (qi ?_ ?_));refine(kq rfl n_range ?_);walk_at "A";exact qg;exact qd;refine(xh ?_ (qk ?_) jg);refine(zv (wg hr.units) ?_ qg);refine(qq jl ?_ qg);exact(q0 (pv 0));refine(q93 (pv 1) ?_);exact(q0 (pv 2));refine(qk ?_);refine(ze (i:=0) ?_ ?_ ?_ ?_ ?_ ?_);exact q2m;exact rfl;exact(Or.inl rfl);refine(qq q0v ?_ qg);exact(q0 (pv 0));exact rfl;walk_at "L";refine(q30 1 (qk ?_));refine(qw ?_);refine(zp (ji) rfl n_tuple DL.boot_tuple ?_);walk_at "A";exact(q0 (pv 1));exact qd
theorem qin{fa:Addr}{dV:Value}{fd:FuncData}(F:Fun2 K "_law_set" "_law_set" q0q dV fa fd)(n_range:mg "range" = none)(n_tuple:mg "tuple" = none): FnOk P w K mg base CX0 1 fa fd ["_law_mark"] (spD K 1 j4):=
 F.okn (k:=0) (n:=3) (ar:=1) (k1:=1) (u:=q23) qim rfl rfl rfl fun cdv A outer s H E hr=>(by first|(with_reducible exact q9r n_range n_tuple hr)|exact q9r n_range n_tuple hr)
abbrev k9:Stmt:=top 30
noncomputable def q3z:List Str:=["_law_many"]
theorem qej:(q3z).Nodup:=by decide +kernel
theorem qek:FnScope q3z ["_law_many"] (qc k9):=⟨rfl,rfl,rfl,qej,rfl,by decide +kernel,by decide +kernel⟩
noncomputable def q1y:FS:=(zd (eOp oIx (eL (q2y (qa (eC (.int 1)) (qa (eC (.int 2)) (qa (eC (.int 4)) (qa (eC (.int 8)) (qa (eC (.int 16)) (qa (eC (.int 32)) (qa (eC (.int 64)) (qa (eC (.int 128)) (qa (eC (.int 256)) (qa (eC (.int 512)) (qa (eC (.int 1024)) (qa (eC (.int 2048)) (qa (eC (.int 4096)) qe))))))))))))))) (eV 0)))
noncomputable def j0:List D->Option D:=z9 1 q1y
theorem q6g{fa:Addr}{cdv:Value}{A:Around}{outer:List Env}{s:Shared}{H:Hp}{E:XK}(hr:Room 0 (A.deeper (envOfC "_law_power" (qc k9) s.heap.objs.size fa cdv))):
  PSs (zj CX0 P w K mg base q3z "_law_power" (qc k9) fa cdv A outer s H E).nox (qp k9) (tDS K q1y):=by
 unfold q1y;refine(qk ?_);refine(qw ?_);refine(jq ?_ ?_);refine(j8 ?_);refine(q0x ?_);walk_at "A";exact qg;walk_at "A";exact qg;walk_at "A";exact qg;walk_at "A";exact qg;walk_at "A";exact qg;walk_at "A";exact qg;walk_at "A";exact qg;walk_at "A";exact qg;walk_at "A";exact qg;walk_at "A";exact qg;walk_at "A";exact qg;walk_at "A";exact qg;walk_at "A";exact qg;exact qd;exact(q0 (pv 0))
theorem qel{fa:Addr}{dV:Value}{fd:FuncData}(F:Fun2 K "_law_power" "_law_power" k9 dV fa fd): FnOk P w K mg base CX0 1 fa fd ["_law_many"] (spD K 1 j0):=
 F.okn (k:=0) (n:=1) (ar:=1) (k1:=1) (u:=q1y) qek rfl rfl rfl fun cdv A outer s H E hr=>(by first|(with_reducible exact q6g  hr)|exact q6g  hr)
abbrev q0r:Stmt:=top 31
noncomputable def q6h:List Str:=["_law_number","_law_wares","_law_most"]
theorem qio:(q6h).Nodup:=by decide +kernel
theorem qip:FnScope q6h ["_law_number","_law_wares","_law_most"] (qc q0r):=⟨rfl,rfl,rfl,qio,rfl,by decide +kernel,by decide +kernel⟩
noncomputable def q24:FS:=(zd (x5 (qa (eOp zr (eC (.int 1)) (eOp oMod (eOp oDiv (eV 0) (eC (.int 4096))) (eV 2))) (qa (qf (qj 1 [] j4) (qa (eOp oMod (eV 0) (qf (qj 1 [] j0) (qa (eV 1) qe))) qe)) qe))))
noncomputable def w6:List D->Option D:=z9 3 q24
theorem q9s{fa:Addr}{cdv:Value}{A:Around}{outer:List Env}{s:Shared}{H:Hp}{E:XK}{a__law_set:Addr}{fd__law_set:FuncData}(c_24:Cal P w K mg base "_law_set" 1 ["_law_mark"] 1 j4 a__law_set fd__law_set)(b_24:Binds K fd__law_set ["_law_mark"] []){a__law_power:Addr}{fd__law_power:FuncData}(c_21:Cal P w K mg base "_law_power" 1 ["_law_many"] 1 j0 a__law_power fd__law_power)(b_21:Binds K fd__law_power ["_law_many"] [])(hr:Room 1 (A.deeper (envOfC "_law_run" (qc q0r) s.heap.objs.size fa cdv))):
  PSs (zj CX0 P w K mg base q6h "_law_run" (qc q0r) fa cdv A outer s H E).nox (qp q0r) (tDS K q24):=by
 unfold q24;refine(qk ?_);refine(qw ?_);refine(yl ?_);walk_at "A";refine(qq jf qg ?_);refine(qq jl ?_ ?_);refine(qq q0v ?_ qg);exact(q0 (pv 0));exact(q0 (pv 2));walk_at "A";refine(qr c_24 b_24 hr (by decide) rfl ?_);walk_at "A";refine(qq jl ?_ ?_);exact(q0 (pv 0));refine(qr c_21 b_21 hr (by decide) rfl ?_);walk_at "A";exact(q0 (pv 1));exact qd;exact qd;exact qd
theorem qiq{fa:Addr}{dV:Value}{fd:FuncData}(F:Fun2 K "_law_run" "_law_run" q0r dV fa fd){a__law_set:Addr}{fd__law_set:FuncData}(c_24:Cal P w K mg base "_law_set" 1 ["_law_mark"] 1 j4 a__law_set fd__law_set)(b_24:Binds K fd__law_set ["_law_mark"] []){a__law_power:Addr}{fd__law_power:FuncData}(c_21:Cal P w K mg base "_law_power" 1 ["_law_many"] 1 j0 a__law_power fd__law_power)(b_21:Binds K fd__law_power ["_law_many"] []): FnOk P w K mg base CX0 2 fa fd ["_law_number","_law_wares","_law_most"] (spD K 3 w6):=
 F.okn (k:=1) (n:=3) (ar:=3) (k1:=2) (u:=q24) qip rfl rfl rfl fun cdv A outer s H E hr=>(by first|(with_reducible exact q9s c_24 b_24 c_21 b_21 hr)|exact q9s c_24 b_24 c_21 b_21 hr)
abbrev kb:Stmt:=top 28
noncomputable def q40:List Str:=["_law_script","_law_k","_law_number"]
theorem q12:(q40).Nodup:=by decide +kernel
theorem qem:FnScope q40 ["_law_script","_law_k"] (qc kb):=⟨rfl,rfl,rfl,q12,rfl,by decide +kernel,by decide +kernel⟩
noncomputable def kc:FS:=(z8 (zu 2 (eOp zr (eOp jv (eC (.int 5)) (eV 1)) (eC (.int 2)))) (z8 (sIf (zw oGt (qf vp (qa (eV 0) qe)) (eC (.int 0))) (zu 2 (eOp oMod (eOp oIx (eV 0) (eOp oMod (eV 1) (qf vp (qa (eV 0) qe)))) (eC (.int 2147483629)))) v5) (z8 (zu 2 (eOp oMod (eOp zr (eOp zr (eOp jv (eV 2) (eC (.int 48271))) (eOp jv (eOp jv (eV 1) (eV 1)) (eC (.int 69621)))) (eC (.int 11))) (eC (.int 2147483647)))) (zd (eOp oMod (eOp jv (eV 2) (eV 2)) (eC (.int 2147483629)))))))
noncomputable def xj:List D->Option D:=z9 3 kc
theorem q6i{fa:Addr}{cdv:Value}{A:Around}{outer:List Env}{s:Shared}{H:Hp}{E:XK}(n_len:mg "len" = none)(hr:Room 0 (A.deeper (envOfC "_law_mixed" (qc kb) s.heap.objs.size fa cdv))):
  PSs (zj CX0 P w K mg base q40 "_law_mixed" (qc kb) fa cdv A outer s H E).nox (qp kb) (tDS K kc):=by
 unfold kc;refine(qi ?_ ?_);refine(ze (i:=2) ?_ ?_ ?_ ?_ ?_ ?_);exact q12;exact rfl;exact(Or.inl rfl);refine(qq jf ?_ qg);refine(qq vt qg ?_);exact(q0 (pv 1));exact rfl;walk_at "L";refine(qi ?_ ?_);refine(xh ?_ (qk ?_) jg);refine(zv q76 ?_ qg);refine(zo (xw) rfl n_len DL.j3 ?_);walk_at "A";exact(q0 (pv 0));exact qd;refine(ze (i:=2) ?_ ?_ ?_ ?_ ?_ ?_);exact q12;exact rfl;exact(Or.inl rfl);refine(qq jl ?_ qg);refine(jq ?_ ?_);exact(q0 (pv 0));refine(qq jl ?_ ?_);exact(q0 (pv 1));refine(zo (xw) rfl n_len DL.j3 ?_);walk_at "A";exact(q0 (pv 0));exact qd;exact rfl;walk_at "L";refine(qi ?_ ?_);refine(ze (i:=2) ?_ ?_ ?_ ?_ ?_ ?_);exact q12;exact rfl;exact(Or.inl rfl);refine(qq jl ?_ qg);refine(qq jf ?_ qg);refine(qq jf ?_ ?_);refine(qq vt ?_ qg);exact(q0 (pv 2));refine(qq vt ?_ qg);refine(qq vt ?_ ?_);exact(q0 (pv 1));exact(q0 (pv 1));exact rfl;walk_at "L";refine(qk ?_);refine(qw ?_);refine(qq jl ?_ qg);refine(qq vt ?_ ?_);exact(q0 (pv 2));exact(q0 (pv 2))
theorem qen{fa:Addr}{dV:Value}{fd:FuncData}(F:Fun2 K "_law_mixed" "_law_mixed" kb dV fa fd)(n_len:mg "len" = none): FnOk P w K mg base CX0 1 fa fd ["_law_script","_law_k"] (spD K 2 xj):=
 F.okn (k:=0) (n:=3) (ar:=2) (k1:=1) (u:=kc) qem rfl rfl rfl fun cdv A outer s H E hr=>(by first|(with_reducible exact q6i n_len hr)|exact q6i n_len hr)
abbrev wo:Stmt:=top 32
noncomputable def q5c:List Str:=["_law_script","_law_most_wares","_law_first_here","_law_wares","_law_most","_law_runs","_law_k","_law_number"]
theorem xk:(q5c).Nodup:=by decide +kernel
theorem qfx:FnScope q5c ["_law_script","_law_most_wares"] (qc wo):=⟨rfl,rfl,rfl,xk,rfl,by decide +kernel,by decide +kernel⟩
theorem qcl:(["_law_cell","_law_wares","_law_most"]:List Str).Nodup:=by decide +kernel
noncomputable def xv:FS:=(z8 (zu 7 (eOp zr (eOp jv (qf (qj 2 [] xj) (qa (eV 0) (qa (eOp zr (eOp jv (eC (.int 3)) (eV 6)) (eC (.int 1))) qe))) (eC (.int 4096))) (eOp oMod (qf (qj 2 [] xj) (qa (eV 0) (qa (eOp zr (eOp jv (eC (.int 3)) (eV 6)) (eC (.int 2))) qe))) (eC (.int 4096))))) (z8 (sIf (qi0 (zw oGt (eV 6) (eC (.int 1))) (zw oEq (eOp oMod (qf (qj 2 [] xj) (qa (eV 0) (qa (eOp zr (eOp jv (eC (.int 3)) (eV 6)) (eC (.int 3))) qe))) (eC (.int 3))) (eC (.int 0)))) (zu 7 (eOp zr (eOp jv (eOp oDiv (eV 7) (eC (.int 4096))) (eC (.int 4096))) (eOp oMod (eOp jv (eOp oDiv (eOp oMod (eV 7) (eC (.int 4096))) (eC (.int 8))) (eC (.int 8))) (eC (.int 4096))))) v5) (q2z 5 (qf (qj 3 [] w6) (qa (eV 7) (qa (eV 3) (qa (eV 4) qe)))))))
noncomputable def wq:FS:=(z8 (zu 2 (eC (.int 0))) (z8 (sIf (zw oGt (qf vp (qa (eV 0) qe)) (eC (.int 0))) (zu 2 (eOp oIx (eV 0) (eC (.int 0)))) v5) (z8 (zu 3 (eOp oMod (eV 2) (eOp zr (eV 1) (eC (.int 1))))) (z8 (zu 4 (eOp oIx (eL (q2y (qa (eC (.int 3)) (qa (eC (.int 40)) (qa (eOp oPow (eC (.int 10)) (eC (.int 12))) qe))))) (eOp oMod (eOp oDiv (eV 2) (eC (.int 16))) (eC (.int 3))))) (z8 (sIf (zw oEq (eOp oMod (eOp oDiv (eV 2) (eC (.int 48))) (eC (.int 2))) (eC (.int 0))) (zd (x5 (qa (eV 3) (qa (qf ju (qa (eL (qu (jc (eSl (eV 0) (oAt (eC (.int 1))) (oAt (eC (.int 63))))) [none,some 3,some 4] (bN 0) zg (qf (qj 3 [] w6) (qa (eV 0) (qa (eV 1) (qa (eV 2) qe)))))) qe)) qe)))) v5) (z8 (q3v 5 (q2y qe)) (z8 (xm (iR1 (qa (eOp oMod (eOp oDiv (eV 2) (eC (.int 96))) (eC (.int 25))) qe)) (bN 6) xv) (q4v 5 (zd (x5 (qa (eV 3) (qa (qf ju (qa (eV 5) qe)) qe))))))))))))
noncomputable def q13:List D->Option D:=z9 8 wq
theorem q7o{fa:Addr}{cdv:Value}{A:Around}{outer:List Env}{s:Shared}{H:Hp}{E:XK}{a__law_run:Addr}{fd__law_run:FuncData}(c_22:Cal P w K mg base "_law_run" 2 ["_law_number","_law_wares","_law_most"] 3 w6 a__law_run fd__law_run)(b_22:Binds K fd__law_run ["_law_number","_law_wares","_law_most"] []){a__law_mixed:Addr}{fd__law_mixed:FuncData}(c_19:Cal P w K mg base "_law_mixed" 1 ["_law_script","_law_k"] 2 xj a__law_mixed fd__law_mixed)(b_19:Binds K fd__law_mixed ["_law_script","_law_k"] [])(n_range:mg "range" = none)(n_len:mg "len" = none)(n_tuple:mg "tuple" = none)(hr:Room 2 (A.deeper (envOfC "_law_pile" (qc wo) s.heap.objs.size fa cdv))):
  PSs (zj CX0 P w K mg base q5c "_law_pile" (qc wo) fa cdv A outer s H E).nox (qp wo) (tDS K wq):=by
 unfold wq xv;refine(qi ?_ ?_);refine(ze (i:=2) ?_ ?_ ?_ qg ?_ ?_);exact xk;exact rfl;exact(Or.inl rfl);exact rfl;walk_at "L";refine(qi ?_ ?_);refine(xh ?_ (qk ?_) jg);refine(zv q76 ?_ qg);refine(zo (xw) rfl n_len DL.j3 ?_);walk_at "A";exact(q0 (pv 0));exact qd;refine(ze (i:=2) ?_ ?_ ?_ ?_ ?_ ?_);exact xk;exact rfl;exact(Or.inl rfl);refine(jq ?_ qg);exact(q0 (pv 0));exact rfl;walk_at "L";refine(qi ?_ ?_);refine(ze (i:=3) ?_ ?_ ?_ ?_ ?_ ?_);exact xk;exact rfl;exact(Or.inr rfl);refine(qq jl ?_ ?_);exact(q0 (pv 2));refine(qq jf ?_ qg);exact(q0 (pv 1));exact rfl;walk_at "L";refine(qi ?_ ?_);refine(ze (i:=4) ?_ ?_ ?_ ?_ ?_ ?_);exact xk;exact rfl;exact(Or.inr rfl);refine(jq ?_ ?_);refine(j8 ?_);refine(q0x ?_);walk_at "A";exact qg;walk_at "A";exact qg;walk_at "A";exact(qq qjv qg qg);exact qd;refine(qq jl ?_ qg);refine(qq q0v ?_ qg);exact(q0 (pv 2));exact rfl;walk_at "L";refine(qi ?_ ?_);refine(xh ?_ (qk ?_) jg);refine(zv (wg hr.units) ?_ qg);refine(qq jl ?_ qg);refine(qq q0v ?_ qg);exact(q0 (pv 2));refine(qw ?_);refine(yl ?_);walk_at "A";exact(q0 (pv 3));walk_at "A";refine(zp (ji) rfl n_tuple DL.boot_tuple ?_);walk_at "A";refine(j8 ?_);refine(zc (N':=["_law_cell","_law_wares","_law_most"]) (cap:=[none,some 3,some 4]) rfl (z7 rfl rfl) (z0 rfl) ?_ (fun _ _ _ _ _=>(qt qcl rfl (Or.inl rfl) (.inr rfl))) (fun _ _ _ _ _=>vn) (fun _ _ _ _ _=>?_));refine(zm ?_);refine(q85 ?_ (q51 qg) (q51 qg));exact(q0 (pv 0));refine(qr c_22 b_22 hr (by decide) rfl ?_);walk_at "A";exact(q0 (pv 0));walk_at "A";exact(q0 (pv 1));walk_at "A";exact(q0 (pv 2));exact qd;exact qd;exact qd;refine(qi ?_ ?_);exact(q64 (i:=5) xk rfl (Or.inl rfl) (q0x qd));refine(qi ?_ ?_);refine(k5 um rfl ?_ (qt xk rfl (Or.inl rfl) (.inl rfl)) (qi ?_ ?_));refine(kq rfl n_range ?_);walk_at "A";refine(qq jl ?_ qg);refine(qq q0v ?_ qg);exact(q0 (pv 2));exact qd;refine(ze (i:=7) ?_ ?_ ?_ ?_ ?_ ?_);exact xk;exact rfl;exact(Or.inl rfl);refine(qq jf ?_ ?_);refine(qq vt ?_ qg);refine(qr c_19 b_19 hr (by decide) rfl ?_);walk_at "A";exact(q0 (pv 0));walk_at "A";refine(qq jf ?_ qg);refine(qq vt qg ?_);exact(q0 (pv 6));exact qd;refine(qq jl ?_ qg);refine(qr c_19 b_19 hr (by decide) rfl ?_);walk_at "A";exact(q0 (pv 0));walk_at "A";refine(qq jf ?_ qg);refine(qq vt qg ?_);exact(q0 (pv 6));exact qd;exact rfl;walk_at "L";refine(qi ?_ ?_);refine(xh ?_ (qk ?_) jg);refine(PW.pt (qjx ?_ (qh0 ?_)));refine(zv q76 ?_ qg);exact(q0 (pv 6));refine(zv (wg hr.units) ?_ qg);refine(qq jl ?_ qg);refine(qr c_19 b_19 hr (by decide) rfl ?_);walk_at "A";exact(q0 (pv 0));walk_at "A";refine(qq jf ?_ qg);refine(qq vt qg ?_);exact(q0 (pv 6));exact qd;refine(ze (i:=7) ?_ ?_ ?_ ?_ ?_ ?_);exact xk;exact rfl;exact(Or.inl rfl);refine(qq jf ?_ ?_);refine(qq vt ?_ qg);refine(qq q0v ?_ qg);exact(q0 (pv 7));refine(qq jl ?_ qg);refine(qq vt ?_ qg);refine(qq q0v ?_ qg);refine(qq jl ?_ qg);exact(q0 (pv 7));exact rfl;walk_at "L";refine(qk ?_);refine(q93 (pv 5) ?_);refine(qr c_22 b_22 hr (by decide) rfl ?_);walk_at "A";exact(q0 (pv 7));walk_at "A";exact(q0 (pv 3));walk_at "A";exact(q0 (pv 4));exact qd;refine(q30 5 (qk ?_));refine(qw ?_);refine(yl ?_);walk_at "A";exact(q0 (pv 3));walk_at "A";refine(zp (ji) rfl n_tuple DL.boot_tuple ?_);walk_at "A";exact(q0 (pv 5));exact qd;exact qd
theorem qfy{fa:Addr}{dV:Value}{fd:FuncData}(F:Fun2 K "_law_pile" "_law_pile" wo dV fa fd){a__law_run:Addr}{fd__law_run:FuncData}(c_22:Cal P w K mg base "_law_run" 2 ["_law_number","_law_wares","_law_most"] 3 w6 a__law_run fd__law_run)(b_22:Binds K fd__law_run ["_law_number","_law_wares","_law_most"] []){a__law_mixed:Addr}{fd__law_mixed:FuncData}(c_19:Cal P w K mg base "_law_mixed" 1 ["_law_script","_law_k"] 2 xj a__law_mixed fd__law_mixed)(b_19:Binds K fd__law_mixed ["_law_script","_law_k"] [])(n_range:mg "range" = none)(n_len:mg "len" = none)(n_tuple:mg "tuple" = none): FnOk P w K mg base CX0 3 fa fd ["_law_script","_law_most_wares"] (spD K 2 q13):=
 F.okn (k:=2) (n:=8) (ar:=2) (k1:=3) (u:=wq) qfx rfl rfl rfl fun cdv A outer s H E hr=>(by first|(with_reducible exact q7o c_22 b_22 c_19 b_19 n_range n_len n_tuple hr)|exact q7o c_22 b_22 c_19 b_19 n_range n_len n_tuple hr)
abbrev kf:Stmt:=top 33
noncomputable def q41:List Str:=["_law_pile_here","_law_some","_law_total","_law_many","_law_basket"]
theorem w8:(q41).Nodup:=by decide +kernel
theorem qeo:FnScope q41 ["_law_pile_here","_law_some"] (qc kf):=⟨rfl,rfl,rfl,w8,rfl,by decide +kernel,by decide +kernel⟩
theorem qas:(["_law_ware","_law_basket"]:List Str).Nodup:=by decide +kernel
noncomputable def xb:FS:=(sIf (zw oEq (qf vp (qa (eL (qu (jc (eV 1)) [none,some 4] (bN 0) (zw (oIn false) (eV 0) (eV 1)) (eV 0))) qe)) (qf vp (qa (eV 1) qe))) (zu 2 (eOp zr (eV 2) (eV 3))) v5)
noncomputable def q0a:FS:=(z8 (zu 2 (eC (.int 0))) (z8 (xm (jc (eOp oIx (eV 0) (eC (.int 1)))) (q0z 2 (xi (bN 3) (xi (bN 4) q0y))) xb) (zd (eV 2))))
noncomputable def v9:List D->Option D:=z9 5 q0a
theorem q6j{fa:Addr}{cdv:Value}{A:Around}{outer:List Env}{s:Shared}{H:Hp}{E:XK}(n_len:mg "len" = none)(hr:Room 0 (A.deeper (envOfC "_law_count" (qc kf) s.heap.objs.size fa cdv))):
  PSs (zj CX0 P w K mg base q41 "_law_count" (qc kf) fa cdv A outer s H E).nox (qp kf) (tDS K q0a):=by
 unfold q0a xb;refine(qi ?_ ?_);refine(ze (i:=2) ?_ ?_ ?_ qg ?_ ?_);exact w8;exact rfl;exact(Or.inl rfl);exact rfl;walk_at "L";refine(qi ?_ ?_);refine(k5 um rfl ?_ (q95 rfl (q0m (qt w8 rfl (Or.inl rfl) (.inl rfl)) (q0m (qt w8 rfl (Or.inr rfl) (.inl rfl)) q94))) (qk ?_));refine(zm ?_);refine(jq ?_ qg);exact(q0 (pv 0));refine(xh ?_ (qk ?_) jg);refine(zv (wg hr.units) ?_ ?_);refine(zo (xw) rfl n_len DL.j3 ?_);walk_at "A";refine(j8 ?_);refine(zc (N':=["_law_ware","_law_basket"]) (cap:=[none,some 4]) rfl (z7 rfl rfl) (z0 rfl) ?_ (fun _ _ _ _ _=>(qt qas rfl (Or.inl rfl) (.inr rfl))) (fun _ _ _ _ _=>(y8 ?_)) (fun _ _ _ _ _=>?_));refine(zm ?_);exact(q0 (pv 1));refine(zv qp1 ?_ ?_);exact(q0 (pv 0));exact(q0 (pv 1));exact(q0 (pv 0));exact qd;refine(zo (xw) rfl n_len DL.j3 ?_);walk_at "A";exact(q0 (pv 1));exact qd;refine(ze (i:=2) ?_ ?_ ?_ ?_ ?_ ?_);exact w8;exact rfl;exact(Or.inl rfl);refine(qq jf ?_ ?_);exact(q0 (pv 2));exact(q0 (pv 3));exact rfl;walk_at "L";refine(qk ?_);refine(qw ?_);exact(q0 (pv 2))
theorem qep{fa:Addr}{dV:Value}{fd:FuncData}(F:Fun2 K "_law_count" "_law_count" kf dV fa fd)(n_len:mg "len" = none): FnOk P w K mg base CX0 1 fa fd ["_law_pile_here","_law_some"] (spD K 2 v9):=
 F.okn (k:=0) (n:=5) (ar:=2) (k1:=1) (u:=q0a) qeo rfl rfl rfl fun cdv A outer s H E hr=>(by first|(with_reducible exact q6j n_len hr)|exact q6j n_len hr)
abbrev kg:Stmt:=top 34
noncomputable def q42:List Str:=["_law_script","_law_pile_here","_law_number","_law_kind"]
theorem w9:(q42).Nodup:=by decide +kernel
theorem qeq:FnScope q42 ["_law_script","_law_pile_here"] (qc kg):=⟨rfl,rfl,rfl,w9,rfl,by decide +kernel,by decide +kernel⟩
noncomputable def yj:FS:=(z8 (zu 2 (eC (.int 0))) (z8 (sIf (zw oGt (qf vp (qa (eV 0) qe)) (eC (.int 0))) (zu 2 (eOp oDiv (eOp oIx (eV 0) (eC (.int 0))) (eC (.int 2400)))) v5) (z8 (zu 3 (eOp oMod (eV 2) (eC (.int 4)))) (z8 (zu 2 (eOp oDiv (eV 2) (eC (.int 4)))) (z8 (sIf (zw oEq (eV 3) (eC (.int 0))) (zd (eOp zr (eC (.int 1)) (eOp oMod (eV 2) (eC (.int 6))))) v5) (z8 (sIf (zw oEq (eV 3) (eC (.int 3))) (zd (eOp zr (eC (.int 1)) (eOp oMod (eV 2) (eOp oPow (eC (.int 10)) (eC (.int 14)))))) v5) (zd (qf oMax (qa (eC (.int 1)) (qa (eOp oSub (eOp zr (qf (qj 2 [] v9) (qa (eV 1) (qa (qf (qj 1 [] j4) (qa (eOp oMod (eV 2) (qf (qj 1 [] j0) (qa (eOp oIx (eV 1) (eC (.int 0))) qe))) qe)) qe))) (eV 3)) (eC (.int 1))) qe))))))))))
noncomputable def va:List D->Option D:=z9 4 yj
theorem q6k{fa:Addr}{cdv:Value}{A:Around}{outer:List Env}{s:Shared}{H:Hp}{E:XK}{a__law_count:Addr}{fd__law_count:FuncData}(c_16:Cal P w K mg base "_law_count" 1 ["_law_pile_here","_law_some"] 2 v9 a__law_count fd__law_count)(b_16:Binds K fd__law_count ["_law_pile_here","_law_some"] []){a__law_set:Addr}{fd__law_set:FuncData}(c_24:Cal P w K mg base "_law_set" 1 ["_law_mark"] 1 j4 a__law_set fd__law_set)(b_24:Binds K fd__law_set ["_law_mark"] []){a__law_power:Addr}{fd__law_power:FuncData}(c_21:Cal P w K mg base "_law_power" 1 ["_law_many"] 1 j0 a__law_power fd__law_power)(b_21:Binds K fd__law_power ["_law_many"] [])(n_max:mg "max" = none)(n_len:mg "len" = none)(hr:Room 1 (A.deeper (envOfC "_law_least" (qc kg) s.heap.objs.size fa cdv))):
  PSs (zj CX0 P w K mg base q42 "_law_least" (qc kg) fa cdv A outer s H E).nox (qp kg) (tDS K yj):=by
 unfold yj;refine(qi ?_ ?_);refine(ze (i:=2) ?_ ?_ ?_ qg ?_ ?_);exact w9;exact rfl;exact(Or.inl rfl);exact rfl;walk_at "L";refine(qi ?_ ?_);refine(xh ?_ (qk ?_) jg);refine(zv q76 ?_ qg);refine(zo (xw) rfl n_len DL.j3 ?_);walk_at "A";exact(q0 (pv 0));exact qd;refine(ze (i:=2) ?_ ?_ ?_ ?_ ?_ ?_);exact w9;exact rfl;exact(Or.inl rfl);refine(qq q0v ?_ qg);refine(jq ?_ qg);exact(q0 (pv 0));exact rfl;walk_at "L";refine(qi ?_ ?_);refine(ze (i:=3) ?_ ?_ ?_ ?_ ?_ ?_);exact w9;exact rfl;exact(Or.inl rfl);refine(qq jl ?_ qg);exact(q0 (pv 2));exact rfl;walk_at "L";refine(qi ?_ ?_);refine(ze (i:=2) ?_ ?_ ?_ ?_ ?_ ?_);exact w9;exact rfl;exact(Or.inl rfl);refine(qq q0v ?_ qg);exact(q0 (pv 2));exact rfl;walk_at "L";refine(qi ?_ ?_);refine(xh ?_ (qk ?_) jg);refine(zv (wg hr.units) ?_ qg);exact(q0 (pv 3));refine(qw ?_);refine(qq jf qg ?_);refine(qq jl ?_ qg);exact(q0 (pv 2));refine(qi ?_ ?_);refine(xh ?_ (qk ?_) jg);refine(zv (wg hr.units) ?_ qg);exact(q0 (pv 3));refine(qw ?_);refine(qq jf qg ?_);refine(qq jl ?_ ?_);exact(q0 (pv 2));exact(qq qjv qg qg);refine(qk ?_);refine(qw ?_);refine(zo (qt1 rfl) rfl n_max DL.boot_max ?_);walk_at "A";exact qg;walk_at "A";refine(qq qsr ?_ qg);refine(qq jf ?_ ?_);refine(qr c_16 b_16 hr (by decide) rfl ?_);walk_at "A";exact(q0 (pv 1));walk_at "A";refine(qr c_24 b_24 hr (by decide) rfl ?_);walk_at "A";refine(qq jl ?_ ?_);exact(q0 (pv 2));refine(qr c_21 b_21 hr (by decide) rfl ?_);walk_at "A";refine(jq ?_ qg);exact(q0 (pv 1));exact qd;exact qd;exact qd;exact(q0 (pv 3));exact qd
theorem qer{fa:Addr}{dV:Value}{fd:FuncData}(F:Fun2 K "_law_least" "_law_least" kg dV fa fd){a__law_count:Addr}{fd__law_count:FuncData}(c_16:Cal P w K mg base "_law_count" 1 ["_law_pile_here","_law_some"] 2 v9 a__law_count fd__law_count)(b_16:Binds K fd__law_count ["_law_pile_here","_law_some"] []){a__law_set:Addr}{fd__law_set:FuncData}(c_24:Cal P w K mg base "_law_set" 1 ["_law_mark"] 1 j4 a__law_set fd__law_set)(b_24:Binds K fd__law_set ["_law_mark"] []){a__law_power:Addr}{fd__law_power:FuncData}(c_21:Cal P w K mg base "_law_power" 1 ["_law_many"] 1 j0 a__law_power fd__law_power)(b_21:Binds K fd__law_power ["_law_many"] [])(n_max:mg "max" = none)(n_len:mg "len" = none): FnOk P w K mg base CX0 2 fa fd ["_law_script","_law_pile_here"] (spD K 2 va):=
 F.okn (k:=1) (n:=4) (ar:=2) (k1:=2) (u:=yj) qeq rfl rfl rfl fun cdv A outer s H E hr=>(by first|(with_reducible exact q6k c_16 b_16 c_24 b_24 c_21 b_21 n_max n_len hr)|exact q6k c_16 b_16 c_24 b_24 c_21 b_21 n_max n_len hr)
abbrev kh:Stmt:=top 39
noncomputable def q43:List Str:=["_law_pairs","_law_wares","_law_sets_here","_law_pair"]
theorem q35:(q43).Nodup:=by decide +kernel
theorem qes:FnScope q43 ["_law_pairs","_law_wares"] (qc kh):=⟨rfl,rfl,rfl,q35,rfl,by decide +kernel,by decide +kernel⟩
noncomputable def ym:FS:=(z8 (sIf (bOr (q0w (bT (q4y .tuple (eV 3)))) (bOr (zw q4s (qf vp (qa (eV 3) qe)) (eC (.int 2))) (q0w (bT (q4y .tuple (eOp oIx (eV 3) (eC (.int 0)))))))) (zd (eC .non)) v5) (q2z 2 (eOp oIx (eV 3) (eC (.int 0)))))
noncomputable def q0b:FS:=(z8 (sIf (q0w (bT (q4y .tuple (eV 0)))) (zd (eC .non)) v5) (z8 (q3v 2 (q2y qe)) (z8 (xm (jc (eV 0)) (bN 3) ym) (q4v 2 (zd (eV 2))))))
noncomputable def ki:List D->Option D:=z9 4 q0b
theorem q6l{fa:Addr}{cdv:Value}{A:Around}{outer:List Env}{s:Shared}{H:Hp}{E:XK}(n_isinstance:mg "isinstance" = none)(n_tuple:mg "tuple" = none)(n_len:mg "len" = none)(hr:Room 0 (A.deeper (envOfC "_law_first" (qc kh) s.heap.objs.size fa cdv))):
  PSs (zj CX0 P w K mg base q43 "_law_first" (qc kh) fa cdv A outer s H E).nox (qp kh) (tDS K q0b):=by
 unfold q0b ym;refine(qi ?_ ?_);refine(xh ?_ (qk ?_) jg);refine(q07 ?_);refine(jm ?_);refine(q31 .tuple rfl n_isinstance rfl n_tuple DL.boot_tuple ?_);exact(q0 (pv 0));exact(qw q8z);refine(qi ?_ ?_);exact(q64 (i:=2) q35 rfl (Or.inl rfl) (q0x qd));refine(qi ?_ ?_);refine(k5 um rfl ?_ (qt q35 rfl (Or.inl rfl) (.inl rfl)) (qi ?_ ?_));refine(zm ?_);exact(q0 (pv 0));refine(xh ?_ (qk ?_) jg);refine(PW.pt (q4t ?_ (q4t ?_ (q92 ?_))));refine(q07 ?_);refine(jm ?_);refine(q31 .tuple rfl n_isinstance rfl n_tuple DL.boot_tuple ?_);exact(q0 (pv 3));refine(zv q91 ?_ qg);refine(zo (xw) rfl n_len DL.j3 ?_);walk_at "A";exact(q0 (pv 3));exact qd;refine(q07 ?_);refine(jm ?_);refine(q31 .tuple rfl n_isinstance rfl n_tuple DL.boot_tuple ?_);refine(jq ?_ qg);exact(q0 (pv 3));exact(qw q8z);refine(qk ?_);refine(q93 (pv 2) ?_);refine(jq ?_ qg);exact(q0 (pv 3));refine(q30 2 (qk ?_));refine(qw ?_);exact(q0 (pv 2))
theorem qet{fa:Addr}{dV:Value}{fd:FuncData}(F:Fun2 K "_law_first" "_law_first" kh dV fa fd)(n_isinstance:mg "isinstance" = none)(n_tuple:mg "tuple" = none)(n_len:mg "len" = none): FnOk P w K mg base CX0 1 fa fd ["_law_pairs","_law_wares"] (spD K 2 ki):=
 F.okn (k:=0) (n:=4) (ar:=2) (k1:=1) (u:=q0b) qes rfl rfl rfl fun cdv A outer s H E hr=>(by first|(with_reducible exact q6l n_isinstance n_tuple n_len hr)|exact q6l n_isinstance n_tuple n_len hr)
abbrev xl:Stmt:=top 35
noncomputable def q5d:List Str:=["_law_wares"]
theorem qfz:(q5d).Nodup:=by decide +kernel
theorem qg0:FnScope q5d ["_law_wares"] (qc xl):=⟨rfl,rfl,rfl,qfz,rfl,by decide +kernel,by decide +kernel⟩
theorem qcm:(["_law_mark"]:List Str).Nodup:=by decide +kernel
noncomputable def xc:List D->Option D:=z9 1 (zd (x5 (qa (qf vp (qa (eV 0) qe)) (qa (eV 0) qe))))
noncomputable def q14:FS:=(zd (eL (q9a (q0p xc) (qa (eL (qu (iR1 (qa (qf (qj 1 [] j0) (qa (eV 0) qe)) qe)) [none] (bN 0) zg (qf (qj 1 [] j4) (qa (eV 0) qe)))) qe))))
noncomputable def q15:List D->Option D:=z9 1 q14
theorem q7p{fa:Addr}{A:Around}{outer:List Env}{s:Shared}{H:Hp}{E:XK}{a__law_set:Addr}{fd__law_set:FuncData}(c_24:Cal P w K mg base "_law_set" 1 ["_law_mark"] 1 j4 a__law_set fd__law_set)(b_24:Binds K fd__law_set ["_law_mark"] []){a__law_power:Addr}{fd__law_power:FuncData}(c_21:Cal P w K mg base "_law_power" 1 ["_law_many"] 1 j0 a__law_power fd__law_power)(b_21:Binds K fd__law_power ["_law_many"] [])(n_sorted:mg "sorted" = none)(n_range:mg "range" = none)(n_len:mg "len" = none){cL TL:Addr}{dV':Value}{fd':FuncData}(F_L:Fun3 K "_law_sets" "_law_sets" xl dV' fa fd' cL TL)(hP_L:(TL,("_law_sets.<locals>.<lambda>" : Str))∈Lam.tab)(hU_L:∀p∈Lam.tab,p.1=TL->p.2="_law_sets.<locals>.<lambda>")(B_L:q2k mg base)(hr:Room 3 (A.deeper (envOfC "_law_sets" (qc xl) s.heap.objs.size fa (.ref cL)))):
  PSs (zj CX0 P w K mg base q5d "_law_sets" (qc xl) fa (.ref cL) A outer s H E).nox (qp xl) (tDS K q14):=by
 unfold q14 xc;refine(qk ?_);refine(qw ?_);refine(j8 ?_);refine(qnf (N:=["_law_some"]) (ps:=["_law_some"]) (k:=0) (u:=(x5 (qa (qf vp (qa (eV 0) qe)) (qa (eV 0) qe)))) rfl F_L.hd hP_L hU_L B_L hr rfl n_sorted ?_ ⟨rfl,rfl,rfl,by decide,rfl,by decide +kernel,by decide +kernel⟩ (fun _ _ _ _ _ _ _ hr=>?_) (fun _ _ _ us hl=>match us,hl with | [_],_=>rfl) (by decide) rfl);walk_at "A";refine(j8 ?_);refine(zc (N':=["_law_mark"]) (cap:=[none]) rfl (z7 rfl rfl) (z0 rfl) ?_ (fun _ _ _ _ _=>(qt qcm rfl (Or.inl rfl) (.inr rfl))) (fun _ _ _ _ _=>vn) (fun _ _ _ _ _=>?_));refine(kq rfl n_range ?_);walk_at "A";refine(qr c_21 b_21 hr (by decide) rfl ?_);walk_at "A";exact(q0 (pv 0));exact qd;exact qd;refine(qr c_24 b_24 hr (by decide) rfl ?_);walk_at "A";exact(q0 (pv 0));exact qd;exact qd;refine(yl ?_);walk_at "A";refine(zo (xw) rfl n_len DL.j3 ?_);walk_at "A";exact(q0 (pv 0));exact qd;walk_at "A";exact(q0 (pv 0));exact qd
theorem qg1{fa:Addr}{a__law_set:Addr}{fd__law_set:FuncData}(c_24:Cal P w K mg base "_law_set" 1 ["_law_mark"] 1 j4 a__law_set fd__law_set)(b_24:Binds K fd__law_set ["_law_mark"] []){a__law_power:Addr}{fd__law_power:FuncData}(c_21:Cal P w K mg base "_law_power" 1 ["_law_many"] 1 j0 a__law_power fd__law_power)(b_21:Binds K fd__law_power ["_law_many"] [])(n_sorted:mg "sorted" = none)(n_range:mg "range" = none)(n_len:mg "len" = none){cL TL:Addr}{dV':Value}{fd':FuncData}(F_L:Fun3 K "_law_sets" "_law_sets" xl dV' fa fd' cL TL)(hP_L:(TL,("_law_sets.<locals>.<lambda>" : Str))∈Lam.tab)(hU_L:∀p∈Lam.tab,p.1=TL->p.2="_law_sets.<locals>.<lambda>")(B_L:q2k mg base): FnOk P w K mg base CX0 4 fa fd' ["_law_wares"] (spD K 1 q15):=
 F_L.okn (k:=3) (n:=1) (ar:=1) (k1:=4) (u:=q14) qg0 rfl rfl rfl fun A outer s H E hr=>(by first|(with_reducible exact q7p c_24 b_24 c_21 b_21 n_sorted n_range n_len F_L hP_L hU_L B_L hr)|exact q7p c_24 b_24 c_21 b_21 n_sorted n_range n_len F_L hP_L hU_L B_L hr)
abbrev wt:Stmt:=top 36
noncomputable def q5e:List Str:=["_law_found","_law_due","_law_one","_law_other"]
theorem q44:(q5e).Nodup:=by decide +kernel
theorem qg2:FnScope q5e ["_law_found","_law_due"] (qc wt):=⟨rfl,rfl,rfl,q44,rfl,by decide +kernel,by decide +kernel⟩
noncomputable def k6(rc:List D->Option D): FS:=(sIf (q0w (bT (qf (qj 2 [] rc) (qa (eV 2) (qa (eV 3) qe))))) (zd (eC (.bl false))) v5)
noncomputable def ya(rc:List D->Option D): FS:=(z8 (sIf (bT (q4y .tuple (eV 1))) (z8 (sIf (bOr (q0w (bT (q4y .tuple (eV 0)))) (zw q4s (qf vp (qa (eV 0) qe)) (qf vp (qa (eV 1) qe)))) (zd (eC (.bl false))) v5) (z8 (xm (qmx (qa (eV 0) (qa (eV 1) qe))) (q0z 2 (xi (bN 2) (xi (bN 3) q0y))) (k6 rc)) (zd (eC (.bl true))))) v5) (zd (qi1 (q4y .int (eV 0)) (qi1 (qd9 (q4y .bool (eV 0))) (eOp oEq (eV 0) (eV 1))))))
noncomputable def F_law_same(n:Nat): List D->Option D:=Nat.rec (fun _=>none) (fun _ rc=>z9 4 (ya rc)) n
noncomputable def q16:List D->Option D:=F_law_same 16
theorem qg3{fa:Addr}{cdv:Value}{A:Around}{outer:List Env}{s:Shared}{H:Hp}{E:XK}{rc:List D->Option D}{kr kk:Nat}(hkr:kr<=kk)(hk0:0<=kk){a__law_same:Addr}{fd__law_same:FuncData}(c_23:Cal P w K mg base "_law_same" kr ["_law_found","_law_due"] 2 rc a__law_same fd__law_same)(b_23:Binds K fd__law_same ["_law_found","_law_due"] [])(n_isinstance:mg "isinstance" = none)(n_tuple:mg "tuple" = none)(n_zip:mg "zip" = none)(n_int:mg "int" = none)(n_bool:mg "bool" = none)(n_len:mg "len" = none)(hr:Room kk (A.deeper (envOfC "_law_same" (qc wt) s.heap.objs.size fa cdv))):
  PSs (zj CX0 P w K mg base q5e "_law_same" (qc wt) fa cdv A outer s H E).nox (qp wt) (tDS K (ya rc)):=by
 unfold ya k6;refine(qi ?_ ?_);refine(xh ?_ (qi ?_ ?_) jg);refine(jm ?_);refine(q31 .tuple rfl n_isinstance rfl n_tuple DL.boot_tuple ?_);exact(q0 (pv 1));refine(xh ?_ (qk ?_) jg);refine(PW.pt (q4t ?_ (q92 ?_)));refine(q07 ?_);refine(jm ?_);refine(q31 .tuple rfl n_isinstance rfl n_tuple DL.boot_tuple ?_);exact(q0 (pv 0));refine(zv q91 ?_ ?_);refine(zo (xw) rfl n_len DL.j3 ?_);walk_at "A";exact(q0 (pv 0));exact qd;refine(zo (xw) rfl n_len DL.j3 ?_);walk_at "A";exact(q0 (pv 1));exact qd;exact(qw yu);refine(qi ?_ ?_);refine(k5 um rfl ?_ (q95 rfl (q0m (qt q44 rfl (Or.inl rfl) (.inl rfl)) (q0m (qt q44 rfl (Or.inl rfl) (.inl rfl)) q94))) (qk ?_));refine(qt5 rfl n_zip ?_);walk_at "A";exact(q0 (pv 0));walk_at "A";exact(q0 (pv 1));exact qd;refine(xh ?_ (qk ?_) jg);refine(q07 ?_);refine(jm ?_);refine(qr c_23 b_23 hr hkr rfl ?_);walk_at "A";exact(q0 (pv 2));walk_at "A";exact(q0 (pv 3));exact qd;exact(qw yu);refine(qk ?_);exact(qw yu);refine(qk ?_);refine(qw ?_);refine(qjy ?_ (qjy ?_ (qsw ?_)));refine(q31 .int rfl n_isinstance rfl n_int DL.boot_int ?_);exact(q0 (pv 0));refine(qdb ?_);refine(q31 .bool rfl n_isinstance rfl n_bool DL.boot_bool ?_);exact(q0 (pv 0));refine(q20 (wg hr.units) ?_ ?_);exact(q0 (pv 0));exact(q0 (pv 1))
theorem qg4{fa:Addr}{dV:Value}{fd:FuncData}(F:Fun2 K "_law_same" "_law_same" wt dV fa fd)(mgf:mg "_law_same" = some (.ref fa))(kpf:PySem.W.keepIn K (.ref fa)=true)(b_23:Binds K fd ["_law_found","_law_due"] [])(n_isinstance:mg "isinstance" = none)(n_tuple:mg "tuple" = none)(n_zip:mg "zip" = none)(n_int:mg "int" = none)(n_bool:mg "bool" = none)(n_len:mg "len" = none)(n:Nat): FnOk P w K mg base CX0 (1+n) fa fd ["_law_found","_law_due"] (spD K 2 (F_law_same n)):=by
 induction n with
 | zero=>exact qkn
 | succ n ih=>exact F.okn (k:=1+n) (n:=4) (ar:=2) (k1:=1+(n+1)) (u:=ya (F_law_same n)) qg2 rfl rfl rfl fun cdv A outer s H E hr=>(by exact qg3 (kr:=1+n) (kk:=1+n) (gv _) (by omega) (Cal.mk ih mgf kpf) b_23 n_isinstance n_tuple n_zip n_int n_bool n_len hr)
abbrev wu:Stmt:=top 13
noncomputable def q5f:List Str:=["pairs","least"]
theorem qg5:(q5f).Nodup:=by decide +kernel
theorem qg6:FnScope q5f ["pairs","least"] (qc wu):=⟨rfl,rfl,rfl,qg5,rfl,by decide +kernel,by decide +kernel⟩
theorem qcn:(["pair","least"]:List Str).Nodup:=by decide +kernel
noncomputable def wx:FS:=(zd (qf ju (qa (eL (qu (jc (eV 0)) [none,some 1] (bN 0) (zw oGe (eOp oIx (eV 0) (eC (.int 1))) (eV 1)) (eV 0))) qe)))
noncomputable def v8:List D->Option D:=z9 2 wx
theorem q7q{fa:Addr}{cdv:Value}{A:Around}{outer:List Env}{s:Shared}{H:Hp}{E:XK}(n_tuple:mg "tuple" = none)(hr:Room 0 (A.deeper (envOfC "at_least" (qc wu) s.heap.objs.size fa cdv))):
  PSs (zj CX0 P w K mg base q5f "at_least" (qc wu) fa cdv A outer s H E).nox (qp wu) (tDS K wx):=by
 unfold wx;refine(qk ?_);refine(qw ?_);refine(zp (ji) rfl n_tuple DL.boot_tuple ?_);walk_at "A";refine(j8 ?_);refine(zc (N':=["pair","least"]) (cap:=[none,some 1]) rfl (z7 rfl rfl) (z0 rfl) ?_ (fun _ _ _ _ _=>(qt qcn rfl (Or.inl rfl) (.inr rfl))) (fun _ _ _ _ _=>(y8 ?_)) (fun _ _ _ _ _=>?_));refine(zm ?_);exact(q0 (pv 0));refine(zv qow ?_ ?_);refine(jq ?_ qg);exact(q0 (pv 0));exact(q0 (pv 1));exact(q0 (pv 0));exact qd
theorem qg7{fa:Addr}{dV:Value}{fd:FuncData}(F:Fun2 K "at_least" "at_least" wu dV fa fd)(n_tuple:mg "tuple" = none): FnOk P w K mg base CX0 1 fa fd ["pairs","least"] (spD K 2 v8):=
 F.okn (k:=0) (n:=2) (ar:=2) (k1:=1) (u:=wx) qg6 rfl rfl rfl fun cdv A outer s H E hr=>(by first|(with_reducible exact q7q n_tuple hr)|exact q7q n_tuple hr)
abbrev q0s:Stmt:=top 1
noncomputable def q6m:List Str:=["some"]
theorem qir:(q6m).Nodup:=by decide +kernel
theorem qis:FnScope q6m ["some"] (qc q0s):=⟨rfl,rfl,rfl,qir,rfl,by decide +kernel,by decide +kernel⟩
theorem qeu:(["ware"]:List Str).Nodup:=by decide +kernel
noncomputable def q25:FS:=(zd (qf qdd (qa (eL (qu (jc (eV 0)) [none] (bN 0) zg (eOp oShl (eC (.int 1)) (eV 0)))) qe)))
noncomputable def zf:List D->Option D:=z9 1 q25
theorem q9t{fa:Addr}{cdv:Value}{A:Around}{outer:List Env}{s:Shared}{H:Hp}{E:XK}(n_sum:mg "sum" = none)(hr:Room 0 (A.deeper (envOfC "mark_of" (qc q0s) s.heap.objs.size fa cdv))):
  PSs (zj CX0 P w K mg base q6m "mark_of" (qc q0s) fa cdv A outer s H E).nox (qp q0s) (tDS K q25):=by
 unfold q25;refine(qk ?_);refine(qw ?_);refine(zo (qk5 rfl) rfl n_sum DL.boot_sum ?_);walk_at "A";refine(j8 ?_);refine(zc (N':=["ware"]) (cap:=[none]) rfl (z7 rfl rfl) (z0 rfl) ?_ (fun _ _ _ _ _=>(qt qeu rfl (Or.inl rfl) (.inr rfl))) (fun _ _ _ _ _=>vn) (fun _ _ _ _ _=>?_));refine(zm ?_);exact(q0 (pv 0));refine(qq qju qg ?_);exact(q0 (pv 0));exact qd
theorem qit{fa:Addr}{dV:Value}{fd:FuncData}(F:Fun2 K "mark_of" "mark_of" q0s dV fa fd)(n_sum:mg "sum" = none): FnOk P w K mg base CX0 1 fa fd ["some"] (spD K 1 zf):=
 F.okn (k:=0) (n:=1) (ar:=1) (k1:=1) (u:=q25) qis rfl rfl rfl fun cdv A outer s H E hr=>(by first|(with_reducible exact q9t n_sum hr)|exact q9t n_sum hr)
abbrev q1m:Stmt:=top 10
noncomputable def q8d:List Str:=["pile"]
theorem ql3:(q8d).Nodup:=by decide +kernel
theorem ql4:FnScope q8d ["pile"] (qc q1m):=⟨rfl,rfl,rfl,ql3,rfl,by decide +kernel,by decide +kernel⟩
theorem q7r:(["many","basket"]:List Str).Nodup:=by decide +kernel
noncomputable def q36:FS:=(zd (eL (qu (jc (eOp oIx (eV 0) (eC (.int 1)))) [none,none] (q0z 2 (xi (bN 0) (xi (bN 1) q0y))) zg (x5 (qa (eV 0) (qa (qf (qj 1 [] zf) (qa (eV 1) qe)) qe))))))
noncomputable def q37:List D->Option D:=z9 1 q36
theorem qbr{fa:Addr}{cdv:Value}{A:Around}{outer:List Env}{s:Shared}{H:Hp}{E:XK}{a_mark_of:Addr}{fd_mark_of:FuncData}(c_26:Cal P w K mg base "mark_of" 1 ["some"] 1 zf a_mark_of fd_mark_of)(b_26:Binds K fd_mark_of ["some"] [])(hr:Room 1 (A.deeper (envOfC "marked" (qc q1m) s.heap.objs.size fa cdv))):
  PSs (zj CX0 P w K mg base q8d "marked" (qc q1m) fa cdv A outer s H E).nox (qp q1m) (tDS K q36):=by
 unfold q36;refine(qk ?_);refine(qw ?_);refine(j8 ?_);refine(zc (N':=["many","basket"]) (cap:=[none,none]) rfl (z7 rfl rfl) (qbg (q1x rfl (q1x rfl q98))) ?_ (fun _ _ _ _ _=>(q95 rfl (q0m (qt q7r rfl (Or.inl rfl) (.inr rfl)) (q0m (qt q7r rfl (Or.inl rfl) (.inr rfl)) q94)))) (fun _ _ _ _ _=>vn) (fun _ _ _ _ _=>?_));refine(zm ?_);refine(jq ?_ qg);exact(q0 (pv 0));refine(yl ?_);walk_at "A";exact(q0 (pv 0));walk_at "A";refine(qr c_26 b_26 hr (by decide) rfl ?_);walk_at "A";exact(q0 (pv 1));exact qd;exact qd
theorem ql5{fa:Addr}{dV:Value}{fd:FuncData}(F:Fun2 K "marked" "marked" q1m dV fa fd){a_mark_of:Addr}{fd_mark_of:FuncData}(c_26:Cal P w K mg base "mark_of" 1 ["some"] 1 zf a_mark_of fd_mark_of)(b_26:Binds K fd_mark_of ["some"] []): FnOk P w K mg base CX0 2 fa fd ["pile"] (spD K 1 q37):=
 F.okn (k:=1) (n:=1) (ar:=1) (k1:=2) (u:=q36) ql4 rfl rfl rfl fun cdv A outer s H E hr=>(by first|(with_reducible exact qbr c_26 b_26 hr)|exact qbr c_26 b_26 hr)
abbrev xq:Stmt:=top 6
noncomputable def q17:List Str:=["some","wares","first"]
theorem q38:(q17).Nodup:=by decide +kernel
theorem q8e:FnScope q17 ["some","wares"] (qc xq):=⟨rfl,rfl,rfl,q38,rfl,by decide +kernel,by decide +kernel⟩
theorem q6n:(["ware","some"]:List Str).Nodup:=by decide +kernel
noncomputable def xr:FS:=(z8 (zu 2 (eIf (bT (eV 0)) (eOp zr (eOp oIx (eV 0) (eUn qae (eC (.int 1)))) (eC (.int 1))) (eC (.int 0)))) (zd (eL (qu (iR2 (qa (eV 2) (qa (eV 1) qe))) [none,some 0] (bN 0) zg (eOp zr (eV 1) (x5 (qa (eV 0) qe)))))))
noncomputable def xt:List D->Option D:=z9 3 xr
theorem q39{fa:Addr}{cdv:Value}{A:Around}{outer:List Env}{s:Shared}{H:Hp}{E:XK}(n_range:mg "range" = none)(hr:Room 0 (A.deeper (envOfC "one_ware_more" (qc xq) s.heap.objs.size fa cdv))):
  PSs (zj CX0 P w K mg base q17 "one_ware_more" (qc xq) fa cdv A outer s H E).nox (qp xq) (tDS K xr):=by
 unfold xr;refine(qi ?_ ?_);refine(ze (i:=2) ?_ ?_ ?_ ?_ ?_ ?_);exact q38;exact rfl;exact(Or.inl rfl);refine(qup ?_ ?_ qg);refine(jm ?_);exact(q0 (pv 0));refine(qq jf ?_ qg);refine(jq ?_ ?_);exact(q0 (pv 0));exact(qt6 qg);exact rfl;walk_at "L";refine(qk ?_);refine(qw ?_);refine(j8 ?_);refine(zc (N':=["ware","some"]) (cap:=[none,some 0]) rfl (z7 rfl rfl) (z0 rfl) ?_ (fun _ _ _ _ _=>(qt q6n rfl (Or.inl rfl) (.inr rfl))) (fun _ _ _ _ _=>vn) (fun _ _ _ _ _=>?_));refine(qk3 rfl n_range ?_);walk_at "A";exact(q0 (pv 2));walk_at "A";exact(q0 (pv 1));exact qd;refine(qq jf ?_ ?_);exact(q0 (pv 1));refine(yl ?_);walk_at "A";exact(q0 (pv 0));exact qd
theorem q8f{fa:Addr}{dV:Value}{fd:FuncData}(F:Fun2 K "one_ware_more" "one_ware_more" xq dV fa fd)(n_range:mg "range" = none): FnOk P w K mg base CX0 1 fa fd ["some","wares"] (spD K 2 xt):=
 F.okn (k:=0) (n:=3) (ar:=2) (k1:=1) (u:=xr) q8e rfl rfl rfl fun cdv A outer s H E hr=>(by first|(with_reducible exact q39 n_range hr)|exact q39 n_range hr)
abbrev xf:Stmt:=top 8
noncomputable def q0j:List Str:=["some"]
theorem q7i:(q0j).Nodup:=by decide +kernel
theorem q7j:FnScope q0j ["some"] (qc xf):=⟨rfl,rfl,rfl,q7i,rfl,by decide +kernel,by decide +kernel⟩
theorem q5w:(["place","some"]:List Str).Nodup:=by decide +kernel
noncomputable def vy:FS:=(zd (eL (qu (iR1 (qa (qf vp (qa (eV 0) qe)) qe)) [none,some 0] (bN 0) zg (eOp zr (eSl (eV 1) oNo (oAt (eV 0))) (eSl (eV 1) (oAt (eOp zr (eV 0) (eC (.int 1)))) oNo)))))
noncomputable def zx:List D->Option D:=z9 1 vy
theorem q2e{fa:Addr}{cdv:Value}{A:Around}{outer:List Env}{s:Shared}{H:Hp}{E:XK}(n_range:mg "range" = none)(n_len:mg "len" = none)(hr:Room 0 (A.deeper (envOfC "one_ware_fewer" (qc xf) s.heap.objs.size fa cdv))):
  PSs (zj CX0 P w K mg base q0j "one_ware_fewer" (qc xf) fa cdv A outer s H E).nox (qp xf) (tDS K vy):=by
 unfold vy;refine(qk ?_);refine(qw ?_);refine(j8 ?_);refine(zc (N':=["place","some"]) (cap:=[none,some 0]) rfl (z7 rfl rfl) (z0 rfl) ?_ (fun _ _ _ _ _=>(qt q5w rfl (Or.inl rfl) (.inr rfl))) (fun _ _ _ _ _=>vn) (fun _ _ _ _ _=>?_));refine(kq rfl n_range ?_);walk_at "A";refine(zo (xw) rfl n_len DL.j3 ?_);walk_at "A";exact(q0 (pv 0));exact qd;exact qd;refine(qq jf ?_ ?_);refine(q85 ?_ qdf (q51 ?_));exact(q0 (pv 1));exact(q0 (pv 0));refine(q85 ?_ (q51 ?_) qdf);exact(q0 (pv 1));refine(qq jf ?_ qg);exact(q0 (pv 0))
theorem q7k{fa:Addr}{dV:Value}{fd:FuncData}(F:Fun2 K "one_ware_fewer" "one_ware_fewer" xf dV fa fd)(n_range:mg "range" = none)(n_len:mg "len" = none): FnOk P w K mg base CX0 1 fa fd ["some"] (spD K 1 zx):=
 F.okn (k:=0) (n:=1) (ar:=1) (k1:=1) (u:=vy) q7j rfl rfl rfl fun cdv A outer s H E hr=>(by first|(with_reducible exact q2e n_range n_len hr)|exact q2e n_range n_len hr)
abbrev q2t:Stmt:=top 16
noncomputable def qat:List Str:=["layer","wares","known","found","some","longer"]
theorem q3a:(qat).Nodup:=by decide +kernel
theorem qo8:FnScope qat ["layer","wares"] (qc q2t):=⟨rfl,rfl,rfl,q3a,rfl,by decide +kernel,by decide +kernel⟩
theorem qiu:(["some"]:List Str).Nodup:=by decide +kernel
theorem qiv:(["shorter","known"]:List Str).Nodup:=by decide +kernel
noncomputable def yy:FS:=(sIf (bT (qf qac (qa (eL (qu (jc (qf (qj 1 [] zx) (qa (eV 5) qe))) [none,some 2] (bN 0) zg (eOp q1k (eV 0) (eV 1)))) qe))) (q2z 3 (eV 5)) v5)
noncomputable def q18:FS:=(xm (jc (qf (qj 2 [] xt) (qa (eV 4) (qa (eV 1) qe)))) (bN 5) yy)
noncomputable def q4h:FS:=(z8 (zu 2 (qf q7e (qa (eL (qu (jc (eV 0)) [none] (bN 0) zg (x5 (qa (eV 0) (qa (eC (.bl true)) qe))))) qe))) (z8 (q3v 3 (q2y qe)) (z8 (xm (jc (eV 0)) (bN 4) q18) (q4v 3 (zd (eV 3))))))
noncomputable def q4i:List D->Option D:=z9 6 q4h
theorem qev{fa:Addr}{cdv:Value}{A:Around}{outer:List Env}{s:Shared}{H:Hp}{E:XK}{a_one_ware_more:Addr}{fd_one_ware_more:FuncData}(c_29:Cal P w K mg base "one_ware_more" 1 ["some","wares"] 2 xt a_one_ware_more fd_one_ware_more)(b_29:Binds K fd_one_ware_more ["some","wares"] []){a_one_ware_fewer:Addr}{fd_one_ware_fewer:FuncData}(c_28:Cal P w K mg base "one_ware_fewer" 1 ["some"] 1 zx a_one_ware_fewer fd_one_ware_fewer)(b_28:Binds K fd_one_ware_fewer ["some"] [])(n_dict:mg "dict" = none)(n_all:mg "all" = none)(hr:Room 1 (A.deeper (envOfC "grown" (qc q2t) s.heap.objs.size fa cdv))):
  PSs (zj CX0 P w K mg base qat "grown" (qc q2t) fa cdv A outer s H E).nox (qp q2t) (tDS K q4h):=by
 unfold q4h q18 yy;refine(qi ?_ ?_);refine(ze (i:=2) ?_ ?_ ?_ ?_ ?_ ?_);exact q3a;exact rfl;exact(Or.inr rfl);refine(zp (qao rfl hr.units) rfl n_dict DL.boot_dict ?_);walk_at "A";refine(j8 ?_);refine(zc (N':=["some"]) (cap:=[none]) rfl (z7 rfl rfl) (z0 rfl) ?_ (fun _ _ _ _ _=>(qt qiu rfl (Or.inl rfl) (.inr rfl))) (fun _ _ _ _ _=>vn) (fun _ _ _ _ _=>?_));refine(zm ?_);exact(q0 (pv 0));refine(yl ?_);walk_at "A";exact(q0 (pv 0));walk_at "A";exact yu;exact qd;exact qd;exact rfl;walk_at "L";refine(qi ?_ ?_);exact(q64 (i:=3) q3a rfl (Or.inl rfl) (q0x qd));refine(qi ?_ ?_);refine(k5 um rfl ?_ (qt q3a rfl (Or.inl rfl) (.inl rfl)) (qk ?_));refine(zm ?_);exact(q0 (pv 0));refine(k5 um rfl ?_ (qt q3a rfl (Or.inl rfl) (.inl rfl)) (qk ?_));refine(zm ?_);refine(qr c_29 b_29 hr (by decide) rfl ?_);walk_at "A";exact(q0 (pv 4));walk_at "A";exact(q0 (pv 1));exact qd;refine(xh ?_ (qk ?_) jg);refine(jm ?_);refine(zo (qt0 rfl) rfl n_all DL.boot_all ?_);walk_at "A";refine(j8 ?_);refine(zc (N':=["shorter","known"]) (cap:=[none,some 2]) rfl (z7 rfl rfl) (z0 rfl) ?_ (fun _ _ _ _ _=>(qt qiv rfl (Or.inl rfl) (.inr rfl))) (fun _ _ _ _ _=>vn) (fun _ _ _ _ _=>?_));refine(zm ?_);refine(qr c_28 b_28 hr (by decide) rfl ?_);walk_at "A";exact(q0 (pv 5));exact qd;refine(q20 (qed hr.units) ?_ ?_);exact(q0 (pv 0));exact(q0 (pv 1));exact qd;refine(q93 (pv 3) ?_);exact(q0 (pv 5));refine(q30 3 (qk ?_));refine(qw ?_);exact(q0 (pv 3))
theorem qo9{fa:Addr}{dV:Value}{fd:FuncData}(F:Fun2 K "grown" "grown" q2t dV fa fd){a_one_ware_more:Addr}{fd_one_ware_more:FuncData}(c_29:Cal P w K mg base "one_ware_more" 1 ["some","wares"] 2 xt a_one_ware_more fd_one_ware_more)(b_29:Binds K fd_one_ware_more ["some","wares"] []){a_one_ware_fewer:Addr}{fd_one_ware_fewer:FuncData}(c_28:Cal P w K mg base "one_ware_fewer" 1 ["some"] 1 zx a_one_ware_fewer fd_one_ware_fewer)(b_28:Binds K fd_one_ware_fewer ["some"] [])(n_dict:mg "dict" = none)(n_all:mg "all" = none): FnOk P w K mg base CX0 2 fa fd ["layer","wares"] (spD K 2 q4i):=
 F.okn (k:=1) (n:=6) (ar:=2) (k1:=2) (u:=q4h) qo8 rfl rfl rfl fun cdv A outer s H E hr=>(by first|(with_reducible exact qev c_29 b_29 c_28 b_28 n_dict n_all hr)|exact qev c_29 b_29 c_28 b_28 n_dict n_all hr)
abbrev vc:Stmt:=top 11
noncomputable def q1n:List Str:=["marked_runs","some","mark"]
theorem q3o:(q1n).Nodup:=by decide +kernel
theorem q9u:FnScope q1n ["marked_runs","some"] (qc vc):=⟨rfl,rfl,rfl,q3o,rfl,by decide +kernel,by decide +kernel⟩
theorem q2f:(["many","basket","mark"]:List Str).Nodup:=by decide +kernel
noncomputable def yn:FS:=(z8 (zu 2 (qf (qj 1 [] zf) (qa (eV 1) qe))) (zd (qf qdd (qa (eL (qu (jc (eV 0)) [none,none,some 2] (q0z 2 (xi (bN 0) (xi (bN 1) q0y))) (zw oEq (eOp oBand (eV 1) (eV 2)) (eV 2)) (eV 0))) qe))))
noncomputable def vd:List D->Option D:=z9 3 yn
theorem q3p{fa:Addr}{cdv:Value}{A:Around}{outer:List Env}{s:Shared}{H:Hp}{E:XK}{a_mark_of:Addr}{fd_mark_of:FuncData}(c_26:Cal P w K mg base "mark_of" 1 ["some"] 1 zf a_mark_of fd_mark_of)(b_26:Binds K fd_mark_of ["some"] [])(n_sum:mg "sum" = none)(hr:Room 1 (A.deeper (envOfC "count_marked" (qc vc) s.heap.objs.size fa cdv))):
  PSs (zj CX0 P w K mg base q1n "count_marked" (qc vc) fa cdv A outer s H E).nox (qp vc) (tDS K yn):=by
 unfold yn;refine(qi ?_ ?_);refine(ze (i:=2) ?_ ?_ ?_ ?_ ?_ ?_);exact q3o;exact rfl;exact(Or.inr rfl);refine(qr c_26 b_26 hr (by decide) rfl ?_);walk_at "A";exact(q0 (pv 1));exact qd;exact rfl;walk_at "L";refine(qk ?_);refine(qw ?_);refine(zo (qk5 rfl) rfl n_sum DL.boot_sum ?_);walk_at "A";refine(j8 ?_);refine(zc (N':=["many","basket","mark"]) (cap:=[none,none,some 2]) rfl (z7 rfl rfl) (qbg (q1x rfl (q1x rfl q98))) ?_ (fun _ _ _ _ _=>(q95 rfl (q0m (qt q2f rfl (Or.inl rfl) (.inr rfl)) (q0m (qt q2f rfl (Or.inl rfl) (.inr rfl)) q94)))) (fun _ _ _ _ _=>(y8 ?_)) (fun _ _ _ _ _=>?_));refine(zm ?_);exact(q0 (pv 0));refine(zv (wg hr.units) ?_ ?_);refine(qq qah ?_ ?_);exact(q0 (pv 1));exact(q0 (pv 2));exact(q0 (pv 2));exact(q0 (pv 0));exact qd
theorem q9v{fa:Addr}{dV:Value}{fd:FuncData}(F:Fun2 K "count_marked" "count_marked" vc dV fa fd){a_mark_of:Addr}{fd_mark_of:FuncData}(c_26:Cal P w K mg base "mark_of" 1 ["some"] 1 zf a_mark_of fd_mark_of)(b_26:Binds K fd_mark_of ["some"] [])(n_sum:mg "sum" = none): FnOk P w K mg base CX0 2 fa fd ["marked_runs","some"] (spD K 2 vd):=
 F.okn (k:=1) (n:=3) (ar:=2) (k1:=2) (u:=yn) q9u rfl rfl rfl fun cdv A outer s H E hr=>(by first|(with_reducible exact q3p c_26 b_26 n_sum hr)|exact q3p c_26 b_26 n_sum hr)
abbrev zt:Stmt:=qtw 17 1
noncomputable def q04:List Str:=["self","pile","least","runs","told","layer","pairs"]
theorem jn:(q04).Nodup:=by decide +kernel
theorem q6o:FnScope q04 ["self","pile","least"] (qc zt):=⟨rfl,rfl,rfl,jn,rfl,by decide +kernel,by decide +kernel⟩
theorem q5g:(["some","runs"]:List Str).Nodup:=by decide +kernel
theorem q5h:(["pair"]:List Str).Nodup:=by decide +kernel
noncomputable def jx:FS:=(z8 (q3v 6 (qu (jc (eV 5)) [none,some 3] (bN 0) zg (x5 (qa (eV 0) (qa (qf (qj 2 [] vd) (qa (eV 1) (qa (eV 0) qe))) qe))))) (q4v 6 (z8 (qnh 4 (eV 6)) (zu 5 (qf (qj 2 [] q4i) (qa (eL (qu (jc (qf (qj 2 [] v8) (qa (eV 6) (qa (eV 2) qe)))) [none] (bN 0) zg (eOp oIx (eV 0) (eC (.int 0))))) (qa (eOp oIx (eV 1) (eC (.int 0))) qe)))))))
noncomputable def j5:FS:=(z8 (zu 3 (qf (qj 1 [] q37) (qa (eV 1) qe))) (z8 (q3v 4 (q2y qe)) (z8 (zu 5 (eL (q2y (qa (x5 qe) qe)))) (z8 (yw (bT (eV 5)) jx 100000) (q4v 6 (q4v 4 (zd (qf ju (qa (eV 4) qe)))))))))
noncomputable def j6:List D->Option D:=z9 7 j5
theorem q26{fa:Addr}{cdv:Value}{A:Around}{outer:List Env}{s:Shared}{H:Hp}{E:XK}{a_marked:Addr}{fd_marked:FuncData}(c_27:Cal P w K mg base "marked" 2 ["pile"] 1 q37 a_marked fd_marked)(b_27:Binds K fd_marked ["pile"] []){a_grown:Addr}{fd_grown:FuncData}(c_8:Cal P w K mg base "grown" 2 ["layer","wares"] 2 q4i a_grown fd_grown)(b_8:Binds K fd_grown ["layer","wares"] []){a_count_marked:Addr}{fd_count_marked:FuncData}(c_5:Cal P w K mg base "count_marked" 2 ["marked_runs","some"] 2 vd a_count_marked fd_count_marked)(b_5:Binds K fd_count_marked ["marked_runs","some"] []){a_at_least:Addr}{fd_at_least:FuncData}(c_4:Cal P w K mg base "at_least" 1 ["pairs","least"] 2 v8 a_at_least fd_at_least)(b_4:Binds K fd_at_least ["pairs","least"] [])(n_tuple:mg "tuple" = none)(hr:Room 2 (A.deeper (envOfC "Growing.counted" (qc zt) s.heap.objs.size fa cdv))):
  PSs (zj CX0 P w K mg base q04 "Growing.counted" (qc zt) fa cdv A outer s H E).nox (qp zt) (tDS K j5):=by
 unfold j5 jx;refine(qi ?_ ?_);refine(ze (i:=3) ?_ ?_ ?_ ?_ ?_ ?_);exact jn;exact rfl;exact(Or.inr rfl);refine(qr c_27 b_27 hr (by decide) rfl ?_);walk_at "A";exact(q0 (pv 1));exact qd;exact rfl;walk_at "L";refine(qi ?_ ?_);exact(q64 (i:=4) jn rfl (Or.inl rfl) (q0x qd));refine(qi ?_ ?_);refine(ze (i:=5) ?_ ?_ ?_ ?_ ?_ ?_);exact jn;exact rfl;exact(Or.inl rfl);refine(j8 ?_);refine(q0x ?_);walk_at "A";exact(yl qd);exact qd;exact rfl;walk_at "L";refine(qi ?_ ?_);refine(qmm 100000 um ?_ (qi ?_ ?_));refine(jm ?_);exact(q0 (pv 5));refine(qnu (i:=6) rfl jn rfl rfl (N':=["some","runs"]) (cap:=[none,some 3]) (z7 rfl rfl) (z0 rfl) ?_ (fun _ _ _ _ _=>(qt q5g rfl (Or.inl rfl) (.inr rfl))) (fun _ _ _ _ _=>vn) (fun _ _ _ _ _=>?_));refine(zm ?_);exact(q0 (pv 5));refine(yl ?_);walk_at "A";exact(q0 (pv 0));walk_at "A";refine(qr c_5 b_5 hr (by decide) rfl ?_);walk_at "A";exact(q0 (pv 1));walk_at "A";exact(q0 (pv 0));exact qd;exact qd;refine(q30 6 (qi ?_ ?_));refine(qtl (pv 4) ?_);exact(q0 (pv 6));refine(qk ?_);refine(ze (i:=5) ?_ ?_ ?_ ?_ ?_ ?_);exact jn;exact rfl;exact(Or.inl rfl);refine(qr c_8 b_8 hr (by decide) rfl ?_);walk_at "A";refine(j8 ?_);refine(zc (N':=["pair"]) (cap:=[none]) rfl (z7 rfl rfl) (z0 rfl) ?_ (fun _ _ _ _ _=>(qt q5h rfl (Or.inl rfl) (.inr rfl))) (fun _ _ _ _ _=>vn) (fun _ _ _ _ _=>?_));refine(zm ?_);refine(qr c_4 b_4 hr (by decide) rfl ?_);walk_at "A";exact(q0 (pv 6));walk_at "A";exact(q0 (pv 2));exact qd;refine(jq ?_ qg);exact(q0 (pv 0));walk_at "A";refine(jq ?_ qg);exact(q0 (pv 1));exact qd;exact rfl;walk_at "L";refine(q30 6 (q30 4 (qk ?_)));refine(qw ?_);refine(zp (ji) rfl n_tuple DL.boot_tuple ?_);walk_at "A";exact(q0 (pv 4));exact qd
theorem q6p{fa:Addr}{dV:Value}{fd:FuncData}(F:Fun2 K "counted" "Growing.counted" zt dV fa fd){a_marked:Addr}{fd_marked:FuncData}(c_27:Cal P w K mg base "marked" 2 ["pile"] 1 q37 a_marked fd_marked)(b_27:Binds K fd_marked ["pile"] []){a_grown:Addr}{fd_grown:FuncData}(c_8:Cal P w K mg base "grown" 2 ["layer","wares"] 2 q4i a_grown fd_grown)(b_8:Binds K fd_grown ["layer","wares"] []){a_count_marked:Addr}{fd_count_marked:FuncData}(c_5:Cal P w K mg base "count_marked" 2 ["marked_runs","some"] 2 vd a_count_marked fd_count_marked)(b_5:Binds K fd_count_marked ["marked_runs","some"] []){a_at_least:Addr}{fd_at_least:FuncData}(c_4:Cal P w K mg base "at_least" 1 ["pairs","least"] 2 v8 a_at_least fd_at_least)(b_4:Binds K fd_at_least ["pairs","least"] [])(n_tuple:mg "tuple" = none): FnOk P w K mg base CX0 3 fa fd ["self","pile","least"] (spD K 3 j6):=
 F.okn (k:=2) (n:=7) (ar:=3) (k1:=3) (u:=j5) q6o rfl rfl rfl fun cdv A outer s H E hr=>(by first|(with_reducible exact q26 c_27 b_27 c_8 b_8 c_5 b_5 c_4 b_4 n_tuple hr)|exact q26 c_27 b_27 c_8 b_8 c_5 b_5 c_4 b_4 n_tuple hr)
abbrev j7:Stmt:=qtw 17 0
noncomputable def q19:List Str:=["self","pile","least"]
theorem q8g:(q19).Nodup:=by decide +kernel
theorem q8h:FnScope q19 ["self","pile","least"] (qc j7):=⟨rfl,rfl,rfl,q8g,rfl,by decide +kernel,by decide +kernel⟩
noncomputable def yb:FS:=(zd (qf (qj 2 [] v8) (qa (q87 "Growing" 3 j6 (eV 0) (qa (eV 1) (qa (eV 2) qe))) (qa (eV 2) qe))))
noncomputable def yc:List D->Option D:=z9 3 yb
theorem q3b{fa:Addr}{cdv:Value}{A:Around}{outer:List Env}{s:Shared}{H:Hp}{E:XK}{C_Growing:Addr}(O_Growing:ClsOk K "Growing" C_Growing){a_at_least:Addr}{fd_at_least:FuncData}(c_4:Cal P w K mg base "at_least" 1 ["pairs","least"] 2 v8 a_at_least fd_at_least)(b_4:Binds K fd_at_least ["pairs","least"] []){a_Growing_counted:Addr}{fd_Growing_counted:FuncData}(c_0:CalM P w K mg base "Growing" "counted" C_Growing 3 ["self","pile","least"] 3 j6 a_Growing_counted fd_Growing_counted)(b_0:Binds K fd_Growing_counted ["self","pile","least"] [])(hr:Room 3 (A.deeper (envOfC "Growing.often" (qc j7) s.heap.objs.size fa cdv))):
  PSs (zj CX0 P w K mg base q19 "Growing.often" (qc j7) fa cdv A outer s H E).nox (qp j7) (tDS K yb):=by
 unfold yb;refine(qk ?_);refine(qw ?_);refine(qr c_4 b_4 hr (by decide) rfl ?_);walk_at "A";refine(qe0 O_Growing c_0 b_0 hr (by decide) ?_ ?_);exact(q0 (pv 0));walk_at "A";exact(q0 (pv 1));walk_at "A";exact(q0 (pv 2));exact qd;walk_at "A";exact(q0 (pv 2));exact qd
theorem q8i{fa:Addr}{dV:Value}{fd:FuncData}(F:Fun2 K "often" "Growing.often" j7 dV fa fd){C_Growing:Addr}(O_Growing:ClsOk K "Growing" C_Growing){a_at_least:Addr}{fd_at_least:FuncData}(c_4:Cal P w K mg base "at_least" 1 ["pairs","least"] 2 v8 a_at_least fd_at_least)(b_4:Binds K fd_at_least ["pairs","least"] []){a_Growing_counted:Addr}{fd_Growing_counted:FuncData}(c_0:CalM P w K mg base "Growing" "counted" C_Growing 3 ["self","pile","least"] 3 j6 a_Growing_counted fd_Growing_counted)(b_0:Binds K fd_Growing_counted ["self","pile","least"] []): FnOk P w K mg base CX0 4 fa fd ["self","pile","least"] (spD K 3 yc):=
 F.okn (k:=3) (n:=3) (ar:=3) (k1:=4) (u:=yb) q8h rfl rfl rfl fun cdv A outer s H E hr=>(by first|(with_reducible exact q3b O_Growing c_4 b_4 c_0 b_0 hr)|exact q3b O_Growing c_4 b_4 c_0 b_0 hr)
abbrev q1o:Stmt:=top 3
noncomputable def q8j:List Str:=["one","other"]
theorem ql6:(q8j).Nodup:=by decide +kernel
theorem ql7:FnScope q8j ["one","other"] (qc q1o):=⟨rfl,rfl,rfl,ql6,rfl,by decide +kernel,by decide +kernel⟩
noncomputable def q3c:FS:=(zd (qf ju (qa (eL (qif (eV 0) (eV 1))) qe)))
noncomputable def q1p:List D->Option D:=z9 2 q3c
theorem qbs{fa:Addr}{cdv:Value}{A:Around}{outer:List Env}{s:Shared}{H:Hp}{E:XK}(n_tuple:mg "tuple" = none)(n_sorted:mg "sorted" = none)(n_set:mg "set" = none)(hr:Room 0 (A.deeper (envOfC "joined" (qc q1o) s.heap.objs.size fa cdv))):
  PSs (zj CX0 P w K mg base q8j "joined" (qc q1o) fa cdv A outer s H E).nox (qp q1o) (tDS K q3c):=by
 unfold q3c;refine(qk ?_);refine(qw ?_);refine(zp (ji) rfl n_tuple DL.boot_tuple ?_);walk_at "A";refine(j8 ?_);refine(qqs rfl rfl n_sorted rfl n_set ?_ ?_);exact(q0 (pv 0));exact(q0 (pv 1));exact qd
theorem ql8{fa:Addr}{dV:Value}{fd:FuncData}(F:Fun2 K "joined" "joined" q1o dV fa fd)(n_tuple:mg "tuple" = none)(n_sorted:mg "sorted" = none)(n_set:mg "set" = none): FnOk P w K mg base CX0 1 fa fd ["one","other"] (spD K 2 q1p):=
 F.okn (k:=0) (n:=2) (ar:=2) (k1:=1) (u:=q3c) ql7 rfl rfl rfl fun cdv A outer s H E hr=>(by first|(with_reducible exact qbs n_tuple n_sorted n_set hr)|exact qbs n_tuple n_sorted n_set hr)
abbrev xu:Stmt:=top 7
noncomputable def q1a:List Str:=["some","wares"]
theorem q8k:(q1a).Nodup:=by decide +kernel
theorem q8l:FnScope q1a ["some","wares"] (qc xu):=⟨rfl,rfl,rfl,q8k,rfl,by decide +kernel,by decide +kernel⟩
theorem q6q:(["ware","some"]:List Str).Nodup:=by decide +kernel
noncomputable def ye:FS:=(zd (eL (qu (iR1 (qa (eV 1) qe)) [none,some 0] (bN 0) (zw (oIn true) (eV 0) (eV 1)) (qf (qj 2 [] q1p) (qa (eV 1) (qa (x5 (qa (eV 0) qe)) qe))))))
noncomputable def yf:List D->Option D:=z9 2 ye
theorem q3d{fa:Addr}{cdv:Value}{A:Around}{outer:List Env}{s:Shared}{H:Hp}{E:XK}{a_joined:Addr}{fd_joined:FuncData}(c_13:Cal P w K mg base "joined" 1 ["one","other"] 2 q1p a_joined fd_joined)(b_13:Binds K fd_joined ["one","other"] [])(n_range:mg "range" = none)(hr:Room 1 (A.deeper (envOfC "any_ware_more" (qc xu) s.heap.objs.size fa cdv))):
  PSs (zj CX0 P w K mg base q1a "any_ware_more" (qc xu) fa cdv A outer s H E).nox (qp xu) (tDS K ye):=by
 unfold ye;refine(qk ?_);refine(qw ?_);refine(j8 ?_);refine(zc (N':=["ware","some"]) (cap:=[none,some 0]) rfl (z7 rfl rfl) (z0 rfl) ?_ (fun _ _ _ _ _=>(qt q6q rfl (Or.inl rfl) (.inr rfl))) (fun _ _ _ _ _=>(y8 ?_)) (fun _ _ _ _ _=>?_));refine(kq rfl n_range ?_);walk_at "A";exact(q0 (pv 1));exact qd;refine(zv qmt ?_ ?_);exact(q0 (pv 0));exact(q0 (pv 1));refine(qr c_13 b_13 hr (by decide) rfl ?_);walk_at "A";exact(q0 (pv 1));walk_at "A";refine(yl ?_);walk_at "A";exact(q0 (pv 0));exact qd;exact qd
theorem q8m{fa:Addr}{dV:Value}{fd:FuncData}(F:Fun2 K "any_ware_more" "any_ware_more" xu dV fa fd){a_joined:Addr}{fd_joined:FuncData}(c_13:Cal P w K mg base "joined" 1 ["one","other"] 2 q1p a_joined fd_joined)(b_13:Binds K fd_joined ["one","other"] [])(n_range:mg "range" = none): FnOk P w K mg base CX0 2 fa fd ["some","wares"] (spD K 2 yf):=
 F.okn (k:=1) (n:=2) (ar:=2) (k1:=2) (u:=ye) q8l rfl rfl rfl fun cdv A outer s H E hr=>(by first|(with_reducible exact q3d c_13 b_13 n_range hr)|exact q3d c_13 b_13 n_range hr)
abbrev y3:Stmt:=top 23
noncomputable def q2b:List Str:=["some","known","wares"]
theorem qau:(q2b).Nodup:=by decide +kernel
theorem qav:FnScope q2b ["some","known","wares"] (qc y3):=⟨rfl,rfl,rfl,qau,rfl,by decide +kernel,by decide +kernel⟩
theorem q8n:(["longer","known"]:List Str).Nodup:=by decide +kernel
noncomputable def k7:FS:=(zd (qd9 (qf qde (qa (eL (qu (jc (qf (qj 2 [] yf) (qa (eV 0) (qa (eV 2) qe)))) [none,some 1] (bN 0) zg (eOp q1k (eV 0) (eV 1)))) qe))))
noncomputable def zy:List D->Option D:=z9 3 k7
theorem q4j{fa:Addr}{cdv:Value}{A:Around}{outer:List Env}{s:Shared}{H:Hp}{E:XK}{a_any_ware_more:Addr}{fd_any_ware_more:FuncData}(c_3:Cal P w K mg base "any_ware_more" 2 ["some","wares"] 2 yf a_any_ware_more fd_any_ware_more)(b_3:Binds K fd_any_ware_more ["some","wares"] [])(n_any:mg "any" = none)(hr:Room 2 (A.deeper (envOfC "is_greatest" (qc y3) s.heap.objs.size fa cdv))):
  PSs (zj CX0 P w K mg base q2b "is_greatest" (qc y3) fa cdv A outer s H E).nox (qp y3) (tDS K k7):=by
 unfold k7;refine(qk ?_);refine(qw ?_);refine(qdb ?_);refine(zo (qk6 rfl) rfl n_any DL.boot_any ?_);walk_at "A";refine(j8 ?_);refine(zc (N':=["longer","known"]) (cap:=[none,some 1]) rfl (z7 rfl rfl) (z0 rfl) ?_ (fun _ _ _ _ _=>(qt q8n rfl (Or.inl rfl) (.inr rfl))) (fun _ _ _ _ _=>vn) (fun _ _ _ _ _=>?_));refine(zm ?_);refine(qr c_3 b_3 hr (by decide) rfl ?_);walk_at "A";exact(q0 (pv 0));walk_at "A";exact(q0 (pv 2));exact qd;refine(q20 (qed hr.units) ?_ ?_);exact(q0 (pv 0));exact(q0 (pv 1));exact qd
theorem qaw{fa:Addr}{dV:Value}{fd:FuncData}(F:Fun2 K "is_greatest" "is_greatest" y3 dV fa fd){a_any_ware_more:Addr}{fd_any_ware_more:FuncData}(c_3:Cal P w K mg base "any_ware_more" 2 ["some","wares"] 2 yf a_any_ware_more fd_any_ware_more)(b_3:Binds K fd_any_ware_more ["some","wares"] [])(n_any:mg "any" = none): FnOk P w K mg base CX0 3 fa fd ["some","known","wares"] (spD K 3 zy):=
 F.okn (k:=2) (n:=3) (ar:=3) (k1:=3) (u:=k7) qav rfl rfl rfl fun cdv A outer s H E hr=>(by first|(with_reducible exact q4j c_3 b_3 n_any hr)|exact q4j c_3 b_3 n_any hr)
abbrev wy:Stmt:=top 19
noncomputable def q5i:List Str:=["pile","least","pairs","known"]
theorem q45:(q5i).Nodup:=by decide +kernel
theorem qg8:FnScope q5i ["pile","least"] (qc wy):=⟨rfl,rfl,rfl,q45,rfl,by decide +kernel,by decide +kernel⟩
theorem qco:(["pair","known","pile"]:List Str).Nodup:=by decide +kernel
noncomputable def q1b:FS:=(z8 (zu 2 (q87 "Growing" 3 yc (eC (.obj "Growing")) (qa (eV 0) (qa (eV 1) qe)))) (z8 (zu 3 (qf q9p (qa (eV 2) qe))) (zd (qf ju (qa (eL (qu (jc (eV 2)) [none,some 3,some 0] (bN 0) (bT (qf (qj 3 [] zy) (qa (eOp oIx (eV 0) (eC (.int 0))) (qa (eV 1) (qa (eOp oIx (eV 2) (eC (.int 0))) qe))))) (eV 0))) qe)))))
noncomputable def q1c:List D->Option D:=z9 4 q1b
theorem q7s{fa:Addr}{cdv:Value}{A:Around}{outer:List Env}{s:Shared}{H:Hp}{E:XK}{C_Growing:Addr}(O_Growing:ClsOk K "Growing" C_Growing)(m_Growing:mg "Growing" = some (.ref C_Growing)){a_Growing_often:Addr}{fd_Growing_often:FuncData}(c_1:CalM P w K mg base "Growing" "often" C_Growing 4 ["self","pile","least"] 3 yc a_Growing_often fd_Growing_often)(b_1:Binds K fd_Growing_often ["self","pile","least"] []){a_is_greatest:Addr}{fd_is_greatest:FuncData}(c_11:Cal P w K mg base "is_greatest" 3 ["some","known","wares"] 3 zy a_is_greatest fd_is_greatest)(b_11:Binds K fd_is_greatest ["some","known","wares"] [])(n_dict:mg "dict" = none)(n_tuple:mg "tuple" = none)(hr:Room 4 (A.deeper (envOfC "greatest" (qc wy) s.heap.objs.size fa cdv))):
  PSs (zj CX0 P w K mg base q5i "greatest" (qc wy) fa cdv A outer s H E).nox (qp wy) (tDS K q1b):=by
 unfold q1b;refine(qi ?_ ?_);refine(ze (i:=2) ?_ ?_ ?_ ?_ ?_ ?_);exact q45;exact rfl;exact(Or.inl rfl);refine(qe0 O_Growing c_1 b_1 hr (by decide) ?_ ?_);exact(qkm O_Growing m_Growing rfl);walk_at "A";exact(q0 (pv 0));walk_at "A";exact(q0 (pv 1));exact qd;exact rfl;walk_at "L";refine(qi ?_ ?_);refine(ze (i:=3) ?_ ?_ ?_ ?_ ?_ ?_);exact q45;exact rfl;exact(Or.inr rfl);refine(zp (qny rfl hr.units) rfl n_dict DL.boot_dict ?_);walk_at "A";exact(q0 (pv 2));exact qd;exact rfl;walk_at "L";refine(qk ?_);refine(qw ?_);refine(zp (ji) rfl n_tuple DL.boot_tuple ?_);walk_at "A";refine(j8 ?_);refine(zc (N':=["pair","known","pile"]) (cap:=[none,some 3,some 0]) rfl (z7 rfl rfl) (z0 rfl) ?_ (fun _ _ _ _ _=>(qt qco rfl (Or.inl rfl) (.inr rfl))) (fun _ _ _ _ _=>(y8 ?_)) (fun _ _ _ _ _=>?_));refine(zm ?_);exact(q0 (pv 2));refine(jm ?_);refine(qr c_11 b_11 hr (by decide) rfl ?_);walk_at "A";refine(jq ?_ qg);exact(q0 (pv 0));walk_at "A";exact(q0 (pv 1));walk_at "A";refine(jq ?_ qg);exact(q0 (pv 2));exact qd;exact(q0 (pv 0));exact qd
theorem qg9{fa:Addr}{dV:Value}{fd:FuncData}(F:Fun2 K "greatest" "greatest" wy dV fa fd){C_Growing:Addr}(O_Growing:ClsOk K "Growing" C_Growing)(m_Growing:mg "Growing" = some (.ref C_Growing)){a_Growing_often:Addr}{fd_Growing_often:FuncData}(c_1:CalM P w K mg base "Growing" "often" C_Growing 4 ["self","pile","least"] 3 yc a_Growing_often fd_Growing_often)(b_1:Binds K fd_Growing_often ["self","pile","least"] []){a_is_greatest:Addr}{fd_is_greatest:FuncData}(c_11:Cal P w K mg base "is_greatest" 3 ["some","known","wares"] 3 zy a_is_greatest fd_is_greatest)(b_11:Binds K fd_is_greatest ["some","known","wares"] [])(n_dict:mg "dict" = none)(n_tuple:mg "tuple" = none): FnOk P w K mg base CX0 5 fa fd ["pile","least"] (spD K 2 q1c):=
 F.okn (k:=4) (n:=4) (ar:=2) (k1:=5) (u:=q1b) qg8 rfl rfl rfl fun cdv A outer s H E hr=>(by first|(with_reducible exact q7s O_Growing m_Growing c_1 b_1 c_11 b_11 n_dict n_tuple hr)|exact q7s O_Growing m_Growing c_1 b_1 c_11 b_11 n_dict n_tuple hr)
abbrev q1q:Stmt:=top 20
noncomputable def q8o:List Str:=["pile","least"]
theorem ql9:(q8o).Nodup:=by decide +kernel
theorem qla:FnScope q8o ["pile","least"] (qc q1q):=⟨rfl,rfl,rfl,ql9,rfl,by decide +kernel,by decide +kernel⟩
theorem qga:(["pair","least"]:List Str).Nodup:=by decide +kernel
noncomputable def q3e:FS:=(zd (qf ju (qa (eL (qu (jc (q87 "Growing" 3 j6 (eC (.obj "Growing")) (qa (eV 0) (qa (eV 1) qe)))) [none,some 1] (bN 0) (zw oLt' (eOp oIx (eV 0) (eC (.int 1))) (eV 1)) (eV 0))) qe)))
noncomputable def q3f:List D->Option D:=z9 2 q3e
theorem qbt{fa:Addr}{cdv:Value}{A:Around}{outer:List Env}{s:Shared}{H:Hp}{E:XK}{C_Growing:Addr}(O_Growing:ClsOk K "Growing" C_Growing)(m_Growing:mg "Growing" = some (.ref C_Growing)){a_Growing_counted:Addr}{fd_Growing_counted:FuncData}(c_0:CalM P w K mg base "Growing" "counted" C_Growing 3 ["self","pile","least"] 3 j6 a_Growing_counted fd_Growing_counted)(b_0:Binds K fd_Growing_counted ["self","pile","least"] [])(n_tuple:mg "tuple" = none)(hr:Room 3 (A.deeper (envOfC "seldom" (qc q1q) s.heap.objs.size fa cdv))):
  PSs (zj CX0 P w K mg base q8o "seldom" (qc q1q) fa cdv A outer s H E).nox (qp q1q) (tDS K q3e):=by
 unfold q3e;refine(qk ?_);refine(qw ?_);refine(zp (ji) rfl n_tuple DL.boot_tuple ?_);walk_at "A";refine(j8 ?_);refine(zc (N':=["pair","least"]) (cap:=[none,some 1]) rfl (z7 rfl rfl) (z0 rfl) ?_ (fun _ _ _ _ _=>(qt qga rfl (Or.inl rfl) (.inr rfl))) (fun _ _ _ _ _=>(y8 ?_)) (fun _ _ _ _ _=>?_));refine(zm ?_);refine(qe0 O_Growing c_0 b_0 hr (by decide) ?_ ?_);exact(qkm O_Growing m_Growing rfl);walk_at "A";exact(q0 (pv 0));walk_at "A";exact(q0 (pv 1));exact qd;refine(zv qt8 ?_ ?_);refine(jq ?_ qg);exact(q0 (pv 0));exact(q0 (pv 1));exact(q0 (pv 0));exact qd
theorem qlb{fa:Addr}{dV:Value}{fd:FuncData}(F:Fun2 K "seldom" "seldom" q1q dV fa fd){C_Growing:Addr}(O_Growing:ClsOk K "Growing" C_Growing)(m_Growing:mg "Growing" = some (.ref C_Growing)){a_Growing_counted:Addr}{fd_Growing_counted:FuncData}(c_0:CalM P w K mg base "Growing" "counted" C_Growing 3 ["self","pile","least"] 3 j6 a_Growing_counted fd_Growing_counted)(b_0:Binds K fd_Growing_counted ["self","pile","least"] [])(n_tuple:mg "tuple" = none): FnOk P w K mg base CX0 4 fa fd ["pile","least"] (spD K 2 q3f):=
 F.okn (k:=3) (n:=2) (ar:=2) (k1:=4) (u:=q3e) qla rfl rfl rfl fun cdv A outer s H E hr=>(by first|(with_reducible exact qbt O_Growing m_Growing c_0 b_0 n_tuple hr)|exact qbt O_Growing m_Growing c_0 b_0 n_tuple hr)
abbrev wz:Stmt:=top 4
noncomputable def q5j:List Str:=["some"]
theorem qgb:(q5j).Nodup:=by decide +kernel
theorem qgc:FnScope q5j ["some"] (qc wz):=⟨rfl,rfl,rfl,qgb,rfl,by decide +kernel,by decide +kernel⟩
noncomputable def q1d:FS:=(zd (x5 (qa (qf vp (qa (eV 0) qe)) (qa (eV 0) qe))))
noncomputable def yg:List D->Option D:=z9 1 q1d
theorem q7t{fa:Addr}{cdv:Value}{A:Around}{outer:List Env}{s:Shared}{H:Hp}{E:XK}(n_len:mg "len" = none)(hr:Room 0 (A.deeper (envOfC "order_of" (qc wz) s.heap.objs.size fa cdv))):
  PSs (zj CX0 P w K mg base q5j "order_of" (qc wz) fa cdv A outer s H E).nox (qp wz) (tDS K q1d):=by
 unfold q1d;refine(qk ?_);refine(qw ?_);refine(yl ?_);walk_at "A";refine(zo (xw) rfl n_len DL.j3 ?_);walk_at "A";exact(q0 (pv 0));exact qd;walk_at "A";exact(q0 (pv 0));exact qd
theorem qgd{fa:Addr}{dV:Value}{fd:FuncData}(F:Fun2 K "order_of" "order_of" wz dV fa fd)(n_len:mg "len" = none): FnOk P w K mg base CX0 1 fa fd ["some"] (spD K 1 yg):=
 F.okn (k:=0) (n:=1) (ar:=1) (k1:=1) (u:=q1d) qgc rfl rfl rfl fun cdv A outer s H E hr=>(by first|(with_reducible exact q7t n_len hr)|exact q7t n_len hr)
abbrev q1r:Stmt:=top 2
noncomputable def q8p:List Str:=["mark"]
theorem qlc:(q8p).Nodup:=by decide +kernel
theorem qld:FnScope q8p ["mark"] (qc q1r):=⟨rfl,rfl,rfl,qlc,rfl,by decide +kernel,by decide +kernel⟩
theorem qge:(["ware","mark"]:List Str).Nodup:=by decide +kernel
noncomputable def q3g:FS:=(zd (qf ju (qa (eL (qu (iR1 (qa (eUn oBits (eV 0)) qe)) [none,some 0] (bN 0) (zw oEq (eOp oMod (eOp oShr (eV 1) (eV 0)) (eC (.int 2))) (eC (.int 1))) (eV 0))) qe)))
noncomputable def wa:List D->Option D:=z9 1 q3g
theorem qbu{fa:Addr}{cdv:Value}{A:Around}{outer:List Env}{s:Shared}{H:Hp}{E:XK}(n_tuple:mg "tuple" = none)(n_range:mg "range" = none)(hr:Room 0 (A.deeper (envOfC "set_of" (qc q1r) s.heap.objs.size fa cdv))):
  PSs (zj CX0 P w K mg base q8p "set_of" (qc q1r) fa cdv A outer s H E).nox (qp q1r) (tDS K q3g):=by
 unfold q3g;refine(qk ?_);refine(qw ?_);refine(zp (ji) rfl n_tuple DL.boot_tuple ?_);walk_at "A";refine(j8 ?_);refine(zc (N':=["ware","mark"]) (cap:=[none,some 0]) rfl (z7 rfl rfl) (z0 rfl) ?_ (fun _ _ _ _ _=>(qt qge rfl (Or.inl rfl) (.inr rfl))) (fun _ _ _ _ _=>(y8 ?_)) (fun _ _ _ _ _=>?_));refine(kq rfl n_range ?_);walk_at "A";refine(qpv ?_);exact(q0 (pv 0));exact qd;refine(zv (wg hr.units) ?_ qg);refine(qq jl ?_ qg);refine(qq qst ?_ ?_);exact(q0 (pv 1));exact(q0 (pv 0));exact(q0 (pv 0));exact qd
theorem qle{fa:Addr}{dV:Value}{fd:FuncData}(F:Fun2 K "set_of" "set_of" q1r dV fa fd)(n_tuple:mg "tuple" = none)(n_range:mg "range" = none): FnOk P w K mg base CX0 1 fa fd ["mark"] (spD K 1 wa):=
 F.okn (k:=0) (n:=1) (ar:=1) (k1:=1) (u:=q3g) qld rfl rfl rfl fun cdv A outer s H E hr=>(by first|(with_reducible exact qbu n_tuple n_range hr)|exact qbu n_tuple n_range hr)
abbrev q00:Stmt:=top 5
noncomputable def q5k:List Str:=["wares"]
theorem qgf:(q5k).Nodup:=by decide +kernel
theorem qgg:FnScope q5k ["wares"] (qc q00):=⟨rfl,rfl,rfl,qgf,rfl,by decide +kernel,by decide +kernel⟩
theorem qcp:(["mark"]:List Str).Nodup:=by decide +kernel
noncomputable def q1e:FS:=(zd (eL (q9a (q0p yg) (qa (eL (qu (iR1 (qa (eOp oShl (eC (.int 1)) (eV 0)) qe)) [none] (bN 0) zg (qf (qj 1 [] wa) (qa (eV 0) qe)))) qe))))
noncomputable def yh:List D->Option D:=z9 1 q1e
theorem q7u{fa:Addr}{cdv:Value}{A:Around}{outer:List Env}{s:Shared}{H:Hp}{E:XK}{a_order_of:Addr}{fd_order_of:FuncData}(c_30:Cal P w K mg base "order_of" 1 ["some"] 1 yg a_order_of fd_order_of)(b_30:Binds K fd_order_of ["some"] []){a_set_of:Addr}{fd_set_of:FuncData}(c_32:Cal P w K mg base "set_of" 1 ["mark"] 1 wa a_set_of fd_set_of)(b_32:Binds K fd_set_of ["mark"] [])(n_sorted:mg "sorted" = none)(n_range:mg "range" = none)(hr:Room 3 (A.deeper (envOfC "all_sets" (qc q00) s.heap.objs.size fa cdv))):
  PSs (zj CX0 P w K mg base q5k "all_sets" (qc q00) fa cdv A outer s H E).nox (qp q00) (tDS K q1e):=by
 unfold q1e;refine(qk ?_);refine(qw ?_);refine(j8 ?_);refine(qnc c_30 b_30 hr (by decide) rfl n_sorted rfl ?_);walk_at "A";refine(j8 ?_);refine(zc (N':=["mark"]) (cap:=[none]) rfl (z7 rfl rfl) (z0 rfl) ?_ (fun _ _ _ _ _=>(qt qcp rfl (Or.inl rfl) (.inr rfl))) (fun _ _ _ _ _=>vn) (fun _ _ _ _ _=>?_));refine(kq rfl n_range ?_);walk_at "A";refine(qq qju qg ?_);exact(q0 (pv 0));exact qd;refine(qr c_32 b_32 hr (by decide) rfl ?_);walk_at "A";exact(q0 (pv 0));exact qd;exact qd
theorem qgh{fa:Addr}{dV:Value}{fd:FuncData}(F:Fun2 K "all_sets" "all_sets" q00 dV fa fd){a_order_of:Addr}{fd_order_of:FuncData}(c_30:Cal P w K mg base "order_of" 1 ["some"] 1 yg a_order_of fd_order_of)(b_30:Binds K fd_order_of ["some"] []){a_set_of:Addr}{fd_set_of:FuncData}(c_32:Cal P w K mg base "set_of" 1 ["mark"] 1 wa a_set_of fd_set_of)(b_32:Binds K fd_set_of ["mark"] [])(n_sorted:mg "sorted" = none)(n_range:mg "range" = none): FnOk P w K mg base CX0 4 fa fd ["wares"] (spD K 1 yh):=
 F.okn (k:=3) (n:=1) (ar:=1) (k1:=4) (u:=q1e) qgg rfl rfl rfl fun cdv A outer s H E hr=>(by first|(with_reducible exact q7u c_30 b_30 c_32 b_32 n_sorted n_range hr)|exact q7u c_30 b_30 c_32 b_32 n_sorted n_range hr)
abbrev ve:Stmt:=top 26
noncomputable def q1s:List Str:=["mark","marks","other"]
theorem q3q:(q1s).Nodup:=by decide +kernel
theorem q9w:FnScope q1s ["mark","marks"] (qc ve):=⟨rfl,rfl,rfl,q3q,rfl,by decide +kernel,by decide +kernel⟩
noncomputable def jd:FS:=(sIf (zw oEq (eOp oBand (eV 0) (eV 2)) (eV 2)) (zd (eC (.bl true))) v5)
noncomputable def vf:FS:=(z8 (xm (jc (eV 1)) (bN 2) jd) (zd (eC (.bl false))))
noncomputable def vg:List D->Option D:=z9 3 vf
theorem q3r{fa:Addr}{cdv:Value}{A:Around}{outer:List Env}{s:Shared}{H:Hp}{E:XK}(hr:Room 0 (A.deeper (envOfC "is_above_one" (qc ve) s.heap.objs.size fa cdv))):
  PSs (zj CX0 P w K mg base q1s "is_above_one" (qc ve) fa cdv A outer s H E).nox (qp ve) (tDS K vf):=by
 unfold vf jd;refine(qi ?_ ?_);refine(k5 um rfl ?_ (qt q3q rfl (Or.inl rfl) (.inl rfl)) (qk ?_));refine(zm ?_);exact(q0 (pv 1));refine(xh ?_ (qk ?_) jg);refine(zv (wg hr.units) ?_ ?_);refine(qq qah ?_ ?_);exact(q0 (pv 0));exact(q0 (pv 2));exact(q0 (pv 2));exact(qw yu);refine(qk ?_);exact(qw yu)
theorem q9x{fa:Addr}{dV:Value}{fd:FuncData}(F:Fun2 K "is_above_one" "is_above_one" ve dV fa fd): FnOk P w K mg base CX0 1 fa fd ["mark","marks"] (spD K 2 vg):=
 F.okn (k:=0) (n:=3) (ar:=2) (k1:=1) (u:=vf) q9w rfl rfl rfl fun cdv A outer s H E hr=>(by first|(with_reducible exact q3r  hr)|exact q3r  hr)
abbrev jo:Stmt:=top 22
noncomputable def wb:List Str:=["wares","sets","marks","known"]
theorem ko:(wb).Nodup:=by decide +kernel
theorem q5x:FnScope wb ["wares","sets"] (qc jo):=⟨rfl,rfl,rfl,ko,rfl,by decide +kernel,by decide +kernel⟩
theorem q4k:(["some"]:List Str).Nodup:=by decide +kernel
theorem q4l:(["some","marks"]:List Str).Nodup:=by decide +kernel
theorem q4m:(["some","known","wares"]:List Str).Nodup:=by decide +kernel
noncomputable def xn:FS:=(z8 (zu 2 (eL (qu (jc (eV 1)) [none] (bN 0) zg (qf (qj 1 [] zf) (qa (eV 0) qe))))) (z8 (zu 3 (qf q7e (qa (eL (qu (jc (qf (qj 1 [] yh) (qa (eV 0) qe))) [none,some 2] (bN 0) (q0w (bT (qf (qj 2 [] vg) (qa (qf (qj 1 [] zf) (qa (eV 0) qe)) (qa (eV 1) qe))))) (x5 (qa (eV 0) (qa (eC (.bl true)) qe))))) qe))) (zd (qf ju (qa (eL (qu (qef (eV 3)) [none,some 3,some 0] (bN 0) (bT (qf (qj 3 [] zy) (qa (eV 0) (qa (eV 1) (qa (eV 2) qe))))) (eV 0))) qe)))))
noncomputable def xo:List D->Option D:=z9 4 xn
theorem q1h{fa:Addr}{cdv:Value}{A:Around}{outer:List Env}{s:Shared}{H:Hp}{E:XK}{a_mark_of:Addr}{fd_mark_of:FuncData}(c_26:Cal P w K mg base "mark_of" 1 ["some"] 1 zf a_mark_of fd_mark_of)(b_26:Binds K fd_mark_of ["some"] []){a_all_sets:Addr}{fd_all_sets:FuncData}(c_2:Cal P w K mg base "all_sets" 4 ["wares"] 1 yh a_all_sets fd_all_sets)(b_2:Binds K fd_all_sets ["wares"] []){a_is_greatest:Addr}{fd_is_greatest:FuncData}(c_11:Cal P w K mg base "is_greatest" 3 ["some","known","wares"] 3 zy a_is_greatest fd_is_greatest)(b_11:Binds K fd_is_greatest ["some","known","wares"] []){a_is_above_one:Addr}{fd_is_above_one:FuncData}(c_9:Cal P w K mg base "is_above_one" 1 ["mark","marks"] 2 vg a_is_above_one fd_is_above_one)(b_9:Binds K fd_is_above_one ["mark","marks"] [])(n_dict:mg "dict" = none)(n_tuple:mg "tuple" = none)(hr:Room 4 (A.deeper (envOfC "greatest_without" (qc jo) s.heap.objs.size fa cdv))):
  PSs (zj CX0 P w K mg base wb "greatest_without" (qc jo) fa cdv A outer s H E).nox (qp jo) (tDS K xn):=by
 unfold xn;refine(qi ?_ ?_);refine(ze (i:=2) ?_ ?_ ?_ ?_ ?_ ?_);exact ko;exact rfl;exact(Or.inr rfl);refine(j8 ?_);refine(zc (N':=["some"]) (cap:=[none]) rfl (z7 rfl rfl) (z0 rfl) ?_ (fun _ _ _ _ _=>(qt q4k rfl (Or.inl rfl) (.inr rfl))) (fun _ _ _ _ _=>vn) (fun _ _ _ _ _=>?_));refine(zm ?_);exact(q0 (pv 1));refine(qr c_26 b_26 hr (by decide) rfl ?_);walk_at "A";exact(q0 (pv 0));exact qd;exact rfl;walk_at "L";refine(qi ?_ ?_);refine(ze (i:=3) ?_ ?_ ?_ ?_ ?_ ?_);exact ko;exact rfl;exact(Or.inr rfl);refine(zp (qao rfl hr.units) rfl n_dict DL.boot_dict ?_);walk_at "A";refine(j8 ?_);refine(zc (N':=["some","marks"]) (cap:=[none,some 2]) rfl (z7 rfl rfl) (z0 rfl) ?_ (fun _ _ _ _ _=>(qt q4l rfl (Or.inl rfl) (.inr rfl))) (fun _ _ _ _ _=>(y8 ?_)) (fun _ _ _ _ _=>?_));refine(zm ?_);refine(qr c_2 b_2 hr (by decide) rfl ?_);walk_at "A";exact(q0 (pv 0));exact qd;refine(q07 ?_);refine(jm ?_);refine(qr c_9 b_9 hr (by decide) rfl ?_);walk_at "A";refine(qr c_26 b_26 hr (by decide) rfl ?_);walk_at "A";exact(q0 (pv 0));exact qd;walk_at "A";exact(q0 (pv 1));exact qd;refine(yl ?_);walk_at "A";exact(q0 (pv 0));walk_at "A";exact yu;exact qd;exact qd;exact rfl;walk_at "L";refine(qk ?_);refine(qw ?_);refine(zp (ji) rfl n_tuple DL.boot_tuple ?_);walk_at "A";refine(j8 ?_);refine(zc (N':=["some","known","wares"]) (cap:=[none,some 3,some 0]) rfl (z7 rfl rfl) (z0 rfl) ?_ (fun _ _ _ _ _=>(qt q4m rfl (Or.inl rfl) (.inr rfl))) (fun _ _ _ _ _=>(y8 ?_)) (fun _ _ _ _ _=>?_));refine(ql0 ?_);exact(q0 (pv 3));refine(jm ?_);refine(qr c_11 b_11 hr (by decide) rfl ?_);walk_at "A";exact(q0 (pv 0));walk_at "A";exact(q0 (pv 1));walk_at "A";exact(q0 (pv 2));exact qd;exact(q0 (pv 0));exact qd
theorem q5y{fa:Addr}{dV:Value}{fd:FuncData}(F:Fun2 K "greatest_without" "greatest_without" jo dV fa fd){a_mark_of:Addr}{fd_mark_of:FuncData}(c_26:Cal P w K mg base "mark_of" 1 ["some"] 1 zf a_mark_of fd_mark_of)(b_26:Binds K fd_mark_of ["some"] []){a_all_sets:Addr}{fd_all_sets:FuncData}(c_2:Cal P w K mg base "all_sets" 4 ["wares"] 1 yh a_all_sets fd_all_sets)(b_2:Binds K fd_all_sets ["wares"] []){a_is_greatest:Addr}{fd_is_greatest:FuncData}(c_11:Cal P w K mg base "is_greatest" 3 ["some","known","wares"] 3 zy a_is_greatest fd_is_greatest)(b_11:Binds K fd_is_greatest ["some","known","wares"] []){a_is_above_one:Addr}{fd_is_above_one:FuncData}(c_9:Cal P w K mg base "is_above_one" 1 ["mark","marks"] 2 vg a_is_above_one fd_is_above_one)(b_9:Binds K fd_is_above_one ["mark","marks"] [])(n_dict:mg "dict" = none)(n_tuple:mg "tuple" = none): FnOk P w K mg base CX0 5 fa fd ["wares","sets"] (spD K 2 xo):=
 F.okn (k:=4) (n:=4) (ar:=2) (k1:=5) (u:=xn) q5x rfl rfl rfl fun cdv A outer s H E hr=>(by first|(with_reducible exact q1h c_26 b_26 c_2 b_2 c_11 b_11 c_9 b_9 n_dict n_tuple hr)|exact q1h c_26 b_26 c_2 b_2 c_11 b_11 c_9 b_9 n_dict n_tuple hr)
abbrev kj:Stmt:=top 37
noncomputable def q46:List Str:=["_law_one","_law_other"]
theorem qew:(q46).Nodup:=by decide +kernel
theorem qex:FnScope q46 ["_law_one","_law_other"] (qc kj):=⟨rfl,rfl,rfl,qew,rfl,by decide +kernel,by decide +kernel⟩
theorem qax:(["_law_ware","_law_other"]:List Str).Nodup:=by decide +kernel
noncomputable def q0c:FS:=(zd (eOp oEq (qf vp (qa (eL (qu (jc (eV 0)) [none,some 1] (bN 0) (zw (oIn false) (eV 0) (eV 1)) (eV 0))) qe)) (qf vp (qa (eV 0) qe))))
noncomputable def jh:List D->Option D:=z9 2 q0c
theorem q6r{fa:Addr}{cdv:Value}{A:Around}{outer:List Env}{s:Shared}{H:Hp}{E:XK}(n_len:mg "len" = none)(hr:Room 0 (A.deeper (envOfC "_law_below" (qc kj) s.heap.objs.size fa cdv))):
  PSs (zj CX0 P w K mg base q46 "_law_below" (qc kj) fa cdv A outer s H E).nox (qp kj) (tDS K q0c):=by
 unfold q0c;refine(qk ?_);refine(qw ?_);refine(q20 (wg hr.units) ?_ ?_);refine(zo (xw) rfl n_len DL.j3 ?_);walk_at "A";refine(j8 ?_);refine(zc (N':=["_law_ware","_law_other"]) (cap:=[none,some 1]) rfl (z7 rfl rfl) (z0 rfl) ?_ (fun _ _ _ _ _=>(qt qax rfl (Or.inl rfl) (.inr rfl))) (fun _ _ _ _ _=>(y8 ?_)) (fun _ _ _ _ _=>?_));refine(zm ?_);exact(q0 (pv 0));refine(zv qp1 ?_ ?_);exact(q0 (pv 0));exact(q0 (pv 1));exact(q0 (pv 0));exact qd;refine(zo (xw) rfl n_len DL.j3 ?_);walk_at "A";exact(q0 (pv 0));exact qd
theorem qey{fa:Addr}{dV:Value}{fd:FuncData}(F:Fun2 K "_law_below" "_law_below" kj dV fa fd)(n_len:mg "len" = none): FnOk P w K mg base CX0 1 fa fd ["_law_one","_law_other"] (spD K 2 jh):=
 F.okn (k:=0) (n:=2) (ar:=2) (k1:=1) (u:=q0c) qex rfl rfl rfl fun cdv A outer s H E hr=>(by first|(with_reducible exact q6r n_len hr)|exact q6r n_len hr)
abbrev kl:Stmt:=top 38
noncomputable def q47:List Str:=["_law_sets_here","_law_one","_law_other"]
theorem q3h:(q47).Nodup:=by decide +kernel
theorem qez:FnScope q47 ["_law_sets_here"] (qc kl):=⟨rfl,rfl,rfl,q3h,rfl,by decide +kernel,by decide +kernel⟩
noncomputable def vh:FS:=(sIf (qi0 (zw qn2 (eV 1) (eV 2)) (bT (qf (qj 2 [] jh) (qa (eV 1) (qa (eV 2) qe))))) (zd (eC (.bl false))) v5)
noncomputable def yo:FS:=(xm (jc (eV 0)) (bN 2) vh)
noncomputable def q0d:FS:=(z8 (xm (jc (eV 0)) (bN 1) yo) (zd (eC (.bl true))))
noncomputable def km:List D->Option D:=z9 3 q0d
theorem q6s{fa:Addr}{cdv:Value}{A:Around}{outer:List Env}{s:Shared}{H:Hp}{E:XK}{a__law_below:Addr}{fd__law_below:FuncData}(c_15:Cal P w K mg base "_law_below" 1 ["_law_one","_law_other"] 2 jh a__law_below fd__law_below)(b_15:Binds K fd__law_below ["_law_one","_law_other"] [])(hr:Room 1 (A.deeper (envOfC "_law_apart" (qc kl) s.heap.objs.size fa cdv))):
  PSs (zj CX0 P w K mg base q47 "_law_apart" (qc kl) fa cdv A outer s H E).nox (qp kl) (tDS K q0d):=by
 unfold q0d yo vh;refine(qi ?_ ?_);refine(k5 um rfl ?_ (qt q3h rfl (Or.inl rfl) (.inl rfl)) (qk ?_));refine(zm ?_);exact(q0 (pv 0));refine(k5 um rfl ?_ (qt q3h rfl (Or.inl rfl) (.inl rfl)) (qk ?_));refine(zm ?_);exact(q0 (pv 0));refine(xh ?_ (qk ?_) jg);refine(PW.pt (qjx ?_ (qh0 ?_)));refine(zv (qtc hr.units) ?_ ?_);exact(q0 (pv 1));exact(q0 (pv 2));refine(jm ?_);refine(qr c_15 b_15 hr (by decide) rfl ?_);walk_at "A";exact(q0 (pv 1));walk_at "A";exact(q0 (pv 2));exact qd;exact(qw yu);refine(qk ?_);exact(qw yu)
theorem qf0{fa:Addr}{dV:Value}{fd:FuncData}(F:Fun2 K "_law_apart" "_law_apart" kl dV fa fd){a__law_below:Addr}{fd__law_below:FuncData}(c_15:Cal P w K mg base "_law_below" 1 ["_law_one","_law_other"] 2 jh a__law_below fd__law_below)(b_15:Binds K fd__law_below ["_law_one","_law_other"] []): FnOk P w K mg base CX0 2 fa fd ["_law_sets_here"] (spD K 1 km):=
 F.okn (k:=1) (n:=3) (ar:=1) (k1:=2) (u:=q0d) qez rfl rfl rfl fun cdv A outer s H E hr=>(by first|(with_reducible exact q6s c_15 b_15 hr)|exact q6s c_15 b_15 hr)
abbrev y4:Stmt:=top 24
noncomputable def q2c:List Str:=["some","known"]
theorem qay:(q2c).Nodup:=by decide +kernel
theorem qaz:FnScope q2c ["some","known"] (qc y4):=⟨rfl,rfl,rfl,qay,rfl,by decide +kernel,by decide +kernel⟩
theorem q8q:(["shorter","known"]:List Str).Nodup:=by decide +kernel
noncomputable def k8:FS:=(zd (qd9 (qf qde (qa (eL (qu (jc (qf (qj 1 [] zx) (qa (eV 0) qe))) [none,some 1] (bN 0) zg (eOp q1k (eV 0) (eV 1)))) qe))))
noncomputable def y6:List D->Option D:=z9 2 k8
theorem q4n{fa:Addr}{cdv:Value}{A:Around}{outer:List Env}{s:Shared}{H:Hp}{E:XK}{a_one_ware_fewer:Addr}{fd_one_ware_fewer:FuncData}(c_28:Cal P w K mg base "one_ware_fewer" 1 ["some"] 1 zx a_one_ware_fewer fd_one_ware_fewer)(b_28:Binds K fd_one_ware_fewer ["some"] [])(n_any:mg "any" = none)(hr:Room 1 (A.deeper (envOfC "is_smallest" (qc y4) s.heap.objs.size fa cdv))):
  PSs (zj CX0 P w K mg base q2c "is_smallest" (qc y4) fa cdv A outer s H E).nox (qp y4) (tDS K k8):=by
 unfold k8;refine(qk ?_);refine(qw ?_);refine(qdb ?_);refine(zo (qk6 rfl) rfl n_any DL.boot_any ?_);walk_at "A";refine(j8 ?_);refine(zc (N':=["shorter","known"]) (cap:=[none,some 1]) rfl (z7 rfl rfl) (z0 rfl) ?_ (fun _ _ _ _ _=>(qt q8q rfl (Or.inl rfl) (.inr rfl))) (fun _ _ _ _ _=>vn) (fun _ _ _ _ _=>?_));refine(zm ?_);refine(qr c_28 b_28 hr (by decide) rfl ?_);walk_at "A";exact(q0 (pv 0));exact qd;refine(q20 (qed hr.units) ?_ ?_);exact(q0 (pv 0));exact(q0 (pv 1));exact qd
theorem qb0{fa:Addr}{dV:Value}{fd:FuncData}(F:Fun2 K "is_smallest" "is_smallest" y4 dV fa fd){a_one_ware_fewer:Addr}{fd_one_ware_fewer:FuncData}(c_28:Cal P w K mg base "one_ware_fewer" 1 ["some"] 1 zx a_one_ware_fewer fd_one_ware_fewer)(b_28:Binds K fd_one_ware_fewer ["some"] [])(n_any:mg "any" = none): FnOk P w K mg base CX0 2 fa fd ["some","known"] (spD K 2 y6):=
 F.okn (k:=1) (n:=2) (ar:=2) (k1:=2) (u:=k8) qaz rfl rfl rfl fun cdv A outer s H E hr=>(by first|(with_reducible exact q4n c_28 b_28 n_any hr)|exact q4n c_28 b_28 n_any hr)
abbrev vi:Stmt:=top 25
noncomputable def q1t:List Str:=["mark","marks","other"]
theorem q3s:(q1t).Nodup:=by decide +kernel
theorem q9y:FnScope q1t ["mark","marks"] (qc vi):=⟨rfl,rfl,rfl,q3s,rfl,by decide +kernel,by decide +kernel⟩
noncomputable def je:FS:=(sIf (zw oEq (eOp oBand (eV 0) (eV 2)) (eV 0)) (zd (eC (.bl true))) v5)
noncomputable def vj:FS:=(z8 (xm (jc (eV 1)) (bN 2) je) (zd (eC (.bl false))))
noncomputable def vm:List D->Option D:=z9 3 vj
theorem q3t{fa:Addr}{cdv:Value}{A:Around}{outer:List Env}{s:Shared}{H:Hp}{E:XK}(hr:Room 0 (A.deeper (envOfC "is_below_one" (qc vi) s.heap.objs.size fa cdv))):
  PSs (zj CX0 P w K mg base q1t "is_below_one" (qc vi) fa cdv A outer s H E).nox (qp vi) (tDS K vj):=by
 unfold vj je;refine(qi ?_ ?_);refine(k5 um rfl ?_ (qt q3s rfl (Or.inl rfl) (.inl rfl)) (qk ?_));refine(zm ?_);exact(q0 (pv 1));refine(xh ?_ (qk ?_) jg);refine(zv (wg hr.units) ?_ ?_);refine(qq qah ?_ ?_);exact(q0 (pv 0));exact(q0 (pv 2));exact(q0 (pv 0));exact(qw yu);refine(qk ?_);exact(qw yu)
theorem q9z{fa:Addr}{dV:Value}{fd:FuncData}(F:Fun2 K "is_below_one" "is_below_one" vi dV fa fd): FnOk P w K mg base CX0 1 fa fd ["mark","marks"] (spD K 2 vm):=
 F.okn (k:=0) (n:=3) (ar:=2) (k1:=1) (u:=vj) q9y rfl rfl rfl fun cdv A outer s H E hr=>(by first|(with_reducible exact q3t  hr)|exact q3t  hr)
abbrev jy:Stmt:=top 21
noncomputable def q05:List Str:=["wares","sets","marks","known"]
theorem wc:(q05).Nodup:=by decide +kernel
theorem q6t:FnScope q05 ["wares","sets"] (qc jy):=⟨rfl,rfl,rfl,wc,rfl,by decide +kernel,by decide +kernel⟩
theorem q5l:(["some"]:List Str).Nodup:=by decide +kernel
theorem q5m:(["some","marks"]:List Str).Nodup:=by decide +kernel
theorem q5n:(["some","known"]:List Str).Nodup:=by decide +kernel
noncomputable def xx:FS:=(z8 (zu 2 (eL (qu (jc (eV 1)) [none] (bN 0) zg (qf (qj 1 [] zf) (qa (eV 0) qe))))) (z8 (zu 3 (qf q7e (qa (eL (qu (jc (qf (qj 1 [] yh) (qa (eV 0) qe))) [none,some 2] (bN 0) (q0w (bT (qf (qj 2 [] vm) (qa (qf (qj 1 [] zf) (qa (eV 0) qe)) (qa (eV 1) qe))))) (x5 (qa (eV 0) (qa (eC (.bl true)) qe))))) qe))) (zd (qf ju (qa (eL (qu (qef (eV 3)) [none,some 3] (bN 0) (bT (qf (qj 2 [] y6) (qa (eV 0) (qa (eV 1) qe)))) (eV 0))) qe)))))
noncomputable def xy:List D->Option D:=z9 4 xx
theorem q27{fa:Addr}{cdv:Value}{A:Around}{outer:List Env}{s:Shared}{H:Hp}{E:XK}{a_mark_of:Addr}{fd_mark_of:FuncData}(c_26:Cal P w K mg base "mark_of" 1 ["some"] 1 zf a_mark_of fd_mark_of)(b_26:Binds K fd_mark_of ["some"] []){a_all_sets:Addr}{fd_all_sets:FuncData}(c_2:Cal P w K mg base "all_sets" 4 ["wares"] 1 yh a_all_sets fd_all_sets)(b_2:Binds K fd_all_sets ["wares"] []){a_is_smallest:Addr}{fd_is_smallest:FuncData}(c_12:Cal P w K mg base "is_smallest" 2 ["some","known"] 2 y6 a_is_smallest fd_is_smallest)(b_12:Binds K fd_is_smallest ["some","known"] []){a_is_below_one:Addr}{fd_is_below_one:FuncData}(c_10:Cal P w K mg base "is_below_one" 1 ["mark","marks"] 2 vm a_is_below_one fd_is_below_one)(b_10:Binds K fd_is_below_one ["mark","marks"] [])(n_dict:mg "dict" = none)(n_tuple:mg "tuple" = none)(hr:Room 4 (A.deeper (envOfC "smallest_beyond" (qc jy) s.heap.objs.size fa cdv))):
  PSs (zj CX0 P w K mg base q05 "smallest_beyond" (qc jy) fa cdv A outer s H E).nox (qp jy) (tDS K xx):=by
 unfold xx;refine(qi ?_ ?_);refine(ze (i:=2) ?_ ?_ ?_ ?_ ?_ ?_);exact wc;exact rfl;exact(Or.inr rfl);refine(j8 ?_);refine(zc (N':=["some"]) (cap:=[none]) rfl (z7 rfl rfl) (z0 rfl) ?_ (fun _ _ _ _ _=>(qt q5l rfl (Or.inl rfl) (.inr rfl))) (fun _ _ _ _ _=>vn) (fun _ _ _ _ _=>?_));refine(zm ?_);exact(q0 (pv 1));refine(qr c_26 b_26 hr (by decide) rfl ?_);walk_at "A";exact(q0 (pv 0));exact qd;exact rfl;walk_at "L";refine(qi ?_ ?_);refine(ze (i:=3) ?_ ?_ ?_ ?_ ?_ ?_);exact wc;exact rfl;exact(Or.inr rfl);refine(zp (qao rfl hr.units) rfl n_dict DL.boot_dict ?_);walk_at "A";refine(j8 ?_);refine(zc (N':=["some","marks"]) (cap:=[none,some 2]) rfl (z7 rfl rfl) (z0 rfl) ?_ (fun _ _ _ _ _=>(qt q5m rfl (Or.inl rfl) (.inr rfl))) (fun _ _ _ _ _=>(y8 ?_)) (fun _ _ _ _ _=>?_));refine(zm ?_);refine(qr c_2 b_2 hr (by decide) rfl ?_);walk_at "A";exact(q0 (pv 0));exact qd;refine(q07 ?_);refine(jm ?_);refine(qr c_10 b_10 hr (by decide) rfl ?_);walk_at "A";refine(qr c_26 b_26 hr (by decide) rfl ?_);walk_at "A";exact(q0 (pv 0));exact qd;walk_at "A";exact(q0 (pv 1));exact qd;refine(yl ?_);walk_at "A";exact(q0 (pv 0));walk_at "A";exact yu;exact qd;exact qd;exact rfl;walk_at "L";refine(qk ?_);refine(qw ?_);refine(zp (ji) rfl n_tuple DL.boot_tuple ?_);walk_at "A";refine(j8 ?_);refine(zc (N':=["some","known"]) (cap:=[none,some 3]) rfl (z7 rfl rfl) (z0 rfl) ?_ (fun _ _ _ _ _=>(qt q5n rfl (Or.inl rfl) (.inr rfl))) (fun _ _ _ _ _=>(y8 ?_)) (fun _ _ _ _ _=>?_));refine(ql0 ?_);exact(q0 (pv 3));refine(jm ?_);refine(qr c_12 b_12 hr (by decide) rfl ?_);walk_at "A";exact(q0 (pv 0));walk_at "A";exact(q0 (pv 1));exact qd;exact(q0 (pv 0));exact qd
theorem q6u{fa:Addr}{dV:Value}{fd:FuncData}(F:Fun2 K "smallest_beyond" "smallest_beyond" jy dV fa fd){a_mark_of:Addr}{fd_mark_of:FuncData}(c_26:Cal P w K mg base "mark_of" 1 ["some"] 1 zf a_mark_of fd_mark_of)(b_26:Binds K fd_mark_of ["some"] []){a_all_sets:Addr}{fd_all_sets:FuncData}(c_2:Cal P w K mg base "all_sets" 4 ["wares"] 1 yh a_all_sets fd_all_sets)(b_2:Binds K fd_all_sets ["wares"] []){a_is_smallest:Addr}{fd_is_smallest:FuncData}(c_12:Cal P w K mg base "is_smallest" 2 ["some","known"] 2 y6 a_is_smallest fd_is_smallest)(b_12:Binds K fd_is_smallest ["some","known"] []){a_is_below_one:Addr}{fd_is_below_one:FuncData}(c_10:Cal P w K mg base "is_below_one" 1 ["mark","marks"] 2 vm a_is_below_one fd_is_below_one)(b_10:Binds K fd_is_below_one ["mark","marks"] [])(n_dict:mg "dict" = none)(n_tuple:mg "tuple" = none): FnOk P w K mg base CX0 5 fa fd ["wares","sets"] (spD K 2 xy):=
 F.okn (k:=4) (n:=4) (ar:=2) (k1:=5) (u:=xx) q6t rfl rfl rfl fun cdv A outer s H E hr=>(by first|(with_reducible exact q27 c_26 b_26 c_2 b_2 c_12 b_12 c_10 b_10 n_dict n_tuple hr)|exact q27 c_26 b_26 c_2 b_2 c_12 b_12 c_10 b_10 n_dict n_tuple hr)
abbrev q7g:Stmt:=top 40
noncomputable def qiw:List Str:=["_law_script","_law_pile_here","_law_least_here","_law_upper","_law_lower","_law_some","_law_below_here","_law_above","_law_turned_about"]
theorem q1f:(qiw).Nodup:=by decide +kernel
theorem qtx:FnScope qiw ["_law_script"] (qc q7g):=⟨rfl,rfl,rfl,q1f,rfl,by decide +kernel,by decide +kernel⟩
theorem qoa:(["_law_one","_law_some"]:List Str).Nodup:=by decide +kernel
theorem qob:(["_law_one","_law_some"]:List Str).Nodup:=by decide +kernel
noncomputable def q3i:FS:=(z8 (zu 6 (eOp oGt (qf vp (qa (eL (qu (jc (eV 3)) [none,some 5] (bN 0) (bT (qf (qj 2 [] jh) (qa (eV 1) (qa (eV 0) qe)))) (eV 0))) qe)) (eC (.int 0)))) (z8 (zu 7 (eOp oGt (qf vp (qa (eL (qu (jc (eV 4)) [none,some 5] (bN 0) (bT (qf (qj 2 [] jh) (qa (eV 0) (qa (eV 1) qe)))) (eV 0))) qe)) (eC (.int 0)))) (sIf (bOr (zw oEq (eV 6) (eV 7)) (zw q4s (eV 6) (eOp oGe (qf (qj 2 [] v9) (qa (eV 1) (qa (eV 5) qe))) (eV 2)))) (zd (eC (.bl false))) v5)))
noncomputable def qa0:FS:=(z8 (zu 1 (qf (qj 2 [] q13) (qa (eV 0) (qa (eC (.int 6)) qe)))) (z8 (zu 2 (qf (qj 2 [] va) (qa (eV 0) (qa (eV 1) qe)))) (z8 (zu 3 (qf (qj 2 [] ki) (qa (qf (qj 2 [] q1c) (qa (eV 1) (qa (eV 2) qe))) (qa (eOp oIx (eV 1) (eC (.int 0))) qe)))) (z8 (zu 4 (qf (qj 2 [] ki) (qa (qf (qj 2 [] q3f) (qa (eV 1) (qa (eV 2) qe))) (qa (eOp oIx (eV 1) (eC (.int 0))) qe)))) (z8 (sIf (bOr (zw (oIs false) (eV 3) (eC .non)) (bOr (zw (oIs false) (eV 4) (eC .non)) (bOr (q0w (bT (qf (qj 1 [] km) (qa (eV 3) qe)))) (q0w (bT (qf (qj 1 [] km) (qa (eV 4) qe))))))) (zd (eC (.bl false))) v5) (z8 (xm (jc (qf (qj 1 [] q15) (qa (eOp oIx (eV 1) (eC (.int 0))) qe))) (bN 5) q3i) (z8 (zu 8 (eL (q2y (qa (qct (eV 3)) (qa (qct (eV 4)) qe))))) (z8 (sIf (q0w (bT (qf (qj 2 [] q16) (qa (qf (qj 2 [] xy) (qa (eOp oIx (eV 1) (eC (.int 0))) (qa (qf ju (qa (eOp oIx (eV 8) (eC (.int 0))) qe)) qe))) (qa (qf ju (qa (eV 4) qe)) qe))))) (zd (eC (.bl false))) v5) (zd (qf (qj 2 [] q16) (qa (qf (qj 2 [] xo) (qa (eOp oIx (eV 1) (eC (.int 0))) (qa (qf ju (qa (eOp oIx (eV 8) (eC (.int 1))) qe)) qe))) (qa (qf ju (qa (eV 3) qe)) qe))))))))))))
noncomputable def qix:List D->Option D:=z9 9 qa0
theorem qlf{fa:Addr}{cdv:Value}{A:Around}{outer:List Env}{s:Shared}{H:Hp}{E:XK}{a__law_pile:Addr}{fd__law_pile:FuncData}(c_20:Cal P w K mg base "_law_pile" 3 ["_law_script","_law_most_wares"] 2 q13 a__law_pile fd__law_pile)(b_20:Binds K fd__law_pile ["_law_script","_law_most_wares"] []){a__law_least:Addr}{fd__law_least:FuncData}(c_18:Cal P w K mg base "_law_least" 2 ["_law_script","_law_pile_here"] 2 va a__law_least fd__law_least)(b_18:Binds K fd__law_least ["_law_script","_law_pile_here"] []){a__law_first:Addr}{fd__law_first:FuncData}(c_17:Cal P w K mg base "_law_first" 1 ["_law_pairs","_law_wares"] 2 ki a__law_first fd__law_first)(b_17:Binds K fd__law_first ["_law_pairs","_law_wares"] []){a__law_sets:Addr}{fd__law_sets:FuncData}(c_25:Cal P w K mg base "_law_sets" 4 ["_law_wares"] 1 q15 a__law_sets fd__law_sets)(b_25:Binds K fd__law_sets ["_law_wares"] []){a__law_same:Addr}{fd__law_same:FuncData}(c_23:Cal P w K mg base "_law_same" 17 ["_law_found","_law_due"] 2 q16 a__law_same fd__law_same)(b_23:Binds K fd__law_same ["_law_found","_law_due"] []){a_greatest:Addr}{fd_greatest:FuncData}(c_6:Cal P w K mg base "greatest" 5 ["pile","least"] 2 q1c a_greatest fd_greatest)(b_6:Binds K fd_greatest ["pile","least"] []){a_seldom:Addr}{fd_seldom:FuncData}(c_31:Cal P w K mg base "seldom" 4 ["pile","least"] 2 q3f a_seldom fd_seldom)(b_31:Binds K fd_seldom ["pile","least"] []){a_greatest_without:Addr}{fd_greatest_without:FuncData}(c_7:Cal P w K mg base "greatest_without" 5 ["wares","sets"] 2 xo a_greatest_without fd_greatest_without)(b_7:Binds K fd_greatest_without ["wares","sets"] []){a__law_apart:Addr}{fd__law_apart:FuncData}(c_14:Cal P w K mg base "_law_apart" 2 ["_law_sets_here"] 1 km a__law_apart fd__law_apart)(b_14:Binds K fd__law_apart ["_law_sets_here"] []){a_smallest_beyond:Addr}{fd_smallest_beyond:FuncData}(c_33:Cal P w K mg base "smallest_beyond" 5 ["wares","sets"] 2 xy a_smallest_beyond fd_smallest_beyond)(b_33:Binds K fd_smallest_beyond ["wares","sets"] []){a__law_count:Addr}{fd__law_count:FuncData}(c_16:Cal P w K mg base "_law_count" 1 ["_law_pile_here","_law_some"] 2 v9 a__law_count fd__law_count)(b_16:Binds K fd__law_count ["_law_pile_here","_law_some"] []){a__law_below:Addr}{fd__law_below:FuncData}(c_15:Cal P w K mg base "_law_below" 1 ["_law_one","_law_other"] 2 jh a__law_below fd__law_below)(b_15:Binds K fd__law_below ["_law_one","_law_other"] [])(n_list:mg "list" = none)(n_tuple:mg "tuple" = none)(n_len:mg "len" = none)(n_reversed:mg "reversed" = none)(hr:Room 17 (A.deeper (envOfC "law" (qc q7g) s.heap.objs.size fa cdv))):
  PSs (zj CX0 P w K mg base qiw "law" (qc q7g) fa cdv A outer s H E).nox (qp q7g) (tDS K qa0):=by
 unfold qa0 q3i;refine(qi ?_ ?_);refine(ze (i:=1) ?_ ?_ ?_ ?_ ?_ ?_);exact q1f;exact rfl;exact(Or.inl rfl);refine(qr c_20 b_20 hr (by decide) rfl ?_);walk_at "A";exact(q0 (pv 0));walk_at "A";exact qg;exact qd;exact rfl;walk_at "L";refine(qi ?_ ?_);refine(ze (i:=2) ?_ ?_ ?_ ?_ ?_ ?_);exact q1f;exact rfl;exact(Or.inl rfl);refine(qr c_18 b_18 hr (by decide) rfl ?_);walk_at "A";exact(q0 (pv 0));walk_at "A";exact(q0 (pv 1));exact qd;exact rfl;walk_at "L";refine(qi ?_ ?_);refine(ze (i:=3) ?_ ?_ ?_ ?_ ?_ ?_);exact q1f;exact rfl;exact(Or.inl rfl);refine(qr c_17 b_17 hr (by decide) rfl ?_);walk_at "A";refine(qr c_6 b_6 hr (by decide) rfl ?_);walk_at "A";exact(q0 (pv 1));walk_at "A";exact(q0 (pv 2));exact qd;walk_at "A";refine(jq ?_ qg);exact(q0 (pv 1));exact qd;exact rfl;walk_at "L";refine(qi ?_ ?_);refine(ze (i:=4) ?_ ?_ ?_ ?_ ?_ ?_);exact q1f;exact rfl;exact(Or.inl rfl);refine(qr c_17 b_17 hr (by decide) rfl ?_);walk_at "A";refine(qr c_31 b_31 hr (by decide) rfl ?_);walk_at "A";exact(q0 (pv 1));walk_at "A";exact(q0 (pv 2));exact qd;walk_at "A";refine(jq ?_ qg);exact(q0 (pv 1));exact qd;exact rfl;walk_at "L";refine(qi ?_ ?_);refine(xh ?_ (qk ?_) jg);refine(PW.pt (q4t ?_ (q4t ?_ (q4t ?_ (q92 ?_)))));refine(zv (qp2 rfl) ?_ q8z);exact(q0 (pv 3));refine(zv (qp2 rfl) ?_ q8z);exact(q0 (pv 4));refine(q07 ?_);refine(jm ?_);refine(qr c_14 b_14 hr (by decide) rfl ?_);walk_at "A";exact(q0 (pv 3));exact qd;refine(q07 ?_);refine(jm ?_);refine(qr c_14 b_14 hr (by decide) rfl ?_);walk_at "A";exact(q0 (pv 4));exact qd;exact(qw yu);refine(qi ?_ ?_);refine(k5 um rfl ?_ (qt q1f rfl (Or.inr rfl) (.inl rfl)) (qi ?_ ?_));refine(zm ?_);refine(qr c_25 b_25 hr (by decide) rfl ?_);walk_at "A";refine(jq ?_ qg);exact(q0 (pv 1));exact qd;refine(ze (i:=6) ?_ ?_ ?_ ?_ ?_ ?_);exact q1f;exact rfl;exact(Or.inl rfl);refine(q20 q76 ?_ qg);refine(zo (xw) rfl n_len DL.j3 ?_);walk_at "A";refine(j8 ?_);refine(zc (N':=["_law_one","_law_some"]) (cap:=[none,some 5]) rfl (z7 rfl rfl) (z0 rfl) ?_ (fun _ _ _ _ _=>(qt qoa rfl (Or.inl rfl) (.inr rfl))) (fun _ _ _ _ _=>(y8 ?_)) (fun _ _ _ _ _=>?_));refine(zm ?_);exact(q0 (pv 3));refine(jm ?_);refine(qr c_15 b_15 hr (by decide) rfl ?_);walk_at "A";exact(q0 (pv 1));walk_at "A";exact(q0 (pv 0));exact qd;exact(q0 (pv 0));exact qd;exact rfl;walk_at "L";refine(qi ?_ ?_);refine(ze (i:=7) ?_ ?_ ?_ ?_ ?_ ?_);exact q1f;exact rfl;exact(Or.inl rfl);refine(q20 q76 ?_ qg);refine(zo (xw) rfl n_len DL.j3 ?_);walk_at "A";refine(j8 ?_);refine(zc (N':=["_law_one","_law_some"]) (cap:=[none,some 5]) rfl (z7 rfl rfl) (z0 rfl) ?_ (fun _ _ _ _ _=>(qt qob rfl (Or.inl rfl) (.inr rfl))) (fun _ _ _ _ _=>(y8 ?_)) (fun _ _ _ _ _=>?_));refine(zm ?_);exact(q0 (pv 4));refine(jm ?_);refine(qr c_15 b_15 hr (by decide) rfl ?_);walk_at "A";exact(q0 (pv 0));walk_at "A";exact(q0 (pv 1));exact qd;exact(q0 (pv 0));exact qd;exact rfl;walk_at "L";refine(qk ?_);refine(xh ?_ (qk ?_) jg);refine(PW.pt (q4t ?_ (q92 ?_)));refine(zv (wg hr.units) ?_ ?_);exact(q0 (pv 6));exact(q0 (pv 7));refine(zv q91 ?_ ?_);exact(q0 (pv 6));refine(q20 qow ?_ ?_);refine(qr c_16 b_16 hr (by decide) rfl ?_);walk_at "A";exact(q0 (pv 1));walk_at "A";exact(q0 (pv 5));exact qd;exact(q0 (pv 2));exact(qw yu);refine(qi ?_ ?_);refine(ze (i:=8) ?_ ?_ ?_ ?_ ?_ ?_);exact q1f;exact rfl;exact(Or.inl rfl);refine(j8 ?_);refine(q0x ?_);walk_at "A";refine(q9o rfl rfl n_list rfl n_reversed ?_);exact(q0 (pv 3));walk_at "A";refine(q9o rfl rfl n_list rfl n_reversed ?_);exact(q0 (pv 4));exact qd;exact rfl;walk_at "L";refine(qi ?_ ?_);refine(xh ?_ (qk ?_) jg);refine(q07 ?_);refine(jm ?_);refine(qr c_23 b_23 hr (by decide) rfl ?_);walk_at "A";refine(qr c_33 b_33 hr (by decide) rfl ?_);walk_at "A";refine(jq ?_ qg);exact(q0 (pv 1));walk_at "A";refine(zp (ji) rfl n_tuple DL.boot_tuple ?_);walk_at "A";refine(jq ?_ qg);exact(q0 (pv 8));exact qd;exact qd;walk_at "A";refine(zp (ji) rfl n_tuple DL.boot_tuple ?_);walk_at "A";exact(q0 (pv 4));exact qd;exact qd;exact(qw yu);refine(qk ?_);refine(qw ?_);refine(qr c_23 b_23 hr (by decide) rfl ?_);walk_at "A";refine(qr c_7 b_7 hr (by decide) rfl ?_);walk_at "A";refine(jq ?_ qg);exact(q0 (pv 1));walk_at "A";refine(zp (ji) rfl n_tuple DL.boot_tuple ?_);walk_at "A";refine(jq ?_ qg);exact(q0 (pv 8));exact qd;exact qd;walk_at "A";refine(zp (ji) rfl n_tuple DL.boot_tuple ?_);walk_at "A";exact(q0 (pv 3));exact qd;exact qd
theorem qty{fa:Addr}{dV:Value}{fd:FuncData}(F:Fun2 K "law" "law" q7g dV fa fd){a__law_pile:Addr}{fd__law_pile:FuncData}(c_20:Cal P w K mg base "_law_pile" 3 ["_law_script","_law_most_wares"] 2 q13 a__law_pile fd__law_pile)(b_20:Binds K fd__law_pile ["_law_script","_law_most_wares"] []){a__law_least:Addr}{fd__law_least:FuncData}(c_18:Cal P w K mg base "_law_least" 2 ["_law_script","_law_pile_here"] 2 va a__law_least fd__law_least)(b_18:Binds K fd__law_least ["_law_script","_law_pile_here"] []){a__law_first:Addr}{fd__law_first:FuncData}(c_17:Cal P w K mg base "_law_first" 1 ["_law_pairs","_law_wares"] 2 ki a__law_first fd__law_first)(b_17:Binds K fd__law_first ["_law_pairs","_law_wares"] []){a__law_sets:Addr}{fd__law_sets:FuncData}(c_25:Cal P w K mg base "_law_sets" 4 ["_law_wares"] 1 q15 a__law_sets fd__law_sets)(b_25:Binds K fd__law_sets ["_law_wares"] []){a__law_same:Addr}{fd__law_same:FuncData}(c_23:Cal P w K mg base "_law_same" 17 ["_law_found","_law_due"] 2 q16 a__law_same fd__law_same)(b_23:Binds K fd__law_same ["_law_found","_law_due"] []){a_greatest:Addr}{fd_greatest:FuncData}(c_6:Cal P w K mg base "greatest" 5 ["pile","least"] 2 q1c a_greatest fd_greatest)(b_6:Binds K fd_greatest ["pile","least"] []){a_seldom:Addr}{fd_seldom:FuncData}(c_31:Cal P w K mg base "seldom" 4 ["pile","least"] 2 q3f a_seldom fd_seldom)(b_31:Binds K fd_seldom ["pile","least"] []){a_greatest_without:Addr}{fd_greatest_without:FuncData}(c_7:Cal P w K mg base "greatest_without" 5 ["wares","sets"] 2 xo a_greatest_without fd_greatest_without)(b_7:Binds K fd_greatest_without ["wares","sets"] []){a__law_apart:Addr}{fd__law_apart:FuncData}(c_14:Cal P w K mg base "_law_apart" 2 ["_law_sets_here"] 1 km a__law_apart fd__law_apart)(b_14:Binds K fd__law_apart ["_law_sets_here"] []){a_smallest_beyond:Addr}{fd_smallest_beyond:FuncData}(c_33:Cal P w K mg base "smallest_beyond" 5 ["wares","sets"] 2 xy a_smallest_beyond fd_smallest_beyond)(b_33:Binds K fd_smallest_beyond ["wares","sets"] []){a__law_count:Addr}{fd__law_count:FuncData}(c_16:Cal P w K mg base "_law_count" 1 ["_law_pile_here","_law_some"] 2 v9 a__law_count fd__law_count)(b_16:Binds K fd__law_count ["_law_pile_here","_law_some"] []){a__law_below:Addr}{fd__law_below:FuncData}(c_15:Cal P w K mg base "_law_below" 1 ["_law_one","_law_other"] 2 jh a__law_below fd__law_below)(b_15:Binds K fd__law_below ["_law_one","_law_other"] [])(n_list:mg "list" = none)(n_tuple:mg "tuple" = none)(n_len:mg "len" = none)(n_reversed:mg "reversed" = none): FnOk P w K mg base CX0 18 fa fd ["_law_script"] (spD K 1 qix):=
 F.okn (k:=17) (n:=9) (ar:=1) (k1:=18) (u:=qa0) qtx rfl rfl rfl fun cdv A outer s H E hr=>(by first|(with_reducible exact qlf c_20 b_20 c_18 b_18 c_17 b_17 c_25 b_25 c_23 b_23 c_6 b_6 c_31 b_31 c_7 b_7 c_14 b_14 c_33 b_33 c_16 b_16 c_15 b_15 n_list n_tuple n_len n_reversed hr)|exact qlf c_20 b_20 c_18 b_18 c_17 b_17 c_25 b_25 c_23 b_23 c_6 b_6 c_31 b_31 c_7 b_7 c_14 b_14 c_33 b_33 c_16 b_16 c_15 b_15 n_list n_tuple n_len n_reversed hr)
end
end My
open PySem PyProof.Rows L2 DL
local macro_rules | `(tactic| simp! [$a,*])=> `(tactic| simp (config:={decide:=true,implicitDefEqProofs:=false}) only [z9,z8,sIf,zu,zd,quq,v5,q3v,qvs,qvt,qur,xm,q4v,qut,eOp,eC,eV0,eVs,qf,qa,qe,x5,eL,q2y,q9a,eSl,oNo,oAt,qw0,qi0,zw,q0w,bT,bOr,qi1,eOr,qd9,eIf,q4y,qr2,eUn,isB,qd8,qae,qp6,qv6,qw1,frzs,jc,q83,qj,quw,qvw,bN,q0z,xi,q0y,q02,qsy,gf,g0s,pz,g1w,mn,Nat.reduceAdd,Nat.reduceSub,Nat.reduceEqDiff,List.replicate,g3i,g0l,g2j,List.set_cons_zero,List.set_cons_succ,List.set_nil,g39,g38,m4,Option.bind_none,p6,Option.map_none,g3g,Option.join_none,q8c,qnz,ql2,qo0,wm,qfw,qar,qqv,qtq,qqw,qqx,qho,qqy,vw,qo7,nj,p8,g5u,g5a,gr,g0o,g26,and_true,true_and,and_self,ite_true,ite_false,Int.reduceSub,Int.reduceMod,Int.reduceAdd,Int.reduceDiv,Int.reducePow,Int.reduceMul,Int.reduceNeg,Int.reduceEq,Int.reduceLT,Int.reduceLE,Int.reduceToNat,qw2,qtv,qqz,qr0,qr1,qo2,reduceCtorEq,List.isEmpty_nil,List.isEmpty_cons,List.isEmpty_iff, $a,*])
namespace My
open PySem PyProof.Rows L2 DL
abbrev TI(ns:List Int): D:=.tup (ns.map .int)
def bit(m i:Nat): Bool:=m / 2 ^ i%2==1
def qh(n m:Nat): List Int:=((List.range n).filter fun i=>bit m i).map fun i:Nat=>(i:Int)
def mk(b:List Int): Int:=(b.map fun x=>(2:Int) ^ x.toNat).sum
theorem q7h(a b:Nat): Builtin.bitAnd (a:Int) (b:Int)=((a &&& b:Nat):Int):=by
 unfold Builtin.bitAnd;rw [mq (by lia:(0:Int)<=(a:Int)),mq (by lia:(0:Int)<=(b:Int))];simp
theorem qbv(a b:Nat): oBand (.int (a:Int)) (.int (b:Int))=some (.int ((a &&& b:Nat):Int)):=by
 show some (D.int (Builtin.bitAnd (a:Int) (b:Int)))=_;rw [q7h]
theorem qbw(a b:Int): oBand (.int a) (.int b)=some (.int (Builtin.bitAnd a b)):=rfl
theorem q01(n:Nat): z5 0 n=(List.range n).map fun i:Nat=>.int (i:Int):=by
 unfold z5;simp only [g67]
theorem yi:∀k:Nat,k<64->qh (Builtin.Int.intBits (k:Int)) k=qh 12 k/\mk (qh 12 k)=(k:Int):=by decide
theorem q5o:∀a:Nat,a<64->∀b:Nat,b<64->qh 12 a=qh 12 b->a=b:=fun a ha b hb h=>by
 have h1:=(yi a ha).2;have h2:=(yi b hb).2;rw [h,h2] at h1;lia
theorem q0k(n m:Nat): (qh n m).length<=n:=by
 unfold qh;rw [mn];exact md (nh _ _) (by simp)
theorem q5p{n m:Nat}{x:Int}(h:x∈qh n m): ∃i:Nat,x=(i:Int)/\i<n:=by
 unfold qh at h;obtain⟨i,hi,rfl⟩:=ny.mp h;exact⟨i,rfl,by simpa using(mw.mp hi).1⟩
theorem qr4(b:List Int)(hb:∀x∈b,0<=x/\x<100)(ρ : Rho): qv (bN 0) zg (eOp oShl (eC (.int 1)) (eV 0)) (none :: ρ) (b.map D.int)=some ((b.map fun x=>(2:Int) ^ x.toNat).map D.int):=by
 have:=q08 (b:=bN 0) (f:=eOp oShl (eC (.int 1)) (eV 0)) (ρ :=none :: ρ) (fun d=>match d with | .int x=>.int (2 ^ x.toNat)|_=>.non) (ds:=b.map D.int) fun d hd=>by
  obtain⟨x,hx,rfl⟩:=ny.mp hd;have:=hb x hx;refine⟨_,rfl,q6e x_c (x_v rfl) ?_⟩;rw [qeh 1 x (by lia) (by lia) (by decide),Int.one_mul]
 rw [this,ni,ni]
 rfl
theorem q5q(b:List Int)(hb:∀x∈b,0<=x/\x<100)(hl:b.length<=1000): zf [TI b]=some (.int (mk b)):=by
 have hl':b.length<=lim:=by show _<=1000000;lia
 have c:=qr4 b hb [];have a:=qbq (b.map fun x=>(2:Int) ^ x.toNat)
 (refine za ?_;simp! [q25,qu,hl',c,a])
 rfl
theorem qr5(m i:Nat): oShr (.int (m:Int)) (.int (i:Int))=some (.int ((m / 2 ^ i:Nat):Int)):=by
 rw [qo1 _ _ (by lia),p0]
 norm_cast
theorem qlg(k:Nat)(hk:k<64): wa [.int (k:Int)]=some (TI (qh 12 k)):=by
 have hb:Builtin.Int.intBits (k:Int)<=6:=by
  have:∀k:Nat,k<64->Builtin.Int.intBits (k:Int)<=6:=by decide
  exact this k hk
 have c:qv (bN 0) (zw oEq (eOp oMod (eOp oShr (eV 1) (eV 0)) (eC (.int 2))) (eC (.int 1))) (eV 0) [none,some (.fz (.int (k:Int)))] (z5 0 (Builtin.Int.intBits (k:Int)))=some ((qh 12 k).map D.int):=by
  have:=q59 (b:=bN 0) (c:=zw oEq (eOp oMod (eOp oShr (eV 1) (eV 0)) (eC (.int 2))) (eC (.int 1))) (f:=eV 0) (ρ :=[none,some (.fz (.int (k:Int)))]) (fun d=>match d with | .int x=>bit k x.toNat|_=>false) id (ds:=z5 0 (Builtin.Int.intBits (k:Int))) fun d hd=>by
   rw [q01] at hd;obtain⟨i,_,rfl⟩:=ny.mp hd;refine⟨_,rfl,qv5 (q6e (q6e (x_v rfl) (x_v rfl) (qr5 k i)) x_c (q8c _ 2 (by decide))) x_c ?_,fun _=>rfl⟩;rw [qar]
   congr 2
   show decide _=bit k (i:Int).toNat;rw [p0,bit,pd,p5,g31];lia
  rw [this,List.map_id,q01,List.filter_map, <- (yi k hk).1,qh,ni]
  rfl
 have hr:iR1 (qa (eUn oBits (eV 0)) qe) [some (.fz (.int (k:Int)))]=some (z5 0 (Builtin.Int.intBits (k:Int))):=by
  rw [q1l _ _ ((Builtin.Int.intBits (k:Int):Nat):Int) rfl (by lia) (by lia),p0]
 have hl:(z5 0 (Builtin.Int.intBits (k:Int))).length<=lim:=by rw [wk];show _<=1000000;lia
 (refine za ?_;simp! [q3g,qu,hr,hl,c,vw])
theorem qr6(w:Nat)(hw:w<=1000): oShl (.int 1) (.int (w:Int))=some (.int (2 ^ w)):=by
 rw [qeh 1 (w:Int) (by lia) (by lia) (by decide),p0,Int.one_mul]
def qb1(lt:Nat->Nat->Bool)(x:Nat): List Nat->List Nat
 | []=>[x]
 | y :: r=>if lt y x=true then y :: qb1 lt x r else x :: y :: r
def qa1(lt:Nat->Nat->Bool): List Nat->List Nat
 | []=>[]
 | x :: r=>qb1 lt x (qa1 lt r)
theorem qbx(lt:Nat->Nat->Bool)(x:Nat): ∀l,(qb1 lt x l).Perm (x :: l)
 | []=>.refl _
 | y :: r=>by
  unfold qb1
  split
  ·exact((qbx lt x r).cons y).trans (.swap x y r)
  ·exact .refl _
theorem q2n(lt:Nat->Nat->Bool): ∀l,(qa1 lt l).Perm l
 | []=>.refl _
 | x :: r=>(qbx lt x _).trans ((q2n lt r).cons x)
theorem qf1(f:Nat->D×D)(x:Nat): ∀l,q69 (f x) (l.map f)=(qb1 (fun a b=>ltT (f a).1 (f b).1) x l).map f
 | []=>rfl
 | y :: r=>by
  rw [gf];unfold q69 qb1
  by_cases h:ltT (f y).1 (f x).1=true
  ·rw [mh h,mh h,qf1 f x r,gf]
  ·rw [mi h,mi h,gf,gf]
theorem q6v(f:Nat->D×D): ∀l,q2i (l.map f)=(qa1 (fun a b=>ltT (f a).1 (f b).1) l).map f
 | []=>rfl
 | x :: r=>by
  rw [gf];unfold q2i qa1;rw [q6v f r,qf1]
def yp(k:Nat): D:=.tup [.int ((qh 12 k).length:Int),TI (qh 12 k)]
def ltO(a b:Nat): Bool:=ltT (yp a) (yp b)
theorem qf2:∀ns:List Int,kDL (ns.map D.int)=true
 | []=>by simp [kDL]
 | n :: ns=>by simp only [gf,kDL,kD,qf2 ns,g2d]
theorem qf3:∀ns ms:List Int,shL (ns.map D.int) (ms.map D.int)=true
 | [],ms=>by simp [shL]
 | n :: ns,[]=>by simp [shL]
 | n :: ns,m :: ms=>by simp only [gf,shL,shD,qf3 ns ms,g2d]
theorem q6w:∀ns:List Int,v7 (ns.map D.int)=0
 | []=>by simp [v7]
 | n :: ns=>by simp only [gf,v7,ku,q6w ns];rfl
theorem qf4(k:Nat): kD (yp k)=true:=by simp only [yp,TI,kD,kDL,qf2,g2d]
theorem qtz(a b:Nat): shD (yp a) (yp b)=true:=by simp only [yp,TI,shD,shL,qf3,g2d]
theorem qr7(k:Nat): ku (yp k)<=50:=by simp only [yp,TI,ku,v7,q6w];decide
theorem qf5:∀ {a b:List Int},a.map D.int=b.map D.int->a=b
 | [],[],_=>rfl
 | [],_ :: _,h=>by cases h
 | _ :: _,[],h=>by cases h
 | x :: a,y :: b,h=>by
  rw [gf,gf] at h;injection h with h1 h2
  injection h1 with h1
  rw [h1,qf5 h2]
theorem qr8{a b:Nat}(ha:a<64)(hb:b<64)(h1:ltO a b=false)(h2:ltO b a=false): a=b:=by
 have:=lt_eq (qf4 a) (qf4 b) h1 h2;unfold yp at this;injection this with this
 injection this with _ this
 injection this with this _
 injection this with this
 exact q5o a ha b hb (qf5 this)
theorem qby(l:List Nat): q7d (l.map yp)=true:=by
 unfold q7d;rw [m8,m8,g1c,m8];refine⟨⟨?_,?_⟩,.inr ⟨?_,?_⟩⟩
 ·rw [g15,mx];exact fun k _=>qf4 k
 ·rw [g15,mx]
  intro a _;show(List.all _ _)=true;rw [g15,mx];exact fun b _=>qtz a b
 ·rw [g15,mx];exact fun k _=>rfl
 ·rw [g15,mx];exact fun k _=>mq (qr7 k)
theorem q8r:∀l:List Nat,l.Nodup->(∀k∈l,k<64)->q6b (l.map yp)=true
 | [],_,_=>rfl
 | k :: l,hn,hl=>by
  rw [gf];unfold q6b;rw [m8];have hn':=g0p.mp hn;refine⟨?_,q8r l hn'.2 fun x hx=>hl x (gu _ hx)⟩;rw [g15,mx];intro b hb;show(ltO k b || ltO b k)=true;cases h1:ltO k b
  ·cases h2:ltO b k
   ·have:=qr8 (hl k gq) (hl b (gu _ hb)) h1 h2
    exact absurd (this ▸ hb) hn'.1
   ·rfl
  ·rfl
abbrev setD(k:Nat): D:=TI (qh 12 k)
theorem qoc(l:List Nat): yk yg (l.map setD)=some (l.map yp):=by
 induction l with
 | nil=>rfl
 | cons k l ih=>
  have e:yg [setD k]=some (yp k):=by
   (refine za ?_;simp! [q1d])
   rfl
  rw [gf];simp only [yk,e,ih,m4,p6,gf]
def qm(w:Nat): List Nat:=qa1 ltO (List.range (2 ^ w))
theorem x6{w:Nat}(hw:w<=6): 2 ^ w<=64:=md (Nat.pow_le_pow_right (by decide) hw) (by decide)
theorem q7v(w:Nat)(hw:w<=6): yh [.int (w:Int)]=some (.lst ((qm w).map setD)):=by
 have h2:=x6 hw;have hs:=qr6 w (by lia);have hr:iR1 (qa (eOp oShl (eC (.int 1)) (eV 0)) qe) [some (.fz (.int (w:Int)))]=some (z5 0 (2 ^ w)):=by
  have ha:qa (eOp oShl (eC (.int 1)) (eV 0)) qe [some (.fz (.int (w:Int)))]=some [.int ((2 ^ w:Nat):Int)]:=q09 (q6e x_c (x_v rfl) (by rw [hs];norm_cast)) q2l;have h3:(0:Int)<=((2 ^ w:Nat):Int):=g4c _;have h4:((2 ^ w:Nat):Int)<=64:=by exact_mod_cast h2
  rw [q1l _ _ _ ha (Int.le_trans (by decide) h3) (Int.lt_of_le_of_lt h4 (by decide)),p0]
 have hl:(z5 0 (2 ^ w)).length<=lim:=by rw [wk];show _<=1000000;lia
 have c:qv (bN 0) zg (qf (qj 1 [] wa) (qa (eV 0) qe)) [none] (z5 0 (2 ^ w))=some ((List.range (2 ^ w)).map setD):=by
  have:=q08 (b:=bN 0) (f:=qf (qj 1 [] wa) (qa (eV 0) qe)) (ρ :=[none]) (fun d=>match d with | .int x=>setD x.toNat|_=>.non) (ds:=z5 0 (2 ^ w)) fun d hd=>by
   rw [q01] at hd;obtain⟨i,hi,rfl⟩:=ny.mp hd;refine⟨_,rfl,qei (q09 (x_v rfl) q2l) rfl ?_⟩;show wa [.int (i:Int)]=some (setD (i:Int).toNat);rw [p0];exact qlg i (by have:=uk.mp hi;lia)
  rw [this,q01,ni];exact uz some (g2i fun i _=>by show setD (i:Int).toNat=setD i;rw [p0])
 have srt:q0p yg [.lst ((List.range (2 ^ w)).map setD)]=some ((qm w).map setD):=by
  show ky yg (.lst ((List.range (2 ^ w)).map setD))=_;unfold ky;dsimp only;rw [qoc,m4,qby,q8r _ g1r (fun k hk=>by have:=uk.mp hk;lia)];have ez:((List.range (2 ^ w)).map yp).zip ((List.range (2 ^ w)).map setD)=(List.range (2 ^ w)).map fun k=>(yp k,setD k):=by
   rw [g4o]
  rw [ez,q6v];simp only [g4q,nj,ni];exact rfl
 (refine za ?_;simp! [q1e,qu,hr,hl,c,srt])
end My
open PySem PyProof.Rows L2 DL
namespace My
open PySem PyProof.Rows L2 DL
def zi(k:Nat): List Nat:=((List.range 6).filter fun j=>bit k j).map fun j=>k-2 ^ j
theorem qiy:∀k:Nat,k<64->((List.range (qh 12 k).length).map fun p=>(qh 12 k).take p++(qh 12 k).drop (p+1))=(zi k).map (qh 12):=by decide +kernel
theorem qf6(k:Nat)(hk:k<64): zx [setD k]=some (.lst ((zi k).map setD)):=by
 have hb:=q0k 12 k;have c:qv (bN 0) zg (eOp zr (eSl (eV 1) oNo (oAt (eV 0))) (eSl (eV 1) (oAt (eOp zr (eV 0) (eC (.int 1)))) oNo)) [none,some (.fz (setD k))] (z5 0 (qh 12 k).length) =
   some ((zi k).map setD):=by
  have:=q08 (b:=bN 0) (f:=eOp zr (eSl (eV 1) oNo (oAt (eV 0))) (eSl (eV 1) (oAt (eOp zr (eV 0) (eC (.int 1)))) oNo)) (ρ :=[none,some (.fz (setD k))]) (fun d=>match d with | .int x=>TI ((qh 12 k).take x.toNat++(qh 12 k).drop (x.toNat+1))|_=>.non) (ds:=z5 0 (qh 12 k).length) fun d hd=>by
   rw [q01] at hd;obtain⟨i,hi,rfl⟩:=ny.mp hd;have s1:oSl (setD k) none (some (i:Int))=some (TI ((qh 12 k).take i)):=by
    show some (D.tup (DL.cutD ((qh 12 k).map D.int) none (some (i:Int))))=_;rw [qfv (α :=D), <- List.map_take]
   have s2:oSl (setD k) (some ((i+1:Nat):Int)) none=some (TI ((qh 12 k).drop (i+1))):=by
    show some (D.tup (DL.cutD ((qh 12 k).map D.int) (some ((i+1:Nat):Int)) none))=_;rw [qo4 (α :=D), <- g62]
   have s3:zr (TI ((qh 12 k).take i)) (TI ((qh 12 k).drop (i+1)))=some (TI ((qh 12 k).take i++(qh 12 k).drop (i+1))):=by
    rw [qbp _ _ (by rw [mn,mn,pk,uo];lia), <- g0a]
   refine⟨_,rfl,?_⟩;show eOp zr (eSl (eV 1) oNo (oAt (eV 0))) (eSl (eV 1) (oAt (eOp zr (eV 0) (eC (.int 1)))) oNo) [some (.fz (.int (i:Int))),some (.fz (setD k))]=some (TI ((qh 12 k).take (i:Int).toNat++(qh 12 k).drop ((i:Int).toNat+1)));rw [p0];have e1:(i:Int)+1=((i+1:Nat):Int):=by lia
   simp! [s1,e1,s2,s3]
  rw [this,q01,ni];have hf:=uz (List.map TI) (qiy k hk);rw [ni,ni] at hf;exact uz some hf
 have hr:iR1 (qa (qf vp (qa (eV 0) qe)) qe) [some (.fz (setD k))]=some (z5 0 (qh 12 k).length):=by
  have ha:qa (qf vp (qa (eV 0) qe)) qe [some (.fz (setD k))]=some [.int ((qh 12 k).length:Int)]:=by
   refine q09 (x_call (q09 (x_v rfl) q2l) ?_) q2l;rw [qp6,mn]
  rw [q1l _ _ _ ha (by lia) (by lia),p0]
 have hl:(z5 0 (qh 12 k).length).length<=lim:=by rw [wk];show _<=1000000;lia
 (refine za ?_;simp! [vy,qu,hr,hl,c])
theorem q7w{A:List Nat}(hn:A.Nodup)(hA:∀k∈A,k<64): (A.map (qh 12)).Nodup:=by
 rw [List.Nodup,g1k];refine g2y (fun {a b} ha hb hne e=>hne (q5o a (hA a ha) b (hA b hb) e)) hn
theorem qbz:∀A:List Nat,q34 (A.map fun k=>D.tup [setD k,.bl true])=some (A.map (qh 12),A.map fun _=>.bl true)
 | []=>rfl
 | k :: A=>by
  have hi:yx ((qh 12 k).map D.int)=some (qh 12 k):=q21 _;rw [gf];show(yx ((qh 12 k).map D.int)).bind (fun q=>(q34 (A.map fun k=>D.tup [setD k,.bl true])).map fun p=>(q :: p.1,D.bl true :: p.2))=_;rw [hi,qbz A]
  rfl
abbrev zq(A:List Nat): D:=.dtt (A.map (qh 12)) (A.map fun _=>.bl true)
theorem q5r(A:List Nat)(hn:A.Nodup)(hA:∀k∈A,k<64)(hl:A.length<=1000): q7e [.lst (A.map fun k=>D.tup [setD k,.bl true])]=some (zq A):=by
 show(q34 (A.map fun k=>D.tup [setD k,.bl true])).bind (fun p=>if p.1.Nodup/\(A.map fun k=>D.tup [setD k,.bl true]).length<=lim then some (D.dtt p.1 p.2) else none)=_;rw [qbz];show(if(A.map (qh 12)).Nodup/\_ then _ else _)=_;rw [mh ⟨q7w hn hA,by rw [mn];show _<=1000000;lia⟩]
theorem qc0(A:List Nat)(hA:∀k∈A,k<64)(m:Nat)(hm:m<64)(vs:List D): q1k (setD m) (.dtt (A.map (qh 12)) vs)=some (.bl (decide (m∈A))):=by
 have hi:yx ((qh 12 m).map D.int)=some (qh 12 m):=q21 _;show(yx ((qh 12 m).map D.int)).map (fun k=>D.bl (decide (k∈A.map (qh 12))))=_;rw [hi,p6]
 congr 2
 rw [pd,p5,p5]
 constructor
 ·intro h
  obtain⟨a,ha,e⟩:=ny.mp h;exact q5o a (hA a ha) m hm e ▸ ha
 ·exact fun h=>g2g h
theorem qf7(A:List Nat)(hA:∀k∈A,k<64)(m:Nat)(hm:m<64): q1k (setD m) (zq A)=some (.bl (decide (m∈A))):=qc0 A hA m hm _
theorem qf8:∀k:Nat,k<64->∀m∈zi k,m<64:=by decide +kernel
def wd:Nat->Int->Int->List Int
 | 0,_,_=>[]
 | n+1,m,k=>if m%2=1 then k :: wd n (m / 2) (k+1) else wd n (m / 2) (k+1)
theorem q3j:∀(n:Nat) (m k:Int) (acc:List D) (b:Option B),acc.length+n<=100->∃b' m',
  runFor (bN 2) vx (z5 k n) [some (.fz (.int m)),some (.ow acc),b]=some (.nx,[some (.fz (.int m')),some (.ow (acc++(wd n m k).map .int)),b'])
 | 0,m,k,acc,b,_=>⟨b,m,by simp [z5,runFor,wd]⟩
 | n+1,m,k,acc,b,h=>by
  have ha:acc.length<lim:=by show _<1000000;lia
  rw [q7n]
  by_cases hm:m%2=1
  ·obtain⟨b',m',ih⟩:=q3j n (m / 2) (k+1) (acc++[.int k]) (some (.fz (.int k))) (by simp;lia)
   refine⟨b',m',?_⟩;rw [j9 (b:=bN 2) rfl (show vx [some (.fz (.int m)),some (.ow acc),some (.fz (.int k))]=some (.nx,[some (.fz (.int (m / 2))),some (.ow (acc++[.int k])),some (.fz (.int k))]) by simp! [vx,hm,q2z,q5a,q5b,ha]),ih,wd,mh hm];simp
  ·obtain⟨b',m',ih⟩:=q3j n (m / 2) (k+1) acc (some (.fz (.int k))) (by lia)
   refine⟨b',m',?_⟩;rw [j9 (b:=bN 2) rfl (show vx [some (.fz (.int m)),some (.ow acc),some (.fz (.int k))]=some (.nx,[some (.fz (.int (m / 2))),some (.ow acc),some (.fz (.int k))]) by simp! [vx,hm]),ih,wd,mi hm]
theorem qiz(m:Int): j4 [.int m]=some (TI (wd 12 m 0)):=by
 obtain⟨b',m',h⟩:=q3j 12 m 0 [] none (by simp);rw [g0l] at h;have r:iR1 (qa (eC (.int 12)) qe) [some (.fz (.int m)),some (.ow []),none]=some (z5 0 12):=q1l _ _ 12 rfl (by decide) (by decide)
 (refine za ?_;simp! [q23,xm,r,h])
theorem qb2(x:Int): ∀b:List Int,inF (.int x) (b.map D.int)=decide (x∈b)
 | []=>rfl
 | y :: b=>by
  show((eqF (.int y) (.int x)) || inF (.int x) (b.map D.int))=_;rw [qb2 x b];show((y==x) || _)=_;rw [pd];simp only [g1c,g31,p5,mf]
  constructor <;> rintro(h|h)
  ·exact .inl h.symm
  ·exact .inr h
  ·exact .inl h.symm
  ·exact .inr h
theorem qc1(b:List Int): (b.map D.int).all flat=true:=by
 rw [g15,mx];intro x _;rfl
theorem qf9(x:Int)(b:List Int): oIn false (.int x) (TI b)=some (.bl (decide (x∈b))):=by
 show(if(flat (.int x)&&(b.map D.int).all flat)=true then some (D.bl (if false=true then !inF (.int x) (b.map D.int) else inF (.int x) (b.map D.int))) else none)=_;rw [qc1,qb2];rfl
def uni(s t:List Int): List Int:=((List.range 12).map fun i:Nat=>(i:Int)).filter fun x=>decide (x∈s\/x∈t)
theorem q6x:∀(s:List Int),(∀x∈s,0<=x/\x<12)->q3y (s.map D.int)=some (s.map Int.toNat)
 | [],_=>rfl
 | x :: s,h=>by
  have hx:=h x gq;show(if 0<=x/\x<12 then(q3y (s.map D.int)).map (x.toNat :: ·) else none)=_;rw [mh hx,q6x s fun y hy=>h y (gu _ hy)]
  rfl
theorem qc2{s:List Int}(h:∀x∈s,0<=x/\x<12)(n:Nat): n∈s.map Int.toNat↔(n:Int)∈s:=by
 constructor
 ·intro hn
  obtain⟨x,hx,e⟩:=ny.mp hn;have:=h x hx;have:x=(n:Int):=by lia
  exact this ▸ hx
 ·intro hn
  exact ny.mpr ⟨_,hn,by simp⟩
theorem qj0(s t:List Int)(hs:∀x∈s,0<=x/\x<12)(ht:∀x∈t,0<=x/\x<12): qie (TI s) (TI t)=some ((uni s t).map D.int):=by
 show(q3y (s.map D.int)).bind (fun a=>(q3y (t.map D.int)).bind fun b=>some (((List.range 12).filter fun n=>decide (n∈a\/n∈b)).map fun n=>D.int (n:Nat)))=_;rw [q6x s hs,q6x t ht];show some _=_
 congr 1
 unfold uni;rw [List.filter_map,ni]
 congr 1
 refine g0z fun n _=>?_;show decide (n∈s.map Int.toNat\/n∈t.map Int.toNat)=decide ((n:Int)∈s\/(n:Int)∈t);rw [pd,g4h,g4h,qc2 hs,qc2 ht]
theorem qlh(s t:List Int)(hs:∀x∈s,0<=x/\x<12)(ht:∀x∈t,0<=x/\x<12): q1p [TI s,TI t]=some (TI (uni s t)):=by
 have h:=qj0 s t hs ht
 (refine za ?_;simp! [q3c,qif,h,vw])
theorem qr9(x:Int)(b:List Int): oIn true (.int x) (TI b)=some (.bl (!decide (x∈b))):=by
 show(if(flat (.int x)&&(b.map D.int).all flat)=true then some (D.bl (if true=true then !inF (.int x) (b.map D.int) else inF (.int x) (b.map D.int))) else none)=_;rw [qc1,qb2];rfl
theorem qj1{c:FT}{ρ : Rho}(q:Int->Bool): ∀(l:List Int),(∀x∈l,c (some (.fz (.int x)) :: ρ)=some (q x))->qv (bN 0) c (eV 0) (none :: ρ) (l.map D.int)=some ((l.filter q).map D.int)
 | [],_=>rfl
 | x :: l,h=>by
  have ih:=qj1 q l fun y hy=>h y (gu _ hy);have h1:=h x gq;have b1:bN 0 (D.int x) (none :: ρ)=some (some (.fz (.int x)) :: ρ):=rfl;have v1:eV 0 (some (.fz (.int x)) :: ρ)=some (.int x):=rfl;simp only [gf,qv,b1,h1,m4,pb];cases q x with
  | true=>simp only [nj,v1,m4,ih,p6,gf]
  | false=>simp only [gr,p8,ih]
theorem qw3(d:D)(r:Rho): frz 0 (some (.fz d) :: r)=some (.fz d) :: r:=rfl
theorem qu0:∀k:Nat,k<64->wd 12 (k:Int) 0=qh 12 k:=by decide +kernel
theorem q5v(k:Nat)(hk:k<64): j4 [.int (k:Int)]=some (setD k):=by rw [qiz,qu0 k hk]
theorem q3k(w:Nat)(hw:w<=6): j0 [.int (w:Int)]=some (.int ((2 ^ w:Nat):Int)):=by
 have:w=0\/w=1\/w=2\/w=3\/w=4\/w=5\/w=6:=by lia
 rcases this with rfl|rfl|rfl|rfl|rfl|rfl|rfl <;> rfl
theorem qod(l:List Nat): yk xc (l.map setD)=some (l.map yp):=by
 induction l with
 | nil=>rfl
 | cons k l ih=>
  have e:xc [setD k]=some (yp k):=by
   (refine za ?_;simp! [xc])
   rfl
  rw [gf];simp only [yk,e,ih,m4,p6,gf]
theorem qgi(w:Nat)(hw:w<=6): q15 [.int (w:Int)]=some (.lst ((qm w).map setD)):=by
 have h2:=x6 hw;have hp:=q3k w hw;have hr:iR1 (qa (qf (qj 1 [] j0) (qa (eV 0) qe)) qe) [some (.fz (.int (w:Int)))]=some (z5 0 (2 ^ w)):=by
  have ha:qa (qf (qj 1 [] j0) (qa (eV 0) qe)) qe [some (.fz (.int (w:Int)))]=some [.int ((2 ^ w:Nat):Int)]:=q09 (qei (q09 (x_v rfl) q2l) rfl hp) q2l;have h3:(0:Int)<=((2 ^ w:Nat):Int):=g4c _;have h4:((2 ^ w:Nat):Int)<=64:=by exact_mod_cast h2
  rw [q1l _ _ _ ha (Int.le_trans (by decide) h3) (Int.lt_of_le_of_lt h4 (by decide)),p0]
 have hl:(z5 0 (2 ^ w)).length<=lim:=by rw [wk];show _<=1000000;lia
 have c:qv (bN 0) zg (qf (qj 1 [] j4) (qa (eV 0) qe)) [none] (z5 0 (2 ^ w))=some ((List.range (2 ^ w)).map setD):=by
  have:=q08 (b:=bN 0) (f:=qf (qj 1 [] j4) (qa (eV 0) qe)) (ρ :=[none]) (fun d=>match d with | .int x=>setD x.toNat|_=>.non) (ds:=z5 0 (2 ^ w)) fun d hd=>by
   rw [q01] at hd;obtain⟨i,hi,rfl⟩:=ny.mp hd;refine⟨_,rfl,qei (q09 (x_v rfl) q2l) rfl ?_⟩;show j4 [.int (i:Int)]=some (setD (i:Int).toNat);rw [p0];exact q5v i (by have:=uk.mp hi;lia)
  rw [this,q01,ni];exact uz some (g2i fun i _=>by show setD (i:Int).toNat=setD i;rw [p0])
 have srt:q0p xc [.lst ((List.range (2 ^ w)).map setD)]=some ((qm w).map setD):=by
  show ky xc (.lst ((List.range (2 ^ w)).map setD))=_;unfold ky;dsimp only;rw [qod,m4,qby,q8r _ g1r (fun k hk=>by have:=uk.mp hk;lia)];have ez:((List.range (2 ^ w)).map yp).zip ((List.range (2 ^ w)).map setD)=(List.range (2 ^ w)).map fun k=>(yp k,setD k):=by
   rw [g4o]
  rw [ez,q6v];simp only [g4q,nj,ni];exact rfl
 (refine za ?_;simp! [q14,qu,hr,hl,c,srt])
theorem jz(w k:Nat): k∈qm w↔k<2 ^ w:=by
 unfold qm;rw [(q2n ltO _).mem_iff,uk]
theorem q48(w:Nat): (qm w).Nodup:=(q2n ltO _).nodup_iff.mpr g1r
theorem q1u{w:Nat}(hw:w<=6): ∀k∈qm w,k<64:=fun k hk=>gh ((jz w k).mp hk) (x6 hw)
theorem q0t(w:Nat): (qm w).length=2 ^ w:=by unfold qm;rw [(q2n ltO _).length_eq,List.length_range]
end My
open PySem PyProof.Rows L2 DL
namespace My
open PySem PyProof.Rows L2 DL
theorem q1g{α : Type}{b:FB}{e:FE}{ρ : Rho}(f g : α -> D): ∀(as:List α),(∀a∈as,∃ ρ1,b (f a) ρ = some ρ1/\e ρ1=some (g a))->qv b zg e ρ (as.map f)=some (as.map g)
 | [],_=>rfl
 | a :: as,h=>by
  obtain⟨ρ1,e1,e2⟩:=h a gq;have ih:=q1g f g as fun x hx=>h x (gu _ hx);simp only [gf,qv,e1,e2,m4,zg,nj,ih,p6]
theorem jr{α : Type}{b:FB}{c:FT}{e:FE}{ρ : Rho}(f : α -> D)(p : α -> Bool)(g : α -> D): ∀(as:List α),(∀a∈as,∃ ρ1,b (f a) ρ = some ρ1/\c ρ1=some (p a)/\(p a=true->e ρ1=some (g a)))->qv b c e ρ (as.map f)=some ((as.filter p).map g)
 | [],_=>rfl
 | a :: as,h=>by
  obtain⟨ρ1,e1,e2,e3⟩:=h a gq;have ih:=jr f p g as fun x hx=>h x (gu _ hx);simp only [gf,qv,e1,e2,m4,pb];cases hp:p a with
  | true=>simp only [nj,e3 hp,m4,ih,p6,gf]
  | false=>simp only [gr,p8,ih]
abbrev nD(m:Nat): D:=.int (m:Int)
def blw(k m:Nat): Bool:=decide (k &&& m=k)
theorem qa2(a b:Nat): oEq (.int (a:Int)) (.int (b:Int))=some (.bl (decide (a=b))):=by
 rw [qar]
 congr 2
 exact g2b.mpr (by lia)
theorem qfa(k:Nat)(x1:Option B): ∀(ms:List Nat) (b2:Option B),∃fl ρ,runFor (bN 2) je (ms.map nD) [some (.fz (nD k)),x1,b2]=some (fl, ρ)/\fl=(if ms.any (blw k)=true then .rt (.bl true) else .nx)
 | [],b2=>⟨.nx,_,rfl,rfl⟩
 | m :: ms,b2=>by
  have ob:=qbv k m;have oe:=qa2 (k &&& m) k;have e0:bN 2 (nD m) [some (.fz (nD k)),x1,b2]=some [some (.fz (nD k)),x1,some (.fz (nD m))]:=rfl
  by_cases h:k &&& m=k
  ·have hb:blw k m=true:=mq h
   have body:je [some (.fz (nD k)),x1,some (.fz (nD m))]=some (.rt (.bl true),[some (.fz (nD k)),x1,some (.fz (nD m))]):=by
    rw [mq h] at oe;simp! [je,ob,oe]
   exact⟨.rt (.bl true),[some (.fz (nD k)),x1,some (.fz (nD m))],by simp only [gf,runFor,e0,body,m4],by rw [g2c,hb];rfl⟩
  ·have hb:blw k m=false:=nk h
   have body:je [some (.fz (nD k)),x1,some (.fz (nD m))]=some (.nx,[some (.fz (nD k)),x1,some (.fz (nD m))]):=by
    rw [nk h] at oe;simp! [je,ob,oe]
   obtain⟨fl, ρ,e1,e2⟩:=qfa k x1 ms (some (.fz (nD m)));exact⟨fl, ρ,by rw [gf,j9 e0 body,e1],by rw [g2c,hb,g3f];exact e2⟩
theorem qfb(k:Nat)(ms:List Nat): vm [nD k,.lst (ms.map nD)]=some (.bl (ms.any (blw k))):=by
 obtain⟨fl, ρ,h,e⟩:=qfa k (some (.fz (.lst (ms.map nD)))) ms none;cases c:ms.any (blw k) with
 | true=>rw [c,mh rfl] at e;subst e;(refine za ?_;simp! [vj,xm,h])
 | false=>rw [c,mi m5] at e;subst e;(refine za ?_;simp! [vj,xm,h])
theorem qfc(k:Nat)(x1:Option B): ∀(ms:List Nat) (b2:Option B),∃fl ρ,runFor (bN 2) jd (ms.map nD) [some (.fz (nD k)),x1,b2]=some (fl, ρ)/\fl=(if ms.any (fun m=>blw m k)=true then .rt (.bl true) else .nx)
 | [],b2=>⟨.nx,_,rfl,rfl⟩
 | m :: ms,b2=>by
  have ob:=qbv k m;have oe:=qa2 (k &&& m) m;have e0:bN 2 (nD m) [some (.fz (nD k)),x1,b2]=some [some (.fz (nD k)),x1,some (.fz (nD m))]:=rfl
  by_cases h:k &&& m=m
  ·have hb:blw m k=true:=mq (by rw [g5b];exact h)
   have body:jd [some (.fz (nD k)),x1,some (.fz (nD m))]=some (.rt (.bl true),[some (.fz (nD k)),x1,some (.fz (nD m))]):=by
    rw [mq h] at oe;simp! [jd,ob,oe]
   exact⟨.rt (.bl true),[some (.fz (nD k)),x1,some (.fz (nD m))],by simp only [gf,runFor,e0,body,m4],by rw [g2c,hb];rfl⟩
  ·have hb:blw m k=false:=nk (by rw [g5b];exact h)
   have body:jd [some (.fz (nD k)),x1,some (.fz (nD m))]=some (.nx,[some (.fz (nD k)),x1,some (.fz (nD m))]):=by
    rw [nk h] at oe;simp! [jd,ob,oe]
   obtain⟨fl, ρ,e1,e2⟩:=qfc k x1 ms (some (.fz (nD m)));exact⟨fl, ρ,by rw [gf,j9 e0 body,e1],by rw [g2c,hb,g3f];exact e2⟩
theorem qfd(k:Nat)(ms:List Nat): vg [nD k,.lst (ms.map nD)]=some (.bl (ms.any fun m=>blw m k)):=by
 obtain⟨fl, ρ,h,e⟩:=qfc k (some (.fz (.lst (ms.map nD)))) ms none;cases c:ms.any (fun m=>blw m k) with
 | true=>rw [c,mh rfl] at e;subst e;(refine za ?_;simp! [vf,xm,h])
 | false=>rw [c,mi m5] at e;subst e;(refine za ?_;simp! [vf,xm,h])
theorem q2o(k:Nat)(hk:k<64): zf [setD k]=some (nD k):=by
 rw [q5q (qh 12 k) (fun x hx=>by obtain⟨i,rfl,hi⟩:=q5p hx;lia) (md (q0k 12 k) (by decide)),(yi k hk).2]
def x8(w k:Nat): List Nat:=((List.range w).filter fun i=> !bit k i).map fun i=>k+2 ^ i
theorem qoe:∀k:Nat,k<64->∀i:Nat,i<6->bit k i=false->uni (qh 12 k) [(i:Int)]=qh 12 (k+2 ^ i):=by decide +kernel
theorem qra:∀k:Nat,k<64->∀i:Nat,i<6->decide ((i:Int)∈qh 12 k)=bit k i:=by decide +kernel
theorem q1v:∀w:Nat,w<7->∀k:Nat,k<2 ^ w->∀m∈x8 w k,m<2 ^ w:=by decide +kernel
theorem qc3:∀w:Nat,w<7->∀k:Nat,k<2 ^ w->∀m∈zi k,m<2 ^ w:=by decide +kernel
theorem qgj(w k:Nat)(hw:w<=6)(hk:k<64): yf [setD k,.int (w:Int)]=some (.lst ((x8 w k).map setD)):=by
 have r:iR1 (qa (eV 1) qe) [some (.fz (setD k)),some (.fz (.int (w:Int)))]=some (z5 0 w):=q1l _ _ (w:Int) rfl (by lia) (by lia);have hl:(z5 0 w).length<=lim:=by rw [wk];show _<=1000000;lia
 have t1:∀d:D,([d]:List D).length<=lim:=fun _=>by show 1<=1000000;decide
 have c:=jr (b:=bN 0) (c:=zw (oIn true) (eV 0) (eV 1)) (e:=qf (qj 2 [] q1p) (qa (eV 1) (qa (x5 (qa (eV 0) qe)) qe))) (ρ :=[none,some (.fz (setD k))]) nD (fun i=> !bit k i) (fun i=>setD (k+2 ^ i)) (List.range w) fun i hi=>by
  have hi6:i<6:=by have:=uk.mp hi;lia
  have o:=qr9 (i:Int) (qh 12 k);rw [qra k hk i hi6] at o;refine⟨[some (.fz (nD i)),some (.fz (setD k))],rfl,by simp! [o],fun hb=>?_⟩;have hb':bit k i=false:=by simpa using hb
  have j:=qlh (qh 12 k) [(i:Int)] (fun x hx=>by obtain⟨i,rfl,hi⟩:=q5p hx;lia) (fun x hx=>by rw [mv.mp hx];lia);rw [qoe k hk i hi6 hb',show TI [(i:Int)]=.tup [nD i] from rfl] at j;simp! [j,t1]
 rw [<- show z5 0 w=(List.range w).map nD from q01 w] at c;have e:(x8 w k).map setD=((List.range w).filter fun i=> !bit k i).map fun i=>setD (k+2 ^ i):=by unfold x8;rw [ni];rfl
 rw [e]
 (refine za ?_;simp! [ye,qu,r,hl,c])
end My
open PySem PyProof.Rows L2 DL
namespace My
open PySem PyProof.Rows L2 DL
theorem qli{α : Type}(p : α -> Bool)(l:List α): (l.map p).any id=l.any p:=by rw [List.any_map];rfl
theorem qlj:∀k:Nat,k<64->(zi k).length<=6:=by decide +kernel
theorem qlk(w k:Nat): (x8 w k).length<=w:=by
 unfold x8;rw [mn];exact md (nh _ _) (by rw [List.length_range];exact gv _)
theorem qgk(A:List Nat)(hA:∀k∈A,k<64)(k:Nat)(hk:k<64): y6 [setD k,zq A]=some (.bl (!(zi k).any fun m=>decide (m∈A))):=by
 have fe:=qf6 k hk;have c:=q1g (b:=bN 0) (e:=eOp q1k (eV 0) (eV 1)) (ρ :=[none,some (.fz (zq A))]) setD (fun m=>.bl (decide (m∈A))) (zi k) fun m hm=>by
  have ik:=qf7 A hA m (qf8 k hk m hm);exact⟨[some (.fz (setD m)),some (.fz (zq A))],rfl,by simp! [ik]⟩
 have a:=q9q ((zi k).map fun m=>decide (m∈A));rw [qli,ni] at a;have hl:(zi k).length<=lim:=by exact md (qlj k hk) (by decide)
 have c':qv (bN 0) zg (eOp q1k (eV 0) (eV 1)) [none,some (.fz (zq A))] ((zi k).map setD)=some ((zi k).map (D.bl ∘ fun m=>decide (m∈A))):=c
 (refine za ?_;simp! [k8,fe,qu,hl,c',a])
theorem q6y(w:Nat)(hw:w<=6)(A:List Nat)(hA:∀k∈A,k<64)(k:Nat)(hk:k<2 ^ w)(vs:List D): zy [setD k,.dtt (A.map (qh 12)) vs,.int (w:Int)]=some (.bl (!(x8 w k).any fun m=>decide (m∈A))):=by
 have hk64:k<64:=gh hk (x6 hw);have fe:=qgj w k hw hk64;have c:=q1g (b:=bN 0) (e:=eOp q1k (eV 0) (eV 1)) (ρ :=[none,some (.fz (.dtt (A.map (qh 12)) vs))]) setD (fun m=>.bl (decide (m∈A))) (x8 w k) fun m hm=>by
  have ik:=qc0 A hA m (gh (q1v w (by lia) k hk m hm) (x6 hw)) vs;exact⟨[some (.fz (setD m)),some (.fz (.dtt (A.map (qh 12)) vs))],rfl,by simp! [ik]⟩
 have a:=q9q ((x8 w k).map fun m=>decide (m∈A));rw [qli,ni] at a;have hl:(x8 w k).length<=lim:=by exact md (qlk w k) (md hw (by decide))
 have c':qv (bN 0) zg (eOp q1k (eV 0) (eV 1)) [none,some (.fz (.dtt (A.map (qh 12)) vs))] ((x8 w k).map setD)=some ((x8 w k).map (D.bl ∘ fun m=>decide (m∈A))):=c
 (refine za ?_;simp! [k7,fe,qu,hl,c',a])
theorem qgl(w:Nat)(hw:w<=6)(A:List Nat)(hA:∀k∈A,k<64)(k:Nat)(hk:k<2 ^ w): zy [setD k,zq A,.int (w:Int)]=some (.bl (!(x8 w k).any fun m=>decide (m∈A))):=q6y w hw A hA k hk _
def byd(ms:List Nat)(k:Nat): Bool:= !ms.any (blw k)
def clr(ms:List Nat)(k:Nat): Bool:= !ms.any fun m=>blw m k
theorem qa3(A:List Nat): q7f (A.map (qh 12))=A.map setD:=by
 unfold q7f;rw [ni]
 rfl
def q6z(w:Nat)(ms:List Nat)(k:Nat): Bool:=byd ms k && !(zi k).any fun m=>byd ms m
def q70(w:Nat)(ms:List Nat)(k:Nat): Bool:=clr ms k && !(x8 w k).any fun m=>clr ms m
theorem qll(w:Nat)(hw:w<=6)(ms:List Nat)(hm:∀m∈ms,m<64)(hl:ms.length<=1000): xy [.int (w:Int),.tup (ms.map setD)]=some (.tup (((qm w).filter (q6z w ms)).map setD)):=by
 have hl1:ms.length<=lim:=by show _<=1000000;lia
 have c1:=q1g (b:=bN 0) (e:=qf (qj 1 [] zf) (qa (eV 0) qe)) (ρ :=[none]) setD nD ms fun m h=>by
  have e:=q2o m (hm m h);exact⟨[some (.fz (setD m))],rfl,by simp! [e]⟩
 have as:=q7v w hw;have hl2:(qm w).length<=lim:=by rw [q0t];exact md (x6 hw) (by decide)
 have t2:∀a b:D,([a,b]:List D).length<=lim:=fun _ _=>by show 2<=1000000;decide
 have c2:=jr (b:=bN 0) (c:=q0w (bT (qf (qj 2 [] vm) (qa (qf (qj 1 [] zf) (qa (eV 0) qe)) (qa (eV 1) qe))))) (e:=x5 (qa (eV 0) (qa (eC (.bl true)) qe))) (ρ :=[none,some (.fz (.lst (ms.map nD)))]) setD (byd ms) (fun k=>.tup [setD k,.bl true]) (qm w) fun k hk=>by
  have e:=q2o k (q1u hw k hk);have b:=qfb k ms;refine⟨[some (.fz (setD k)),some (.fz (.lst (ms.map nD)))],rfl,?_,fun _=>by simp! [t2]⟩;show _=some (!ms.any (blw k));simp! [e,b]
 have nA:((qm w).filter (byd ms)).Nodup:=g0c _ (q48 w);have hA:∀k∈(qm w).filter (byd ms),k<64:=fun k hk=>q1u hw k (mw.mp hk).1;have lA:((qm w).filter (byd ms)).length<=64:=md (nh _ _) (by rw [q0t];exact x6 hw);have od:=q5r ((qm w).filter (byd ms)) nA hA (by lia);have hl3:((qm w).filter (byd ms)).length<=lim:=by exact md lA (by decide)
 have ik:qef (eV 3) [some (.fz (.int (w:Int))),some (.fz (.tup (ms.map setD))),some (.fz (.lst (ms.map nD))),some (.fz (zq ((qm w).filter (byd ms))))]=some (((qm w).filter (byd ms)).map setD):=by
  show some (q7f (((qm w).filter (byd ms)).map (qh 12)))=_;rw [qa3]
 have c3:=jr (b:=bN 0) (c:=bT (qf (qj 2 [] y6) (qa (eV 0) (qa (eV 1) qe)))) (e:=eV 0) (ρ :=[none,some (.fz (zq ((qm w).filter (byd ms))))]) setD (fun k=> !(zi k).any fun m=>decide (m∈(qm w).filter (byd ms))) setD ((qm w).filter (byd ms)) fun k hk=>by
  have s:=qgk _ hA k (hA k hk);exact⟨[some (.fz (setD k)),some (.fz (zq ((qm w).filter (byd ms))))],rfl,by simp! [s],fun _=>rfl⟩
 have e:((qm w).filter (byd ms)).filter (fun k=> !(zi k).any fun m=>decide (m∈(qm w).filter (byd ms)))=(qm w).filter (q6z w ms):=by
  rw [g1a];refine g0z fun k hk=>?_;unfold q6z;rw [g63]
  congr 2
  rw [pd,uf,uf];have hk2:=(jz w k).mp hk
  constructor
  ·rintro⟨m,h1,h2⟩
   exact⟨m,h1,(mw.mp (tf h2)).2⟩
  ·rintro⟨m,h1,h2⟩
   exact⟨m,h1,mq (mw.mpr ⟨(jz w m).mpr (qc3 w (by lia) k hk2 m h1),h2⟩)⟩
 rw [e] at c3;generalize zq ((qm w).filter (byd ms))=kn at od ik c3
 (refine za ?_;simp! [xx,qu,hl1,c1,as,hl2,c2,od,ik,hl3,c3,vw])
theorem qj2(w:Nat)(hw:w<=6)(ms:List Nat)(hm:∀m∈ms,m<64)(hl:ms.length<=1000): xo [.int (w:Int),.tup (ms.map setD)]=some (.tup (((qm w).filter (q70 w ms)).map setD)):=by
 have hl1:ms.length<=lim:=by show _<=1000000;lia
 have c1:=q1g (b:=bN 0) (e:=qf (qj 1 [] zf) (qa (eV 0) qe)) (ρ :=[none]) setD nD ms fun m h=>by
  have e:=q2o m (hm m h);exact⟨[some (.fz (setD m))],rfl,by simp! [e]⟩
 have as:=q7v w hw;have hl2:(qm w).length<=lim:=by rw [q0t];exact md (x6 hw) (by decide)
 have t2:∀a b:D,([a,b]:List D).length<=lim:=fun _ _=>by show 2<=1000000;decide
 have c2:=jr (b:=bN 0) (c:=q0w (bT (qf (qj 2 [] vg) (qa (qf (qj 1 [] zf) (qa (eV 0) qe)) (qa (eV 1) qe))))) (e:=x5 (qa (eV 0) (qa (eC (.bl true)) qe))) (ρ :=[none,some (.fz (.lst (ms.map nD)))]) setD (clr ms) (fun k=>.tup [setD k,.bl true]) (qm w) fun k hk=>by
  have e:=q2o k (q1u hw k hk);have b:=qfd k ms;refine⟨[some (.fz (setD k)),some (.fz (.lst (ms.map nD)))],rfl,?_,fun _=>by simp! [t2]⟩;show _=some (!ms.any fun m=>blw m k);simp! [e,b]
 have nA:((qm w).filter (clr ms)).Nodup:=g0c _ (q48 w);have hA:∀k∈(qm w).filter (clr ms),k<64:=fun k hk=>q1u hw k (mw.mp hk).1;have lA:((qm w).filter (clr ms)).length<=64:=md (nh _ _) (by rw [q0t];exact x6 hw);have od:=q5r ((qm w).filter (clr ms)) nA hA (by lia);have hl3:((qm w).filter (clr ms)).length<=lim:=by exact md lA (by decide)
 have ik:qef (eV 3) [some (.fz (.int (w:Int))),some (.fz (.tup (ms.map setD))),some (.fz (.lst (ms.map nD))),some (.fz (zq ((qm w).filter (clr ms))))]=some (((qm w).filter (clr ms)).map setD):=by
  show some (q7f (((qm w).filter (clr ms)).map (qh 12)))=_;rw [qa3]
 have c3:=jr (b:=bN 0) (c:=bT (qf (qj 3 [] zy) (qa (eV 0) (qa (eV 1) (qa (eV 2) qe))))) (e:=eV 0) (ρ :=[none,some (.fz (zq ((qm w).filter (clr ms)))),some (.fz (.int (w:Int)))]) setD (fun k=> !(x8 w k).any fun m=>decide (m∈(qm w).filter (clr ms))) setD ((qm w).filter (clr ms)) fun k hk=>by
  have s:=qgl w hw _ hA k ((jz w k).mp (mw.mp hk).1);exact⟨[some (.fz (setD k)),some (.fz (zq ((qm w).filter (clr ms)))),some (.fz (.int (w:Int)))],rfl,by simp! [s],fun _=>rfl⟩
 have e:((qm w).filter (clr ms)).filter (fun k=> !(x8 w k).any fun m=>decide (m∈(qm w).filter (clr ms)))=(qm w).filter (q70 w ms):=by
  rw [g1a];refine g0z fun k hk=>?_;unfold q70;rw [g63]
  congr 2
  rw [pd,uf,uf];have hk2:=(jz w k).mp hk
  constructor
  ·rintro⟨m,h1,h2⟩
   exact⟨m,h1,(mw.mp (tf h2)).2⟩
  ·rintro⟨m,h1,h2⟩
   exact⟨m,h1,mq (mw.mpr ⟨(jz w m).mpr (q1v w (by lia) k hk2 m h1),h2⟩)⟩
 rw [e] at c3;generalize zq ((qm w).filter (clr ms))=kn at od ik c3
 (refine za ?_;simp! [xn,qu,hl1,c1,as,hl2,c2,od,ik,hl3,c3,vw])
end My
open PySem PyProof.Rows L2 DL
namespace My
open PySem PyProof.Rows L2 DL
abbrev Run:=Int×List Int
abbrev q2d(r:Run): D:=.tup [.int r.1,TI r.2]
abbrev x9(w:Nat)(rs:List Run): D:=.tup [.int (w:Int),.tup (rs.map q2d)]
def ja(rs:List Run): Prop:=rs.length<=1000/\∀r∈rs,(∀x∈r.2,0<=x/\x<100)/\r.2.length<=1000/\0<=r.1/\∃t,t<64/\r.2=qh 12 t
abbrev mrD(r:Run): D:=.tup [.int r.1,.int (mk r.2)]
theorem qlm(w:Nat)(rs:List Run)(h:ja rs): q37 [x9 w rs]=some (.lst (rs.map mrD)):=by
 have hl':rs.length<=lim:=by have:=h.1;show _<=1000000;lia
 have c:qv (q0z 2 (xi (bN 0) (xi (bN 1) q0y))) zg (x5 (qa (eV 0) (qa (qf (qj 1 [] zf) (qa (eV 1) qe)) qe))) [none,none] (rs.map q2d)=some (rs.map mrD):=by
  have hr:=h.2;clear hl' h
  induction rs with
  | nil=>rfl
  | cons r rs ih=>
   have ih':=ih fun x hx=>hr x (gu _ hx);have m:=q5q r.2 (hr r gq).1 (hr r gq).2.1;rw [gf];simp! [qv,ih',m,zg]
 (refine za ?_;simp! [q36,qu,hl',c])
def cM(rs:List Run)(k:Nat): Int:=((rs.filter fun r=>decide (Builtin.bitAnd (mk r.2) (k:Int)=(k:Int))).map (·.1)).sum
theorem qrb(rs:List Run)(k:Nat): qv (q0z 2 (xi (bN 0) (xi (bN 1) q0y))) (zw oEq (eOp oBand (eV 1) (eV 2)) (eV 2)) (eV 0) [none,none,some (.fz (.int (k:Int)))] (rs.map mrD)
  = some (((rs.filter fun r=>decide (Builtin.bitAnd (mk r.2) (k:Int)=(k:Int))).map (·.1)).map D.int):=by
 induction rs with
 | nil=>rfl
 | cons r rs ih=>
  rw [gf]
  by_cases hb:Builtin.bitAnd (mk r.2) (k:Int)=(k:Int)
  ·simp! [qv,ih,qbw,hb,pb,g5u,nj]
  ·simp! [qv,ih,qbw,hb,pb,g5a,p8,gr]
theorem qa4(rs:List Run)(h:ja rs)(k:Nat)(hk:k<64): vd [.lst (rs.map mrD),TI (qh 12 k)]=some (.int (cM rs k)):=by
 have hl':rs.length<=lim:=by have:=h.1;show _<=1000000;lia
 have m:zf [TI (qh 12 k)]=some (.int (k:Int)):=by
  rw [q5q _ (fun x hx=>?_) (md (q0k 12 k) (by decide)),(yi k hk).2];obtain⟨i,rfl,hi⟩:=q5p hx;lia
 have c:=qrb rs k;have a:=qbq ((rs.filter fun r=>decide (Builtin.bitAnd (mk r.2) (k:Int)=(k:Int))).map (·.1))
 (refine za ?_;simp! [yn,qu,hl',m,c,a])
 rfl
abbrev pairD(rs:List Run)(k:Nat): D:=.tup [setD k,.int (cM rs k)]
theorem qgm(rs:List Run)(L:Int)(l:List Nat)(hl:l.length<=1000): v8 [.lst (l.map (pairD rs)),.int L]=some (.tup ((l.filter fun k=>decide (L<=cM rs k)).map (pairD rs))):=by
 have hl':l.length<=lim:=by show _<=1000000;lia
 have c:qv (bN 0) (zw oGe (eOp oIx (eV 0) (eC (.int 1))) (eV 1)) (eV 0) [none,some (.fz (.int L))] (l.map (pairD rs))=some ((l.filter fun k=>decide (L<=cM rs k)).map (pairD rs)):=by
  clear hl hl'
  induction l with
  | nil=>rfl
  | cons k l ih=>
   rw [gf]
   by_cases hb:L<=cM rs k
   ·simp! [qv,ih,hb,pb,g5u,nj]
   ·simp! [qv,ih,hb,pb,g5a,p8,gr]
 (refine za ?_;simp! [wx,qu,hl',c,vw])
theorem qfe(rs:List Run)(L:Int)(l:List Nat)(hl:l.length<=1000): v8 [.tup (l.map (pairD rs)),.int L]=some (.tup ((l.filter fun k=>decide (L<=cM rs k)).map (pairD rs))):=by
 have hl':l.length<=lim:=by show _<=1000000;lia
 have c:qv (bN 0) (zw oGe (eOp oIx (eV 0) (eC (.int 1))) (eV 1)) (eV 0) [none,some (.fz (.int L))] (l.map (pairD rs))=some ((l.filter fun k=>decide (L<=cM rs k)).map (pairD rs)):=by
  clear hl hl'
  induction l with
  | nil=>rfl
  | cons k l ih=>
   rw [gf]
   by_cases hb:L<=cM rs k
   ·simp! [qv,ih,hb,pb,g5u,nj]
   ·simp! [qv,ih,hb,pb,g5a,p8,gr]
 (refine za ?_;simp! [wx,qu,hl',c,vw])
def firstOf(b:List Int): Int:=match b.getLast? with
 | some x=>x+1
 | none=>0
theorem qln:∀i:Nat,i<6->∀m:Nat,m<2 ^ i->qh 12 (m+2 ^ i)=qh 12 m++[(i:Int)]:=by decide +kernel
theorem qrc(b:List Int)(x:Int): oIx (TI (b++[x])) (.int (-1))=some (.int x):=by
 rw [qtv,qo3,g0a,gf,g0s,List.getLast?_append];simp
theorem qrd{fa:FA}{ρ : Rho}{i j:Int}(ha:fa ρ = some [.int i,.int j])(h1 : -(2 ^ 62)<=i)(h2:i<2 ^ 62)(h3 : -(2 ^ 62)<=j)(h4:j<2 ^ 62): iR2 fa ρ = some (z5 i (j-i).toNat):=by
 unfold iR2;rw [ha,m4];dsimp only;rw [mq h1,mq h2,mq h3,mq h4]
 rfl
theorem qgn(b:List Int)(w s:Nat)(hs:firstOf b=(s:Int))(hb:b.length<=100)(hw:w<=100)(hs2:s<=100): xt [TI b,.int (w:Int)]=some (.lst ((List.range (w-s)).map fun i:Nat=>TI (b++[((s+i:Nat):Int)]))):=by
 have e:eIf (bT (eV 0)) (eOp zr (eOp oIx (eV 0) (eUn qae (eC (.int 1)))) (eC (.int 1))) (eC (.int 0)) [some (.fz (TI b)),some (.fz (.int (w:Int))),none]=some (.int (s:Int)):=by
  rw [<- hs];cases b with
  | nil=>rfl
  | cons x r=>
   have hx:∃b' y,x :: r=b'++[y]:=⟨(x :: r).dropLast,(x :: r).getLast (by simp),(List.dropLast_concat_getLast (by simp)).symm⟩
   obtain⟨b',y,e⟩:=hx;have ht:bT (eV 0) [some (.fz (TI (x :: r))),some (.fz (.int (w:Int))),none]=some true:=rfl;unfold eIf;rw [ht,m4,mh rfl,e];have hf:firstOf (b'++[y])=y+1:=by unfold firstOf;rw [List.getLast?_append];simp
   rw [hf];exact q6e (q6e (x_v rfl) (qvz x_c rfl) (qrc b' y)) x_c rfl
 have r:iR2 (qa (eV 2) (qa (eV 1) qe)) [some (.fz (TI b)),some (.fz (.int (w:Int))),some (.fz (.int (s:Int)))]=some (z5 (s:Int) (w-s)):=by
  rw [qrd (q09 (x_v rfl) (q09 (x_v rfl) q2l)) (by lia) (by lia) (by lia) (by lia),show((w:Int)-(s:Int)).toNat=w-s by lia]
 have hl:(z5 (s:Int) (w-s)).length<=lim:=by rw [wk];show _<=1000000;lia
 have c:qv (bN 0) zg (eOp zr (eV 1) (x5 (qa (eV 0) qe))) [none,some (.fz (TI b))] (z5 (s:Int) (w-s))=some ((List.range (w-s)).map fun i:Nat=>TI (b++[((s+i:Nat):Int)])):=by
  have:=q08 (b:=bN 0) (f:=eOp zr (eV 1) (x5 (qa (eV 0) qe))) (ρ :=[none,some (.fz (TI b))]) (fun d=>match d with | .int x=>TI (b++[x])|_=>.non) (ds:=z5 (s:Int) (w-s)) fun d hd=>by
   simp only [z5,ny] at hd;obtain⟨i,_,rfl⟩:=hd;refine⟨_,rfl,q6e (x_v rfl) (qv4 (q09 (x_v rfl) q2l) (by show 1<=1000000;decide)) ?_⟩;rw [qbp _ _ (by rw [mn];simp;lia)];simp only [TI,g0a,gf,g0s]
  rw [this,z5,ni]
  congr 1
 have lc:qu (iR2 (qa (eV 2) (qa (eV 1) qe))) [none,some 0] (bN 0) zg (eOp zr (eV 1) (x5 (qa (eV 0) qe))) [some (.fz (TI b)),some (.fz (.int (w:Int))),some (.fz (.int (s:Int)))]=some ((List.range (w-s)).map fun i:Nat=>TI (b++[((s+i:Nat):Int)])):=by
  unfold qu;rw [r,m4,mh hl];exact c
 have k1:zu 2 (eIf (bT (eV 0)) (eOp zr (eOp oIx (eV 0) (eUn qae (eC (.int 1)))) (eC (.int 1))) (eC (.int 0))) [some (.fz (TI b)),some (.fz (.int (w:Int))),none]=some (.nx,[some (.fz (TI b)),some (.fz (.int (w:Int))),some (.fz (.int (s:Int)))]):=by
  unfold zu;rw [e]
  rfl
 have k2:zd (eL (qu (iR2 (qa (eV 2) (qa (eV 1) qe))) [none,some 0] (bN 0) zg (eOp zr (eV 1) (x5 (qa (eV 0) qe))))) [some (.fz (TI b)),some (.fz (.int (w:Int))),some (.fz (.int (s:Int)))]=some (.rt (.lst ((List.range (w-s)).map fun i:Nat=>TI (b++[((s+i:Nat):Int)]))),[some (.fz (TI b)),some (.fz (.int (w:Int))),some (.fz (.int (s:Int)))]):=by
  unfold zd;rw [x_l lc]
  rfl
 have k3:xr [some (.fz (TI b)),some (.fz (.int (w:Int))),none]=some (.rt (.lst ((List.range (w-s)).map fun i:Nat=>TI (b++[((s+i:Nat):Int)]))),[some (.fz (TI b)),some (.fz (.int (w:Int))),some (.fz (.int (s:Int)))]):=by
  unfold xr z8;simp (config:={implicitDefEqProofs:=false}) only [k1,m4,k2]
 refine za ?_;have k4:([TI b,.int (w:Int)].map (fun d=>some (B.fz d))++List.replicate (3 - [TI b,D.int (w:Int)].length) none:Rho)=[some (.fz (TI b)),some (.fz (.int (w:Int))),none]:=rfl;rw [k4,k3,p6]
def firstN(k:Nat): Nat:=((List.range 7).find? fun s=>decide (k<2 ^ s)).getD 6
def yz(w k:Nat): List Nat:=(List.range (w-firstN k)).map fun i=>k+2 ^ (firstN k+i)
theorem qof:∀k:Nat,k<64->firstOf (qh 12 k)=(firstN k:Int)/\k<2 ^ firstN k/\firstN k<=6:=by decide +kernel
theorem qre(w k:Nat)(hw:w<=6)(hk:k<64): xt [setD k,.int (w:Int)]=some (.lst ((yz w k).map setD)):=by
 obtain⟨h1,h2,h3⟩:=qof k hk;rw [qgn (qh 12 k) w (firstN k) h1 (md (q0k 12 k) (by decide)) (by lia) (by lia)];unfold yz;rw [ni]
 congr 2
 refine g2i fun i hi=>?_;have hi':=uk.mp hi;have h4:k<2 ^ (firstN k+i):=gh h2 (Nat.pow_le_pow_right (by decide) (by lia));show TI _=TI (qh 12 (k+2 ^ (firstN k+i)));rw [qln (firstN k+i) (by lia) k h4]
def chk(A:List Nat)(l:Nat): Bool:=(zi l).all fun m=>decide (m∈A)
theorem qu1(A:List Nat)(hA:∀k∈A,k<64)(l:Nat)(hl:l<64)(x0 x1 x3 x4:Option B): qf qac (qa (eL (qu (jc (qf (qj 1 [] zx) (qa (eV 5) qe))) [none,some 2] (bN 0) zg (eOp q1k (eV 0) (eV 1)))) qe)
  [x0,x1,some (.fz (zq A)),x3,x4,some (.fz (setD l))]=some (.bl (chk A l)):=by
 have f:=qf6 l hl;have hlen:((zi l).map setD).length<=lim:=by
  rw [mn];unfold zi;rw [mn];exact md (nh _ _) (by simp;decide)
 have c:qv (bN 0) zg (eOp q1k (eV 0) (eV 1)) [none,some (.fz (zq A))] ((zi l).map setD)=some (((zi l).map fun m=>decide (m∈A)).map D.bl):=by
  have hf:=qf8 l hl;generalize zi l=q at hf;clear f hlen
  induction q with
  | nil=>rfl
  | cons m q ih=>
   have ih':=ih fun x hx=>hf x (gu _ hx);have hi:=qf7 A hA m (hf m gq);rw [gf];simp! [qv,ih',hi,zg]
 have a:qac [.lst (((zi l).map fun m=>decide (m∈A)).map D.bl)]=some (.bl (chk A l)):=by rw [qil,g15];rfl
 rw [mn] at hlen;simp! [f,qu,hlen,c,a]
theorem qrf:∀w:Nat,w<7->∀k:Nat,k<64->∀l∈yz w k,l<64:=by decide +kernel
theorem qog:∀w:Nat,w<7->∀k:Nat,k<64->(yz w k).length<=6:=by decide +kernel
theorem q49(A:List Nat)(hA:∀k∈A,k<64)(x0 x1 x4:Option B): ∀(q acc:List Nat) (b5:Option B),(∀l∈q,l<64)->acc.length+q.length<=1000->∃b5',
  runFor (bN 5) yy (q.map setD) [x0,x1,some (.fz (zq A)),some (.ow (acc.map setD)),x4,b5]=some (.nx,[x0,x1,some (.fz (zq A)),some (.ow ((acc++q.filter (chk A)).map setD)),x4,b5'])
 | [],acc,b5,_,_=>⟨b5,by simp [runFor]⟩
 | l :: q,acc,b5,hq,hl=>by
  simp only [pz] at hl;have hla:acc.length<lim:=by show _<1000000;lia
  have ck:=qu1 A hA l (hq l gq) x0 x1 (some (.ow (acc.map setD))) x4;have hq':∀x∈q,x<64:=fun x hx=>hq x (gu _ hx);have e0:bN 5 (setD l) [x0,x1,some (.fz (zq A)),some (.ow (acc.map setD)),x4,b5]=some [x0,x1,some (.fz (zq A)),some (.ow (acc.map setD)),x4,some (.fz (setD l))]:=by
   unfold bN
   rfl
  cases hc:chk A l with
  | true=>
   rw [hc] at ck;obtain⟨b5',ih⟩:=q49 A hA x0 x1 x4 q (acc++[l]) (some (.fz (setD l))) hq' (by simp;lia);have body:yy [x0,x1,some (.fz (zq A)),some (.ow (acc.map setD)),x4,some (.fz (setD l))]=some (.nx,[x0,x1,some (.fz (zq A)),some (.ow ((acc++[l]).map setD)),x4,some (.fz (setD l))]):=by
    unfold yy;refine qtr (qo5 ck rfl) rfl ?_;simp! [q2z,q5a,q5b,hla,g0a]
   refine⟨b5',?_⟩;rw [gf,j9 (b:=bN 5) e0 body,ih,pb,mh hc];simp
  | false=>
   rw [hc] at ck;obtain⟨b5',ih⟩:=q49 A hA x0 x1 x4 q acc (some (.fz (setD l))) hq' (by lia);have body:yy [x0,x1,some (.fz (zq A)),some (.ow (acc.map setD)),x4,some (.fz (setD l))]=some (.nx,[x0,x1,some (.fz (zq A)),some (.ow (acc.map setD)),x4,some (.fz (setD l))]):=by
    unfold yy;exact qts (qo5 ck rfl) rfl qtt
   refine⟨b5',?_⟩;rw [gf,j9 (b:=bN 5) e0 body,ih,pb,mi (by rw [hc];exact m5)]
def qcu(w:Nat)(A:List Nat): List Nat:=A.flatMap fun s=>(yz w s).filter (chk A)
theorem q7x(w:Nat)(hw:w<=6)(A:List Nat)(hA:∀k∈A,k<64)(x0:Option B): ∀(q acc:List Nat) (b4 b5:Option B),(∀l∈q,l<64)->acc.length+q.length*6<=1000->∃b4' b5',
  runFor (bN 4) q18 (q.map setD) [x0,some (.fz (.int (w:Int))),some (.fz (zq A)),some (.ow (acc.map setD)),b4,b5]=some (.nx,[x0,some (.fz (.int (w:Int))),some (.fz (zq A)),some (.ow ((acc++q.flatMap fun s=>(yz w s).filter (chk A)).map setD)),b4',b5'])
 | [],acc,b4,b5,_,_=>⟨b4,b5,by simp [runFor]⟩
 | s :: q,acc,b4,b5,hq,hl=>by
  simp only [pz] at hl;have hs:=hq s gq;have m:=qre w s hw hs;have hml:=qog w (by lia) s hs;obtain⟨c5,e⟩:=q49 A hA x0 (some (.fz (.int (w:Int)))) (some (.fz (setD s))) (yz w s) acc b5 (qrf w (by lia) s hs) (by lia);have hfl:((yz w s).filter (chk A)).length<=6:=md (nh _ _) hml;obtain⟨b4',b5',ih⟩:=q7x w hw A hA x0 q (acc++(yz w s).filter (chk A)) (some (.fz (setD s))) c5 (fun x hx=>hq x (gu _ hx)) (by rw [pf];lia);have body:q18 [x0,some (.fz (.int (w:Int))),some (.fz (zq A)),some (.ow (acc.map setD)),some (.fz (setD s)),b5]=some (.nx,[x0,some (.fz (.int (w:Int))),some (.fz (zq A)),some (.ow ((acc++(yz w s).filter (chk A)).map setD)),some (.fz (setD s)),c5]):=by
   simp! [q18,m,e]
  refine⟨b4',b5',?_⟩;rw [gf,j9 (b:=bN 4) rfl body,ih,g10,mm]
theorem qoh(w:Nat)(hw:w<=6)(A:List Nat)(hn:A.Nodup)(hA:∀k∈A,k<64)(hl:A.length<=100): q4i [.lst (A.map setD),.int (w:Int)]=some (.lst ((qcu w A).map setD)):=by
 have hl':A.length<=lim:=by show _<=1000000;lia
 have c:qv (bN 0) zg (x5 (qa (eV 0) (qa (eC (.bl true)) qe))) [none] (A.map setD)=some (A.map fun k=>D.tup [setD k,.bl true]):=by
  clear hl hl' hn hA
  induction A with
  | nil=>rfl
  | cons k A ih=>
   rw [gf];simp! [qv,ih,zg]
 have d:=q5r A hn hA (by lia);obtain⟨b4,b5,e⟩:=q7x w hw A hA (some (.fz (.lst (A.map setD)))) A [] none none hA (by simp;lia);simp only [g0s,g0l] at e
 (refine za ?_;simp! [q4h,qu,hl',c,d,e])
 rfl
end My
open PySem PyProof.Rows L2 DL
namespace My
open PySem PyProof.Rows L2 DL
theorem q8s(p q:Run->Bool): ∀rs:List Run,(∀r∈rs,0<=r.1)->(∀r∈rs,p r=true->q r=true)->((rs.filter p).map (·.1)).sum<=((rs.filter q).map (·.1)).sum
 | [],_,_=>Int.le_refl _
 | r :: rs,h,hpq=>by
  have ih:=q8s p q rs (fun x hx=>h x (gu _ hx)) fun x hx=>hpq x (gu _ hx);have h0:=h r gq;have h1:=hpq r gq;rw [pb,pb];cases hp:p r with
  | true=>
   rw [hp] at h1;rw [mh rfl,mh (h1 rfl),gf,gf,g64,g64];lia
  | false=>
   rw [mi m5]
   split
   ·rw [gf,g64];lia
   ·exact ih
def zb(rs:List Run)(L:Int)(k:Nat): Bool:=decide (L<=cM rs k)
theorem qlo:∀t:Nat,t<64->∀k:Nat,k<64->∀m∈zi k,t &&& k=k->t &&& m=m:=by decide +kernel
theorem qv7(rs:List Run)(h:ja rs)(k:Nat)(hk:k<64)(m:Nat)(hm:m∈zi k): cM rs k<=cM rs m:=by
 unfold cM;refine q8s _ _ rs (fun r hr=>(h.2 r hr).2.2.1) fun r hr hq=>?_;obtain⟨t,ht,e⟩:=(h.2 r hr).2.2.2;have e2:mk r.2=(t:Int):=by rw [e];exact(yi t ht).2
 rw [p5,e2,q7h] at hq ⊢;have:=qlo t ht k hk m hm (by exact_mod_cast hq);rw [this]
theorem qc4(rs:List Run)(L:Int)(h:ja rs)(k:Nat)(hk:k<64)(hp:zb rs L k=true): ∀m∈zi k,zb rs L m=true:=fun m hm=>by
 have:=qv7 rs h k hk m hm;unfold zb at hp ⊢;rw [p5] at hp ⊢;lia
def cnd(rs:List Run)(L:Int)(l:Nat): Bool:=(zi l).all (zb rs L)
def lv(w:Nat): Nat->List Nat
 | 0=>[0]
 | d+1=>(lv w d).flatMap (yz w)
theorem qoi:∀w:Nat,w<7->qm w=(List.range (w+1)).flatMap (lv w):=by decide +kernel
def oft(w:Nat)(rs:List Run)(L:Int): List Nat:=(qm w).filter fun k=>decide (L<=cM rs k)
theorem qff:∀w:Nat,w<7->lv w (w+1)=[]/\∀d:Nat,d<8->(∀k∈lv w d,k<64)/\(lv w d).Nodup/\(lv w d).length<=20:=by decide +kernel
theorem qj3:∀w:Nat,w<7->∀k:Nat,k<64->∀l∈yz w k,k∈zi l:=by decide +kernel
theorem qoj:∀w:Nat,w<7->∀d:Nat,d<7->∀l∈lv w (d+1),∀m∈zi l,m∈lv w d:=by decide +kernel
theorem q7y{α β : Type}(q : α -> Bool)(g : α -> List β): ∀l:List α,(∀s∈l,q s=false->g s=[])->(l.filter q).flatMap g=l.flatMap g
 | [],_=>rfl
 | s :: l,h=>by
  have ih:=q7y q g l fun x hx=>h x (gu _ hx);rw [pb,g10];cases c:q s with
  | true=>rw [mh rfl,g10,ih]
  | false=>rw [mi m5,ih,h s gq c,g0l]
theorem q4a{α β : Type}(p : β -> Bool)(g : α -> List β): ∀l:List α,(l.flatMap g).filter p=l.flatMap fun s=>(g s).filter p
 | []=>rfl
 | s :: l=>by rw [g10,g10,List.filter_append,q4a p g l]
def layer(w:Nat)(rs:List Run)(L:Int)(d:Nat): List Nat:=(lv w d).filter (cnd rs L)
theorem step(w:Nat)(hw:w<=6)(rs:List Run)(L:Int)(h:ja rs)(d:Nat)(hd:d<7): qcu w ((layer w rs L d).filter (zb rs L))=layer w rs L (d+1):=by
 obtain⟨_,lf⟩:=qff w (by lia);obtain⟨l1,l2,l3⟩:=lf d (by lia);obtain⟨k1,k2,k3⟩:=lf (d+1) (by lia);have eA:(layer w rs L d).filter (zb rs L)=(lv w d).filter fun k=>zb rs L k&&cnd rs L k:=by
  unfold layer;rw [g1a]
 rw [eA];unfold qcu;rw [q7y _ _ (lv w d) fun s hs hq=>?_]
 ·unfold layer
  show _=((lv w d).flatMap (yz w)).filter (cnd rs L);have e1:(lv w d).flatMap (fun s=>(yz w s).filter (chk ((lv w d).filter fun k=>zb rs L k&&cnd rs L k)))=((lv w d).flatMap (yz w)).filter (chk ((lv w d).filter fun k=>zb rs L k&&cnd rs L k)):=(q4a _ _ _).symm;rw [e1];refine g0z fun l hl=>?_;have hl':l∈lv w (d+1):=hl;have hf:=qoj w (by lia) d (by lia) l hl';unfold chk cnd;rw [pd,mx,mx]
  constructor
  ·intro z m hm
   have:=z m hm;rw [p5,mw,m8] at this;exact this.2.1
  ·intro z m hm
   rw [p5,mw,m8];refine⟨hf m hm,z m hm,?_⟩;show(zi m).all (zb rs L)=true;rw [mx];exact qc4 rs L h m (l1 m (hf m hm)) (z m hm)
 ·refine List.filter_eq_nil_iff.mpr fun l hl hc=>?_
  have hm:=qj3 w (by lia) s (l1 s hs) l hl;unfold chk at hc;have:=mx.mp hc s hm;rw [p5,mw] at this;rw [this.2] at hq;cases hq
theorem qc5(w:Nat)(hw:w<=6)(rs:List Run)(L:Int)(h:ja rs): ∀n d:Nat,d+n<=w+1->layer w rs L d=[]->(List.range' d n).flatMap (layer w rs L)=[]
 | 0,d,_,_=>rfl
 | n+1,d,hd,e=>by
  have s:=step w hw rs L h d (by lia);rw [e] at s;have e1:layer w rs L (d+1)=[]:=s.symm;rw [List.range'_succ,g10,e,g0l];exact qc5 w hw rs L h n (d+1) (by lia) e1
theorem qlp(rs:List Run)(h:ja rs)(A:List Nat)(hA:∀k∈A,k<64): qv (bN 0) zg (x5 (qa (eV 0) (qa (qf (qj 2 [] vd) (qa (eV 1) (qa (eV 0) qe))) qe))) [none,some (.fz (.lst (rs.map mrD)))] (A.map setD)=some (A.map (pairD rs)):=by
 induction A with
 | nil=>rfl
 | cons k l ih=>
  have ih':=ih fun x hx=>hA x (gu _ hx);have cm:=qa4 rs h k (hA k gq);rw [gf];simp! [qv,ih',cm,zg]
theorem qok(rs:List Run)(A:List Nat): qv (bN 0) zg (eOp oIx (eV 0) (eC (.int 0))) [none] (A.map (pairD rs))=some (A.map setD):=by
 induction A with
 | nil=>rfl
 | cons k l ih=>
  rw [gf];simp! [qv,ih,zg]
theorem turn(w:Nat)(hw:w<=6)(rs:List Run)(L:Int)(h:ja rs)(x0:Option B)(A acc:List Nat)(hn:A.Nodup)(hA:∀k∈A,k<64)(hl:A.length<=100)(hacc:acc.length<=1000)(b6:Option B):
  jx [x0,some (.fz (x9 w rs)),some (.fz (.int L)),some (.fz (.lst (rs.map mrD))),some (.ow (acc.map (pairD rs))),some (.fz (.lst (A.map setD))),b6] =
   some (.nx,[x0,some (.fz (x9 w rs)),some (.fz (.int L)),some (.fz (.lst (rs.map mrD))),some (.ow ((acc++A).map (pairD rs))),some (.fz (.lst ((qcu w (A.filter (zb rs L))).map setD))),some (.fz (.lst (A.map (pairD rs))))]):=by
 have hl':A.length<=lim:=by show _<=1000000;lia
 have hfl:(A.filter fun k=>decide (L<=cM rs k)).length<=lim:=md (nh _ _) hl';have he:acc.length+A.length<=lim:=by show _<=1000000;lia
 have c1:=qlp rs h A hA;have al:=qgm rs L A (by lia);have c2:=qok rs (A.filter fun k=>decide (L<=cM rs k));have g:=qoh w hw (A.filter fun k=>decide (L<=cM rs k)) (g0c _ hn) (fun k hk=>hA k (mw.mp hk).1) (md (nh _ _) hl);have e:(A.filter (zb rs L))=A.filter fun k=>decide (L<=cM rs k):=rfl;rw [e];simp! [jx,qu,hl',c1,qnh,q5a,q5b,he,al,hfl,c2,g,g0a]
theorem qfg(w:Nat)(hw:w<=6)(rs:List Run)(L:Int)(h:ja rs)(x0:Option B): ∀(n d f:Nat) (acc:List Nat) (b6:Option B),d+n=w+1->n<f->acc.length+n*20<=1000->∃b5' b6',
  yw (bT (eV 5)) jx f [x0,some (.fz (x9 w rs)),some (.fz (.int L)),some (.fz (.lst (rs.map mrD))),some (.ow (acc.map (pairD rs))),some (.fz (.lst ((layer w rs L d).map setD))),b6] =
   some (.nx,[x0,some (.fz (x9 w rs)),some (.fz (.int L)),some (.fz (.lst (rs.map mrD))),some (.ow ((acc++(List.range' d n).flatMap (layer w rs L)).map (pairD rs))),b5',b6'])
 | n,d,0,acc,b6,_,hf,_=>by lia
 | n,d,f+1,acc,b6,hd,hf,hl=>by
  obtain⟨le,lf⟩:=qff w (by lia);have ht:bT (eV 5) [x0,some (.fz (x9 w rs)),some (.fz (.int L)),some (.fz (.lst (rs.map mrD))),some (.ow (acc.map (pairD rs))),some (.fz (.lst ((layer w rs L d).map setD))),b6]=some (!((layer w rs L d).map setD).isEmpty):=qo5 (x_v rfl) rfl
  by_cases hc:layer w rs L d=[]
  ·rw [hc] at ht
   have hz:=qc5 w hw rs L h n d (by lia) hc;rw [hz,g2j];refine⟨some (.fz (.lst ((layer w rs L d).map setD))),b6,?_⟩;unfold yw;rw [hc];rw [ht]
   rfl
  ·have hne:(!((layer w rs L d).map setD).isEmpty)=true:=by
    cases e:layer w rs L d with
    | nil=>exact absurd e hc
    | cons a l=>rfl
   rw [hne] at ht;cases n with
   | zero=>
    have:d=w+1:=by lia
    subst this;exact absurd (by unfold layer;rw [le];rfl) hc
   | succ n=>
    obtain⟨k1,k2,k3⟩:=lf d (by lia);have hll:(layer w rs L d).length<=20:=md (nh _ _) k3;have t:=turn w hw rs L h x0 (layer w rs L d) acc (g0c _ k2) (fun k hk=>k1 k (mw.mp hk).1) (by lia) (by lia) b6;rw [step w hw rs L h d (by lia)] at t;obtain⟨b5',b6',ih⟩:=qfg w hw rs L h x0 n (d+1) f (acc++layer w rs L d) (some (.fz (.lst ((layer w rs L d).map (pairD rs))))) (by lia) (by lia) (by rw [pf];lia);refine⟨b5',b6',?_⟩;unfold yw;rw [ht,m4,mh rfl,t,m4];dsimp only;rw [ih,List.range'_succ,g10,mm]
theorem qw4(r:Rho): frz 0 (none :: r)=none :: r:=rfl
def q1w(w:Nat)(rs:List Run)(L:Int): List Nat:=(qm w).filter (cnd rs L)
theorem qa5(self:D)(w:Nat)(hw:w<=6)(rs:List Run)(L:Int)(h:ja rs): j6 [self,x9 w rs,.int L]=some (.tup ((q1w w rs L).map (pairD rs))):=by
 have m:=qlm w rs h;obtain⟨b5,b6,e⟩:=qfg w hw rs L h (some (.fz self)) (w+1) 0 100000 [] none (by lia) (by lia) (by simp;lia);have e0:layer w rs L 0=[0]:=rfl;rw [e0, <- List.range_eq_range',g0l] at e;have e1:(List.range (w+1)).flatMap (layer w rs L)=q1w w rs L:=by
  unfold q1w;rw [qoi w (by lia),q4a]
  rfl
 rw [e1] at e;simp only [g0s,gf] at e;rw [show setD 0=D.tup [] from rfl] at e;cases b6 with
 | none=>(refine za ?_;simp! [j5,m,e,vw,qw4])
 | some z=>cases z with
  | fz z=>(refine za ?_;simp! [j5,m,e,vw,qw3])
  | ow z=>(refine za ?_;simp! [j5,m,e,vw])
  | od z=>(refine za ?_;simp! [j5,m,e,vw])
theorem qj4(rs:List Run)(L:Int)(h:ja rs)(k:Nat)(hk:k<64)(hp:zb rs L k=true): cnd rs L k=true:=by
 unfold cnd;rw [mx];exact qc4 rs L h k hk hp
theorem qol(w:Nat)(hw:w<=6)(rs:List Run)(L:Int)(h:ja rs): (q1w w rs L).filter (fun k=>decide (L<=cM rs k))=oft w rs L:=by
 unfold q1w oft;rw [g1a];refine g0z fun k hk=>?_;cases hp:decide (L<=cM rs k) with
 | false=>rfl
 | true=>rw [qj4 rs L h k (q1u hw k hk) hp];rfl
theorem q5s(w:Nat)(hw:w<=6)(rs:List Run)(L:Int): (q1w w rs L).length<=64:=by
 unfold q1w;exact md (nh _ _) (by rw [q0t w];exact x6 hw)
theorem qj5:isO "Growing" (.obj "Growing")=true:=by decide
theorem qom(w:Nat)(hw:w<=6)(rs:List Run)(L:Int)(h:ja rs): yc [.obj "Growing",x9 w rs,.int L]=some (.tup ((oft w rs L).map (pairD rs))):=by
 have c:=qa5 (.obj "Growing") w hw rs L h;have a:=qfe rs L (q1w w rs L) (by have:=q5s w hw rs L;lia);rw [qol w hw rs L h] at a
 (refine za ?_;simp! [yb,q87,qj5,c,a])
end My
open PySem PyProof.Rows L2 DL
namespace My
open PySem PyProof.Rows L2 DL
theorem qc6(rs:List Run): ∀A:List Nat,q34 (A.map (pairD rs))=some (A.map (qh 12),A.map fun k=>.int (cM rs k))
 | []=>rfl
 | k :: A=>by
  have hi:yx ((qh 12 k).map D.int)=some (qh 12 k):=q21 _;show((yx ((qh 12 k).map D.int)).bind fun x=>(q34 (A.map (pairD rs))).map fun p=>(x :: p.1,D.int (cM rs k) :: p.2))=_;rw [hi,qc6 rs A]
  rfl
theorem qj6(rs:List Run)(A:List Nat)(hn:A.Nodup)(hA:∀k∈A,k<64)(hl:A.length<=1000): q9p [.tup (A.map (pairD rs))]=some (.dtt (A.map (qh 12)) (A.map fun k=>.int (cM rs k))):=by
 show(q34 (A.map (pairD rs))).bind (fun p=>if p.1.Nodup/\(A.map (pairD rs)).length<=lim then some (D.dtt p.1 p.2) else none)=_;rw [qc6];show(if(A.map (qh 12)).Nodup/\_ then _ else _)=_;rw [mh ⟨q7w hn hA,by rw [mn];show _<=1000000;lia⟩]
def upB(w:Nat)(rs:List Run)(L:Int): List Nat:=(oft w rs L).filter fun k=> !(x8 w k).any fun m=>decide (m∈oft w rs L)
def loB(w:Nat)(rs:List Run)(L:Int): List Nat:=(q1w w rs L).filter fun k=>decide (cM rs k<L)
theorem qb3(w:Nat)(hw:w<=6)(rs:List Run)(L:Int): (oft w rs L).length<=64:=md (nh _ _) (by rw [q0t];exact x6 hw)
theorem qb4(w:Nat)(hw:w<=6)(rs:List Run)(h:ja rs)(L:Int): q1c [x9 w rs,.int L]=some (.tup ((upB w rs L).map (pairD rs))):=by
 have oe:=qom w hw rs L h;have ol:=qb3 w hw rs L;have hA:∀k∈oft w rs L,k<64:=fun k hk=>q1u hw k (mw.mp hk).1;have dp:=qj6 rs (oft w rs L) (g0c _ (q48 w)) hA (by lia);have hl:(oft w rs L).length<=lim:=by show _<=1000000;lia
 have c:=jr (b:=bN 0) (c:=bT (qf (qj 3 [] zy) (qa (eOp oIx (eV 0) (eC (.int 0))) (qa (eV 1) (qa (eOp oIx (eV 2) (eC (.int 0))) qe))))) (e:=eV 0) (ρ :=[none,some (.fz (.dtt ((oft w rs L).map (qh 12)) ((oft w rs L).map fun k=>.int (cM rs k)))),some (.fz (x9 w rs))]) (pairD rs) (fun k=> !(x8 w k).any fun m=>decide (m∈oft w rs L)) (pairD rs) (oft w rs L) fun k hk=>by
  have ge:=q6y w hw (oft w rs L) hA k ((jz w k).mp (mw.mp hk).1) ((oft w rs L).map fun k=>.int (cM rs k));refine⟨[some (.fz (pairD rs k)),some (.fz (.dtt ((oft w rs L).map (qh 12)) ((oft w rs L).map fun k=>.int (cM rs k)))),some (.fz (x9 w rs))],rfl,?_,fun _=>rfl⟩;simp! [ge]
 (refine za ?_;simp! [q1b,q87,qj5,oe,dp,qu,hl,c])
 rfl
theorem qfh(w:Nat)(hw:w<=6)(rs:List Run)(h:ja rs)(L:Int): q3f [x9 w rs,.int L]=some (.tup ((loB w rs L).map (pairD rs))):=by
 have ce:=qa5 (.obj "Growing") w hw rs L h;have cl:=q5s w hw rs L;have hl:(q1w w rs L).length<=lim:=by show _<=1000000;lia
 have c:=jr (b:=bN 0) (c:=zw oLt' (eOp oIx (eV 0) (eC (.int 1))) (eV 1)) (e:=eV 0) (ρ :=[none,some (.fz (.int L))]) (pairD rs) (fun k=>decide (cM rs k<L)) (pairD rs) (q1w w rs L) fun k hk=>by
  refine⟨[some (.fz (pairD rs k)),some (.fz (.int L))],rfl,?_,fun _=>rfl⟩;simp! [nj]
 (refine za ?_;simp! [q3e,q87,qj5,ce,qu,hl,c])
 rfl
theorem qrg(rs:List Run)(h:ja rs){a b:Nat}(hab:blw a b=true): cM rs b<=cM rs a:=by
 have hab:a &&& b=a:=tf hab;unfold cM;refine q8s _ _ rs (fun r hr=>(h.2 r hr).2.2.1) fun r hr hq=>?_;obtain⟨t,ht,e⟩:=(h.2 r hr).2.2.2;have e2:mk r.2=(t:Int):=by rw [e];exact(yi t ht).2
 rw [p5,e2,q7h] at hq ⊢;have hq:t &&& b=b:=by exact_mod_cast hq
 have:t &&& a=a:=by
  rw [<- hab,g5b a b, <- Nat.and_assoc,hq]
 rw [this]
theorem qc7{a b c:Nat}(h1:blw a b=true)(h2:blw b c=true): blw a c=true:=by
 have h1:a &&& b=a:=tf h1;have h2:b &&& c=b:=tf h2;exact mq (by rw [<- h1,Nat.and_assoc,h2])
theorem qfi(a:Nat): blw a a=true:=mq (Nat.and_self a)
theorem qj7:∀w:Nat,w<7->∀k:Nat,k<2 ^ w->∀m∈x8 w k,blw k m=true/\k<m:=by decide +kernel
theorem qgo:∀k:Nat,k<64->∀m∈zi k,blw m k=true/\m<k:=by decide +kernel
theorem qrh:∀w:Nat,w<7->∀a:Nat,a<2 ^ w->∀b:Nat,b<2 ^ w->blw a b=true->a=b\/(x8 w a).any (fun m=>blw m b)=true:=by decide +kernel
theorem qlq:∀a:Nat,a<64->∀b:Nat,b<64->blw a b=true->a=b\/(zi b).any (fun m=>blw a m)=true:=by decide +kernel
section
variable(w:Nat)(hw:w<=6)(rs:List Run)(L:Int)(h:ja rs)
theorem q4o{k:Nat}: k∈oft w rs L↔k<2 ^ w/\zb rs L k=true:=by
 unfold oft zb;rw [mw,jz]
include hw
theorem q4p{k:Nat}: k∈upB w rs L↔k<2 ^ w/\zb rs L k=true/\∀m∈x8 w k,zb rs L m=false:=by
 unfold upB;rw [mw,q4o,g1i,List.any_eq_false]
 constructor
 ·rintro⟨⟨a,b⟩,c⟩
  refine⟨a,b,fun m hm=>?_⟩;cases hp:zb rs L m with
  | false=>rfl
  | true=>exact absurd (mq ((q4o w rs L).mpr ⟨q1v w (by lia) k a m hm,hp⟩)) (c m hm)
 ·rintro⟨a,b,c⟩
  refine⟨⟨a,b⟩,fun m hm z=>?_⟩;have:=((q4o w rs L).mp (tf z)).2;rw [c m hm] at this;cases this
theorem q4q{k:Nat}: k∈loB w rs L↔k<2 ^ w/\zb rs L k=false/\cnd rs L k=true:=by
 unfold loB q1w;rw [mw,mw,jz,p5];have:zb rs L k=false↔cM rs k<L:=by unfold zb;rw [ug];lia
 rw [this];exact⟨fun⟨⟨a,b⟩,c⟩=>⟨a,c,b⟩,fun⟨a,c,b⟩=>⟨⟨a,b⟩,c⟩⟩
include h
theorem q5t{a b:Nat}(hab:blw a b=true)(hb:zb rs L b=true): zb rs L a=true:=by
 have:=qrg rs h hab;unfold zb at hb ⊢;rw [p5] at hb ⊢;lia
theorem qlr(k:Nat)(hk:k<2 ^ w): (upB w rs L).any (blw k)=zb rs L k:=by
 rw [pd,uf]
 constructor
 ·rintro⟨u,hu,hb⟩
  exact q5t w hw rs L h hb ((q4p w hw rs L).mp hu).2.1
 ·intro ho
  have key:∀n k:Nat,2 ^ w<=k+n->k<2 ^ w->zb rs L k=true->∃u∈upB w rs L,blw k u=true:=by
   intro n
   induction n with
   | zero=>intro k h1 h2;lia
   | succ n ih=>
    intro k h1 h2 h3
    by_cases hx:∃m∈x8 w k,zb rs L m=true
    ·obtain⟨m,hm,h4⟩:=hx
     obtain⟨f1,f2⟩:=qj7 w (by lia) k h2 m hm;obtain⟨u,hu,hb⟩:=ih m (by lia) (q1v w (by lia) k h2 m hm) h4;exact⟨u,hu,qc7 f1 hb⟩
    ·exact⟨k,(q4p w hw rs L).mpr ⟨h2,h3,fun m hm=>by
      cases hp:zb rs L m with
      | false=>rfl
      | true=>exact absurd ⟨m,hm,hp⟩ hx⟩,qfi k⟩
  exact key (2 ^ w) k (by lia) hk ho
theorem qls(k:Nat)(hk:k<2 ^ w): (loB w rs L).any (fun s=>blw s k) = !zb rs L k:=by
 rw [pd,uf,g1i]
 constructor
 ·rintro⟨u,hu,hb⟩
  have hu:=((q4q w hw rs L).mp hu).2.1;cases hp:zb rs L k with
  | false=>rfl
  | true=>rw [q5t w hw rs L h hb hp] at hu;cases hu
 ·intro ho
  have key:∀n k:Nat,k<n->k<2 ^ w->zb rs L k=false->∃u∈loB w rs L,blw u k=true:=by
   intro n
   induction n with
   | zero=>intro k h1;lia
   | succ n ih=>
    intro k h1 h2 h3;have h64:k<64:=gh h2 (x6 hw)
    by_cases hx:∃m∈zi k,zb rs L m=false
    ·obtain⟨m,hm,h4⟩:=hx
     obtain⟨f1,f2⟩:=qgo k h64 m hm;obtain⟨u,hu,hb⟩:=ih m (by lia) (by lia) h4;exact⟨u,hu,qc7 hb f1⟩
    ·exact⟨k,(q4q w hw rs L).mpr ⟨h2,h3,by
      unfold cnd;rw [mx];intro m hm;cases hp:zb rs L m with
      | true=>rfl
      | false=>exact absurd ⟨m,hm,hp⟩ hx⟩,qfi k⟩
  exact key (k+1) k (by lia) hk ho
theorem qon{a b:Nat}(ha:a∈upB w rs L)(hb:b∈upB w rs L)(hab:blw a b=true): a=b:=by
 obtain⟨a1,a2,a3⟩:=(q4p w hw rs L).mp ha;obtain⟨b1,b2,b3⟩:=(q4p w hw rs L).mp hb;rcases qrh w (by lia) a a1 b b1 hab with e|e
 ·exact e
 ·obtain⟨m,hm,hmb⟩:=uf.mp e
  have:=q5t w hw rs L h hmb b2;rw [a3 m hm] at this;cases this
theorem qoo{a b:Nat}(ha:a∈loB w rs L)(hb:b∈loB w rs L)(hab:blw a b=true): a=b:=by
 obtain⟨a1,a2,a3⟩:=(q4q w hw rs L).mp ha;obtain⟨b1,b2,b3⟩:=(q4q w hw rs L).mp hb;rcases qlq a (gh a1 (x6 hw)) b (gh b1 (x6 hw)) hab with e|e
 ·exact e
 ·obtain⟨m,hm,hmb⟩:=uf.mp e
  have:=q5t w hw rs L h hmb (mx.mp b3 m hm);rw [a2] at this;cases this
theorem qop:(qm w).filter (q6z w (upB w rs L).reverse)=loB w rs L:=by
 unfold loB q1w;rw [g1a];apply g0z;intro k hk;have hk':=(jz w k).mp hk;have e:∀m:Nat,m<2 ^ w->byd (upB w rs L).reverse m = !zb rs L m:=fun m hm=>by
  unfold byd;rw [List.any_reverse,qlr w hw rs L h m hm]
 unfold q6z;rw [e k hk'];have f:((zi k).any fun m=>byd (upB w rs L).reverse m) = !cnd rs L k:=by
  unfold cnd;rw [List.not_all_eq_any_not];rw [pd,uf,uf]
  constructor <;> rintro⟨m,hm,z⟩ <;> refine⟨m,hm,?_⟩ <;> have e2:=e m (qc3 w (by lia) k hk' m hm)
  ·rw [e2] at z;exact z
  ·rw [e2];exact z
 rw [f,Bool.not_not];have:decide (cM rs k<L) = !zb rs L k:=by unfold zb;rw [<- decide_not];exact g2b.mpr (by lia)
 rw [this]
theorem qoq:(qm w).filter (q70 w (loB w rs L).reverse)=upB w rs L:=by
 unfold upB oft;rw [g1a];apply g0z;intro k hk;have hk':=(jz w k).mp hk;have e:∀m:Nat,m<2 ^ w->clr (loB w rs L).reverse m=zb rs L m:=fun m hm=>by
  unfold clr;rw [List.any_reverse,qls w hw rs L h m hm,Bool.not_not]
 unfold q70;rw [e k hk',g63];show _=(_&&zb rs L k)
 congr 2
 rw [pd,uf,uf]
 constructor <;> rintro⟨m,hm,z⟩ <;> refine⟨m,hm,?_⟩ <;> have e2:=e m (q1v w (by lia) k hk' m hm)
 ·rw [e2] at z
  exact mq ((q4o w rs L).mpr ⟨q1v w (by lia) k hk' m hm,z⟩)
 ·rw [e2]
  exact((q4o w rs L).mp (tf z)).2
end
end My
open PySem PyProof.Rows L2 DL
namespace My
open PySem PyProof.Rows L2 DL
theorem same_int(n:Nat)(i:Int): F_law_same (n+1) [.int i,.int i]=some (.bl true):=by
 show z9 4 (ya (F_law_same n)) [.int i,.int i]=_
 (refine za ?_;simp! [ya])
theorem qc8(n:Nat)(x0 x1:Option B): ∀(ds:List D) (b2 b3:Option B),(∀d∈ds,F_law_same n [d,d]=some (.bl true))->∃b2' b3',runFor (q0z 2 (xi (bN 2) (xi (bN 3) q0y))) (k6 (F_law_same n)) (q67 ds ds) [x0,x1,b2,b3]=some (.nx,[x0,x1,b2',b3'])
 | [],b2,b3,_=>⟨b2,b3,rfl⟩
 | d :: ds,b2,b3,h=>by
  obtain⟨b2',b3',ih⟩:=qc8 n x0 x1 ds (some (.fz d)) (some (.fz d)) fun e he=>h e (gu _ he);refine⟨b2',b3',?_⟩;have hd:=h d gq;have z:q67 (d :: ds) (d :: ds)=.tup [d,d] :: q67 ds ds:=rfl;rw [z,j9 (ρ1:=[x0,x1,some (.fz d),some (.fz d)]) rfl (show k6 (F_law_same n) [x0,x1,some (.fz d),some (.fz d)]=some (.nx,[x0,x1,some (.fz d),some (.fz d)]) by simp! [k6,hd]),ih]
theorem qfj(n:Nat)(ds:List D)(h:∀d∈ds,F_law_same n [d,d]=some (.bl true)): F_law_same (n+1) [.tup ds,.tup ds]=some (.bl true):=by
 obtain⟨b2,b3,hl⟩:=qc8 n (some (.fz (.tup ds))) (some (.fz (.tup ds))) ds none none h;show z9 4 (ya (F_law_same n)) [.tup ds,.tup ds]=_
 (refine za ?_;simp! [ya,qmx,xm,hl])
theorem qri(n:Nat)(b:List Int): F_law_same (n+2) [TI b,TI b]=some (.bl true):=qfj _ _ fun d hd=>by
 obtain⟨x,_,rfl⟩:=ny.mp hd;exact same_int _ _
theorem q3l(ns:List Int)(k:Int)(h0:0<=k)(h1:k<=1000000): ∃m,xj [.lst (ns.map .int),.int k]=some (.int m)/\0<=m/\m<2147483629:=by
 have hkk:jv (.int k) (.int k)=some (.int (k*k)):=wm _ _ ⟨by lia,by lia⟩;have hx:∀x:Int,jv (.int (x%2147483647)) (.int (x%2147483647))=some (.int ((x%2147483647)*(x%2147483647))):=fun x=>
  wm _ _ ⟨by have:=g1e x (show(2147483647:Int)≠0 by decide);lia,by have:=g19 x (show(0:Int)<2147483647 by decide);lia⟩
 have fin:∀x:Int,0<=x%2147483629/\x%2147483629<2147483629:=fun x=>⟨g1e x (by decide),g19 x (by decide)⟩
 by_cases hn:0<ns.length
 ·obtain⟨j,hj,hm⟩:=qr3 (x:=k) hn
  have hn':(0:Int)<(ns.length:Int):=by lia
  have hi:atI (ns.map D.int) (j:Int)=some (.int ns[j]):=by rw [qo6,mr,my hj];rfl
  simp! [xj,kc,hkk,hx,hm,hn',hi];exact⟨_,rfl,fin _⟩
 ·have hn':¬(0:Int)<(ns.length:Int):=by lia
  simp! [xj,kc,hkk,hx,hn'];exact⟨_,rfl,fin _⟩
theorem qhq(w:Nat)(hw:w<=6)(x:Int): ∃m:Nat,m<2 ^ w/\j4 [.int (x%((2 ^ w:Nat):Int))]=some (setD m):=by
 have hp:(0:Int)<((2 ^ w:Nat):Int):=by exact_mod_cast g5l w
 have a:=g1e x (Int.ne_of_gt hp);have b:=g19 x hp;refine⟨(x%((2 ^ w:Nat):Int)).toNat,by lia,?_⟩;have:=q5v (x%((2 ^ w:Nat):Int)).toNat (by have:=x6 hw;lia);rw [g2f a] at this;exact this
theorem qfk(x:Int)(n:Nat)(hn:0<n): ∃k:Nat,k<n/\x%(n:Int)=(k:Int):=by
 have a:=g1e x (show(n:Int)≠0 by lia);have b:=g19 x (show(0:Int)<(n:Int) by lia);exact⟨(x%(n:Int)).toNat,by lia,by lia⟩
theorem qc9:∀a:Nat,a<64->∀b:Nat,b<64->decide (((qh 12 a).filter fun x=>decide (x∈qh 12 b)).length=(qh 12 a).length)=blw a b:=by decide +kernel
theorem q3m(a b:Nat)(ha:a<64)(hb:b<64): jh [setD a,setD b]=some (.bl (blw a b)):=by
 have c:=qj1 (c:=zw (oIn false) (eV 0) (eV 1)) (ρ :=[some (.fz (setD b))]) (fun x=>decide (x∈qh 12 b)) (qh 12 a) fun x _=>by
  have o:=qf9 x (qh 12 b);simp! [o]
 have hl:(qh 12 a).length<=lim:=md (q0k 12 a) (by decide);have e:=qa2 (((qh 12 a).filter fun x=>decide (x∈qh 12 b)).length) (qh 12 a).length;rw [qc9 a ha b hb] at e
 (refine za ?_;simp! [q0c,qu,hl,c,e])
theorem qlt:∀ns ms:List Int,vq (ns.map D.int) (ms.map D.int)=true
 | [],ms=>by cases ms <;> rfl
 | n :: ns,[]=>rfl
 | n :: ns,m :: ms=>by simp only [gf,vq,qlt ns ms,g2d];rfl
theorem qp7:∀ns ms:List Int,eqL (ns.map D.int) (ms.map D.int)=decide (ns=ms)
 | [],[]=>rfl
 | [],m :: ms=>rfl
 | n :: ns,[]=>rfl
 | n :: ns,m :: ms=>by
  simp only [gf,eqL,qp7 ns ms];show((n==m)&&decide (ns=ms))=_;rw [pd];simp
theorem qca(l:List Nat): q16 [.tup (l.map setD),.tup (l.map setD)]=some (.bl true):=qfj 15 _ fun d hd=>by
 obtain⟨k,_,rfl⟩:=ny.mp hd;exact qri 13 _
theorem qrj(a b:Nat)(ha:a<64)(hb:b<64): qn2 (setD a) (setD b)=some (.bl (!decide (a=b))):=by
 show(none:Option D).or (if(vq ((qh 12 a).map D.int) ((qh 12 b).map D.int)&&decide (v7 ((qh 12 a).map D.int)<=60))=true then some (D.bl (!eqL ((qh 12 a).map D.int) ((qh 12 b).map D.int))) else none)=_;rw [qlt,q6w,qp7];have:decide (qh 12 a=qh 12 b)=decide (a=b):=g2b.mpr ⟨q5o a ha b hb,fun e=>by rw [e]⟩;rw [this];rfl
def Good(r:Run): Prop:=0<=r.1/\∃t,t<64/\r.2=qh 12 t
theorem qb5{rs:List Run}(hl:rs.length<=1000)(h:∀r∈rs,Good r): ja rs:=⟨hl,fun r hr=>by
 obtain⟨h0,t,ht,e⟩:=h r hr;refine⟨fun x hx=>?_,by rw [e];have:=q0k 12 t;lia,h0,t,ht,e⟩;rw [e] at hx;obtain⟨i,rfl,hi⟩:=q5p hx;lia⟩
theorem q2p(x:Int)(w:Nat)(hw:w<=6)(M:Int)(hM:0<M): ∃r,w6 [.int x,.int (w:Int),.int M]=some (q2d r)/\Good r:=by
 obtain⟨m,hm,hs⟩:=qhq w hw x;have hp:=q3k w hw;have h0:=g1e (x / 4096) (show M≠0 by lia);have l2:∀a b:D,([a,b]:List D).length<=lim:=fun _ _=>by show 2<=1000000;decide
 have hpp:(0:Int)<((2 ^ w:Nat):Int):=by exact_mod_cast g5l w
 refine⟨(1+x / 4096%M,qh 12 m),?_,by show 0<=1+x / 4096%M;lia,m,gh hm (x6 hw),rfl⟩
 (refine za ?_;simp! [q24,hM,hp,hpp,hs,l2])
theorem qcb(ns:List Int)(w:Nat)(hw:w<=6)(M:Int)(hM:0<M)(x1 x2:Option B): ∀(n k:Nat) (ra:List Run) (b6 b7:Option B),k+n<=100->ra.length+n<=100->(∀r∈ra,Good r)->∃(rs:List Run) (b6' b7':Option B),rs.length<=100/\(∀r∈rs,Good r) /\
  runFor (bN 6) xv (z5 (k:Int) n) [some (.fz (.lst (ns.map .int))),x1,x2,some (.fz (.int (w:Int))),some (.fz (.int M)),some (.ow (ra.map q2d)),b6,b7]=some (.nx,[some (.fz (.lst (ns.map .int))),x1,x2,some (.fz (.int (w:Int))),some (.fz (.int M)),some (.ow (rs.map q2d)),b6',b7'])
 | 0,k,ra,b6,b7,_,h1,h3=>⟨ra,b6,b7,h1,h3,rfl⟩
 | n + 1,k,ra,b6,b7,hk,h1,h3=>by
  obtain⟨m1,hm1,_,_⟩:=q3l ns (3*(k:Int)+1) (by lia) (by lia);obtain⟨m2,hm2,_,_⟩:=q3l ns (3*(k:Int)+2) (by lia) (by lia);obtain⟨m3,hm3,_,_⟩:=q3l ns (3*(k:Int)+3) (by lia) (by lia);have la:ra.length<lim:=by show _<1000000;lia
  have t3:jv (.int 3) (.int (k:Int))=some (.int (3*(k:Int))):=wm _ _ ⟨by lia,by lia⟩;have t4:∀x:Int,jv (.int x) (.int 4096)=some (.int (x*4096)):=fun x=>wm _ _ ⟨by decide,by decide⟩;have t8:∀x:Int,jv (.int x) (.int 8)=some (.int (x*8)):=fun x=>wm _ _ ⟨by decide,by decide⟩;have e0:bN 6 (.int (k:Int)) [some (.fz (.lst (ns.map .int))),x1,x2,some (.fz (.int (w:Int))),some (.fz (.int M)),some (.ow (ra.map q2d)),b6,b7]=some [some (.fz (.lst (ns.map .int))),x1,x2,some (.fz (.int (w:Int))),some (.fz (.int M)),some (.ow (ra.map q2d)),some (.fz (.int (k:Int))),b7]:=rfl;have body:∃y r,Good r/\xv [some (.fz (.lst (ns.map .int))),x1,x2,some (.fz (.int (w:Int))),some (.fz (.int M)),some (.ow (ra.map q2d)),some (.fz (.int (k:Int))),b7]=some (.nx,[some (.fz (.lst (ns.map .int))),x1,x2,some (.fz (.int (w:Int))),some (.fz (.int M)),some (.ow ((ra++[r]).map q2d)),some (.fz (.int (k:Int))),some (.fz (.int y))]):=by
   by_cases c1:1<(k:Int)
   ·by_cases c2:m3%3=0
    ·obtain⟨r,hr,g⟩:=q2p ((m1*4096+m2%4096) / 4096*4096+(m1*4096+m2%4096)%4096 / 8*8%4096) w hw M hM
     refine⟨(m1*4096+m2%4096) / 4096*4096+(m1*4096+m2%4096)%4096 / 8*8%4096,r,g,?_⟩;rw [g0a];simp! [xv,t3,t4,t8,hm1,hm2,hm3,c1,c2,hr,q2z,q5a,q5b,la]
    ·obtain⟨r,hr,g⟩:=q2p (m1*4096+m2%4096) w hw M hM
     refine⟨m1*4096+m2%4096,r,g,?_⟩;rw [g0a];simp! [xv,t3,t4,t8,hm1,hm2,hm3,c1,c2,hr,q2z,q5a,q5b,la]
   ·obtain⟨r,hr,g⟩:=q2p (m1*4096+m2%4096) w hw M hM
    refine⟨m1*4096+m2%4096,r,g,?_⟩;rw [g0a];simp! [xv,t3,t4,t8,hm1,hm2,c1,hr,q2z,q5a,q5b,la]
  obtain⟨y,r,g,hb⟩:=body;obtain⟨rs,b6',b7',q1,q3,ih⟩:=qcb ns w hw M hM x1 x2 n (k+1) (ra++[r]) (some (.fz (.int (k:Int)))) (some (.fz (.int y))) (by lia) (by simp only [pf,pz,g1w];lia)
   (fun q hq=>by
    rcases nt.mp hq with z|z
    ·exact h3 q z
    ·rw [mv.mp z];exact g)
  refine⟨rs,b6',b7',q1,q3,?_⟩;rw [q7n,j9 e0 hb,show(k:Int)+1=((k+1:Nat):Int) by lia,ih]
theorem qfl(w:Nat)(hw:w<=6)(M:Int)(hM:0<M): ∀ms:List Int,∃rs:List Run,rs.length=ms.length/\(∀r∈rs,Good r)/\qv (bN 0) zg (qf (qj 3 [] w6) (qa (eV 0) (qa (eV 1) (qa (eV 2) qe)))) [none,some (.fz (.int (w:Int))),some (.fz (.int M))] (ms.map D.int)=some (rs.map q2d)
 | []=>⟨[],rfl,(fun _ h=>by cases h),rfl⟩
 | x :: ms=>by
  obtain⟨rs,h1,h2,h3⟩:=qfl w hw M hM ms;obtain⟨r,hr,g⟩:=q2p x w hw M hM;refine⟨r :: rs,by simp [h1],fun q hq=>?_,?_⟩
  ·rcases mf.mp hq with rfl|hq
   ·exact g
   ·exact h2 q hq
  ·rw [gf]
   simp! [qv,zg,hr,h3]
theorem qrk(c:Int): ∃M:Int,0<M/\atI [D.int 3,D.int 40,D.int 1000000000000] (c%3)=some (.int M):=by
 have h1:=g1e c (show(3:Int)≠0 by decide);have h2:=g19 c (show(0:Int)<3 by decide);have:c%3=0\/c%3=1\/c%3=2:=by lia
 rcases this with e|e|e <;> rw [e]
 ·exact⟨3,by decide,rfl⟩
 ·exact⟨40,by decide,rfl⟩
 ·exact⟨1000000000000,by decide,rfl⟩
theorem qgp(ns:List Int)(hl:ns.length<=63): ∃(w:Nat) (rs:List Run),q13 [.lst (ns.map D.int),.int 6]=some (x9 w rs)/\w<=6/\ja rs:=by
 obtain e|⟨fst,r,e⟩:ns=[]\/∃a r,ns=a :: r:=by
  cases ns with
  | nil=>exact .inl rfl
  | cons a r=>exact .inr ⟨a,r,rfl⟩
 ·subst e
  exact⟨0,[],rfl,by lia,qb5 (by decide) (fun _ h=>by cases h)⟩
 have i0:(ns.map D.int)[0]? = some (.int fst):=by rw [e];rfl
 have hn':(0:Int)<(ns.length:Int):=by rw [e,pz];lia
 have sl:oSl (.lst (ns.map D.int)) (some 1) (some 63)=some (.lst ((ns.drop 1).map D.int)):=by
  show some (D.lst (DL.cutD (ns.map D.int) (some ((1:Nat):Int)) (some ((63:Nat):Int))))=_;unfold DL.cutD;rw [HT.sIx_nat,HT.sIx_nat,mn,g59 hl]
  by_cases h:1<=ns.length
  ·rw [g5k h,g03 (by simp),g62]
  ·have:ns=[]:=by cases ns with
    | nil=>rfl
    | cons a r=>simp at h
   subst this;rfl
 obtain⟨w,hw,ew⟩:=qfk fst 7 (by decide);have ew:fst%7=(w:Int):=ew;obtain⟨M,hM,eM⟩:=qrk (fst / 16);have ll:(ns.drop 1).length<=lim:=by rw [uo];show _<=1000000;lia
 have t0:([]:List D).length<=lim:=by decide
 have l2:∀a b:D,([a,b]:List D).length<=lim:=fun _ _=>by show 2<=1000000;decide
 have l3:∀a b c:D,([a,b,c]:List D).length<=lim:=fun _ _ _=>by show 3<=1000000;decide
 obtain⟨tn,htn,etn⟩:=qfk (fst / 96) 25 (by decide);have er:∀(x0 x1:Option B) (t:Rho),iR1 (qa (eOp oMod (eOp oDiv (eV 2) (eC (.int 96))) (eC (.int 25))) qe) (x0 :: x1 :: some (.fz (.int fst)) :: t)=some (z5 0 tn):=fun x0 x1 t=>by
  rw [q1l _ _ (fst / 96%25) (by simp! [nj]) (by lia) (by lia)];rw [show(fst / 96%25).toNat=tn by have:fst / 96%25=(tn:Int):=etn;lia]
 by_cases c48:fst / 48%2=0
 ·obtain⟨rs,h1,h2,c⟩:=qfl w (by lia) M hM (ns.drop 1)
  refine⟨w,rs,?_,by lia,qb5 (by rw [h1,uo];lia) h2⟩
  (refine za ?_;simp! [wq,hn',i0,ew,l3,eM,c48,sl,qu,ll,c,l2])
 ·obtain⟨rs,b6,b7,h1,h2,h3⟩:=qcb ns w (by lia) M hM (some (.fz (.int 6))) (some (.fz (.int fst))) tn 0 [] none none (by lia) (by simp only [g1w];lia) (fun _ h=>by cases h)
  rw [show((0:Nat):Int)=0 from rfl,g0s] at h3;refine⟨w,rs,?_,by lia,qb5 (by lia) h2⟩
  (refine za ?_;simp! [wq,hn',i0,ew,l3,eM,c48,t0,xm,er,h3,l2])
theorem count_loop(k:Nat)(hk:k<64)(x0:Option B): ∀(rs:List Run) (acc:Int) (b3 b4:Option B),(∀r∈rs,Good r)->∃b3' b4',
  runFor (q0z 2 (xi (bN 3) (xi (bN 4) q0y))) xb (rs.map q2d) [x0,some (.fz (setD k)),some (.fz (.int acc)),b3,b4]=some (.nx,[x0,some (.fz (setD k)),some (.fz (.int (acc+cM rs k))),b3',b4'])
 | [],acc,b3,b4,_=>⟨b3,b4,by simp [runFor,cM]⟩
 | r :: rs,acc,b3,b4,hg=>by
  obtain⟨h0,t,ht,e⟩:=hg r gq;have hg':∀q∈rs,Good q:=fun q hq=>hg q (gu _ hq);have c:=qj1 (c:=zw (oIn false) (eV 0) (eV 1)) (ρ :=[some (.fz (setD t))]) (fun x=>decide (x∈qh 12 t)) (qh 12 k) fun x _=>by
   have o:=qf9 x (qh 12 t);simp! [o]
  have hl:(qh 12 k).length<=lim:=md (q0k 12 k) (by decide);have eq:=qa2 (((qh 12 k).filter fun x=>decide (x∈qh 12 t)).length) (qh 12 k).length;rw [qc9 k hk t ht] at eq;have e0:q0z 2 (xi (bN 3) (xi (bN 4) q0y)) (q2d r) [x0,some (.fz (setD k)),some (.fz (.int acc)),b3,b4]=some [x0,some (.fz (setD k)),some (.fz (.int acc)),some (.fz (.int r.1)),some (.fz (setD t))]:=by
   show some [x0,some (.fz (setD k)),some (.fz (.int acc)),some (.fz (.int r.1)),some (.fz (TI r.2))]=_;rw [e]
  have pq:decide (Builtin.bitAnd (mk r.2) (k:Int)=(k:Int))=blw k t:=by
   rw [e,(yi t ht).2,q7h];unfold blw;rw [g5b];exact g2b.mpr (by lia)
  have cr:cM (r :: rs) k=(if blw k t=true then r.1 else 0)+cM rs k:=by
   unfold cM;rw [pb,pq];cases blw k t
   ·simp
   ·simp
  rw [cr];cases hb:blw k t with
  | true=>
   rw [hb] at eq;obtain⟨b3',b4',ih⟩:=count_loop k hk x0 rs (acc+r.1) (some (.fz (.int r.1))) (some (.fz (setD t))) hg';refine⟨b3',b4',?_⟩;have body:xb [x0,some (.fz (setD k)),some (.fz (.int acc)),some (.fz (.int r.1)),some (.fz (setD t))]=some (.nx,[x0,some (.fz (setD k)),some (.fz (.int (acc+r.1))),some (.fz (.int r.1)),some (.fz (setD t))]):=by
    simp! [xb,qu,hl,c,eq]
   rw [gf,j9 e0 body,ih,mh rfl,Int.add_assoc]
  | false=>
   rw [hb] at eq;obtain⟨b3',b4',ih⟩:=count_loop k hk x0 rs acc (some (.fz (.int r.1))) (some (.fz (setD t))) hg';refine⟨b3',b4',?_⟩;have body:xb [x0,some (.fz (setD k)),some (.fz (.int acc)),some (.fz (.int r.1)),some (.fz (setD t))]=some (.nx,[x0,some (.fz (setD k)),some (.fz (.int acc)),some (.fz (.int r.1)),some (.fz (setD t))]):=by
    simp! [xb,qu,hl,c,eq]
   rw [gf,j9 e0 body,ih,mi (by decide),g67]
theorem qrl{rs:List Run}(h:ja rs): ∀r∈rs,Good r:=fun r hr=>⟨(h.2 r hr).2.2.1,(h.2 r hr).2.2.2⟩
theorem q71(w:Nat)(rs:List Run)(h:ja rs)(k:Nat)(hk:k<64): v9 [x9 w rs,setD k]=some (.int (cM rs k)):=by
 obtain⟨b3,b4,c⟩:=count_loop k hk (some (.fz (x9 w rs))) rs 0 none none (qrl h);rw [g67] at c
 (refine za ?_;simp! [q0a,xm,c])
theorem qfm(ns:List Int)(w:Nat)(hw:w<=6)(rs:List Run)(h:ja rs): ∃L:Int,va [.lst (ns.map D.int),x9 w rs]=some (.int L):=by
 have hpw:=q3k w hw;have hp:(0:Int)<((2 ^ w:Nat):Int):=by exact_mod_cast g5l w
 have hmx:∀x:Int,oMax [.int 1,.int x]=some (.int (if x>1 then x else 1)):=fun _=>rfl;obtain e|⟨fst,r,e⟩:ns=[]\/∃a r,ns=a :: r:=by
  cases ns with
  | nil=>exact .inl rfl
  | cons a r=>exact .inr ⟨a,r,rfl⟩
 ·subst e
  exact⟨1,rfl⟩
 have i0:(ns.map D.int)[0]? = some (.int fst):=by rw [e];rfl
 have hn':(0:Int)<(ns.length:Int):=by rw [e,pz];lia
 by_cases c0:fst / 2400%4=0
 ·simp! [va,yj,hn',i0,c0]
  exact⟨_,rfl⟩
 ·by_cases c3:fst / 2400%4=3
  ·simp! [va,yj,hn',i0,c0,c3]
   exact⟨_,rfl⟩
  ·obtain⟨m,hm,hs⟩:=qhq w hw (fst / 2400 / 4)
   have ce:=q71 w rs h m (gh hm (x6 hw));simp! [va,yj,hn',i0,c0,c3,hpw,hp,hs,ce,hmx];exact⟨_,rfl⟩
end My
open PySem PyProof.Rows L2 DL
namespace My
open PySem PyProof.Rows L2 DL
theorem qa6(rs:List Run)(x0 x1:Option B): ∀(l:List Nat) (acc:List D) (b3:Option B),acc.length+l.length<=1000->∃b3',
  runFor (bN 3) ym (l.map (pairD rs)) [x0,x1,some (.ow acc),b3]=some (.nx,[x0,x1,some (.ow (acc++l.map setD)),b3'])
 | [],acc,b3,_=>⟨b3,by simp [runFor]⟩
 | k :: l,acc,b3,hl=>by
  rw [pz] at hl;obtain⟨b3',ih⟩:=qa6 rs x0 x1 l (acc++[setD k]) (some (.fz (pairD rs k))) (by rw [pf];simp only [pz,g1w];lia);refine⟨b3',?_⟩;have la:acc.length<lim:=by show _<1000000;lia
  have n2:q4s (.int 2) (.int 2)=some (.bl false):=rfl;have e0:bN 3 (pairD rs k) [x0,x1,some (.ow acc),b3]=some [x0,x1,some (.ow acc),some (.fz (pairD rs k))]:=rfl;have body:ym [x0,x1,some (.ow acc),some (.fz (pairD rs k))]=some (.nx,[x0,x1,some (.ow (acc++[setD k])),some (.fz (pairD rs k))]):=by
   simp! [ym,n2,q2z,q5a,q5b,la]
  rw [gf,j9 e0 body,ih];simp
theorem q72(rs:List Run)(w:Nat)(l:List Nat)(hl:l.length<=1000): ki [.tup (l.map (pairD rs)),.int (w:Int)]=some (.lst (l.map setD)):=by
 obtain⟨b3,h⟩:=qa6 rs (some (.fz (.tup (l.map (pairD rs))))) (some (.fz (.int (w:Int)))) l [] none (by simp only [g1w];lia);rw [g0l] at h;have t0:([]:List D).length<=lim:=by decide
 (refine za ?_;simp! [q0b,t0,xm,h])
theorem qfn(l:List Nat)(x0:Option B)(a:Nat)(ha:a<64): ∀(q:List Nat) (b2:Option B),(∀b∈q,b<64/\(blw a b=true->a=b))->∃b2',
  runFor (bN 2) vh (q.map setD) [x0,some (.fz (setD a)),b2]=some (.nx,[x0,some (.fz (setD a)),b2'])
 | [],b2,_=>⟨b2,rfl⟩
 | b :: q,b2,hq=>by
  obtain⟨hb,hab⟩:=hq b gq;obtain⟨b2',ih⟩:=qfn l x0 a ha q (some (.fz (setD b))) fun c hc=>hq c (gu _ hc);refine⟨b2',?_⟩;have n:=qrj a b ha hb;have be:=q3m a b ha hb;have e0:bN 2 (setD b) [x0,some (.fz (setD a)),b2]=some [x0,some (.fz (setD a)),some (.fz (setD b))]:=rfl;have body:vh [x0,some (.fz (setD a)),some (.fz (setD b))]=some (.nx,[x0,some (.fz (setD a)),some (.fz (setD b))]):=by
   by_cases e:a=b
   ·rw [mq e] at n
    simp! [vh,n]
   ·rw [nk e] at n
    have z:blw a b=false:=by
     cases hz:blw a b with
     | false=>rfl
     | true=>exact absurd (hab hz) e
    rw [z] at be;simp! [vh,n,be]
  rw [gf,j9 e0 body,ih]
theorem qcc(l:List Nat)(hl:∀a∈l,a<64)(hap:∀a∈l,∀b∈l,blw a b=true->a=b): ∀(q:List Nat) (b1 b2:Option B),(∀a∈q,a∈l)->∃b1' b2',
  runFor (bN 1) yo (q.map setD) [some (.fz (.lst (l.map setD))),b1,b2]=some (.nx,[some (.fz (.lst (l.map setD))),b1',b2'])
 | [],b1,b2,_=>⟨b1,b2,rfl⟩
 | a :: q,b1,b2,hq=>by
  have ha:=hq a gq;obtain⟨b2x,hi⟩:=qfn l (some (.fz (.lst (l.map setD)))) a (hl a ha) l b2 fun b hb=>⟨hl b hb,hap a ha b hb⟩
  obtain⟨b1',b2',ih⟩:=qcc l hl hap q (some (.fz (setD a))) b2x fun c hc=>hq c (gu _ hc);refine⟨b1',b2',?_⟩;have e0:bN 1 (setD a) [some (.fz (.lst (l.map setD))),b1,b2]=some [some (.fz (.lst (l.map setD))),some (.fz (setD a)),b2]:=rfl;have body:yo [some (.fz (.lst (l.map setD))),some (.fz (setD a)),b2]=some (.nx,[some (.fz (.lst (l.map setD))),some (.fz (setD a)),b2x]):=by
   simp! [yo,xm,hi]
  rw [gf,j9 e0 body,ih]
theorem q73(l:List Nat)(hl:∀a∈l,a<64)(hap:∀a∈l,∀b∈l,blw a b=true->a=b): km [.lst (l.map setD)]=some (.bl true):=by
 obtain⟨b1,b2,h⟩:=qcc l hl hap l none none fun _ h=>h
 (refine za ?_;simp! [q0d,xm,h])
theorem qlu(p:Nat->Bool)(l:List Nat): oGt (.int ((l.filter p).length:Int)) (.int 0)=some (.bl (l.any p)):=by
 rw [qho]
 congr 2
 rw [pd,p5,uf]
 constructor
 ·intro h
  obtain⟨x,hx⟩:=List.exists_mem_of_length_pos (show 0<(l.filter p).length by lia);exact⟨x,(mw.mp hx).1,(mw.mp hx).2⟩
 ·rintro⟨x,h1,h2⟩
  have:=g5r (mw.mpr ⟨h1,h2⟩);lia
theorem qcd(w:Nat)(hw:w<=6)(rs:List Run)(L:Int)(h:ja rs)(x0 b8:Option B): ∀(q:List Nat) (b5 b6 b7:Option B),(∀k∈q,k<2 ^ w)->∃b5' b6' b7',
  runFor (bN 5) q3i (q.map setD) [x0,some (.fz (x9 w rs)),some (.fz (.int L)),some (.fz (.lst ((upB w rs L).map setD))),some (.fz (.lst ((loB w rs L).map setD))),b5,b6,b7,b8]=some (.nx,[x0,some (.fz (x9 w rs)),some (.fz (.int L)),some (.fz (.lst ((upB w rs L).map setD))),some (.fz (.lst ((loB w rs L).map setD))),b5',b6',b7',b8])
 | [],b5,b6,b7,_=>⟨b5,b6,b7,rfl⟩
 | k :: q,b5,b6,b7,hq=>by
  have hk:=hq k gq;have h64:k<64:=gh hk (x6 hw);obtain⟨b5',b6',b7',ih⟩:=qcd w hw rs L h x0 b8 q (some (.fz (setD k))) (some (.fz (.bl (zb rs L k)))) (some (.fz (.bl (!zb rs L k)))) fun c hc=>hq c (gu _ hc);refine⟨b5',b6',b7',?_⟩;have u64:∀u∈upB w rs L,u<64:=fun u hu=>gh ((q4p w hw rs L).mp hu).1 (x6 hw);have l64:∀u∈loB w rs L,u<64:=fun u hu=>gh ((q4q w hw rs L).mp hu).1 (x6 hw);have c1:=jr (b:=bN 0) (c:=bT (qf (qj 2 [] jh) (qa (eV 1) (qa (eV 0) qe)))) (e:=eV 0) (ρ :=[none,some (.fz (setD k))]) setD (blw k) setD (upB w rs L) fun u hu=>by
   have be:=q3m k u h64 (u64 u hu);exact⟨[some (.fz (setD u)),some (.fz (setD k))],rfl,by simp! [be],fun _=>rfl⟩
  have c2:=jr (b:=bN 0) (c:=bT (qf (qj 2 [] jh) (qa (eV 0) (qa (eV 1) qe)))) (e:=eV 0) (ρ :=[none,some (.fz (setD k))]) setD (fun s=>blw s k) setD (loB w rs L) fun u hu=>by
   have be:=q3m u k (l64 u hu) h64;exact⟨[some (.fz (setD u)),some (.fz (setD k))],rfl,by simp! [be],fun _=>rfl⟩
  have g1:=qlu (blw k) (upB w rs L);rw [qlr w hw rs L h k hk] at g1;have g2:=qlu (fun s=>blw s k) (loB w rs L);rw [qls w hw rs L h k hk] at g2;have ul:(upB w rs L).length<=lim:=md (nh _ _) (md (qb3 w hw rs L) (by decide));have ll:(loB w rs L).length<=lim:=md (nh _ _) (md (q5s w hw rs L) (by decide));have ce:=q71 w rs h k h64;have ge:oGe (.int (cM rs k)) (.int L)=some (.bl (zb rs L k)):=rfl;have e0:bN 5 (setD k) [x0,some (.fz (x9 w rs)),some (.fz (.int L)),some (.fz (.lst ((upB w rs L).map setD))),some (.fz (.lst ((loB w rs L).map setD))),b5,b6,b7,b8]=some [x0,some (.fz (x9 w rs)),some (.fz (.int L)),some (.fz (.lst ((upB w rs L).map setD))),some (.fz (.lst ((loB w rs L).map setD))),some (.fz (setD k)),b6,b7,b8]:=rfl;have body:q3i [x0,some (.fz (x9 w rs)),some (.fz (.int L)),some (.fz (.lst ((upB w rs L).map setD))),some (.fz (.lst ((loB w rs L).map setD))),some (.fz (setD k)),b6,b7,b8]=some (.nx,[x0,some (.fz (x9 w rs)),some (.fz (.int L)),some (.fz (.lst ((upB w rs L).map setD))),some (.fz (.lst ((loB w rs L).map setD))),some (.fz (setD k)),some (.fz (.bl (zb rs L k))),some (.fz (.bl (!zb rs L k))),b8]):=by
   have eb:∀x:Bool,oEq (.bl x) (.bl (!x))=some (.bl false):=fun x=>by cases x <;> rfl
   have nb:∀x:Bool,q4s (.bl x) (.bl x)=some (.bl false):=fun x=>by cases x <;> rfl
   have eb:=eb (zb rs L k);have nb:=nb (zb rs L k);generalize zb rs L k=t at g1 g2 ge eb nb ⊢;generalize upB w rs L=U at c1 g1 ul ⊢;generalize loB w rs L=W at c2 g2 ll ⊢;generalize cM rs k=C at ce ge;generalize U.filter (blw k)=U1 at c1 g1;generalize W.filter (fun s=>blw s k)=W1 at c2 g2;simp! [q3i,qu,ul,ll,c1,c2,g1,g2,eb,ce,ge,nb]
  rw [gf,j9 e0 body,ih]
theorem qor(ns:List Int)(hl:ns.length<=63): qix [.lst (ns.map .int)]=some (.bl true):=by
 obtain⟨w,rs,hp,hw,h⟩:=qgp ns hl;obtain⟨L,hL⟩:=qfm ns w hw rs h;have gp:=qb4 w hw rs h L;have sp:=qfh w hw rs h L;have ul:(upB w rs L).length<=64:=md (nh _ _) (qb3 w hw rs L);have ll:(loB w rs L).length<=64:=md (nh _ _) (q5s w hw rs L);have f1:=q72 rs w (upB w rs L) (by lia);have f2:=q72 rs w (loB w rs L) (by lia);have u64:∀u∈upB w rs L,u<64:=fun u hu=>gh ((q4p w hw rs L).mp hu).1 (x6 hw);have l64:∀u∈loB w rs L,u<64:=fun u hu=>gh ((q4q w hw rs L).mp hu).1 (x6 hw);have a1:=q73 (upB w rs L) u64 fun a ha b hb=>qon w hw rs L h ha hb;have a2:=q73 (loB w rs L) l64 fun a ha b hb=>qoo w hw rs L h ha hb;have ls:=qgi w hw;obtain⟨b5,b6,b7,sd⟩:=qcd w hw rs L h (some (.fz (.lst (ns.map .int)))) none (qm w) none none none (fun k hk=>(jz w k).mp hk);have be:=qll w hw (upB w rs L).reverse (fun m hm=>u64 m (g3h.mp hm)) (by rw [g2h];lia);rw [qop w hw rs L h,List.map_reverse] at be;have we:=qj2 w hw (loB w rs L).reverse (fun m hm=>l64 m (g3h.mp hm)) (by rw [g2h];lia);rw [qoq w hw rs L h,List.map_reverse] at we;have s1:=qca (loB w rs L);have s2:=qca (upB w rs L);have l2:∀a b:D,([a,b]:List D).length<=lim:=fun _ _=>by show 2<=1000000;decide
 have isn:∀l:List D,oIs false (.lst l) .non=some (.bl false):=fun _=>rfl;generalize (upB w rs L).map setD=U at *;generalize (loB w rs L).map setD=W at *
 (refine za ?_;simp! [qa0,hp,hL,gp,sp,f1,f2,isn,a1,a2,xm,ls,sd,qct,l2,be,we,s1,s2])
end My
namespace My
open PySem PySem.Spec PyProof.Rows L2 DL
open PySem.W (nsIn fnOf keepIn codeIn mg_of subIn mg_none_of findIn plainGet)
theorem ln1{s:Shared}{fd:FuncData}{ps:List Str}(h:∀a0,BindsTo s fd ⟨[a0],[]⟩ (ps.zip ([a0]++[]))): ∀us:List Value,(us++[]).length=1->BindsTo s fd ⟨us,[]⟩ (ps.zip (us++[]))
 | [a0],_=>h a0
theorem ln2{s:Shared}{fd:FuncData}{ps:List Str}(h:∀a0 a1,BindsTo s fd ⟨[a0,a1],[]⟩ (ps.zip ([a0,a1]++[]))): ∀us:List Value,(us++[]).length=2->BindsTo s fd ⟨us,[]⟩ (ps.zip (us++[]))
 | [a0,a1],_=>h a0 a1
theorem ln3{s:Shared}{fd:FuncData}{ps:List Str}(h:∀a0 a1 a2,BindsTo s fd ⟨[a0,a1,a2],[]⟩ (ps.zip ([a0,a1,a2]++[]))): ∀us:List Value,(us++[]).length=3->BindsTo s fd ⟨us,[]⟩ (ps.zip (us++[]))
 | [a0,a1,a2],_=>h a0 a1 a2
theorem all_mk{q:Program}{l:PySem.W.OpenLaw}{w:World}{K:Frag}{h:Heap}{mg:Str->Option Value}{fa:Addr}(X:K.In h)(G:h.Ns mainGlobals mg)(hfa:mg "law" = some (.ref fa))(hm:∀ns:List Int,ns.length<=63->qix [.lst (ns.map .int)]=some (.bl true))
  {C_Growing:Addr}
  (x_Growing:nsIn K mainGlobals "Growing" = some (some (.ref C_Growing)))
  (mk_Growing:PySem.W.makesIn K C_Growing=true)
  (in_Growing:findIn K (.ref C_Growing) "__init__" = some (some (.builtin "object.__init__")))
  (kp_Growing:keepIn K (.ref C_Growing)=true)
  (pg_Growing:plainGet K C_Growing Str.empty=true)
  (hd_Growing:PySem.W.hasDictIn K C_Growing=true)
  (po_Growing:PySem.W.plainOver K C_Growing=true)
  (sa_Growing:findIn K (.ref C_Growing) "__setattr__" = some (some (.builtin "object.__setattr__")))
  (cg_Growing:plainGet K C_Growing "__class__" = true)
  (cc_Growing:findIn K (.ref C_Growing) "__class__" = some (some (.builtin "object.__class__")))
  (cs_Growing:PySem.W.specialIn K (.builtin "object.__class__") "__get__" = some (some (.builtin "getset_descriptor.__get__")))
  (ct_Growing:PySem.W.takesIn K (.builtin "object.__class__")=some true)
  (cm_Growing:PySem.W.mroIn K C_Growing (.type "object")=some true)
  (ciint_Growing:subIn K (.ref C_Growing) (.type "int")=some false)
  (cibool_Growing:subIn K (.ref C_Growing) (.type "bool")=some false)
  (cituple_Growing:subIn K (.ref C_Growing) (.type "tuple")=some false)
  (cilist_Growing:subIn K (.ref C_Growing) (.type "list")=some false)
  (cistr_Growing:subIn K (.ref C_Growing) (.type "str")=some false)
  (cidict_Growing:subIn K (.ref C_Growing) (.type "dict")=some false)
  {fa_24:Addr} {fd_law_set:FuncData} (x_24:nsIn K mainGlobals "_law_set" = some (some (.ref fa_24))) (F_law_set:Fun2 K "_law_set" "_law_set" q0q .none fa_24 fd_law_set)
  {fa_21:Addr} {fd_law_power:FuncData} (x_21:nsIn K mainGlobals "_law_power" = some (some (.ref fa_21))) (F_law_power:Fun2 K "_law_power" "_law_power" k9 .none fa_21 fd_law_power)
  {fa_22:Addr} {fd_law_run:FuncData} (x_22:nsIn K mainGlobals "_law_run" = some (some (.ref fa_22))) (F_law_run:Fun2 K "_law_run" "_law_run" q0r .none fa_22 fd_law_run)
  {fa_19:Addr} {fd_law_mixed:FuncData} (x_19:nsIn K mainGlobals "_law_mixed" = some (some (.ref fa_19))) (F_law_mixed:Fun2 K "_law_mixed" "_law_mixed" kb .none fa_19 fd_law_mixed)
  {fa_20:Addr} {fd_law_pile:FuncData} (x_20:nsIn K mainGlobals "_law_pile" = some (some (.ref fa_20))) (F_law_pile:Fun2 K "_law_pile" "_law_pile" wo .none fa_20 fd_law_pile)
  {fa_16:Addr} {fd_law_count:FuncData} (x_16:nsIn K mainGlobals "_law_count" = some (some (.ref fa_16))) (F_law_count:Fun2 K "_law_count" "_law_count" kf .none fa_16 fd_law_count)
  {fa_18:Addr} {fd_law_least:FuncData} (x_18:nsIn K mainGlobals "_law_least" = some (some (.ref fa_18))) (F_law_least:Fun2 K "_law_least" "_law_least" kg .none fa_18 fd_law_least)
  {fa_17:Addr} {fd_law_first:FuncData} (x_17:nsIn K mainGlobals "_law_first" = some (some (.ref fa_17))) (F_law_first:Fun2 K "_law_first" "_law_first" kh .none fa_17 fd_law_first)
  {fa_25:Addr} {od_25 an_25:Option Addr} {sl_25:Array (Option Value)} {oc_25 kV_25 dc_25 pm_25 ct_25:Value}
  {cL_law_sets TL_law_sets:Addr}
  (x_25:nsIn K mainGlobals "_law_sets" = some (some (.ref fa_25)))
  (l_25:K.lookup fa_25=some ⟨oc_25,od_25,.func (fnOf "_law_sets" "_law_sets" (vz xl) (qp xl) (qc xl) .none kV_25 dc_25 pm_25 an_25 (.ref cL_law_sets) ct_25),sl_25⟩)
  (q_25:codeIn K (.ref cL_law_sets) "_law_sets" = true) (k_25:keepIn K (.ref fa_25)=true)
  {oL_law_sets:Obj} (o_25:K.lookup cL_law_sets=some oL_law_sets) (p_25:tabOf oL_law_sets=some TL_law_sets) (hh_25:PySem.W.codeHdIn [(cL_law_sets,oL_law_sets)] cL_law_sets TL_law_sets=true) (nl_25:K.lookup TL_law_sets=none) (r_25:((recsOf q).find? (fun e=>e.name==("_law_sets" : Str))).isSome=true)
  {fa_23:Addr} {fd_law_same:FuncData} (x_23:nsIn K mainGlobals "_law_same" = some (some (.ref fa_23))) (F_law_same:Fun2 K "_law_same" "_law_same" wt .none fa_23 fd_law_same)
  {fa_4:Addr} {fd_at_least:FuncData} (x_4:nsIn K mainGlobals "at_least" = some (some (.ref fa_4))) (F_at_least:Fun2 K "at_least" "at_least" wu .none fa_4 fd_at_least)
  {fa_26:Addr} {fd_mark_of:FuncData} (x_26:nsIn K mainGlobals "mark_of" = some (some (.ref fa_26))) (F_mark_of:Fun2 K "mark_of" "mark_of" q0s .none fa_26 fd_mark_of)
  {fa_27:Addr} {fd_marked:FuncData} (x_27:nsIn K mainGlobals "marked" = some (some (.ref fa_27))) (F_marked:Fun2 K "marked" "marked" q1m .none fa_27 fd_marked)
  {fa_29:Addr} {fd_one_ware_more:FuncData} (x_29:nsIn K mainGlobals "one_ware_more" = some (some (.ref fa_29))) (F_one_ware_more:Fun2 K "one_ware_more" "one_ware_more" xq .none fa_29 fd_one_ware_more)
  {fa_28:Addr} {fd_one_ware_fewer:FuncData} (x_28:nsIn K mainGlobals "one_ware_fewer" = some (some (.ref fa_28))) (F_one_ware_fewer:Fun2 K "one_ware_fewer" "one_ware_fewer" xf .none fa_28 fd_one_ware_fewer)
  {fa_8:Addr} {fd_grown:FuncData} (x_8:nsIn K mainGlobals "grown" = some (some (.ref fa_8))) (F_grown:Fun2 K "grown" "grown" q2t .none fa_8 fd_grown)
  {fa_5:Addr} {fd_count_marked:FuncData} (x_5:nsIn K mainGlobals "count_marked" = some (some (.ref fa_5))) (F_count_marked:Fun2 K "count_marked" "count_marked" vc .none fa_5 fd_count_marked)
  {fa_0:Addr} {od_0 an_0:Option Addr} {sl_0:Array (Option Value)} {oc_0 kV_0 dc_0 pm_0 cd_0 ct_0:Value}
  (x_0:findIn K (.ref C_Growing) "counted" = some (some (.ref fa_0))) (i_0:PySem.W.isFn K (.ref fa_0)=true)
  (l_0:K.lookup fa_0=some ⟨oc_0,od_0,.func (fnOf "counted" "Growing.counted" (vz zt) (qp zt) (qc zt) .none kV_0 dc_0 pm_0 an_0 cd_0 ct_0),sl_0⟩)
  (q_0:codeIn K cd_0 "Growing.counted" = true) (k_0:keepIn K (.ref fa_0)=true)
  {fa_1:Addr} {od_1 an_1:Option Addr} {sl_1:Array (Option Value)} {oc_1 kV_1 dc_1 pm_1 cd_1 ct_1:Value}
  (x_1:findIn K (.ref C_Growing) "often" = some (some (.ref fa_1))) (i_1:PySem.W.isFn K (.ref fa_1)=true)
  (l_1:K.lookup fa_1=some ⟨oc_1,od_1,.func (fnOf "often" "Growing.often" (vz j7) (qp j7) (qc j7) .none kV_1 dc_1 pm_1 an_1 cd_1 ct_1),sl_1⟩)
  (q_1:codeIn K cd_1 "Growing.often" = true) (k_1:keepIn K (.ref fa_1)=true)
  {fa_13:Addr} {fd_joined:FuncData} (x_13:nsIn K mainGlobals "joined" = some (some (.ref fa_13))) (F_joined:Fun2 K "joined" "joined" q1o .none fa_13 fd_joined)
  {fa_3:Addr} {fd_any_ware_more:FuncData} (x_3:nsIn K mainGlobals "any_ware_more" = some (some (.ref fa_3))) (F_any_ware_more:Fun2 K "any_ware_more" "any_ware_more" xu .none fa_3 fd_any_ware_more)
  {fa_11:Addr} {fd_is_greatest:FuncData} (x_11:nsIn K mainGlobals "is_greatest" = some (some (.ref fa_11))) (F_is_greatest:Fun2 K "is_greatest" "is_greatest" y3 .none fa_11 fd_is_greatest)
  {fa_6:Addr} {fd_greatest:FuncData} (x_6:nsIn K mainGlobals "greatest" = some (some (.ref fa_6))) (F_greatest:Fun2 K "greatest" "greatest" wy .none fa_6 fd_greatest)
  {fa_31:Addr} {fd_seldom:FuncData} (x_31:nsIn K mainGlobals "seldom" = some (some (.ref fa_31))) (F_seldom:Fun2 K "seldom" "seldom" q1q .none fa_31 fd_seldom)
  {fa_30:Addr} {fd_order_of:FuncData} (x_30:nsIn K mainGlobals "order_of" = some (some (.ref fa_30))) (F_order_of:Fun2 K "order_of" "order_of" wz .none fa_30 fd_order_of)
  {fa_32:Addr} {fd_set_of:FuncData} (x_32:nsIn K mainGlobals "set_of" = some (some (.ref fa_32))) (F_set_of:Fun2 K "set_of" "set_of" q1r .none fa_32 fd_set_of)
  {fa_2:Addr} {fd_all_sets:FuncData} (x_2:nsIn K mainGlobals "all_sets" = some (some (.ref fa_2))) (F_all_sets:Fun2 K "all_sets" "all_sets" q00 .none fa_2 fd_all_sets)
  {fa_9:Addr} {fd_is_above_one:FuncData} (x_9:nsIn K mainGlobals "is_above_one" = some (some (.ref fa_9))) (F_is_above_one:Fun2 K "is_above_one" "is_above_one" ve .none fa_9 fd_is_above_one)
  {fa_7:Addr} {fd_greatest_without:FuncData} (x_7:nsIn K mainGlobals "greatest_without" = some (some (.ref fa_7))) (F_greatest_without:Fun2 K "greatest_without" "greatest_without" jo .none fa_7 fd_greatest_without)
  {fa_15:Addr} {fd_law_below:FuncData} (x_15:nsIn K mainGlobals "_law_below" = some (some (.ref fa_15))) (F_law_below:Fun2 K "_law_below" "_law_below" kj .none fa_15 fd_law_below)
  {fa_14:Addr} {fd_law_apart:FuncData} (x_14:nsIn K mainGlobals "_law_apart" = some (some (.ref fa_14))) (F_law_apart:Fun2 K "_law_apart" "_law_apart" kl .none fa_14 fd_law_apart)
  {fa_12:Addr} {fd_is_smallest:FuncData} (x_12:nsIn K mainGlobals "is_smallest" = some (some (.ref fa_12))) (F_is_smallest:Fun2 K "is_smallest" "is_smallest" y4 .none fa_12 fd_is_smallest)
  {fa_10:Addr} {fd_is_below_one:FuncData} (x_10:nsIn K mainGlobals "is_below_one" = some (some (.ref fa_10))) (F_is_below_one:Fun2 K "is_below_one" "is_below_one" vi .none fa_10 fd_is_below_one)
  {fa_33:Addr} {fd_smallest_beyond:FuncData} (x_33:nsIn K mainGlobals "smallest_beyond" = some (some (.ref fa_33))) (F_smallest_beyond:Fun2 K "smallest_beyond" "smallest_beyond" jy .none fa_33 fd_smallest_beyond)
  {fa_law:Addr} {fd_law:FuncData} (x_law:nsIn K mainGlobals "law" = some (some (.ref fa_law))) (F_law:Fun2 K "law" "law" q7g .none fa_law fd_law)
  (z_range:nsIn K mainGlobals "range" = some none)
  (z_tuple:nsIn K mainGlobals "tuple" = some none)
  (z_len:nsIn K mainGlobals "len" = some none)
  (z_max:nsIn K mainGlobals "max" = some none)
  (z_isinstance:nsIn K mainGlobals "isinstance" = some none)
  (z_sorted:nsIn K mainGlobals "sorted" = some none)
  (z_zip:nsIn K mainGlobals "zip" = some none)
  (z_int:nsIn K mainGlobals "int" = some none)
  (z_bool:nsIn K mainGlobals "bool" = some none)
  (z_sum:nsIn K mainGlobals "sum" = some none)
  (z_dict:nsIn K mainGlobals "dict" = some none)
  (z_all:nsIn K mainGlobals "all" = some none)
  (z_set:nsIn K mainGlobals "set" = some none)
  (z_any:nsIn K mainGlobals "any" = some none)
  (z_list:nsIn K mainGlobals "list" = some none)
  (z_reversed:nsIn K mainGlobals "reversed" = some none)
  : ∃(L:Lam) (tabs:List (Addr×Addr)) (fd:FuncData),(∀p∈L.tab,p.1∈tabs.map (·.2))/\(∀p∈tabs,K.lookup p.2=none/\∃y:Str,((recsOf q).find? (fun e=>e.name==y)).isSome=true/\PySem.W.tabIn K y=some p)/\(∀(s:Shared) (v:Value),BindsTo s fd ⟨[v],[]⟩ [("_law_script",v)])/\∀base:Heap,K.In base->base.Ns mainGlobals mg->q2k mg base->FnOk l.prog w K mg base CX0 18 fa fd ["_law_script"] (qcs K):=by
 letI L:Lam:=⟨[(TL_law_sets,"_law_sets.<locals>.<lambda>")]⟩
 have O_Growing:ClsOk K "Growing" C_Growing:=⟨x_Growing,mk_Growing,in_Growing,kp_Growing,⟨pg_Growing,hd_Growing,po_Growing,sa_Growing⟩,cg_Growing,hd_Growing,cc_Growing,cs_Growing,ct_Growing,cm_Growing,qqi ciint_Growing cibool_Growing cituple_Growing cilist_Growing cistr_Growing cidict_Growing⟩
 have m_Growing:=mg_of X G x_Growing;have k_24:=F_law_set.kp;have k_21:=F_law_power.kp;have k_22:=F_law_run.kp;have k_19:=F_law_mixed.kp;have k_20:=F_law_pile.kp;have k_16:=F_law_count.kp;have k_18:=F_law_least.kp;have k_17:=F_law_first.kp;have h_law_sets:=qfs o_25 hh_25;have t_law_sets:=qnd x_25 l_25 rfl o_25 p_25;have F_law_sets:=qqj (st:=xl) l_25 q_25 h_law_sets k_25;have k_23:=F_law_same.kp;have k_4:=F_at_least.kp;have k_26:=F_mark_of.kp;have k_27:=F_marked.kp;have k_29:=F_one_ware_more.kp;have k_28:=F_one_ware_fewer.kp;have k_8:=F_grown.kp;have k_5:=F_count_marked.kp;have F_Growing_counted:=qaf (st:=zt) l_0 q_0 k_0;have F_Growing_often:=qaf (st:=j7) l_1 q_1 k_1;have k_13:=F_joined.kp;have k_3:=F_any_ware_more.kp;have k_11:=F_is_greatest.kp;have k_6:=F_greatest.kp;have k_31:=F_seldom.kp;have k_30:=F_order_of.kp;have k_32:=F_set_of.kp;have k_2:=F_all_sets.kp;have k_9:=F_is_above_one.kp;have k_7:=F_greatest_without.kp;have k_15:=F_law_below.kp;have k_14:=F_law_apart.kp;have k_12:=F_is_smallest.kp;have k_10:=F_is_below_one.kp;have k_33:=F_smallest_beyond.kp;have k_law:=F_law.kp;have n_range:=mg_none_of X G z_range;have n_tuple:=mg_none_of X G z_tuple;have n_len:=mg_none_of X G z_len;have n_max:=mg_none_of X G z_max;have n_isinstance:=mg_none_of X G z_isinstance;have n_sorted:=mg_none_of X G z_sorted;have n_zip:=mg_none_of X G z_zip;have n_int:=mg_none_of X G z_int;have n_bool:=mg_none_of X G z_bool;have n_sum:=mg_none_of X G z_sum;have n_dict:=mg_none_of X G z_dict;have n_all:=mg_none_of X G z_all;have n_set:=mg_none_of X G z_set;have n_any:=mg_none_of X G z_any;have n_list:=mg_none_of X G z_list;have n_reversed:=mg_none_of X G z_reversed;have hP_L:(TL_law_sets,("_law_sets.<locals>.<lambda>" : Str))∈Lam.tab:=mv.mpr rfl;have hU_L:∀p∈Lam.tab,p.1=TL_law_sets->p.2="_law_sets.<locals>.<lambda>" :=fun p hp _=>by rw [mv.mp hp]
 have e:=hfa.symm.trans (mg_of X G x_law);cases e;have b_24:Binds K _ ["_law_mark"] []:=F_law_set.bindsTo (P:=fun fd=>Binds K fd ["_law_mark"] []) fun _ _ _ _ _ _ s us hk hl=>ln1 (fun _=>.of_eq rfl) us hl;have b_21:Binds K _ ["_law_many"] []:=F_law_power.bindsTo (P:=fun fd=>Binds K fd ["_law_many"] []) fun _ _ _ _ _ _ s us hk hl=>ln1 (fun _=>.of_eq rfl) us hl;have b_22:Binds K _ ["_law_number","_law_wares","_law_most"] []:=F_law_run.bindsTo (P:=fun fd=>Binds K fd ["_law_number","_law_wares","_law_most"] []) fun _ _ _ _ _ _ s us hk hl=>ln3 (fun _ _ _=>.of_eq rfl) us hl;have b_19:Binds K _ ["_law_script","_law_k"] []:=F_law_mixed.bindsTo (P:=fun fd=>Binds K fd ["_law_script","_law_k"] []) fun _ _ _ _ _ _ s us hk hl=>ln2 (fun _ _=>.of_eq rfl) us hl;have b_20:Binds K _ ["_law_script","_law_most_wares"] []:=F_law_pile.bindsTo (P:=fun fd=>Binds K fd ["_law_script","_law_most_wares"] []) fun _ _ _ _ _ _ s us hk hl=>ln2 (fun _ _=>.of_eq rfl) us hl;have b_16:Binds K _ ["_law_pile_here","_law_some"] []:=F_law_count.bindsTo (P:=fun fd=>Binds K fd ["_law_pile_here","_law_some"] []) fun _ _ _ _ _ _ s us hk hl=>ln2 (fun _ _=>.of_eq rfl) us hl;have b_18:Binds K _ ["_law_script","_law_pile_here"] []:=F_law_least.bindsTo (P:=fun fd=>Binds K fd ["_law_script","_law_pile_here"] []) fun _ _ _ _ _ _ s us hk hl=>ln2 (fun _ _=>.of_eq rfl) us hl;have b_17:Binds K _ ["_law_pairs","_law_wares"] []:=F_law_first.bindsTo (P:=fun fd=>Binds K fd ["_law_pairs","_law_wares"] []) fun _ _ _ _ _ _ s us hk hl=>ln2 (fun _ _=>.of_eq rfl) us hl;have b_25:Binds K _ ["_law_wares"] []:=F_law_sets.bindsTo (P:=fun fd=>Binds K fd ["_law_wares"] []) fun _ _ _ _ _ _ s us hk hl=>ln1 (fun _=>.of_eq rfl) us hl;have b_23:Binds K _ ["_law_found","_law_due"] []:=F_law_same.bindsTo (P:=fun fd=>Binds K fd ["_law_found","_law_due"] []) fun _ _ _ _ _ _ s us hk hl=>ln2 (fun _ _=>.of_eq rfl) us hl;have b_4:Binds K _ ["pairs","least"] []:=F_at_least.bindsTo (P:=fun fd=>Binds K fd ["pairs","least"] []) fun _ _ _ _ _ _ s us hk hl=>ln2 (fun _ _=>.of_eq rfl) us hl;have b_26:Binds K _ ["some"] []:=F_mark_of.bindsTo (P:=fun fd=>Binds K fd ["some"] []) fun _ _ _ _ _ _ s us hk hl=>ln1 (fun _=>.of_eq rfl) us hl;have b_27:Binds K _ ["pile"] []:=F_marked.bindsTo (P:=fun fd=>Binds K fd ["pile"] []) fun _ _ _ _ _ _ s us hk hl=>ln1 (fun _=>.of_eq rfl) us hl;have b_29:Binds K _ ["some","wares"] []:=F_one_ware_more.bindsTo (P:=fun fd=>Binds K fd ["some","wares"] []) fun _ _ _ _ _ _ s us hk hl=>ln2 (fun _ _=>.of_eq rfl) us hl;have b_28:Binds K _ ["some"] []:=F_one_ware_fewer.bindsTo (P:=fun fd=>Binds K fd ["some"] []) fun _ _ _ _ _ _ s us hk hl=>ln1 (fun _=>.of_eq rfl) us hl;have b_8:Binds K _ ["layer","wares"] []:=F_grown.bindsTo (P:=fun fd=>Binds K fd ["layer","wares"] []) fun _ _ _ _ _ _ s us hk hl=>ln2 (fun _ _=>.of_eq rfl) us hl;have b_5:Binds K _ ["marked_runs","some"] []:=F_count_marked.bindsTo (P:=fun fd=>Binds K fd ["marked_runs","some"] []) fun _ _ _ _ _ _ s us hk hl=>ln2 (fun _ _=>.of_eq rfl) us hl;have b_0:Binds K _ ["self","pile","least"] []:=F_Growing_counted.bindsTo (P:=fun fd=>Binds K fd ["self","pile","least"] []) fun _ _ _ _ _ _ s us hk hl=>ln3 (fun _ _ _=>.of_eq rfl) us hl;have b_1:Binds K _ ["self","pile","least"] []:=F_Growing_often.bindsTo (P:=fun fd=>Binds K fd ["self","pile","least"] []) fun _ _ _ _ _ _ s us hk hl=>ln3 (fun _ _ _=>.of_eq rfl) us hl;have b_13:Binds K _ ["one","other"] []:=F_joined.bindsTo (P:=fun fd=>Binds K fd ["one","other"] []) fun _ _ _ _ _ _ s us hk hl=>ln2 (fun _ _=>.of_eq rfl) us hl;have b_3:Binds K _ ["some","wares"] []:=F_any_ware_more.bindsTo (P:=fun fd=>Binds K fd ["some","wares"] []) fun _ _ _ _ _ _ s us hk hl=>ln2 (fun _ _=>.of_eq rfl) us hl;have b_11:Binds K _ ["some","known","wares"] []:=F_is_greatest.bindsTo (P:=fun fd=>Binds K fd ["some","known","wares"] []) fun _ _ _ _ _ _ s us hk hl=>ln3 (fun _ _ _=>.of_eq rfl) us hl;have b_6:Binds K _ ["pile","least"] []:=F_greatest.bindsTo (P:=fun fd=>Binds K fd ["pile","least"] []) fun _ _ _ _ _ _ s us hk hl=>ln2 (fun _ _=>.of_eq rfl) us hl;have b_31:Binds K _ ["pile","least"] []:=F_seldom.bindsTo (P:=fun fd=>Binds K fd ["pile","least"] []) fun _ _ _ _ _ _ s us hk hl=>ln2 (fun _ _=>.of_eq rfl) us hl;have b_30:Binds K _ ["some"] []:=F_order_of.bindsTo (P:=fun fd=>Binds K fd ["some"] []) fun _ _ _ _ _ _ s us hk hl=>ln1 (fun _=>.of_eq rfl) us hl;have b_32:Binds K _ ["mark"] []:=F_set_of.bindsTo (P:=fun fd=>Binds K fd ["mark"] []) fun _ _ _ _ _ _ s us hk hl=>ln1 (fun _=>.of_eq rfl) us hl;have b_2:Binds K _ ["wares"] []:=F_all_sets.bindsTo (P:=fun fd=>Binds K fd ["wares"] []) fun _ _ _ _ _ _ s us hk hl=>ln1 (fun _=>.of_eq rfl) us hl;have b_9:Binds K _ ["mark","marks"] []:=F_is_above_one.bindsTo (P:=fun fd=>Binds K fd ["mark","marks"] []) fun _ _ _ _ _ _ s us hk hl=>ln2 (fun _ _=>.of_eq rfl) us hl;have b_7:Binds K _ ["wares","sets"] []:=F_greatest_without.bindsTo (P:=fun fd=>Binds K fd ["wares","sets"] []) fun _ _ _ _ _ _ s us hk hl=>ln2 (fun _ _=>.of_eq rfl) us hl;have b_15:Binds K _ ["_law_one","_law_other"] []:=F_law_below.bindsTo (P:=fun fd=>Binds K fd ["_law_one","_law_other"] []) fun _ _ _ _ _ _ s us hk hl=>ln2 (fun _ _=>.of_eq rfl) us hl;have b_14:Binds K _ ["_law_sets_here"] []:=F_law_apart.bindsTo (P:=fun fd=>Binds K fd ["_law_sets_here"] []) fun _ _ _ _ _ _ s us hk hl=>ln1 (fun _=>.of_eq rfl) us hl;have b_12:Binds K _ ["some","known"] []:=F_is_smallest.bindsTo (P:=fun fd=>Binds K fd ["some","known"] []) fun _ _ _ _ _ _ s us hk hl=>ln2 (fun _ _=>.of_eq rfl) us hl;have b_10:Binds K _ ["mark","marks"] []:=F_is_below_one.bindsTo (P:=fun fd=>Binds K fd ["mark","marks"] []) fun _ _ _ _ _ _ s us hk hl=>ln2 (fun _ _=>.of_eq rfl) us hl;have b_33:Binds K _ ["wares","sets"] []:=F_smallest_beyond.bindsTo (P:=fun fd=>Binds K fd ["wares","sets"] []) fun _ _ _ _ _ _ s us hk hl=>ln2 (fun _ _=>.of_eq rfl) us hl;refine⟨L,[(cL_law_sets,TL_law_sets)],_,fun p hp=>(by rw [mv.mp hp];exact mv.mpr rfl),fun p hp=>(by rw [mv.mp hp];exact⟨nl_25,_,r_25,t_law_sets⟩),F_law.bindsTo (P:=fun fd=>∀(s:Shared) (v:Value),BindsTo s fd ⟨[v],[]⟩ [("_law_script",v)]) (fun _ _ _ _ _ _ s v=>.of_eq rfl),fun base _ _ B_L=>?_⟩;have o_24:=qin (P:=l.prog) (w:=w) (mg:=mg) (base:=base) F_law_set n_range n_tuple;have c_24:=Cal.mk o_24 (mg_of X G x_24) k_24;have o_21:=qel (P:=l.prog) (w:=w) (mg:=mg) (base:=base) F_law_power;have c_21:=Cal.mk o_21 (mg_of X G x_21) k_21;have o_22:=qiq (P:=l.prog) (w:=w) (mg:=mg) (base:=base) F_law_run c_24 b_24 c_21 b_21;have c_22:=Cal.mk o_22 (mg_of X G x_22) k_22;have o_19:=qen (P:=l.prog) (w:=w) (mg:=mg) (base:=base) F_law_mixed n_len;have c_19:=Cal.mk o_19 (mg_of X G x_19) k_19;have o_20:=qfy (P:=l.prog) (w:=w) (mg:=mg) (base:=base) F_law_pile c_22 b_22 c_19 b_19 n_range n_len n_tuple;have c_20:=Cal.mk o_20 (mg_of X G x_20) k_20;have o_16:=qep (P:=l.prog) (w:=w) (mg:=mg) (base:=base) F_law_count n_len;have c_16:=Cal.mk o_16 (mg_of X G x_16) k_16;have o_18:=qer (P:=l.prog) (w:=w) (mg:=mg) (base:=base) F_law_least c_16 b_16 c_24 b_24 c_21 b_21 n_max n_len;have c_18:=Cal.mk o_18 (mg_of X G x_18) k_18;have o_17:=qet (P:=l.prog) (w:=w) (mg:=mg) (base:=base) F_law_first n_isinstance n_tuple n_len;have c_17:=Cal.mk o_17 (mg_of X G x_17) k_17;have o_25:=qg1 (P:=l.prog) (w:=w) (mg:=mg) (base:=base) c_24 b_24 c_21 b_21 n_sorted n_range n_len F_law_sets hP_L hU_L B_L;have c_25:=Cal.mk o_25 (mg_of X G x_25) k_25;have o_23:=qg4 (P:=l.prog) (w:=w) (mg:=mg) (base:=base) F_law_same (mg_of X G x_23) k_23 b_23 n_isinstance n_tuple n_zip n_int n_bool n_len 16;have c_23:=Cal.mk o_23 (mg_of X G x_23) k_23;have o_4:=qg7 (P:=l.prog) (w:=w) (mg:=mg) (base:=base) F_at_least n_tuple;have c_4:=Cal.mk o_4 (mg_of X G x_4) k_4;have o_26:=qit (P:=l.prog) (w:=w) (mg:=mg) (base:=base) F_mark_of n_sum;have c_26:=Cal.mk o_26 (mg_of X G x_26) k_26;have o_27:=ql5 (P:=l.prog) (w:=w) (mg:=mg) (base:=base) F_marked c_26 b_26;have c_27:=Cal.mk o_27 (mg_of X G x_27) k_27;have o_29:=q8f (P:=l.prog) (w:=w) (mg:=mg) (base:=base) F_one_ware_more n_range;have c_29:=Cal.mk o_29 (mg_of X G x_29) k_29;have o_28:=q7k (P:=l.prog) (w:=w) (mg:=mg) (base:=base) F_one_ware_fewer n_range n_len;have c_28:=Cal.mk o_28 (mg_of X G x_28) k_28;have o_8:=qo9 (P:=l.prog) (w:=w) (mg:=mg) (base:=base) F_grown c_29 b_29 c_28 b_28 n_dict n_all;have c_8:=Cal.mk o_8 (mg_of X G x_8) k_8;have o_5:=q9v (P:=l.prog) (w:=w) (mg:=mg) (base:=base) F_count_marked c_26 b_26 n_sum;have c_5:=Cal.mk o_5 (mg_of X G x_5) k_5;have o_0:=q6p (P:=l.prog) (w:=w) (mg:=mg) (base:=base) F_Growing_counted c_27 b_27 c_8 b_8 c_5 b_5 c_4 b_4 n_tuple;have c_0:CalM l.prog w K mg base "Growing" "counted" C_Growing _ _ _ _ _ _:=⟨o_0,⟨x_0,i_0,k_0⟩⟩
 have o_1:=q8i (P:=l.prog) (w:=w) (mg:=mg) (base:=base) F_Growing_often O_Growing c_4 b_4 c_0 b_0;have c_1:CalM l.prog w K mg base "Growing" "often" C_Growing _ _ _ _ _ _:=⟨o_1,⟨x_1,i_1,k_1⟩⟩
 have o_13:=ql8 (P:=l.prog) (w:=w) (mg:=mg) (base:=base) F_joined n_tuple n_sorted n_set;have c_13:=Cal.mk o_13 (mg_of X G x_13) k_13;have o_3:=q8m (P:=l.prog) (w:=w) (mg:=mg) (base:=base) F_any_ware_more c_13 b_13 n_range;have c_3:=Cal.mk o_3 (mg_of X G x_3) k_3;have o_11:=qaw (P:=l.prog) (w:=w) (mg:=mg) (base:=base) F_is_greatest c_3 b_3 n_any;have c_11:=Cal.mk o_11 (mg_of X G x_11) k_11;have o_6:=qg9 (P:=l.prog) (w:=w) (mg:=mg) (base:=base) F_greatest O_Growing m_Growing c_1 b_1 c_11 b_11 n_dict n_tuple;have c_6:=Cal.mk o_6 (mg_of X G x_6) k_6;have o_31:=qlb (P:=l.prog) (w:=w) (mg:=mg) (base:=base) F_seldom O_Growing m_Growing c_0 b_0 n_tuple;have c_31:=Cal.mk o_31 (mg_of X G x_31) k_31;have o_30:=qgd (P:=l.prog) (w:=w) (mg:=mg) (base:=base) F_order_of n_len;have c_30:=Cal.mk o_30 (mg_of X G x_30) k_30;have o_32:=qle (P:=l.prog) (w:=w) (mg:=mg) (base:=base) F_set_of n_tuple n_range;have c_32:=Cal.mk o_32 (mg_of X G x_32) k_32;have o_2:=qgh (P:=l.prog) (w:=w) (mg:=mg) (base:=base) F_all_sets c_30 b_30 c_32 b_32 n_sorted n_range;have c_2:=Cal.mk o_2 (mg_of X G x_2) k_2;have o_9:=q9x (P:=l.prog) (w:=w) (mg:=mg) (base:=base) F_is_above_one;have c_9:=Cal.mk o_9 (mg_of X G x_9) k_9;have o_7:=q5y (P:=l.prog) (w:=w) (mg:=mg) (base:=base) F_greatest_without c_26 b_26 c_2 b_2 c_11 b_11 c_9 b_9 n_dict n_tuple;have c_7:=Cal.mk o_7 (mg_of X G x_7) k_7;have o_15:=qey (P:=l.prog) (w:=w) (mg:=mg) (base:=base) F_law_below n_len;have c_15:=Cal.mk o_15 (mg_of X G x_15) k_15;have o_14:=qf0 (P:=l.prog) (w:=w) (mg:=mg) (base:=base) F_law_apart c_15 b_15;have c_14:=Cal.mk o_14 (mg_of X G x_14) k_14;have o_12:=qb0 (P:=l.prog) (w:=w) (mg:=mg) (base:=base) F_is_smallest c_28 b_28 n_any;have c_12:=Cal.mk o_12 (mg_of X G x_12) k_12;have o_10:=q9z (P:=l.prog) (w:=w) (mg:=mg) (base:=base) F_is_below_one;have c_10:=Cal.mk o_10 (mg_of X G x_10) k_10;have o_33:=q6u (P:=l.prog) (w:=w) (mg:=mg) (base:=base) F_smallest_beyond c_26 b_26 c_2 b_2 c_12 b_12 c_10 b_10 n_dict n_tuple;have c_33:=Cal.mk o_33 (mg_of X G x_33) k_33;exact qt7 (qty (P:=l.prog) (w:=w) (mg:=mg) (base:=base) F_law c_20 b_20 c_18 b_18 c_17 b_17 c_25 b_25 c_23 b_23 c_6 b_6 c_31 b_31 c_7 b_7 c_14 b_14 c_33 b_33 c_16 b_16 c_15 b_15 n_list n_tuple n_len n_reversed) hm
end My
namespace PySem.W.Fast
theorem tw13597269555232860557 : True := trivial
theorem tw3241492435976951607 : True := trivial
theorem tw5632675531319027186 : True := trivial
theorem tw4623972866793066016 : True := trivial
theorem tw9003404352645925398 : True := trivial
theorem tw14621832543179464155 : True := trivial
theorem tw14265190051532186870 : True := trivial
theorem tw8728622311425997103 : True := trivial
theorem tw6452517006248354676 : True := trivial
theorem tw14990176307275545221 : True := trivial
theorem tw18022625881527707816 : True := trivial
theorem tw10703286519495050146 : True := trivial
theorem tw16632703402068404318 : True := trivial
theorem tw723783398462186502 : True := trivial
theorem tw11624014315299940479 : True := trivial
theorem tw2481909999362250093 : True := trivial
theorem tw18408943258576984921 : True := trivial
end PySem.W.Fast
open PySem PySem.W PyProof.Rows
local macro_rules | `(tactic| walk_at "F")=> `(tactic| (letI:DL.Lam:=⟨[]⟩;exact DL.qaf (by k_is) (by k_is) (by k_is)))
set_option maxHeartbeats 0 in
theorem PySem.Challenge.cw_oftentogether_k25_whole_borders_holds : PySem.Challenge.rw_oftentogether_k25_whole_borders.Holds := by
 w_on;o_law;k_head;(case hw=>w_witness2)
 k_fill
 refine DL.qqk (l:=PySem.Challenge.rw_oftentogether_k25_whole_borders) (k:=18) (x:="_law_script") rfl rfl ⟨rfl,by decide,by decide⟩ (fun w h Y=>by first|exact PySem.W.kIn_of Y|exact PySem.W.km_in_of Y) ?F
 case F=>
  intro w mg fa h KX G hmg;refine' My.all_mk KX G hmg My.qor ?x_Growing ?mk_Growing ?in_Growing ?kp_Growing ?pg_Growing ?hd_Growing ?po_Growing ?sa_Growing ?cg_Growing ?cc_Growing ?cs_Growing ?ct_Growing ?cm_Growing ?ciint_Growing ?cibool_Growing ?cituple_Growing ?cilist_Growing ?cistr_Growing ?cidict_Growing ?x_24 ?F_law_set ?x_21 ?F_law_power ?x_22 ?F_law_run ?x_19 ?F_law_mixed ?x_20 ?F_law_pile ?x_16 ?F_law_count ?x_18 ?F_law_least ?x_17 ?F_law_first ?x_25 ?l_25 ?q_25 ?k_25 ?o_25 ?p_25 ?hh_25 ?nl_25 ?r_25 ?x_23 ?F_law_same ?x_4 ?F_at_least ?x_26 ?F_mark_of ?x_27 ?F_marked ?x_29 ?F_one_ware_more ?x_28 ?F_one_ware_fewer ?x_8 ?F_grown ?x_5 ?F_count_marked ?x_0 ?i_0 ?l_0 ?q_0 ?k_0 ?x_1 ?i_1 ?l_1 ?q_1 ?k_1 ?x_13 ?F_joined ?x_3 ?F_any_ware_more ?x_11 ?F_is_greatest ?x_6 ?F_greatest ?x_31 ?F_seldom ?x_30 ?F_order_of ?x_32 ?F_set_of ?x_2 ?F_all_sets ?x_9 ?F_is_above_one ?x_7 ?F_greatest_without ?x_15 ?F_law_below ?x_14 ?F_law_apart ?x_12 ?F_is_smallest ?x_10 ?F_is_below_one ?x_33 ?F_smallest_beyond ?x_law ?F_law ?z_range ?z_tuple ?z_len ?z_max ?z_isinstance ?z_sorted ?z_zip ?z_int ?z_bool ?z_sum ?z_dict ?z_all ?z_set ?z_any ?z_list ?z_reversed
  (case x_Growing=>k_is)
  (case mk_Growing=>k_is)
  (case in_Growing=>k_is)
  (case kp_Growing=>k_is)
  (case pg_Growing=>k_is)
  (case hd_Growing=>k_is)
  (case po_Growing=>k_is)
  (case sa_Growing=>k_is)
  (case cg_Growing=>k_is)
  (case cc_Growing=>k_is)
  (case cs_Growing=>k_is)
  (case ct_Growing=>k_is)
  (case cm_Growing=>k_is)
  (case ciint_Growing=>k_is)
  (case cibool_Growing=>k_is)
  (case cituple_Growing=>k_is)
  (case cilist_Growing=>k_is)
  (case cistr_Growing=>k_is)
  (case cidict_Growing=>k_is)
  (case x_24=>k_is)
  (case F_law_set=>walk_at "F")
  (case x_21=>k_is)
  (case F_law_power=>walk_at "F")
  (case x_22=>k_is)
  (case F_law_run=>walk_at "F")
  (case x_19=>k_is)
  (case F_law_mixed=>walk_at "F")
  (case x_20=>k_is)
  (case F_law_pile=>walk_at "F")
  (case x_16=>k_is)
  (case F_law_count=>walk_at "F")
  (case x_18=>k_is)
  (case F_law_least=>walk_at "F")
  (case x_17=>k_is)
  (case F_law_first=>walk_at "F")
  (case x_25=>k_is)
  (case l_25=>k_is)
  (case q_25=>k_is)
  (case k_25=>k_is)
  (case o_25=>k_is)
  (case p_25=>first|rfl|decide +kernel)
  (case hh_25=>first|rfl|decide +kernel)
  (case nl_25=>first|kernel_rfl|rfl)
  (case r_25=>first|rfl|decide +kernel)
  (case x_23=>k_is)
  (case F_law_same=>walk_at "F")
  (case x_4=>k_is)
  (case F_at_least=>walk_at "F")
  (case x_26=>k_is)
  (case F_mark_of=>walk_at "F")
  (case x_27=>k_is)
  (case F_marked=>walk_at "F")
  (case x_29=>k_is)
  (case F_one_ware_more=>walk_at "F")
  (case x_28=>k_is)
  (case F_one_ware_fewer=>walk_at "F")
  (case x_8=>k_is)
  (case F_grown=>walk_at "F")
  (case x_5=>k_is)
  (case F_count_marked=>walk_at "F")
  (case x_0=>k_is)
  (case i_0=>k_is)
  (case l_0=>k_is)
  (case q_0=>k_is)
  (case k_0=>k_is)
  (case x_1=>k_is)
  (case i_1=>k_is)
  (case l_1=>k_is)
  (case q_1=>k_is)
  (case k_1=>k_is)
  (case x_13=>k_is)
  (case F_joined=>walk_at "F")
  (case x_3=>k_is)
  (case F_any_ware_more=>walk_at "F")
  (case x_11=>k_is)
  (case F_is_greatest=>walk_at "F")
  (case x_6=>k_is)
  (case F_greatest=>walk_at "F")
  (case x_31=>k_is)
  (case F_seldom=>walk_at "F")
  (case x_30=>k_is)
  (case F_order_of=>walk_at "F")
  (case x_32=>k_is)
  (case F_set_of=>walk_at "F")
  (case x_2=>k_is)
  (case F_all_sets=>walk_at "F")
  (case x_9=>k_is)
  (case F_is_above_one=>walk_at "F")
  (case x_7=>k_is)
  (case F_greatest_without=>walk_at "F")
  (case x_15=>k_is)
  (case F_law_below=>walk_at "F")
  (case x_14=>k_is)
  (case F_law_apart=>walk_at "F")
  (case x_12=>k_is)
  (case F_is_smallest=>walk_at "F")
  (case x_10=>k_is)
  (case F_is_below_one=>walk_at "F")
  (case x_33=>k_is)
  (case F_smallest_beyond=>walk_at "F")
  (case x_law=>k_is)
  (case F_law=>walk_at "F")
  (case z_range=>k_is)
  (case z_tuple=>k_is)
  (case z_len=>k_is)
  (case z_max=>k_is)
  (case z_isinstance=>k_is)
  (case z_sorted=>k_is)
  (case z_zip=>k_is)
  (case z_int=>k_is)
  (case z_bool=>k_is)
  (case z_sum=>k_is)
  (case z_dict=>k_is)
  (case z_all=>k_is)
  (case z_set=>k_is)
  (case z_any=>k_is)
  (case z_list=>k_is)
  (case z_reversed=>k_is)
