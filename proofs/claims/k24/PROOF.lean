import PyProof.Rows.All
import Wide.All
import OpenK.AllK
import Wide.FinOn
import Lean
import PyProof.EqAt
import PyProof.EqKinds
import PyProof.TupleCall
import PyProof.NeKinds
import PyProof.Rows.SortRuns
import PyProof.Rows.SortShell
import KE.KSortTup
import KE.KLam
import KE.KNestM
import PySem.SetOps
import PyProof.SetKind
import PyProof.DictKinds
import PyProof.DictStraight
import PyProof.FactsAll.set_0
import PyProof.FactsAll.set_1
import PyProof.FactsAll.set_2
import PyProof.FactsAll.set_3
import PyProof.Slots
import PyProof.Rows.SetFrom
import PyProof.TupleIter
import PyProof.Walks
import PyProof.CollectWalk
import PyProof.CollectIter
import PyProof.IsiH_list
import PyProof.AttrMiss
import KE.KDictOf
import KE.KDictList
import PyProof.DictRoadsH
import PySem.Challenge.RW_oftentogether_k24_beyond_and_without
set_option maxRecDepth 100000
set_option maxHeartbeats 4000000
set_option Elab.async false
set_option linter.all false
abbrev g0:=@PySem.wpAny_bind
abbrev g9:=@PySem.wpAny_pure
abbrev gc:=@Option.bind_eq_some_iff
abbrev gd:=@PySem.Heap.get?_push_of_some
abbrev gf:=@Bool.false_eq_true
abbrev gh:=@List.getElem?_set_ne
abbrev gj:=@List.size_toArray
abbrev gm:=@Nat.lt_of_lt_of_le
abbrev gq:=@PyProof.Rows.wpS_bind
abbrev gr:=@PySem.Heap.get?_push_size
abbrev gu:=@Nat.le_refl
abbrev gv:=@List.map_cons
abbrev gw:=@PySem.Heap.lt_size
abbrev gz:=@Option.map_eq_some_iff
abbrev m4:=@List.mem_cons_self
abbrev m5:=@List.mem_cons_of_mem
abbrev m6:=@Bool.and_eq_true
abbrev m8:=@Option.some.inj
abbrev m9:=@Nat.ne_of_lt
abbrev ma:=@Option.bind_some
abbrev md:=@PyProof.Rows.wpS_pure
abbrev me:=@List.mem_cons
abbrev mf:=@if_neg
abbrev mh:=@Bool.false_ne_true
abbrev mi:=@if_pos
abbrev mj:=@List.length_map
abbrev ml:=@Nat.le_trans
abbrev mm:=@List.append_assoc
abbrev mn:=@List.getElem?_map
abbrev mq:=@List.map_map
abbrev mr:=@List.getElem?_eq_getElem
abbrev mv:=@Ne.symm
abbrev mw:=@List.mem_singleton
abbrev mx:=@List.mem_map
abbrev my:=@List.getElem?_eq_some_iff
abbrev n8:=@List.mem_append_right
abbrev n9:=@List.all_eq_true
abbrev ng:=@Array.length_toList
abbrev nh:=@List.mem_append
abbrev ni:=@List.length_take
abbrev nj:=@List.pairwise_append
abbrev nk:=@List.take_append_drop
abbrev nt:=@Int.toNat_natCast
abbrev nu:=@decide_eq_false
abbrev nv:=@Option.map_some
abbrev ny:=@if_true
abbrev nz:=@PySem.wpAny_holding
abbrev p0:=@if_false
abbrev p5:=@PySem.wpAny_call_entry
abbrev p6:=@PySem.Heap.size_update
abbrev p7:=@decide_eq_true
abbrev p8:=@Array.toList_append
abbrev p9:=@List.take_succ_eq_append_getElem
abbrev pb:=@List.drop_eq_getElem_cons
abbrev pd:=@List.take_of_length_le
abbrev pf:=@List.lookup_cons
abbrev ph:=@Nat.not_lt_zero
abbrev pj:=@PySem.wpAny_ite_split
abbrev pq:=@PySem.Heap.get?_push_ne
abbrev pz:=@List.length_append
abbrev t6:=@PySem.wpAny_callSpecial?_slot
abbrev t7:=@List.getElem?_append_left
abbrev t8:=@List.length_set
abbrev t9:=@List.length_cons
abbrev td:=@PySem.wpAny_newObj_type
abbrev tm:=@PySem.wpAny_mono
abbrev tq:=@List.mem_of_getElem?
abbrev tu:=@List.mem_iff_getElem
abbrev tw:=@PyProof.Rows.wpS_mono
abbrev tx:=@List.mem_range
abbrev u0:=@List.perm_append_comm
abbrev u6:=@PySem.Heap.SameBut.update
abbrev u9:=@PySem.Heap.get?_update_ne
abbrev uc:=@List.getElem?_append_right
abbrev ud:=@PySem.wpAny_askSetting
abbrev ue:=@PySem.Heap.size_push
abbrev uf:=@List.map_append
abbrev ug:=@congrArg
abbrev uh:=@Nat.ne_of_gt
abbrev ui:=@List.length_drop
abbrev uj:=@PyProof.Rows.wpS_forRange
abbrev uk:=@List.Perm.append_left
abbrev um:=@ite_congr
abbrev uo:=@List.pairwise_map
abbrev uq:=@PyProof.Rows.slot_tuple_getitem
abbrev ur:=@decide_eq_false_iff_not
abbrev uw:=@Bool.eq_iff_iff
abbrev ux:=@PySem.Around.under_plainId
abbrev uy:=@Nat.zero_le
abbrev uz:=@Nat.lt_succ_self
abbrev g00:=@PySem.wpAny_rule
abbrev g01:=@PyProof.Rows.size_push'
abbrev g02:=@PySem.AutoSeq1.wpAny_loadPart'
abbrev g03:=@Array.getElem?_toList
abbrev g04:=@List.mem_filter
abbrev g05:=@PySem.wpAny_field
abbrev g06:=@PySem.codeAny_builtin
abbrev g07:=@PySem.wpAny_typeNameOfWhole_keyiter
abbrev g08:=@List.all_map
abbrev g09:=@List.not_mem_nil
abbrev g0a:=@Nat.lt_irrefl
abbrev g0b:=@Array.toList_extract
abbrev g0c:=@List.mem_of_mem_take
abbrev g0d:=@PySem.F.slot_dict_keyiterator_next
abbrev g0e:=@List.getElem?_replicate
abbrev g0f:=@of_decide_eq_true
abbrev g0g:=@decide_eq_true_eq
abbrev g0h:=@List.getElem?_set_self
abbrev g0i:=@PySem.wpAny_attempt
abbrev g0j:=@Bool.not_true
abbrev g0k:=@Array.perm_iff_toList_perm
abbrev g0l:=@PySem.wpAny_seqItems
abbrev g0m:=@PySem.Heap.get?_update_self
abbrev g0n:=@Int.emod_lt_of_pos
abbrev g0o:=@List.nodup_cons
abbrev g0p:=@Option.isSome_iff_exists
abbrev g0q:=@Bool.or_eq_true
abbrev g0r:=@PyProof.Rows.get?_update_seq
abbrev g0s:=@List.Pairwise.filter
abbrev g0t:=@PySem.wpAny_typeNameOf_keyiter
abbrev g0u:=@Nat.lt_succ_of_lt
abbrev g0v:=@List.filterMap_cons
abbrev g0w:=@List.replicate_succ
abbrev g0x:=@List.mem_map_of_mem
abbrev g0y:=@List.filter_cons
abbrev g0z:=@PySem.Heap.get?_update_other
abbrev g10:=@List.map_nil
abbrev g11:=@PySem.wpAny_setField_rec
abbrev g12:=@List.pairwise_cons
abbrev g13:=@PyProof.Rows.F.plain_set_update_loop
abbrev g14:=@List.length_filter_le
abbrev g15:=@PySem.wpAny_isOneOf_keyiter
abbrev g16:=@Int.emod_nonneg
abbrev g17:=@PySem.PassesOwn.never
abbrev g18:=@PySem.F.slot_tuple_iterator_next
abbrev g19:=@PyProof.Rows.listUpdate_at
abbrev g1a:=@Nat.le_of_succ_le
abbrev g1b:=@Classical.byContradiction
abbrev g1c:=@PySem.wpAny_typeOf
abbrev g1d:=@PySem.AutoSeq1.sub_tuple_tuple
abbrev g1e:=@getElem?_pos
abbrev g1f:=@List.Pairwise.imp_of_mem
abbrev g1g:=@List.nodup_range
abbrev g1h:=@PySem.F.called_set
abbrev g1i:=@beq_eq_false_iff_ne
abbrev g1j:=@PySem.mem_of_lookup
abbrev g1k:=@Int.toNat_of_nonneg
abbrev g1l:=@List.length_eq_zero_iff
abbrev g1m:=@List.pairwise_singleton
abbrev g1n:=@PySem.plainId_quiet
abbrev g1o:=@PySem.wpAny_Call_Name_kw
abbrev g1p:=@List.forIn_cons
abbrev g1q:=@List.nil_append
abbrev g1r:=@List.range_succ_eq_map
abbrev g1s:=@List.getElem_cons_succ
abbrev g1t:=@PySem.wpAny_truthy_bool
abbrev g1u:=@PySem.Heap.SameBut.refl
abbrev g1v:=@List.flatten_cons
abbrev g1w:=@Bool.not_eq_true'
abbrev g1x:=@PySem.wpAny_storeSet_of
abbrev g1y:=@List.cons.sizeOf_spec
abbrev g1z:=@Bool.not_false
abbrev g20:=@PySem.isSubtype_type
abbrev g21:=@PySem.builtinLookup_eq_fast
abbrev g22:=@PyProof.Rows.callWith_type1
abbrev g23:=@List.mem_append_left
abbrev g24:=@PySem.wpAny_isInstance
abbrev g25:=@PySem.F.slot_tuple_mul
abbrev g26:=@Nat.le_add_right
abbrev g27:=@List.any_cons
abbrev g28:=@PySem.sizeLine_eq
abbrev g29:=@Nat.le_succ
abbrev g2a:=@List.map_congr_left
abbrev g2b:=@PySem.wpAny_passesOwn
abbrev g2c:=@List.append_nil
abbrev g2d:=@List.of_mem_zip
abbrev g2e:=@List.pairwise_iff_getElem
abbrev g2f:=@List.length_zip
abbrev g2g:=@PySem.codeAny_mono
abbrev g2h:=@List.getElem?_take_of_lt
abbrev g2i:=@PySem.F.args_tuple_add_2
abbrev g2j:=@List.filterMap_map
abbrev g2k:=@PySem.Obj.data_mapFields
abbrev g2l:=@or_false
abbrev g2m:=@Bool.not_eq_false'
abbrev g2n:=@List.Pairwise.drop
abbrev g2o:=@List.Pairwise.take
abbrev g2p:=@PyProof.Rows.F.entry_set_update_loop
abbrev g2q:=@decide_eq_true_iff
abbrev g2r:=@PySem.F.slot_list_getattribute
abbrev g2s:=@List.forIn_nil
abbrev g2t:=@PySem.wpAny_setField
abbrev g2u:=@PyProof.Rows.wpS_get
abbrev g2v:=@PySem.F.entry_tuple_add
abbrev g2w:=@List.eraseIdx_cons_succ
abbrev g2x:=@List.getElem?_cons_succ
abbrev g2y:=@List.getElem?_cons_zero
abbrev g2z:=@Option.some.injEq
abbrev g30:=@PySem.wpAny_pyIter_list
abbrev g31:=@bne_self_eq_false
abbrev g32:=@List.Pairwise.imp
abbrev g33:=@PySem.wpAny_setState_of
abbrev g34:=@PySem.F.plain_list_iadd
abbrev g35:=@PySem.W.cellsFrom_some
abbrev g36:=@PySem.F.slot_tuple_add
abbrev g37:=@List.pairwise_lt_range
abbrev g38:=@List.all_cons
abbrev g39:=@PySem.wpAny_newList
abbrev g3a:=@Bool.and_true
abbrev g3b:=@Bool.false_or
abbrev g3c:=@Option.join_some
abbrev g3d:=@List.cons_append
abbrev g3e:=@List.any_eq_true
abbrev g3f:=@List.length_singleton
abbrev g3g:=@List.mem_iff_getElem?
abbrev g3h:=@beq_iff_eq
abbrev g3i:=@PySem.codeAny_call_builtin
abbrev g3j:=@PySem.wpAny_updateSeq_pair
abbrev g3k:=@PySem.F.slot_zip_next
abbrev g3l:=@PySem.wpAny_ite_false
abbrev g3m:=@PyProof.Rows.wpS_modify
abbrev g3n:=@List.mem_of_mem_drop
abbrev g3o:=@Array.getElem_toList
abbrev g3p:=@Array.toList_reverse
abbrev g3q:=@PyProof.Rows.listItems_at
abbrev g3r:=@PySem.intKind_is
abbrev g3s:=@PySem.typeLookup_type
abbrev g3t:=@PySem.F.args_dict_keyiterator_next_1
abbrev g3u:=@Nat.two_pow_pos
abbrev g3v:=@List.eq_nil_of_length_eq_zero
abbrev g3w:=@PySem.F.entry_dict_keyiterator_next
abbrev g3x:=@Bool.false_and
abbrev g3y:=@List.drop_zero
abbrev g3z:=@PySem.F.args_tuple_iterator_next_1
abbrev g40:=@List.Perm.refl
abbrev g41:=@List.drop_drop
abbrev g42:=@List.take_succ
abbrev g43:=@PySem.wpAny_fieldsOf
abbrev g44:=@PyProof.Rows.seqEpoch_at
abbrev g45:=@List.mem_filterMap
abbrev g46:=@Int.natCast_nonneg
abbrev g47:=@List.lookup_append
abbrev g48:=@PySem.F.attrBase_ValueError
abbrev g49:=@PySem.wpAny_pyIter_tuple
abbrev g4a:=@PySem.F.entry_tuple_iterator_next
abbrev g4b:=@PySem.F.args_tuple_mul_2
abbrev g4c:=@PySem.tupleKind_room_in1
abbrev g4d:=@List.idxOf_lt_length_of_mem
abbrev g4e:=@PySem.Paired.length
abbrev g4f:=@Int.fdiv_eq_ediv_of_nonneg
abbrev g4g:=@PySem.mem_of_lookup
abbrev g4h:=@PySem.wpAny_handled
abbrev g4i:=@PySem.wpAny_onRaise
abbrev g4j:=@Array.toList_setIfInBounds
abbrev g4k:=@List.zip_map'
abbrev g4l:=@List.perm_ext_iff_of_nodup
abbrev g4m:=@Bool.and_self
abbrev g4n:=@List.getElem?_set
abbrev g4o:=@PySem.F.entry_tuple_mul
abbrev g4p:=@Function.comp_def
abbrev g4q:=@PySem.wpAny_pyIter_slot
abbrev g4r:=@PySem.wpAny_dictEntries
abbrev g4s:=@List.filter_congr
abbrev g4t:=@PySem.wpAny_call
abbrev g4u:=@PySem.call_meets
abbrev g4v:=@List.getElem_append_right
abbrev g4w:=@Array.getElem?_eq_getElem
abbrev g4x:=@List.findIdx?_eq_none_iff
abbrev g4y:=@List.getLast?_eq_getElem?
abbrev g4z:=@List.getLast?_eq_none_iff
abbrev g50:=@Nat.le_of_lt
abbrev g51:=@List.getElem_inj
abbrev g52:=@PySem.concat_meets
abbrev g53:=@PySem.noFill_tuple_add
abbrev g54:=@List.drop_length
abbrev g55:=@List.take_length
abbrev g56:=@Nat.min_self
abbrev g57:=@List.zipIdx_cons
abbrev g58:=@PySem.AutoSeq1.idx_int
abbrev g59:=@List.getElem_append_left
abbrev g5a:=@List.map_snd_zip
abbrev g5b:=@List.getElem_mem
abbrev g5c:=@Nat.min_eq_right
abbrev g5d:=@PySem.wpAny_execs_nil
abbrev g5e:=@PySem.wpAny_loadPart'
abbrev g5f:=@PySem.SeqAt.EqAt.same
abbrev g5g:=@PySem.pushCells_keeps
abbrev g5h:=@PySem.W.kia_one
abbrev g5i:=@List.foldl_cons
abbrev g5j:=@PySem.wpAny_dictEpoch
abbrev g5k:=@Nat.min_eq_left
abbrev g5l:=@PySem.wpAny_of_eq
abbrev g5m:=@PySem.wpAny_letGo
abbrev g5n:=@List.sum_replicate_nat
abbrev g5o:=@List.drop_of_length_le
abbrev g5p:=@List.getElem_cons_zero
abbrev g5q:=@List.length_replicate
abbrev g5r:=@not_or
abbrev g5s:=@Bool.and_eq_false_iff
abbrev g5t:=@List.getElem?_eq_none
abbrev g5u:=@Option.some_or
abbrev g5v:=@Array.ext'
abbrev g5w:=@Nat.not_lt
abbrev g5x:=@Bool.true_and
abbrev g5y:=@List.map_take
abbrev g5z:=@List.map_drop
abbrev g60:=@Nat.lt_or_ge
abbrev g61:=@Int.ne_of_gt
namespace L2
open PySem PySem.Spec PyProof.Rows
abbrev Key:=Sum Int Str
def qjt:Key->Value->Bool
 | .inl k,v=>Value.isInt k v
 | .inr x,v=>Value.isStrOf x v
def qp8(w:World): Key->Int
 | .inl k=>hashInt k
 | .inr x=>hashStr w x
theorem jm:∀ {k:Key} {v:Value},qjt k v=true->(∃i t,k=Sum.inl i/\v=Value.int i t)\/(∃x t,k=Sum.inr x/\v=Value.str x t)
 | .inl i,v,h=>by
  obtain⟨t,e⟩:=Value.isInt_shape (k:=i) (v:=v) h;exact .inl ⟨i,t,rfl,e⟩
 | .inr x,v,h=>by
  obtain⟨t,e⟩:=Value.isStrOf_shape (x:=x) (v:=v) h;exact .inr ⟨x,t,rfl,e⟩
theorem qma(a b:Int): decide ((Sum.inl a:Key)=Sum.inl b)=(a==b):=by
 by_cases e:a=b
 ·subst e;simp
 ·have h:¬(Sum.inl a:Key)=Sum.inl b:=fun q=>e (Sum.inl.inj q)
  rw [nu h];exact(g1i.mpr e).symm
theorem qmb(a b:Str): decide ((Sum.inr a:Key)=Sum.inr b)=decide (a=b):=by
 by_cases e:a=b
 ·subst e;simp
 ·have h:¬(Sum.inr a:Key)=Sum.inr b:=fun q=>e (Sum.inr.inj q)
  rw [nu h,nu e]
theorem qmc(a:Int)(b:Str): decide ((Sum.inl a:Key)=Sum.inr b)=false:=nu (fun q=>nomatch q)
theorem qmd(a:Str)(b:Int): decide ((Sum.inr a:Key)=Sum.inl b)=false:=nu (fun q=>nomatch q)
def mixKind(prog:Program)(w:World): PySem.KeyKind prog w Key where
 is:=qjt
 hash:=qp8 w
 inj:=fun v a b ha hb=>by
  rcases jm ha with⟨i,t,rfl,rfl⟩|⟨x,t,rfl,rfl⟩
  ·rcases jm hb with⟨j,u,rfl,e⟩|⟨y,u,rfl,e⟩
   ·injection e with e1 _;rw [e1]
   ·exact nomatch e
  ·rcases jm hb with⟨j,u,rfl,e⟩|⟨y,u,rfl,e⟩
   ·exact nomatch e
   ·injection e with e1 _;rw [e1]
 byValue:=fun k v h=>by
  rcases jm h with⟨i,t,rfl,rfl⟩|⟨x,t,rfl,rfl⟩ <;> rfl
 pyHash:=fun hv h=>by
  rcases jm hv with⟨i,t,rfl,rfl⟩|⟨x,t,rfl,rfl⟩
  ·exact wpAny_pyHash_int h
  ·exact wpAny_pyHash_str h
 eqBool:=fun hu hv h=>by
  rcases jm hu with⟨i,t,rfl,rfl⟩|⟨x,t,rfl,rfl⟩
  ·rcases jm hv with⟨j,u,rfl,rfl⟩|⟨y,u,rfl,rfl⟩
   ·rw [qma] at h;exact wpAny_eqBool_int h
   ·rw [qmc] at h;exact SeqAt.EqAt.int_str i t y u _ _ _ _ h
  ·rcases jm hv with⟨j,u,rfl,rfl⟩|⟨y,u,rfl,rfl⟩
   ·rw [qmd] at h;exact SeqAt.EqAt.str_int x t j u _ _ _ _ h
   ·rw [qmb] at h;exact wpAny_eqBool_str h
 «strs» :=fun k x t v h=>by
  rcases jm h with⟨i,u,rfl,e⟩|⟨y,u,rfl,e⟩
  ·exact nomatch e
  ·injection e with e1 _
   subst e1;cases v <;> rfl
inductive V where
 | non|bl (b:Bool)|int (i:Int)|str (x:Str)|byt (b:Array UInt8)|flt (b:UInt64)|ref (a:Addr)|ty (n:String)
 deriving DecidableEq
def RelV:V->Value->Prop
 | .non,u=>u=Value.none
 | .bl b,u=>u=Value.bool b
 | .int i,u=>∃t,u=Value.int i t
 | .str x,u=>∃t,u=Value.str x t
 | .byt b,u=>∃t,u=Value.bytes b t
 | .flt b,u=>∃t,u=Value.float b t
 | .ref a,u=>u=Value.ref a
 | .ty n,u=>u=Value.type n
abbrev Vals:List V->List Value->Prop:=Paired RelV
theorem Vals.length{xs:List V}{us:List Value}(r:Vals xs us): xs.length=us.length:=g4e r
theorem Vals.get:∀ {xs:List V} {us:List Value} {i:Nat} {x:V},Vals xs us->xs[i]? = some x->∃u,us[i]? = some u/\RelV x u
 | _,_,_,_,.nil,e=>by simp at e
 | _,_,0,_,.cons r _,e=>by simp at e;subst e;exact⟨_,rfl,r⟩
 | _,_,i+1,x,.cons _ t,e=>by
  obtain⟨u,h1,h2⟩:=Vals.get (i:=i) (x:=x) t (by simpa using e);exact⟨u,by simpa using h1,h2⟩
theorem Vals.append:∀ {xs ys:List V} {us ws:List Value},Vals xs us->Vals ys ws->Vals (xs++ys) (us++ws)
 | _,_,_,_,.nil,s=>s
 | _,_,_,_,.cons r t,s=>.cons r (Vals.append t s)
theorem Vals.take:∀ {xs:List V} {us:List Value} (n:Nat),Vals xs us->Vals (xs.take n) (us.take n)
 | _,_,0,_=>.nil
 | _,_,_+1,.nil=>.nil
 | _,_,n+1,.cons r t=>.cons r (Vals.take n t)
theorem Vals.drop:∀ {xs:List V} {us:List Value} (n:Nat),Vals xs us->Vals (xs.drop n) (us.drop n)
 | _,_,0,r=>r
 | _,_,_+1,.nil=>.nil
 | _,_,n+1,.cons _ t=>Vals.drop n t
def qhm:Option V->Option Value->Prop
 | some v,some u=>RelV v u
 | none,none=>True
 | _,_=>False
def KV{κ : Type}: List (κ × V)->List (κ × Value)->Prop:=Paired fun(p : κ × V) (q : κ × Value)=>p.1=q.1/\RelV p.2 q.2
def kV:Key->V
 | .inl i=>.int i
 | .inr x=>.str x
inductive HO where
 /-- a list -/
 | lst (xs:List V)
 /-- a tuple (never changes) -/
 | tup (xs:List V)
 /-- a dict whose keys are ints and texts; one whose keys are tuples of ints and texts (the empty one is both) -/
 | dK (kvs:List (Key×V))|dT (kvs:List (List Key×V))
 /-- a set of ints: its members, its size -/
 | set (S:Int->Bool) (n:Nat)
 /-- an instance of the class at C, its dict at dx, its attributes -/
 | ins (C dx:Addr) (fs:List (Str×V))
 /-- the dict of the instance at x -/
 | own (x:Addr)
 /-- the dict of an exception -/
 | xd (fs:List (Str×V))
 /-- a bound method, f of x -/
 | met (f x:Addr)
 /-- a range object lo, lo + 1, .. below hi -/
 | rng (lo hi:Int)
 /-- a thing that is known to the object (the script; a dict while a loop walks it): read, never written while it is so -/
 | frz (o:Obj) (u:HO)
 /-- a code object's table -/
 | tbl (ps:Array Value)
 /-- any other thing, by what is true of its one object (a def of one's own: SetO a S n := HO.ext fun h => ..) -/
 | ext (φ : Heap->Prop)
abbrev Hp:=Addr->Option HO
def upd(H:Hp)(a:Addr)(o:HO): Hp:=fun b=>if b=a then some o else H b
theorem ql{H:Hp}{a:Addr}{o:HO}: upd H a o a=some o:=by unfold upd;rw [mi rfl]
theorem qi{H:Hp}{a b:Addr}{o:HO}(h:b≠a): upd H a o b=H b:=by unfold upd;rw [mf h]
theorem j9{H:Hp}{a b:Addr}{o:HO}(h:H a=some o)(h':H b=none): a≠b:=by
 intro e;subst e;rw [h] at h';cases h'
section
variable(P:Program)(w:World)
def ObjOk(H:Hp)(h:Heap)(a:Addr): HO->Prop
 | .lst xs=>xs.length<=sizeLine/\∃(its:List Value) (n:Nat),Vals xs its/\h.get? a=some {cls:=.type "list",data:=.seq its.toArray n}
 | .tup xs=>xs.length<=sizeLine/\∃its:List Value,Vals xs its/\IsTup h a its.toArray
 | .dK kvs=>kvs.length<=sizeLine/\(a==sysModules)=false/\∃vs,KV kvs vs/\h.DictOf (mixKind P w) a vs
 | .dT kvs=>kvs.length<=sizeLine/\(a==sysModules)=false/\∃xs:List (List Key×Addr×Value),
   Paired (fun(p:List Key×V) (q:List Key×Addr×Value)=>p.1=q.1/\H q.2.1=some (.tup (p.1.map kV))/\RelV p.2 q.2.2) kvs xs /\
   ∃o es ep,h.get? a=some o/\o.ExactDict/\o.data=.dict es ep/\es.toList=xs.map (entryOfKey (tupleKind (mixKind P w)))/\(xs.map (·.1)).Nodup
 | .set S n=>h.SetOf (intKind P w) a S n
 | .ins C dx fs=>H dx=some (.own a)/\fs.length<=1000/\dx≠a/\h.get? a=some (PySem.W.instObj C dx) /\
   ∃mA,h.Ns1 dx mA/\(∀f,qhm (fs.lookup f) (mA f))/\PySem.Within mA (fs.map (·.1))
 | .own _=>∃o,h.get? a=some o
 | .xd fs=>∃mA,h.Ns1 a mA/\∀f,qhm (fs.lookup f) (mA f)
 | .rng lo hi=>∃t u v,h.get? a=some {cls:=.type "range",data:=.fields #[.int lo t,.int hi u,.int 1 v]}
 | .frz o u=>h.get? a=some o/\ObjOk H h a u
 | .tbl ps=>h.get? a=some {cls:=.none,data:=.fields ps}
 | .met f x=>h.get? a=some (PySem.W.methodObj (.ref f) (.ref x))
 | .ext φ => φ h/\(∃o,h.get? a=some o)/\∀h1 h2:Heap, φ h1->(∀o,h1.get? a=some o->h2.get? a=some o) -> φ h2
def HOk(H:Hp)(h:Heap): Prop:=∀a o,H a=some o->ObjOk P w H h a o
end
section
variable{P:Program}{w:World}{H H':Hp}{h h':Heap}{a:Addr}{o:HO}
theorem ObjOk.lt(x:ObjOk P w H h a o): a<h.objs.size:=by
 cases o with
 | lst xs=>obtain⟨_,_,_,_,e⟩:=x;exact gw e
 | tup xs=>obtain⟨_,_,_,p⟩:=x;exact p.lt
 | dK kvs=>obtain⟨_,_,_,_,o,_,_,e,_⟩:=x;exact gw e
 | dT kvs=>obtain⟨_,_,_,_,o,_,_,e,_⟩:=x;exact gw e
 | set S n=>obtain⟨o,_,_,_,e,_⟩:=x;exact gw e
 | ins C dx fs=>obtain⟨_,_,_,e,_⟩:=x;exact gw e
 | own y=>obtain⟨_,e⟩:=x;exact gw e
 | xd fs=>obtain⟨_,⟨_,_,_,e,_⟩,_⟩:=x;exact gw e
 | rng lo hi=>obtain⟨_,_,_,e⟩:=x;exact gw e
 | frz ob u=>obtain⟨e,_⟩:=x;exact gw e
 | tbl ps=>exact gw (show h.get? a=some _ from x)
 | met f y=>exact gw (show h.get? a=some _ from x)
 | ext φ =>obtain⟨_,⟨_,e⟩,_⟩:=x;exact gw e
theorem Paired.mapP{α β : Type}{F G : α -> β -> Prop}: ∀ {l₁:List α} {l₂:List β},Paired F l₁ l₂->(∀a b,F a b->G a b)->Paired G l₁ l₂
 | _,_,.nil,_=>.nil
 | _,_,.cons r t,f=>.cons (f _ _ r) (Paired.mapP t f)
theorem ObjOk.stay(x:ObjOk P w H h a o)(k:∀b u,(b=a\/H b=some (.own a))->h.get? b=some u->h'.get? b=some u)
  (ho:∀b,H b=some (.own a)->H' b=some (.own a)) (ht:∀b xs,H b=some (.tup xs)->H' b=some (.tup xs)):ObjOk P w H' h' a o:=by
 induction o with
 | lst xs=>obtain⟨z,its,n,r,e⟩:=x;exact⟨z,its,n,r,k _ _ (.inl rfl) e⟩
 | tup xs=>obtain⟨z,its,r,ob,e,c⟩:=x;exact⟨z,its,r,ob,k _ _ (.inl rfl) e,c⟩
 | dK kvs=>obtain⟨z,y,vs,r,ob,es,ep,e,c⟩:=x;exact⟨z,y,vs,r,ob,es,ep,k _ _ (.inl rfl) e,c⟩
 | dT kvs=>
  obtain⟨z,y,xs,r,ob,es,ep,e,c⟩:=x;exact⟨z,y,xs,Paired.mapP r fun p q z=>⟨z.1,ht _ _ z.2.1,z.2.2⟩,ob,es,ep,k _ _ (.inl rfl) e,c⟩
 | set S n=>obtain⟨ob,es,ep,t,e,c⟩:=x;exact⟨ob,es,ep,t,k _ _ (.inl rfl) e,c⟩
 | ins C dx fs=>
  obtain⟨d,z,ne,e,mA,⟨od,es,ep,e2,c⟩,r⟩:=x;exact⟨ho _ d,z,ne,k _ _ (.inl rfl) e,mA,⟨od,es,ep,k _ _ (.inr d) e2,c⟩,r⟩
 | own y=>obtain⟨ob,e⟩:=x;exact⟨ob,k _ _ (.inl rfl) e⟩
 | xd fs=>obtain⟨mA,⟨od,es,ep,e,c⟩,r⟩:=x;exact⟨mA,⟨od,es,ep,k _ _ (.inl rfl) e,c⟩,r⟩
 | rng lo hi=>obtain⟨t,u,v,e⟩:=x;exact⟨t,u,v,k _ _ (.inl rfl) e⟩
 | frz ob u ih=>obtain⟨e,q⟩:=x;exact⟨k _ _ (.inl rfl) e,ih q⟩
 | tbl ps=>
  have e:h.get? a=some {cls:=.none,data:=.fields ps}:=x;show h'.get? a=some {cls:=.none,data:=.fields ps};exact k a _ (.inl rfl) e
 | met f y=>
  have e:h.get? a=some (PySem.W.methodObj (.ref f) (.ref y)):=x;show h'.get? a=some (PySem.W.methodObj (.ref f) (.ref y));exact k a _ (.inl rfl) e
 | ext φ =>obtain⟨p,⟨o,e⟩,st⟩:=x;exact⟨st _ _ p fun o q=>k _ _ (.inl rfl) q,⟨o,k _ _ (.inl rfl) e⟩,st⟩
theorem HOk.lt(x:HOk P w H h)(e:H a=some o): a<h.objs.size:=(x a o e).lt
theorem HOk.fresh(x:HOk P w H h)(e:h.objs.size<=a): H a=none:=by
 cases q:H a with
 | none=>rfl
 | some u=>exact absurd (gm (x.lt q) e) (g0a _)
theorem HOk.kept(x:HOk P w H h)(k:∀b u,h.get? b=some u->h'.get? b=some u): HOk P w H h':=fun a o e=>
 (x a o e).stay (fun b u _ q=>k b u q) (fun _ q=>q) fun _ _ q=>q
theorem HOk.laid(x:HOk P w H h)(k:∀b u,h.get? b=some u->h'.get? b=some u)(hp:h.objs.size<=a)(new:ObjOk P w (upd H a o) h' a o): HOk P w (upd H a o) h':=fun b u e=>by
 have hn:=x.fresh hp
 by_cases hb:b=a
 ·subst hb;rw [ql] at e;cases e;exact new
 ·rw [qi hb] at e
  exact(x b u e).stay (fun c v _ q=>k c v q) (fun c q=>by rw [qi (j9 q hn)];exact q) fun c xs q=>by rw [qi (j9 q hn)];exact q
end
def Rd(H:Hp)(a:Addr)(u:HO): Prop:=H a=some u\/∃o,H a=some (.frz o u)
theorem Rd.ok{P:Program}{w:World}{H:Hp}{h:Heap}{a:Addr}{u:HO}(r:Rd H a u)(x:HOk P w H h): ObjOk P w H h a u:=by
 rcases r with r|⟨o,r⟩
 ·exact x a u r
 ·obtain⟨_,q⟩:=x a _ r
  exact q
def Mut:Option HO->Prop
 | some (.lst _)=>True
 | some (.dK _)=>True
 | some (.dT _)=>True
 | some (.set _ _)=>True
 | some (.ins _ _ _)=>True
 | some (.ext _)=>True
 | _=>False
section
variable{P:Program}{w:World}{H:Hp}{h h':Heap}{x e:Addr}{o':HO}
theorem HOk.write(ok:HOk P w H h)(mu:Mut (H x))(he:e=x\/H e=some (.own x))(k:∀b u,b≠e->h.get? b=some u->h'.get? b=some u)(heo:∃u,h'.get? e=some u)
  (new:ObjOk P w (upd H x o') h' x o'):HOk P w (upd H x o') h':=fun b u q=>by
 have nown:∀c y,H c=some (.own y)->c≠x:=fun c y r z=>by subst z;rw [r] at mu;exact mu
 have ntup:∀c xs,H c=some (.tup xs)->c≠x:=fun c xs r z=>by subst z;rw [r] at mu;exact mu
 by_cases hb:b=x
 ·subst hb;rw [ql] at q;cases q;exact new
 ·rw [qi hb] at q
  by_cases hbe:b=e
  ·have q':H b=some (.own x):=by
    rcases he with z|z
    ·exact absurd (hbe.trans z) hb
    ·rw [hbe];exact z
   rw [q] at q';cases q';obtain⟨v,hv⟩:=heo;exact⟨v,by rw [hbe];exact hv⟩
  ·refine(ok b u q).stay (fun c v hc r=>k c v ?_ r) (fun c r=>by rw [qi (nown c b r)];exact r) fun c xs r=>by rw [qi (ntup c xs r)];exact r
   rcases hc with rfl|hc
   ·exact hbe
   ·rintro rfl
    rcases he with z|z
    ·exact nown c b hc z
    ·rw [hc] at z;cases z;exact hb rfl
end
structure Un(fs ex:List Addr)(H H':Hp)(h h':Heap): Prop where
 keep:∀b o,h.get? b=some o->H b=none->b∉fs->b∉ex->h'.get? b=some o
 slot:∀b o,h.get? b=some o->H b=none->b∈fs->b∉ex->∃sl,h'.get? b=some {o with slots:=sl}
 free:∀b o,h.get? b=some o->H b=none->b∉ex->H' b=none
 there:∀b o,h.get? b=some o->b∉ex->∃o',h'.get? b=some o'
 tups:∀b xs,H b=some (.tup xs)->H' b=some (.tup xs)
 frzs:∀b o u,H b=some (.frz o u)->H' b=some (.frz o u)
 tbls:∀b ps,H b=some (.tbl ps)->∃more,H' b=some (.tbl (ps++more))
section
variable{fs fs' ex ex':List Addr}{H H1 H2:Hp}{h h1 h2 h':Heap}{a x e:Addr}{o:HO}
theorem Un.any(u:Un fs ex H H1 h h1){b:Addr}{ob:Obj}(q:h.get? b=some ob)(n:H b=none)(hx:b∉ex): ∃sl,h1.get? b=some {ob with slots:=sl}:=by
 by_cases hb:b∈fs
 ·exact u.slot b ob q n hb hx
 ·exact⟨ob.slots,u.keep b ob q n hb hx⟩
theorem Un.trans(a:Un fs ex H H1 h h1)(b:Un fs ex H1 H2 h1 h2): Un fs ex H H2 h h2 where
 keep:=fun c ob q n hc hx=>b.keep c ob (a.keep c ob q n hc hx) (a.free c ob q n hx) hc hx
 slot:=fun c ob q n hc hx=>by
  obtain⟨sl,e1⟩:=a.slot c ob q n hc hx;obtain⟨sl',e2⟩:=b.slot c _ e1 (a.free c ob q n hx) hc hx;exact⟨sl',e2⟩
 free:=fun c ob q n hx=>by
  obtain⟨o',e1⟩:=a.there c ob q hx;exact b.free c o' e1 (a.free c ob q n hx) hx
 there:=fun c ob q hx=>by
  obtain⟨o',e1⟩:=a.there c ob q hx;exact b.there c o' e1 hx
 tups:=fun c xs q=>b.tups c xs (a.tups c xs q)
 frzs:=fun c ob xs q=>b.frzs c ob xs (a.frzs c ob xs q)
 tbls:=fun c ps q=>by
  obtain⟨m1,e1⟩:=a.tbls c ps q;obtain⟨m2,e2⟩:=b.tbls c _ e1;exact⟨m1++m2,by rw [e2,Array.append_assoc]⟩
theorem Un.kept(k:∀b u,h.get? b=some u->h'.get? b=some u): Un fs ex H H h h':=
 ⟨fun b ob q _ _ _=>k b ob q,fun b ob q _ _ _=>⟨ob.slots,k b ob q⟩,fun _ _ _ n _=>n,fun b ob q _=>⟨ob,k b ob q⟩,fun _ _ q=>q,fun _ _ _ q=>q,fun _ ps q=>⟨#[],by rw [q];simp⟩⟩
theorem Un.refl:Un fs ex H H h h:=Un.kept fun _ _ q=>q
theorem Un.laid(k:∀b u,h.get? b=some u->h'.get? b=some u)(hp:h.objs.size<=a)(hn:H a=none): Un fs ex H (upd H a o) h h' where
 keep:=fun b u q _ _ _=>k b u q
 slot:=fun b u q _ _ _=>⟨u.slots,k b u q⟩
 free:=fun b u q n _=>by rw [qi (m9 (gm (gw q) hp))];exact n
 there:=fun b u q _=>⟨u,k b u q⟩
 tups:=fun b xs q=>by rw [qi (j9 q hn)];exact q
 frzs:=fun b u xs q=>by rw [qi (j9 q hn)];exact q
 tbls:=fun b ps q=>⟨#[],by rw [qi (j9 q hn),q];simp⟩
theorem Un.write(mu:Mut (H x))(he:e=x\/H e=some (.own x))(k:∀b u,b≠e->h.get? b=some u->h'.get? b=some u)(heo:∃u,h'.get? e=some u): Un fs ex H (upd H x o) h h':=by
 have hx:∀b,H b=none->b≠x:=fun b n z=>by subst z;rw [n] at mu;exact mu
 have hb:∀b,H b=none->b≠e:=fun b n z=>by
  subst z;rcases he with r|r
  ·exact hx b n r
  ·rw [n] at r;cases r
 have hm:∀b u,H b=some u->¬Mut (some u)->b≠x:=fun b u q nm z=>by subst z;rw [q] at mu;exact nm mu
 refine⟨fun b u q n _ _=>k b u (hb b n) q,fun b u q n _ _=>⟨u.slots,k b u (hb b n) q⟩,fun b u q n _=>by rw [qi (hx b n)];exact n,fun b u q _=>?_,
  fun b xs q=>by rw [qi (hm b _ q fun z=>z)];exact q,fun b u xs q=>by rw [qi (hm b _ q fun z=>z)];exact q,fun b ps q=>⟨#[],by rw [qi (hm b _ q fun z=>z),q];simp⟩⟩
 by_cases hbe:b=e
 ·subst hbe;exact heo
 ·exact⟨u,k b u hbe q⟩
end
def trk(h:Heap)(H:Hp): List Addr:=(List.range h.objs.size).filter fun a=>(H a).isSome
def q21(h:Heap)(H:Hp): Heap:=PySem.W.hideAll h (trk h H)
theorem qf7(h:Heap)(H:Hp): (q21 h H).objs.size=h.objs.size:=PySem.W.hideAll_size _ _
theorem qhn{h:Heap}{H:Hp}{b:Addr}{o:Obj}(e:h.get? b=some o)(n:H b=none): (q21 h H).get? b=some o:=
 PySem.W.hideAll_get _ e fun hm=>by
  have q:(H b).isSome=true:=(g04.mp hm).2;rw [n] at q;simp at q
theorem qk6{h:Heap}{H:Hp}{b:Addr}{o:Obj}(e:(q21 h H).get? b=some o): h.get? b=some o/\H b=none:=by
 have e':h.get? b=some o:=PySem.W.of_hideAll (trk h H) e;refine⟨e',?_⟩;cases q:H b with
 | none=>rfl
 | some x=>
  have hm:b∈trk h H:=g04.mpr ⟨tx.mpr (gw e'),by simp [q]⟩;have z:(q21 h H).get? b=none:=PySem.W.hideAll_none (trk h H) hm;rw [z] at e;cases e
def qk7(g h:Heap)(L:Addr): List (Addr×Obj):=(List.range h.objs.size).filterMap fun a=>if a=L\/(g.get? a).isSome=true then none else(h.get? a).map fun o=>(a,o)
def rest(g h:Heap)(L d:Addr): List (Addr×Obj):=(qk7 g h L).filter fun p=>decide (p.1≠d)
structure Mod(K:PySem.W.Frag)(mg:Str->Option Value)(base:Heap): Prop where
 kin:K.In base
 glob:base.Ns mainGlobals mg
 blt:∃mb,base.Ns builtinsNs mb/\∀x:Str,x≠"__name__" -> mb x=bootBuiltins x
 nolimit:base.NoLimit
structure Cx where
 prog:Program
 w:World
 K:PySem.W.Frag
 mg:Str->Option Value
 base:Heap
 A:Around
 N:List Str
 s₀:Shared
 H₀:Hp
 env:Env
 outer:List Env
 stack:List Env
 ex:List Addr
 fn:Str->Bool
 calm:Bool
 pn:List (Addr×Obj)
 xe:Value->Shared->Prop
def frs(l:List Env): List Addr:=l.filterMap (·.frame)
abbrev Cx.fs(X:Cx): List Addr:=frs X.outer
def Vis(sc:Scope)(x:Str): Prop:=sc.names.lookup x=some .local\/sc.names.lookup x=some .cell\/sc.names.lookup x=some .free
def Loc(sc:Scope)(x:Str): Prop:=sc.names.lookup x=some .local\/sc.names.lookup x=some .cell
def Look(env:Env)(h:Heap)(m:Str->Option Value)(x:Str)(u:Value): Prop:=
 (env.kindOf x=some .local/\m x=some u)\/((env.kindOf x=some .cell\/env.kindOf x=some .free)/\∃c,env.cells.lookup x=some c/\h.IsCell c (some u))
structure Cx.Ok(X:Cx): Prop where
 mod:Mod X.K X.mg X.base
 kind:X.env.scope.kind=.function
 glob:X.env.globals=mainGlobals
 blt:X.env.builtins=builtinsNs
 above:X.s₀.heap.objs.size<=X.env.locals
 inj:∀x y c,X.env.cells.lookup x=some c->X.env.cells.lookup y=some c->x=y
 has:∀x,(X.env.kindOf x=some .cell\/X.env.kindOf x=some .free)->∃c,X.env.cells.lookup x=some c
 cab:∀x c,X.fn x=true->X.env.cells.lookup x=some c->X.s₀.heap.objs.size<=c
 hd:X.calm=true->X.A.handled=none
 frames:X.A.frames=some X.stack
 stk:X.stack=X.outer\/(X.stack=X.env :: X.outer/\X.env.frame=some X.env.locals)
 exf:∀b∈X.ex,b≠X.env.locals/\∀x c,X.env.cells.lookup x=some c->c≠b
 bs:∀b o,X.base.get? b=some o->X.s₀.heap.get? b=some o/\X.H₀ b=none
 bsz:X.base.objs.size<=X.s₀.heap.objs.size
 noex:∀b o,X.base.get? b=some o->b∉X.ex
 exfs:∀b∈X.ex,b∉X.fs
 funs:X.s₀.heap.FunFrames X.base X.outer
 frf:∀b∈X.fs,X.H₀ b=none
structure Inv(X:Cx)(pins:List (Addr×Obj))(σ : List (Option V))(H:Hp)(s:Shared): Prop where
 ok:X.Ok
 os:s.os=X.s₀.os
 bare:AllBare s.gens
 base:Un X.fs X.ex X.H₀ H X.s₀.heap s.heap
 loc:∃m,s.heap.Ns X.env.locals m/\∀(i:Nat) (x:Str) (v:V),X.N[i]? = some x -> σ[i]? = some (some v)->Vis X.env.scope x->∃u,RelV v u/\Look X.env s.heap m x u
 cell:∀x c,X.env.cells.lookup x=some c->∃v,s.heap.IsCell c v
 free:H X.env.locals=none
 freeC:∀x c,X.env.cells.lookup x=some c->H c=none
 pin:∀p∈X.pn++pins,s.heap.get? p.1=some p.2/\H p.1=none/\p.1≠X.env.locals/\p.1∉X.fs/\∀v,p.2.data ≠ .cell v
 hok:HOk X.prog X.w H s.heap
 len : σ.length=X.N.length
section
variable{X:Cx}{pins:List (Addr×Obj)}{σ : List (Option V)}{H H':Hp}{s:Shared}{h':Heap}
theorem Cx.Ok.nofr(ok:X.Ok){b:Addr}{o:Obj}(e:X.base.get? b=some o): b∉X.fs:=fun hb=>by
 have:=(ok.funs.mem hb).1;rw [e] at this;cases this
theorem Inv.bs(I:Inv X pins σ H s): ∀b o,X.base.get? b=some o->s.heap.get? b=some o/\H b=none:=fun b o e=>
 ⟨I.base.keep b o (I.ok.bs b o e).1 (I.ok.bs b o e).2 (I.ok.nofr e) (I.ok.noex b o e),I.base.free b o (I.ok.bs b o e).1 (I.ok.bs b o e).2 (I.ok.noex b o e)⟩
theorem Inv.bk(I:Inv X pins σ H s): ∀b o,X.base.get? b=some o->s.heap.get? b=some o:=fun b o e=>(I.bs b o e).1
theorem Inv.mod(I:Inv X pins σ H s): Mod X.K X.mg X.base:=I.ok.mod
theorem Inv.kIn(I:Inv X pins σ H s): X.K.In s.heap:=I.ok.mod.kin.keeps I.bk
theorem Inv.lt(I:Inv X pins σ H s): X.env.locals<s.heap.objs.size:=let⟨_,hn,_⟩:=I.loc;hn.lt
theorem Inv.sz(I:Inv X pins σ H s): X.s₀.heap.objs.size<=s.heap.objs.size:=ml I.ok.above (g50 I.lt)
theorem Inv.nofs(I:Inv X pins σ H s){a:Addr}(h:s.heap.objs.size<=a): a∉X.fs:=fun hb=>by
 obtain⟨_,o,ho,_⟩:=I.ok.funs.mem hb;exact absurd (gm (gw ho) (ml I.sz h)) (g0a _)
theorem Inv.cne(I:Inv X pins σ H s): ∀x c,X.env.cells.lookup x=some c->c≠X.env.locals:=fun x c e z=>by
 obtain⟨v,o,ho,hd⟩:=I.cell x c e;obtain⟨m,⟨o',es,ep,ho',hd',_⟩,_⟩:=I.loc;rw [z,ho'] at ho;cases ho;rw [hd'] at hd;cases hd
theorem Inv.funs(I:Inv X pins σ H s): s.heap.FunFrames X.base X.outer:=by
 have all:∀(l:List Env),(∀b∈frs l,b∈X.fs)->X.s₀.heap.FunFrames X.base l->s.heap.FunFrames X.base l:=by
  intro l
  induction l with
  | nil=>intro _ _;trivial
  | cons env r ih=>
   intro hs hl;obtain⟨hk,⟨L,o,hf,hn,ho,hd⟩,hr⟩:=hl;have hL:L∈X.fs:=hs L (by unfold frs;rw [g0v,hf];exact m4);obtain⟨sl,e⟩:=I.base.slot L o ho (I.ok.frf L hL) hL fun z=>I.ok.exfs L z hL;exact⟨hk,⟨L,_,hf,hn,e,hd⟩,ih (fun b hb=>hs b (by unfold frs;rw [g0v,hf];exact m5 _ hb)) hr⟩
 exact all X.outer (fun _ hb=>hb) I.ok.funs
theorem Inv.stack(I:Inv X pins σ H s): s.heap.FunFrames X.base X.stack:=by
 rcases I.ok.stk with e|⟨e,hf⟩
 ·rw [e];exact I.funs
 ·rw [e]
  obtain⟨m,hn,_⟩:=I.loc;refine .cons (by rw [I.ok.kind];decide) hf hn ?_ I.funs;exact Heap.get?_none_of_le (ml I.ok.bsz I.ok.above)
theorem Inv.stkSub(I:Inv X pins σ H s): ∀b∈frs X.stack,b∈X.env.locals :: X.fs:=fun b hb=>by
 rcases I.ok.stk with e|⟨e,hf⟩
 ·rw [e] at hb;exact m5 _ hb
 ·rw [e] at hb
  unfold frs at hb;rw [g0v,hf] at hb;exact hb
theorem Inv.stkFree(I:Inv X pins σ H s): ∀b∈frs X.stack,H b=none:=fun b hb=>by
 rcases me.mp (I.stkSub b hb) with e|hb
 ·rw [e];exact I.free
 ·obtain⟨_,o,ho,_⟩:=I.ok.funs.mem hb
  exact I.base.free b o ho (I.ok.frf b hb) fun z=>I.ok.exfs b z hb
theorem Inv.step{g':Array GenState}{t':Nat}{d':Drawn}{ch:List Addr}(I:Inv X pins σ H s)
  (hch:∀b∈ch,(b∈X.ex\/X.s₀.heap.objs.size<=b)/\b≠X.env.locals/\(∀x c,X.env.cells.lookup x=some c->c≠b)/\∀p∈X.pn++pins,p.1≠b)
  (keep:∀b o,b≠X.env.locals->b∉X.fs->b∉ch->s.heap.get? b=some o->H b=none->h'.get? b=some o)
  (slot:∀b o,b≠X.env.locals->b∈X.fs->b∉ch->s.heap.get? b=some o->H b=none->∃sl,h'.get? b=some {o with slots:=sl}) (free:∀b o,b∉ch->s.heap.get? b=some o->H b=none->H' b=none)
  (there:∀b o,b∉ch->s.heap.get? b=some o->∃o',h'.get? b=some o')
  (tups:∀b xs,H b=some (.tup xs)->H' b=some (.tup xs)) (frzs:∀b o u,H b=some (.frz o u)->H' b=some (.frz o u)) (tbls:∀b ps,H b=some (.tbl ps)->∃more,H' b=some (.tbl (ps++more)))
  (ns:∀m,s.heap.Ns X.env.locals m->h'.Ns X.env.locals m) (hok:HOk X.prog X.w H' h') (hg:AllBare g') :
  Inv X pins σ H' {s with heap:=h',gens:=g',drawn:=d',toks:=t'}:=by
 have neL:∀b o,X.s₀.heap.get? b=some o->b≠X.env.locals:=fun b o e=>m9 (gm (gw e) I.ok.above);have neC:∀b o,X.s₀.heap.get? b=some o->b∉X.ex->b∉ch:=fun b o e hx hb=>by
  rcases(hch b hb).1 with z|z
  ·exact hx z
  ·exact absurd (gm (gw e) z) (g0a _)
 have cellK:∀x c,X.env.cells.lookup x=some c->∀v,s.heap.IsCell c v->h'.IsCell c v:=fun x c e v ⟨o,ho,hd⟩=>by
  have nch:c∉ch:=fun z=>(hch c z).2.2.1 x c e rfl
  by_cases hc:c∈X.fs
  ·obtain⟨sl,q⟩:=slot c o (I.cne x c e) hc nch ho (I.freeC x c e)
   exact⟨_,q,hd⟩
  ·exact⟨o,keep c o (I.cne x c e) hc nch ho (I.freeC x c e),hd⟩
 refine⟨I.ok,I.os,hg,⟨fun b o e n hb hx=>?_,fun b o e n hb hx=>?_,fun b o e n hx=>?_,fun b o e hx=>?_,fun b xs e=>tups b xs (I.base.tups b xs e),fun b o xs e=>frzs b o xs (I.base.frzs b o xs e),fun b ps e=>?_⟩,?_,fun x c e=>?_,?_,fun x c e=>?_,fun p hp=>?_,hok,I.len⟩
 ·exact keep b o (neL b o e) hb (neC b o e hx) (I.base.keep b o e n hb hx) (I.base.free b o e n hx)
 ·obtain⟨sl,e1⟩:=I.base.slot b o e n hb hx
  obtain⟨sl',e2⟩:=slot b _ (neL b o e) hb (neC b o e hx) e1 (I.base.free b o e n hx);exact⟨sl',e2⟩
 ·obtain⟨o',e1⟩:=I.base.there b o e hx
  exact free b o' (neC b o e hx) e1 (I.base.free b o e n hx)
 ·obtain⟨o',e1⟩:=I.base.there b o e hx
  exact there b o' (neC b o e hx) e1
 ·obtain⟨m1,e1⟩:=I.base.tbls b ps e
  obtain⟨m2,e2⟩:=tbls b _ e1;exact⟨m1++m2,by rw [e2,Array.append_assoc]⟩
 ·obtain⟨m,hn,hl⟩:=I.loc
  refine⟨m,ns m hn,fun i x v e1 e2 e3=>?_⟩;obtain⟨u,r,l⟩:=hl i x v e1 e2 e3;refine⟨u,r,?_⟩;rcases l with l|⟨k,c,e,z⟩
  ·exact .inl l
  ·exact .inr ⟨k,c,e,cellK x c e _ z⟩
 ·obtain⟨v,z⟩:=I.cell x c e
  exact⟨v,cellK x c e v z⟩
 ·obtain⟨m,⟨o,_,_,ho,_⟩,_⟩:=I.loc
  exact free _ o (fun z=>(hch _ z).2.1 rfl) ho I.free
 ·obtain⟨v,o,ho,hd⟩:=I.cell x c e
  exact free c o (fun z=>(hch c z).2.2.1 x c e rfl) ho (I.freeC x c e)
 ·obtain⟨e,n,ne,nf,d⟩:=I.pin p hp
  have nch:p.1∉ch:=fun z=>(hch p.1 z).2.2.2 p hp rfl;exact⟨keep p.1 p.2 ne nf nch e n,free p.1 p.2 nch e n,ne,nf,d⟩
theorem Inv.un{t':Nat}(I:Inv X pins σ H s)(u:Un X.fs [] H H' s.heap h')(hok:HOk X.prog X.w H' h'): Inv X pins σ H' {s with heap:=h',toks:=t'}:=by
 obtain⟨m,⟨o,es,ep,ho,r⟩,_⟩:=id I.loc;obtain⟨sl,hL⟩:=u.any ho I.free (by simp);exact I.step (g':=s.gens) (d':=s.drawn) (ch:=[]) (fun _ z=>nomatch z) (fun b o _ hb _ e n=>u.keep b o e n hb (by simp)) (fun b o _ hb _ e n=>u.slot b o e n hb (by simp)) (fun b o _ e n=>u.free b o e n (by simp)) (fun b o _ e=>u.there b o e (by simp)) u.tups u.frzs u.tbls (fun m' hm=>by
  obtain⟨o',es',ep',ho',r'⟩:=hm;rw [ho] at ho';cases ho';exact⟨_,es',ep',hL,r'⟩) hok I.bare
theorem Inv.call{g':Array GenState}{t':Nat}{d':Drawn}{ch:List Addr}(I:Inv X pins σ H s)(u:Un (frs X.stack) ch H H' s.heap h')(hok:HOk X.prog X.w H' h')(hg:AllBare g')
  (hch:∀b∈ch,(b∈X.ex\/X.s₀.heap.objs.size<=b)/\b≠X.env.locals/\(∀x c,X.env.cells.lookup x=some c->c≠b)/\∀p∈X.pn++pins,p.1≠b) :
  Inv X pins σ H' {s with heap:=h',gens:=g',drawn:=d',toks:=t'}:=by
 obtain⟨m,⟨o,es,ep,ho,r⟩,_⟩:=id I.loc;obtain⟨sl,hL⟩:=u.any ho I.free fun z=>(hch _ z).2.1 rfl;exact I.step (ch:=ch) hch (fun b o hL hb hc e n=>u.keep b o e n (fun z=>(me.mp (I.stkSub b z)).elim hL hb) hc) (fun b o _ _ hc e n=>u.any e n hc) (fun b o hc e n=>u.free b o e n hc) (fun b o hc e=>u.there b o e hc) u.tups u.frzs u.tbls (fun m' hm=>by
  obtain⟨o',es',ep',ho',r'⟩:=hm;rw [ho] at ho';cases ho';exact⟨_,es',ep',hL,r'⟩) hok hg
theorem Inv.turned{t':Nat}{it:Addr}(I:Inv X pins σ H s)(k:∀b o,b≠it->s.heap.get? b=some o->h'.get? b=some o)(hn:H it=none)(hL:it≠X.env.locals)
  (h1:it∈X.ex\/X.s₀.heap.objs.size<=it) (h2:∀x c,X.env.cells.lookup x=some c->c≠it) (h3:∀p∈X.pn++pins,p.1≠it):Inv X pins σ H {s with heap:=h',toks:=t'}:=by
 have nit:∀b u,H b=some u->b≠it:=fun b u e z=>by rw [z,hn] at e;cases e
 refine I.step (g':=s.gens) (d':=s.drawn) (ch:=[it]) (fun b hb=>?_) (fun b o _ _ hc e _=>k b o (fun z=>hc (by simp [z])) e) (fun b o _ _ hc e _=>⟨o.slots,k b o (fun z=>hc (by simp [z])) e⟩) (fun _ _ _ _ n=>n)
  (fun b o hc e=>⟨o,k b o (fun z=>hc (by simp [z])) e⟩) (fun _ _ e=>e) (fun _ _ _ e=>e) (fun b ps e=>⟨#[],by rw [e];simp⟩) (fun m hm=>?_) (fun b u e=>?_) I.bare
 ·have e:b=it:=by simpa using hb
  subst e;exact⟨h1,hL,h2,h3⟩
 ·obtain⟨o,es,ep,ho,r⟩:=hm
  exact⟨o,es,ep,k _ o (mv hL) ho,r⟩
 ·refine(I.hok b u e).stay (fun c v hc q=>k c v ?_ q) (fun _ q=>q) fun _ _ q=>q
  rcases hc with z|z
  ·rw [z];exact nit b u e
  ·exact nit c _ z
theorem Inv.tok(I:Inv X pins σ H s)(t:Nat): Inv X pins σ H {s with toks:=t}:=I.un (h':=s.heap) (t':=t) Un.refl I.hok
theorem Inv.kept{t':Nat}(I:Inv X pins σ H s)(k:∀b u,s.heap.get? b=some u->h'.get? b=some u): Inv X pins σ H {s with heap:=h',toks:=t'}:=I.un (Un.kept k) (I.hok.kept k)
theorem Inv.laid{a:Addr}{o:HO}{t':Nat}(I:Inv X pins σ H s)(k:∀b u,s.heap.get? b=some u->h'.get? b=some u)(hp:s.heap.objs.size<=a)(new:ObjOk X.prog X.w (upd H a o) h' a o):
  Inv X pins σ (upd H a o) {s with heap:=h',toks:=t'}:=I.un (Un.laid k hp (I.hok.fresh hp)) (I.hok.laid k hp new)
theorem Inv.write{x e:Addr}{o:HO}{t':Nat}(I:Inv X pins σ H s)(mu:Mut (H x))(he:e=x\/H e=some (.own x))(k:∀b u,b≠e->s.heap.get? b=some u->h'.get? b=some u)(heo:∃u,h'.get? e=some u)
  (new:ObjOk X.prog X.w (upd H x o) h' x o):Inv X pins σ (upd H x o) {s with heap:=h',toks:=t'}:=I.un (Un.write mu he k heo) (I.hok.write mu he k heo new)
theorem Inv.pins_of{pins':List (Addr×Obj)}(I:Inv X pins σ H s)(h:∀p∈pins',s.heap.get? p.1=some p.2/\H p.1=none/\p.1≠X.env.locals/\p.1∉X.fs/\∀v,p.2.data ≠ .cell v): Inv X pins' σ H s:=
 ⟨I.ok,I.os,I.bare,I.base,I.loc,I.cell,I.free,I.freeC,fun p hp=>(nh.mp hp).elim (fun z=>I.pin p (g23 _ z)) (h p),I.hok,I.len⟩
theorem q9f{N:List Str}(hN:N.Nodup){i j:Nat}{x:Str}(a:N[i]? = some x)(b:N[j]? = some x): i=j:=by
 obtain⟨h1,e1⟩:=my.mp a;obtain⟨h2,e2⟩:=my.mp b;exact(g51 hN).mp (e1.trans e2.symm)
theorem qf8{M:Model}{A:Around}{E:Value->Shared->Prop}{i:Nat}{x:Str}{v:V}{u:Value}{Q:Unit->Shared->Prop}(I:Inv X pins σ H s)(hN:X.N.Nodup)(hi:X.N[i]? = some x)(hx:Loc X.env.scope x)(r:RelV v u)
  (h:∀s',Inv X pins (σ.set i (some v)) H s'->(∃a,Heap.SameBut a s.heap s'.heap/\(a=X.env.locals\/X.env.cells.lookup x=some a))->Q () s') (hf:X.fn x=true\/X.env.scope.names.lookup x=some .local:=by first|exact .inl rfl|exact .inr rfl|assumption):wpAny M A (storeName X.env x u) Q E s:=by
 obtain⟨m,hn,hl⟩:=id I.loc;have hcls:(X.env.scope.kind == .class || (X.env.scope.kind == .module&&X.env.locals != X.env.globals))=false:=by rw [I.ok.kind];rfl
 have hiσ : i < σ.length:=by rw [I.len];exact(my.mp hi).1
 have cne:=I.cne;have tracked:∀ {a:Addr} {h':Heap},(∃o,s.heap.get? a=some o/\H a=none)->Heap.SameBut a s.heap h'->HOk X.prog X.w H h':=fun {a h'} ha hs b ob e=>by
  obtain⟨_,_,hfree⟩:=ha;refine(I.hok b ob e).stay (fun c w' hc q=>(hs.2 c ?_).trans q) (fun _ q=>q) fun _ _ q=>q
  rintro rfl
  rcases hc with rfl|hc
  ·rw [hfree] at e;cases e
  ·rw [hfree] at hc;cases hc
 rcases hx with hk|hk
 ·refine wpAny_storeName_local hk hn (fun h' hn' hs=>?_) hcls
  obtain⟨oL,_,_,hoL,_⟩:=id hn;refine h _ ⟨I.ok,I.os,I.bare,⟨fun b o e n hb hx=>?_,fun b o e n hb hx=>?_,I.base.free,fun b o e hx=>?_,I.base.tups,I.base.frzs,I.base.tbls⟩,⟨_,hn',fun j y v' e1 e2 e3=>?_⟩,fun y c e=>?_,I.free,I.freeC,fun p hp=>?_,tracked ⟨oL,hoL,I.free⟩ hs,by simpa using I.len⟩ ⟨_,hs,.inl rfl⟩
  ·exact(hs.2 b (m9 (gm (gw e) I.ok.above))).trans (I.base.keep b o e n hb hx)
  ·obtain⟨sl,e1⟩:=I.base.slot b o e n hb hx
   exact⟨sl,(hs.2 b (m9 (gm (gw e) I.ok.above))).trans e1⟩
  ·obtain⟨o',e1⟩:=I.base.there b o e hx
   exact⟨o',(hs.2 b (m9 (gm (gw e) I.ok.above))).trans e1⟩
  ·by_cases hj:j=i
   ·subst hj
    rw [hi] at e1;cases e1;rw [g0h hiσ] at e2;cases e2;exact⟨u,r,.inl ⟨hk,by simp⟩⟩
   ·rw [gh (mv hj)] at e2
    obtain⟨u',r',q⟩:=hl j y v' e1 e2 e3;refine⟨u',r',?_⟩;rcases q with⟨k,e⟩|⟨k,c,e,z⟩
    ·refine .inl ⟨k,?_⟩
     have:y≠x:=fun e=>hj (q9f hN e1 (e ▸ hi));simp [this,e]
    ·exact .inr ⟨k,c,e,z.sameBut hs (cne y c e)⟩
  ·obtain⟨w',z⟩:=I.cell y c e
   exact⟨w',z.sameBut hs (cne y c e)⟩
  ·obtain⟨e,n,ne,nf,d⟩:=I.pin p hp
   exact⟨(hs.2 p.1 ne).trans e,n,ne,nf,d⟩
 ·have hfn:X.fn x=true:=by
   rcases hf with z|z
   ·exact z
   ·rw [z] at hk;cases hk
  obtain⟨c,hc⟩:=I.ok.has x (.inl hk);obtain⟨w',z⟩:=I.cell x c hc;refine wpAny_storeName_cell I.ok.kind hk hc z (fun h' hc' hs=>?_);obtain⟨oc,hoc,hocd⟩:=id z;refine h {s with heap:=h'} ⟨I.ok,I.os,I.bare,⟨fun b o e n hb hx=>?_,fun b o e n hb hx=>?_,I.base.free,fun b o e hx=>?_,I.base.tups,I.base.frzs,I.base.tbls⟩,⟨m,hn.sameBut hs (mv (cne x c hc)),fun j y v' e1 e2 e3=>?_⟩,fun y c' e=>?_,I.free,I.freeC,fun p hp=>?_,tracked ⟨oc,hoc,I.freeC x c hc⟩ hs,by simpa using I.len⟩ ⟨c,hs,.inr hc⟩
  ·exact(hs.2 b (m9 (gm (gw e) (I.ok.cab x c hfn hc)))).trans (I.base.keep b o e n hb hx)
  ·obtain⟨sl,e1⟩:=I.base.slot b o e n hb hx
   exact⟨sl,(hs.2 b (m9 (gm (gw e) (I.ok.cab x c hfn hc)))).trans e1⟩
  ·obtain⟨o',e1⟩:=I.base.there b o e hx
   exact⟨o',(hs.2 b (m9 (gm (gw e) (I.ok.cab x c hfn hc)))).trans e1⟩
  ·by_cases hj:j=i
   ·subst hj
    rw [hi] at e1;cases e1;rw [g0h hiσ] at e2;cases e2;exact⟨u,r,.inr ⟨.inl hk,c,hc,hc'⟩⟩
   ·rw [gh (mv hj)] at e2
    obtain⟨u',r',q⟩:=hl j y v' e1 e2 e3;refine⟨u',r',?_⟩;rcases q with q|⟨k,c',e,z'⟩
    ·exact .inl q
    ·refine .inr ⟨k,c',e,z'.sameBut hs ?_⟩
     rintro rfl
     exact hj (q9f hN e1 (I.ok.inj _ _ _ e hc ▸ hi))
  ·by_cases hcc:c'=c
   ·subst hcc;exact⟨_,hc'⟩
   ·obtain⟨w2,z2⟩:=I.cell y c' e
    exact⟨w2,z2.sameBut hs hcc⟩
  ·obtain⟨e,n,ne,nf,d⟩:=I.pin p hp
   refine⟨(hs.2 p.1 ?_).trans e,n,ne,nf,d⟩;intro q;rw [q,hoc] at e;have q':oc=p.2:=m8 e;exact d w' (by rw [<- q'];exact hocd)
theorem q5c{M:Model}{A:Around}{E:Value->Shared->Prop}{i:Nat}{x:Str}{v:V}{u:Value}{Q:Unit->Shared->Prop}(I:Inv X pins σ H s)(hN:X.N.Nodup)(hi:X.N[i]? = some x)(hx:Loc X.env.scope x)(r:RelV v u)
  (h:∀s',Inv X pins (σ.set i (some v)) H s'->Q () s') (hf:X.fn x=true\/X.env.scope.names.lookup x=some .local:=by first|exact .inl rfl|exact .inr rfl|assumption):wpAny M A (storeName X.env x u) Q E s:=
 qf8 I hN hi hx r (fun s' I' _=>h s' I') hf
theorem Inv.call'{s':Shared}{ch:List Addr}(I:Inv X pins σ H s)(ho:s'.os=s.os)(u:Un (frs X.stack) ch H H' s.heap s'.heap)(hok:HOk X.prog X.w H' s'.heap)(hg:AllBare s'.gens)
  (hch:∀b∈ch,(b∈X.ex\/X.s₀.heap.objs.size<=b)/\b≠X.env.locals/\(∀x c,X.env.cells.lookup x=some c->c≠b)/\∀p∈X.pn++pins,p.1≠b):Inv X pins σ H' s':=by
 obtain⟨h',g',d',t',o'⟩:=s';have e:o'=s.os:=ho;subst e;exact I.call (g':=g') (t':=t') (d':=d') u hok hg hch
end
abbrev XK:=Value->Option Addr->Hp->Prop
abbrev St:=List (Option V)
abbrev VK:=V->Hp->Prop
abbrev TE:=St->Hp->VK->Prop
abbrev TT:=St->Hp->(Bool->Hp->Prop)->Prop
abbrev TA:=St->Hp->(List V->Hp->Prop)->Prop
structure Ends where
 nx:St->Hp->Prop
 rt:VK
 bk:St->Hp->Prop:=fun _ _=>False
 ct:St->Hp->Prop:=fun _ _=>False
abbrev TS:=Ends->St->Hp->Prop
def EP(X:Cx)(pins:List (Addr×Obj))(σ : St)(Q:VK)(u:Value)(s':Shared): Prop:=∃v H',Inv X pins σ H' s'/\RelV v u/\Q v H'
def TP(X:Cx)(pins:List (Addr×Obj))(σ : St)(Q:Bool->Hp->Prop)(b:Bool)(s':Shared): Prop:=∃H',Inv X pins σ H' s'/\Q b H'
def AP(X:Cx)(pins:List (Addr×Obj))(σ : St)(Q:List V->Hp->Prop)(us:List Value)(s':Shared): Prop:=∃vs H',Inv X pins σ H' s'/\Vals vs us/\Q vs H'
def SP(X:Cx)(pins:List (Addr×Obj))(D:Ends)(f:Flow)(s':Shared): Prop:=
 match f with
 | .next=>∃ σ' H',Inv X pins σ' H' s'/\D.nx σ' H'
 | .brk=>∃ σ' H',Inv X pins σ' H' s'/\D.bk σ' H'
 | .cont=>∃ σ' H',Inv X pins σ' H' s'/\D.ct σ' H'
 | .ret u=>∃v σ' H',Inv X pins σ' H' s'/\RelV v u/\D.rt v H'
def PE(X:Cx)(e:Expr)(t:TE): Prop:=
 ∀(pins:List (Addr×Obj)) (s:Shared) (σ : St) (H:Hp) (Q:VK),Inv X pins σ H s->t σ H Q->wpAny (model X.prog X.w) X.A (eval e X.env) (EP X pins σ Q) X.xe s
def PT(X:Cx)(e:Expr)(t:TT): Prop:=
 ∀(pins:List (Addr×Obj)) (s:Shared) (σ : St) (H:Hp) (Q:Bool->Hp->Prop),Inv X pins σ H s->t σ H Q->wpAny (model X.prog X.w) X.A (isTrue e X.env (eval e X.env)) (TP X pins σ Q) X.xe s
def PW(X:Cx)(e:Expr)(t:TT): Prop:=
 ∀(whole:Sem Value) (pins:List (Addr×Obj)) (s:Shared) (σ : St) (H:Hp) (Q:Bool->Hp->Prop),Inv X pins σ H s->t σ H Q->wpAny (model X.prog X.w) X.A (isTrue e X.env whole) (TP X pins σ Q) X.xe s
theorem PW.pt{X:Cx}{e:Expr}{t:TT}(h:PW X e t): PT X e t:=h _
def PA(X:Cx)(es:List Expr)(t:TA): Prop:=
 ∀(pos:Pos) (pins:List (Addr×Obj)) (s:Shared) (σ : St) (H:Hp) (Q:List V->Hp->Prop),Inv X pins σ H s->t σ H Q->wpAny (model X.prog X.w) X.A (spliced (backTo pos (starEach es X.env))) (AP X pins σ Q) X.xe s
def PS(X:Cx)(st:Stmt)(t:TS): Prop:=
 ∀(pins:List (Addr×Obj)) (s:Shared) (σ : St) (H:Hp) (D:Ends),Inv X pins σ H s->t D σ H->wpAny (model X.prog X.w) X.A (exec st X.env) (SP X pins D) X.xe s
def PSs(X:Cx)(st:List Stmt)(t:TS): Prop:=
 ∀(pins:List (Addr×Obj)) (s:Shared) (σ : St) (H:Hp) (D:Ends),Inv X pins σ H s->t D σ H->wpAny (model X.prog X.w) X.A (execs st X.env) (SP X pins D) X.xe s
theorem thn{α : Type}{t:Sem α}{Q Q' : α -> Shared->Prop}{M:Model}{A:Around}{E:Value->Shared->Prop}{s:Shared}(h:wpAny M A t Q E s)(hQ:∀a s,Q a s->Q' a s): wpAny M A t Q' E s:=tm h hQ fun _ _ x=>x
section
variable{X:Cx}
theorem bin{a b:Expr}{ta tb:TE}(ha:PE X a ta)(hb:PE X b tb){pins:List (Addr×Obj)}{s:Shared}{σ : St}{H:Hp}{R:V->V->Hp->Prop}(I:Inv X pins σ H s)(h:ta σ H fun x H1=>tb σ H1 fun y H2=>R x y H2)
  {α : Type} {Q : α -> Shared->Prop} {f:Value->Value->Sem α}
  (hf:∀v u s2 x y H2,Inv X pins σ H2 s2->RelV x v->RelV y u->R x y H2->wpAny (model X.prog X.w) X.A (f v u) Q X.xe s2) :
  wpAny (model X.prog X.w) X.A (eval a X.env) (fun v s₁=>wpAny (model X.prog X.w) X.A (eval b X.env) (fun u s₂=>wpAny (model X.prog X.w) X.A (f v u) Q X.xe s₂) X.xe s₁) X.xe s:=by
 refine thn (ha pins s σ H _ I h) fun v s1 ⟨x,H1,I1,r1,q1⟩=>?_;refine thn (hb pins s1 σ H1 _ I1 q1) fun u s2 ⟨y,H2,I2,r2,q2⟩=>?_;exact hf v u s2 x y H2 I2 r1 r2 q2
def q3o(i:Nat): TE:=fun σ H Q=>∃v, σ[i]? = some (some v)/\Q v H
def tC(v:V): TE:=fun _ H Q=>Q v H
theorem qme{i:Nat}{x:Str}{pos:Pos}(hN:X.N[i]? = some x)(hv:Vis X.env.scope x)(hd:(x==("__debug__" : Str))=false:=by decide)(hcd:(x==("__classdict__" : Str))=false:=by decide): PE X (.Name x pos) (q3o i):=by
 intro pins s σ H Q I h;obtain⟨v,e,h⟩:=h;obtain⟨m,hn,hl⟩:=I.loc;obtain⟨u,r,l⟩:=hl i x v hN e hv;have fin:EP X pins σ Q u s:=⟨v,H,I,r,h⟩
 rcases l with⟨hk,hm⟩|⟨hk,c,hc,hcell⟩
 ·exact wpAny_Name (wpAny_loadName_local I.ok.kind hk hn hm fin) hd
 ·rcases hk with hk|hk
  ·exact wpAny_Name (wpAny_loadName_cell I.ok.kind hk hc hcell fin) hd
  ·exact wpAny_Name (wpAny_loadName_free I.ok.kind hk hc hcell fin hcd) hd
theorem qmf{i j pos}: PE X (.Constant (.int i) j pos) (tC (.int i)):=fun _ _ _ H _ I h=>wpAny_Constant_int ⟨.int i,H,I.tok _,⟨_,rfl⟩,h⟩
theorem qod{b j pos}: PE X (.Constant (.bool b) j pos) (tC (.bl b)):=fun _ _ _ H _ I h=>Constant_bool ⟨.bl b,H,I,rfl,h⟩
def Gl(X:Cx)(x:Str): Prop:=X.env.kindOf x=some .globalImplicit
theorem qct{E:Value->Shared->Prop}{pins:List (Addr×Obj)}{s:Shared}{σ : St}{H:Hp}{x:Str}{u:Value}{pos:Pos}{Q:Value->Shared->Prop}(I:Inv X pins σ H s)(hg:Gl X x)(hm:X.mg x=some u)(h:Q u s)
  (hd:(x==("__debug__" : Str))=false:=by decide):wpAny (model X.prog X.w) X.A (eval (.Name x pos) X.env) Q E s:=
 Calls.Name_function_global I.ok.kind hg (Calls.loadGlobal_global (by rw [I.ok.glob];exact I.mod.glob.keeps I.bk) hm h) hd
theorem q15{E:Value->Shared->Prop}{pins:List (Addr×Obj)}{s:Shared}{σ : St}{H:Hp}{x:Str}{u:Value}{pos:Pos}{Q:Value->Shared->Prop}(I:Inv X pins σ H s)(hg:Gl X x)(hm:X.mg x=none)(hv:bootBuiltins x=some u)(h:Q u s)
  (hn:x≠"__name__" :=by decide) (hd:(x==("__debug__" : Str))=false:=by decide):wpAny (model X.prog X.w) X.A (eval (.Name x pos) X.env) Q E s:=by
 obtain⟨mb,h1,h2⟩:=I.mod.blt;exact Calls.Name_function_global I.ok.kind hg (Calls.loadGlobal_builtin (by rw [I.ok.glob];exact I.mod.glob.keeps I.bk) hm (by rw [I.ok.blt];exact h1.keeps I.bk) ((h2 x hn).trans hv) h) hd
theorem qk8{x:Str}{v:V}{u:Value}{pos:Pos}(hg:Gl X x)(hm:X.mg x=none)(hv:bootBuiltins x=some u)(r:RelV v u)(hn:x≠"__name__" :=by decide)(hd:(x==("__debug__" : Str))=false:=by decide): PE X (.Name x pos) (tC v):=
 fun _ _ _ H _ I h=>q15 I hg hm hv ⟨v,H,I,r,h⟩ hn hd
variable{a b:Expr}{ta tb:TE}{pos:Pos}
theorem q9g(b:Expr){op:CmpOp}(h:op ≠ .In)(h2:op ≠ .NotIn): behindInMarks op b=false:=by
 have e1:(op==CmpOp.In)=false:=by cases op <;> first|rfl|exact absurd rfl h
 have e2:(op==CmpOp.NotIn)=false:=by cases op <;> first|rfl|exact absurd rfl h2
 cases b <;> simp [behindInMarks,e1,e2]
variable{tA tB':TT}{rest:List Expr}
def qp9(t u:TT): TT:=fun σ H Q=>t σ H fun c H1=>if c=true then u σ H1 Q else Q false H1
def tOr(t u:TT): TT:=fun σ H Q=>t σ H fun c H1=>if c=true then Q true H1 else u σ H1 Q
def qpa(t:TT): TT:=fun σ H Q=>t σ H fun c H1=>Q (!c) H1
theorem qk9(ha:PT X a tA): PW X (.BoolOp .And [a] pos) tA:=by
 intro wh pins s σ H Q I h;refine isTrue_and (thn (ha pins s σ H Q I h) fun c s1 e=>?_);cases c with
 | true=>exact isTrue_and_nil e
 | false=>exact e
theorem qmg(ha:PT X a tA): PW X (.BoolOp .Or [a] pos) tA:=by
 intro wh pins s σ H Q I h;refine isTrue_or (thn (ha pins s σ H Q I h) fun c s1 e=>?_);cases c with
 | false=>exact isTrue_or_nil e
 | true=>exact e
theorem qmh(ha:PT X a tA)(hb:PW X (.BoolOp .And (b :: rest) pos) tB'): PW X (.BoolOp .And (a :: b :: rest) pos) (qp9 tA tB'):=by
 intro wh pins s σ H Q I h;refine isTrue_and (thn (ha pins s σ H _ I h) fun c s1 ⟨H1,I1,q1⟩=>?_);cases c with
 | true=>exact hb wh pins s1 σ H1 Q I1 q1
 | false=>exact⟨H1,I1,q1⟩
theorem qoe(ha:PT X a tA)(hb:PW X (.BoolOp .Or (b :: rest) pos) tB'): PW X (.BoolOp .Or (a :: b :: rest) pos) (tOr tA tB'):=by
 intro wh pins s σ H Q I h;refine isTrue_or (thn (ha pins s σ H _ I h) fun c s1 ⟨H1,I1,q1⟩=>?_);cases c with
 | true=>exact⟨H1,I1,q1⟩
 | false=>exact hb wh pins s1 σ H1 Q I1 q1
theorem qmi(ha:PT X a tA): PT X (.UnaryOp .Not a pos) (qpa tA):=by
 intro pins s σ H Q I h;exact isTrue_not (ha pins s σ H (fun c H1=>Q (!c) H1) I h)
def qof(ta tb:TE): TE:=fun σ H Q=>ta σ H fun x H1=>∃c,x=.bl c/\if c=true then tb σ H1 Q else Q (.bl false) H1
def qog(ta:TE): TE:=fun σ H Q=>ta σ H fun x H1=>∃c,x=.bl c/\Q (.bl (!c)) H1
theorem qmj{op}{t:TE}(h:PE X a t): PE X (.BoolOp op [a] pos) t:=fun pins s σ H Q I hw=>BoolOp_one (h pins s σ H Q I hw)
theorem qmk(ha:PE X a ta)(hb:PE X (.BoolOp .And (b :: rest) pos) tb): PE X (.BoolOp .And (a :: b :: rest) pos) (qof ta tb):=by
 intro pins s σ H Q I h;refine BoolOp_and (thn (ha pins s σ H _ I h) fun v s1 ⟨x,H1,I1,r1,q1⟩=>?_);obtain⟨c,rfl,q1⟩:=q1;cases r1;refine g1t ?_;cases c with
 | true=>exact hb pins s1 σ H1 Q I1 q1
 | false=>exact⟨.bl false,H1,I1,rfl,q1⟩
theorem qml(ha:PE X a ta): PE X (.UnaryOp .Not a pos) (qog ta):=by
 intro pins s σ H Q I h;refine UnaryOp_ (thn (ha pins s σ H _ I h) fun v s1 ⟨x,H1,I1,r1,q1⟩=>?_);obtain⟨c,rfl,q1⟩:=q1;cases r1;exact not_of (g1t ⟨.bl (!c),H1,I1,rfl,q1⟩)
end
def SqL(K:PySem.W.Frag)(H:Hp)(a:Addr)(xs:List V): Prop:=
 Rd H a (.lst xs) \/
  ∃(o:Obj) (its:Array Value) (n:Nat),K.lookup a=some o/\o.cls=.type "list" /\ o.dict=none/\o.data=.seq its n/\its.size<=sizeLine/\Vals xs its.toList
def SqT(K:PySem.W.Frag)(H:Hp)(a:Addr)(xs:List V): Prop:=
 Rd H a (.tup xs) \/
  ∃(o:Obj) (its:Array Value) (n:Nat),K.lookup a=some o/\o.cls=.type "tuple" /\ o.data=.seq its n/\its.size<=sizeLine/\Vals xs its.toList
def qpb:Value->Option V
 | .none=>some .non
 | .bool b=>some (.bl b)
 | .int i _=>some (.int i)
 | .str x _=>some (.str x)
 | .bytes b _=>some (.byt b)
 | .float b _=>some (.flt b)
 | .ref a=>some (.ref a)
 | .type n=>some (.ty n)
 | _=>none
theorem RelV.abs{x:V}{u:Value}(r:RelV x u): qpb u=some x:=by
 cases x with
 | non=>cases r;rfl
 | bl _=>cases r;rfl
 | int _=>obtain⟨t,rfl⟩:=r;rfl
 | str _=>obtain⟨t,rfl⟩:=r;rfl
 | byt _=>obtain⟨t,rfl⟩:=r;rfl
 | flt _=>obtain⟨t,rfl⟩:=r;rfl
 | ref _=>cases r;rfl
 | ty _=>cases r;rfl
theorem RelV.inj{x y:V}{u:Value}(r:RelV x u)(q:RelV y u): x=y:=m8 (r.abs.symm.trans q.abs)
theorem Vals.inj:∀ {xs ys:List V} {us:List Value},Vals xs us->Vals ys us->xs=ys
 | _,_,_,.nil,.nil=>rfl
 | _,_,_,.cons r t,.cons r' t'=>by rw [r.inj r',Vals.inj t t']
section
variable{X:Cx}{pins:List (Addr×Obj)}{σ : St}{H:Hp}{s:Shared}{a:Addr}{xs ys:List V}
theorem SqL.of{K:PySem.W.Frag}(h:H a=some (.lst xs)): SqL K H a xs:=.inl (.inl h)
theorem SqT.of{K:PySem.W.Frag}(h:H a=some (.tup xs)): SqT K H a xs:=.inl (.inl h)
theorem Inv.list(I:Inv X pins σ H s)(h:SqL X.K H a xs): ∃its:List Value,Vals xs its/\PlainL s.heap a its.toArray/\xs.length<=sizeLine:=by
 rcases h with h|⟨o,its,n,hk,hc,hd,hs,hz,r⟩
 ·obtain⟨z,its,n,r,e⟩:=h.ok I.hok
  exact⟨its,r,⟨_,n,e,rfl,rfl,rfl⟩,z⟩
 ·refine⟨its.toList,r,⟨o,n,I.kIn a o hk,hc,hd,by simpa using hs⟩,?_⟩
  have e:=r.length;simp only [ng] at e;omega
theorem Inv.tuple(I:Inv X pins σ H s)(h:SqT X.K H a xs): ∃its:List Value,Vals xs its/\IsTup s.heap a its.toArray/\xs.length<=sizeLine:=by
 rcases h with h|⟨o,its,n,hk,hc,hs,hz,r⟩
 ·obtain⟨z,its,r,p⟩:=h.ok I.hok
  exact⟨its,r,p,z⟩
 ·refine⟨its.toList,r,⟨o,I.kIn a o hk,hc,n,by simpa using hs⟩,?_⟩
  have e:=r.length;simp only [ng] at e;omega
theorem Inv.list_inj(I:Inv X pins σ H s)(h:SqL X.K H a xs)(h':SqL X.K H a ys): xs=ys:=by
 obtain⟨its,r,⟨o,n,e,_,_,d⟩,_⟩:=I.list h;obtain⟨its',r',⟨o',n',e',_,_,d'⟩,_⟩:=I.list h';rw [e] at e';cases e';rw [d] at d';injection d' with d1 _
 have:its=its':=by simpa using ug Array.toList d1
 subst this;exact r.inj r'
theorem Inv.tuple_inj(I:Inv X pins σ H s)(h:SqT X.K H a xs)(h':SqT X.K H a ys): xs=ys:=by
 obtain⟨its,r,⟨o,e,_,n,d⟩,_⟩:=I.tuple h;obtain⟨its',r',⟨o',e',_,n',d'⟩,_⟩:=I.tuple h';rw [e] at e';cases e';rw [d] at d';injection d' with d1 _
 have:its=its':=by simpa using ug Array.toList d1
 subst this;exact r.inj r'
end
abbrev Cx.wish(X:Cx)(E:Value->Shared->Prop): Cx:={X with xe:=E}
abbrev Cx.nox(X:Cx): Cx:=X.wish fun _ _=>False
theorem Cx.Ok.wish{X:Cx}(ok:X.Ok)(E:Value->Shared->Prop): (X.wish E).Ok:=
 ⟨ok.mod,ok.kind,ok.glob,ok.blt,ok.above,ok.inj,ok.has,ok.cab,ok.hd,ok.frames,ok.stk,ok.exf,ok.bs,ok.bsz,ok.noex,ok.exfs,ok.funs,ok.frf⟩
theorem Cx.Ok.unwish{X:Cx}{E:Value->Shared->Prop}(ok:(X.wish E).Ok): X.Ok:=
 ⟨ok.mod,ok.kind,ok.glob,ok.blt,ok.above,ok.inj,ok.has,ok.cab,ok.hd,ok.frames,ok.stk,ok.exf,ok.bs,ok.bsz,ok.noex,ok.exfs,ok.funs,ok.frf⟩
section
variable{X:Cx}{pins:List (Addr×Obj)}{σ : St}{H:Hp}{s:Shared}{E:Value->Shared->Prop}
theorem Inv.wish(I:Inv X pins σ H s)(E:Value->Shared->Prop): Inv (X.wish E) pins σ H s:=⟨I.ok.wish E,I.os,I.bare,I.base,I.loc,I.cell,I.free,I.freeC,I.pin,I.hok,I.len⟩
theorem Inv.unwish(I:Inv (X.wish E) pins σ H s): Inv X pins σ H s:=⟨I.ok.unwish,I.os,I.bare,I.base,I.loc,I.cell,I.free,I.freeC,I.pin,I.hok,I.len⟩
theorem SP.unwish{D:Ends}{f:Flow}{s':Shared}(h:SP (X.wish E) pins D f s'): SP X pins D f s':=by
 cases f with
 | next=>obtain⟨σ',H',I,q⟩:=h;exact⟨σ',H',I.unwish,q⟩
 | brk=>obtain⟨σ',H',I,q⟩:=h;exact⟨σ',H',I.unwish,q⟩
 | cont=>obtain⟨σ',H',I,q⟩:=h;exact⟨σ',H',I.unwish,q⟩
 | ret u=>obtain⟨v, σ',H',I,r,q⟩:=h;exact⟨v, σ',H',I.unwish,r,q⟩
theorem PE.nox{e:Expr}{t:TE}(h:PE X.nox e t): PE X e t:=fun pins s σ H Q I hw=>
 tm (h pins s σ H Q (I.wish _) hw) (fun _ _ ⟨v,H',I',r,q⟩=>⟨v,H',I'.unwish,r,q⟩) fun _ _ z=>False.elim z
theorem PSs.nox{st:List Stmt}{t:TS}(h:PSs X.nox st t): PSs X st t:=fun pins s σ H D I hw=>
 tm (h pins s σ H D (I.wish _) hw) (fun _ _ q=>q.unwish) fun _ _ z=>False.elim z
end
section
variable{X:Cx}{st:Stmt}{rest:List Stmt}{t u:TS}{e:Expr}{te:TE}{pos:Pos}
def tNext:TS:=fun D σ H=>D.nx σ H
def qpc(t u:TS): TS:=fun D σ H=>t {D with nx:=u D} σ H
theorem qka:PSs X [] tNext:=fun _ _ σ H _ I h=>g5d ⟨σ,H,I,h⟩
theorem q16(h1:PS X st t)(h2:PSs X rest u): PSs X (st :: rest) (qpc t u):=by
 intro pins s σ H D I h;refine wpAny_execs_cons (thn (h1 pins s σ H {D with nx:=u D} I h) fun f s1 q=>?_);cases f with
 | next=>
  obtain⟨σ',H',I',q⟩:=q;exact h2 pins s1 σ' H' D I' q
 | ret v=>exact q
 | brk=>exact q
 | cont=>exact q
theorem qcu(h1:PS X st t): PSs X [st] t:=by
 intro pins s σ H D I h;refine wpAny_execs_cons (thn (h1 pins s σ H D I h) fun f s1 q=>?_);cases f with
 | next=>exact g5d q
 | ret v=>exact q
 | brk=>exact q
 | cont=>exact q
theorem Inv.quiet{pins:List (Addr×Obj)}{σ : St}{H:Hp}{s:Shared}(I:Inv X pins σ H s): interactive X.env=false:=by simp [interactive,I.ok.kind]
def qoh(te:TE): TS:=fun D σ H=>te σ H fun _ H1=>D.nx σ H1
theorem qkb(he:PE X e te)(hs:swapsWith e none pos.line X.env=pure false:=by rfl): PS X (.Expr e pos) (qoh te):=by
 intro pins s σ H D I h;exact wpAny_Expr_any (thn (he pins s σ H _ I h) fun v s1 ⟨x,H1,I1,r1,q1⟩=>⟨σ,H1,I1,q1⟩) I.quiet hs
def qpd(te:TE): TS:=fun D σ H=>te σ H D.rt
theorem qmm(he:PE X e te): PS X (.Return (some e) pos) (qpd te):=by
 intro pins s σ H D I h;exact wpAny_Return_some (thn (he pins s σ H _ I h) fun v s1 ⟨x,H1,I1,r1,q1⟩=>⟨x, σ,H1,I1,r1,q1⟩)
def qpe(c:TT)(t u:TS): TS:=fun D σ H=>c σ H fun b H1=>if b=true then t D σ H1 else u D σ H1
theorem qoi{c:Expr}{a b:List Stmt}{tc:TT}(hc:PT X c tc)(ha:PSs X a t)(hb:PSs X b u): PS X (.If c a b pos) (qpe tc t u):=by
 intro pins s σ H D I h;refine wpAny_If (thn (hc pins s σ H _ I h) fun d s1 ⟨H1,I1,q1⟩=>?_);cases d with
 | true=>exact ha pins s1 σ H1 D I1 q1
 | false=>exact hb pins s1 σ H1 D I1 q1
end
abbrev TG:=V->St->Hp->(St->Hp->Prop)->Prop
abbrev TGs:=List V->St->Hp->(St->Hp->Prop)->Prop
def PG(X:Cx)(target:Expr)(t:TG): Prop:=
 ∀(pins:List (Addr×Obj)) (s:Shared) (σ : St) (H:Hp) (v:V) (u:Value) (Q:St->Hp->Prop),Inv X pins σ H s->RelV v u->t v σ H Q ->
  wpAny (model X.prog X.w) X.A (assign target X.env u) (fun _ s'=>∃ σ' H',Inv X pins σ' H' s'/\Q σ' H') X.xe s
def PGs(X:Cx)(ts:List Expr)(t:TGs): Prop:=
 ∀(pins:List (Addr×Obj)) (s:Shared) (σ : St) (H:Hp) (vs:List V) (us:List Value) (Q:St->Hp->Prop),Inv X pins σ H s->Vals vs us->t vs σ H Q ->
  wpAny (model X.prog X.w) X.A (assignInOrder ((assignEach ts X.env).map (·.2)) us) (fun _ s'=>∃ σ' H',Inv X pins σ' H' s'/\Q σ' H') X.xe s
abbrev TSet:=V->V->V->Hp->(Hp->Prop)->Prop
def qmn(X:Cx)(t:TSet): Prop:=
 ∀(pins:List (Addr×Obj)) (s:Shared) (σ : St) (H:Hp) (o i v:V) (ov iv u:Value) (Q:Hp->Prop),Inv X pins σ H s->RelV o ov->RelV i iv->RelV v u->t o i v H Q ->
  wpAny (model X.prog X.w) X.A (setItem ov iv u) (fun _ s'=>∃H',Inv X pins σ H' s'/\Q H') X.xe s
section
variable{X:Cx}{pos:Pos}
def q0u(i:Nat): TG:=fun v σ H Q=>Q (σ.set i (some v)) H
theorem qcv{i:Nat}{x:Str}(hN:X.N.Nodup)(hi:X.N[i]? = some x)(hx:Loc X.env.scope x)(hf:X.fn x=true\/X.env.scope.names.lookup x=some .local:=by first|exact .inl rfl|exact .inr rfl|assumption): PG X (.Name x pos) (q0u i):=by
 intro pins s σ H v u Q I r h;exact wpAny_assign_Name (q5c I hN hi hx r (fun s' I'=>⟨_,H,I',h⟩) hf)
def gNil:TGs:=fun vs σ H Q=>vs=[]/\Q σ H
def qoj(t:TG)(u:TGs): TGs:=fun vs σ H Q=>∃v r,vs=v :: r/\t v σ H fun σ' H'=>u r σ' H' Q
theorem qkc:PGs X [] gNil:=by
 intro pins s σ H vs us Q I r h;obtain⟨e,h⟩:=h;subst e;cases r;exact assignInOrder_nil ⟨σ,H,I,h⟩
theorem qho{e:Expr}{es:List Expr}{t:TG}{u:TGs}(h1:PG X e t)(h2:PGs X es u)
  (hs:(assignEach (e :: es) X.env).map (·.2)=assign e X.env :: (assignEach es X.env).map (·.2):=by rfl):PGs X (e :: es) (qoj t u):=by
 intro pins s σ H vs us Q I r h;obtain⟨v,vr,e1,h⟩:=h;subst e1;cases r with
 | cons r rr=>
  rw [hs];refine assignInOrder_cons (thn (h1 pins s σ H _ _ _ I r h) fun _ s1 ⟨σ1,H1,I1,q1⟩=>?_);exact h2 pins s1 σ1 H1 _ _ Q I1 rr q1
def qpf(K:PySem.W.Frag)(n:Nat)(t:TGs): TG:=fun v σ H Q=>∃a xs,v=.ref a/\SqT K H a xs/\xs.length=n/\t xs σ H Q
theorem qmo{es:List Expr}{k:Nat}{t:TGs}{n:Nat}(hc:X.calm=true)(h:PGs X es t)
  (hn:(assignEach es X.env).length=n:=by rfl) (hst:(assignEach es X.env).findIdx? (·.1)=none:=by rfl):PG X (.Tuple es k pos) (qpf X.K n t):=by
 intro pins s σ H v u Q I r hw;obtain⟨a,xs,e1,hq,hl,hw⟩:=hw;subst e1;cases r;obtain⟨its,rv,ht,hz⟩:=I.tuple hq;refine assign_Tuple_tuple (I.ok.hd hc) ht (by simp [hn, <- hl,rv.length]) hst fun h' hx=>?_;have I1:Inv X pins σ H {s with heap:=h'}:=I.kept (t':=s.toks) fun b o e=>hx b o (m9 (gw e)) e;exact h pins _ σ H xs _ Q I1 (by simpa using rv) hw
def qhp(to ti:TE)(t:TSet): TG:=fun v σ H Q=>to σ H fun o H1=>ti σ H1 fun i H2=>t o i v H2 fun H3=>Q σ H3
theorem qf9{o i:Expr}{to ti:TE}{t:TSet}(ho:PE X o to)(hi:PE X i ti)(hs:qmn X t)
  (ha:∀v,assign (.Subscript o i pos) X.env v=(do
   let ov <- holding [v] (eval o X.env)
   let iv <- holding [v,ov] (eval i X.env)
   standAt pos
   holding [v,ov,iv] (setItem ov iv v)
   release [v,ov,iv] []):=by intro _;rfl):PG X (.Subscript o i pos) (qhp to ti t):=by
 intro pins s σ H v u Q I r h;rw [ha];refine g0 (nz (thn (ho pins s σ H _ I h) fun ov s1 ⟨x,H1,I1,r1,q1⟩=>?_));refine g0 (nz (thn (hi pins s1 σ H1 _ I1 q1) fun iv s2 ⟨y,H2,I2,r2,q2⟩=>?_));refine g0 (wpAny_standAt (g0 (nz (thn (hs pins s2 σ H2 x y v ov iv u _ I2 r1 r2 r q2) fun _ s3 ⟨H3,I3,q3⟩=>?_))));exact wpAny_release ⟨σ,H3,I3,q3⟩
def q5d(te:TE)(g:TG): TS:=fun D σ H=>te σ H fun x H1=>g x σ H1 D.nx
theorem qfa{tg e:Expr}{te:TE}{g:TG}(he:PE X e te)(hg:PG X tg g)(hs:swapsWithSole [tg] e pos.line X.env=pure false:=by rfl)(hw:swappedStores [tg] e X.env=pure none:=by rfl)
  (h1:(assignEach [tg] X.env).map (·.2)=[assign tg X.env]:=by rfl):PS X (.Assign [tg] e pos) (q5d te g):=by
 intro pins s σ H D I h;refine wpAny_Assign_stores (thn (he pins s σ H _ I h) fun v s1 ⟨x,H1,I1,r1,q1⟩=>?_) hs hw;rw [h1];exact thn (hg pins s1 σ H1 x v _ I1 r1 q1) fun _ s2 q=>q
theorem q62{i:Nat}{x:Str}{e:Expr}{te:TE}{pos':Pos}(hN:X.N.Nodup)(hi:X.N[i]? = some x)(hx:Loc X.env.scope x)(he:PE X e te)(hs:swapsWith e (some (.Name x pos')) pos.line X.env=pure false:=by rfl)(hf:X.fn x=true\/X.env.scope.names.lookup x=some .local:=by first|exact .inl rfl|exact .inr rfl|assumption):
  PS X (.Assign [.Name x pos'] e pos) (q5d te (q0u i)):=by
 intro pins s σ H D I h;refine wpAny_Assign_Name (thn (he pins s σ H _ I h) fun v s1 ⟨y,H1,I1,r1,q1⟩=>?_) hs;exact q5c I1 hN hi hx r1 (fun s2 I2=>⟨_,H1,I2,q1⟩) hf
end
section
variable{X:Cx}{pos:Pos}
end
structure It where
 go:Nat->Hp->Prop
 yld:Nat->Hp->V->Hp->Prop
 stop:Nat->Hp->Prop
def kh(X:Cx)(pins:List (Addr×Obj))(H:Hp)(b:Addr): Prop:=
 H b=none/\b≠X.env.locals/\b∉X.fs/\(b∈X.ex\/X.s₀.heap.objs.size<=b)/\(∀x c,X.env.cells.lookup x=some c->c≠b)/\∀p∈X.pn++pins,p.1≠b
theorem Inv.fpOk{X:Cx}{pins:List (Addr×Obj)}{σ : St}{H H':Hp}{s:Shared}{b:Addr}(I:Inv X pins σ H s)(hb:s.heap.objs.size<=b)(hn:H' b=none): kh X pins H' b:=by
 refine⟨hn,uh (gm I.lt hb),I.nofs hb,.inr (ml I.sz hb),fun x c e z=>?_,fun p hp z=>?_⟩
 ·obtain⟨v,q⟩:=I.cell x c e
  exact absurd (gm q.lt (by rw [z];exact hb)) (g0a _)
 ·exact absurd (gm (gw (I.pin p hp).1) (by rw [z];exact hb)) (g0a _)
structure Turn(P:Program)(w:World)(K:PySem.W.Frag)(tg:Expr)(J:It)(fp:List Addr)(it:Addr)(tn:Nat->Heap->Prop): Prop where
 mem:it∈fp
 obj:∀i h,tn i h->∀b∈fp,∃o,h.get? b=some o/\∀v,o.data ≠ .cell v
 keep:∀i h h',tn i h->(∀b∈fp,∀o,h.get? b=some o->h'.get? b=some o)->tn i h'
 item:∀(X:Cx),X.prog=P->X.w=w->X.K=K->X.calm=true->∀(i:Nat) (pins:List (Addr×Obj)) (s:Shared) (σ : St) (H:Hp) (E:Value->Shared->Prop),Inv X pins σ H s->(∀b∈fp,kh X pins H b)->tn i s.heap->J.go i H ->
  wpAny (model P w) X.A (pyNext (.ref it)) (fun r s1=>∃u,r=some u /\
   wpAny (model P w) X.A (letOwnedTupleGo tg (.ref it) u) (fun _ s2=>∃x H',Inv X pins σ H' s2/\RelV x u/\J.yld i H x H'/\tn (i+1) s2.heap/\∀b∈fp,H' b=none) E s1) E s
 done:∀(X:Cx),X.prog=P->X.w=w->X.K=K->X.calm=true->∀(i:Nat) (pins:List (Addr×Obj)) (s:Shared) (σ : St) (H:Hp) (E:Value->Shared->Prop),Inv X pins σ H s->(∀b∈fp,kh X pins H b)->tn i s.heap->J.stop i H ->
  wpAny (model P w) X.A (pyNext (.ref it)) (fun r s1=>r=none/\Inv X pins σ H s1) E s
 self:∀(A:Around) (i:Nat) (s:Shared) (Q:Value->Shared->Prop) (E:Value->Shared->Prop),tn i s.heap->Q (.ref it) s->wpAny (model P w) A (pyIter (.ref it)) Q E s
abbrev TI:=St->Hp->(It->Hp->Prop)->Prop
def PIE(X:Cx)(pins:List (Addr×Obj))(σ : St)(tg:Expr)(R:It->Hp->Prop)(itv:Value)(s2:Shared): Prop:=
 ∃(it:Addr) (fp:List Addr) (tn:Nat->Heap->Prop) (J:It) (H':Hp),itv=.ref it/\Inv X pins σ H' s2/\Turn X.prog X.w X.K tg J fp it tn/\tn 0 s2.heap/\(∀b∈fp,kh X pins H' b)/\R J H'
def PI(X:Cx)(tg iter:Expr)(wi:TI): Prop:=
 ∀(pins:List (Addr×Obj)) (s:Shared) (σ : St) (H:Hp) (R:It->Hp->Prop),Inv X pins σ H s->wi σ H R ->
  wpAny (model X.prog X.w) X.A (eval iter X.env) (fun v s1=>wpAny (model X.prog X.w) X.A (pyIter v) (PIE X pins σ tg R) X.xe s1) X.xe s
theorem q97{M:Model}{A:Around}{E:Value->Shared->Prop}{s:Shared}{tg:Expr}{it:Addr}{u:Value}{o:Obj}{n:String}{vs:Array Value}{Q:Unit->Shared->Prop}(ho:s.heap.get? it=some o)(hc:o.cls=.type n)(hd:o.data=.fields vs)
  (hn:["enumerate","zip","dict_itemiterator","dict_reverseitemiterator","odict_iterator","itertools.zip_longest","itertools.pairwise"].contains n=false) (hQ:Q () s):wpAny M A (letOwnedTupleGo tg (.ref it) u) Q E s:=by
 unfold letOwnedTupleGo;cases tg <;> first
  | exact g9 hQ
  | (cases u <;> first
    | exact g9 hQ
    | (refine g0 (wpAny_load ho ?_);rw [hc,hd];show wpAny M A (if(["enumerate","zip","dict_itemiterator","dict_reverseitemiterator","odict_iterator","itertools.zip_longest","itertools.pairwise"].contains n&&vs[0]? == some (rawInt _))=true then _ else _) Q E s;rw [mf (by intro h;rw [hn,g3x] at h;cases h)];exact g9 hQ))
def Itl(K:PySem.W.Frag)(a:Addr): It:=
 ⟨fun i H=>∃xs x,SqL K H a xs/\xs[i]? = some x,fun i H x H'=>H'=H/\∀xs,SqL K H a xs->xs[i]? = some x,fun i H=>∃xs,SqL K H a xs/\xs.length<=i⟩
def Itt(K:PySem.W.Frag)(a:Addr): It:=
 ⟨fun i H=>∃xs x,SqT K H a xs/\xs[i]? = some x,fun i H x H'=>H'=H/\∀xs,SqT K H a xs->xs[i]? = some x,fun i H=>∃xs,SqT K H a xs/\xs.length<=i⟩
def Itr(lo:Int)(n:Nat): It:=⟨fun i _=>i<n,fun i H x H'=>H'=H/\x=.int (lo+i),fun i _=>n<=i⟩
theorem qfb{P:Program}{w:World}{K:PySem.W.Frag}{tg:Expr}(a it:Addr): Turn P w K tg (Itl K a) [it] it (fun i h=>h.IsListIter it a i) where
 mem:=by simp
 obj:=fun i h st b hb=>by
  have e:b=it:=by simpa using hb
  subst e;obtain⟨o,e,c,d⟩:=st;exact⟨o,e,fun v z=>by rw [d] at z;cases z⟩
 keep:=fun i h h' st k=>st.at fun o e=>k it (by simp) o e
 item:=by
  intro X hP hw hK hc i pins s σ H E I hf st hg;subst hP hw hK;obtain⟨xs,x,hq,hx⟩:=hg;obtain⟨its,rv,p,hz⟩:=I.list hq;obtain⟨u,hu,ru⟩:=rv.get hx;obtain⟨f0,f1,f2,f3,f4,f5⟩:=hf it (by simp);refine wpAny_pyNext_list_item st p.isList (x:=u) (by simpa using hu) fun h' st' sb=>?_;have I1:Inv X pins σ H {s with heap:=h'}:=I.turned (t':=s.toks) (fun b o hb e=>(sb.2 b hb).trans e) f0 f1 f3 f4 f5;obtain⟨o,e,c,d⟩:=id st';exact⟨u,rfl,q97 (s:={s with heap:=h'}) e c d (by decide) ⟨x,H,I1,ru,⟨rfl,fun ys hy=>by rw [I.list_inj hy hq];exact hx⟩,st',fun b hb=>(hf b hb).1⟩⟩
 done:=by
  intro X hP hw hK hc i pins s σ H E I hf st hg;subst hP hw hK;obtain⟨xs,hq,hx⟩:=hg;obtain⟨its,rv,p,hz⟩:=I.list hq;obtain⟨f0,f1,f2,f3,f4,f5⟩:=hf it (by simp);have hl:=rv.length;exact wpAny_pyNext_list_end (I.ok.hd hc) st p.isList (by simp;omega) fun h' eb=>⟨rfl,I.turned (t':=s.toks) (fun b o hb e=>eb b o hb e) f0 f1 f3 f4 f5⟩
 self:=fun _ _ _ _ _ st h=>wpAny_pyIter_listiter st h
theorem qdz{P:Program}{w:World}{K:PySem.W.Frag}{tg:Expr}(a it:Addr): Turn P w K tg (Itt K a) [it] it (fun i h=>h.IsTupleIter it a i) where
 mem:=by simp
 obj:=fun i h st b hb=>by
  have e:b=it:=by simpa using hb
  subst e;obtain⟨o,e,c,d⟩:=st;exact⟨o,e,fun v z=>by rw [d] at z;cases z⟩
 keep:=fun i h h' st k=>st.at fun o e=>k it (by simp) o e
 item:=by
  intro X hP hw hK hc i pins s σ H E I hf st hg;subst hP hw hK;obtain⟨xs,x,hq,hx⟩:=hg;obtain⟨its,rv,p,hz⟩:=I.tuple hq;obtain⟨u,hu,ru⟩:=rv.get hx;obtain⟨f0,f1,f2,f3,f4,f5⟩:=hf it (by simp);refine wpAny_pyNext_tuple_item st (show s.heap.IsTuple a its.toArray from p) (x:=u) (by simpa using hu) fun h' st' sb=>?_;have I1:Inv X pins σ H {s with heap:=h'}:=I.turned (t':=s.toks) (fun b o hb e=>(sb.2 b hb).trans e) f0 f1 f3 f4 f5;obtain⟨o,e,c,d⟩:=id st';exact⟨u,rfl,q97 (s:={s with heap:=h'}) e c d (by decide) ⟨x,H,I1,ru,⟨rfl,fun ys hy=>by rw [I.tuple_inj hy hq];exact hx⟩,st',fun b hb=>(hf b hb).1⟩⟩
 done:=by
  intro X hP hw hK hc i pins s σ H E I hf st hg;subst hP hw hK;obtain⟨xs,hq,hx⟩:=hg;obtain⟨its,rv,p,hz⟩:=I.tuple hq;obtain⟨f0,f1,f2,f3,f4,f5⟩:=hf it (by simp);have hl:=rv.length;exact wpAny_pyNext_tuple_end (I.ok.hd hc) st (show s.heap.IsTuple a its.toArray from p) (by simp;omega) fun h' eb=>⟨rfl,I.turned (t':=s.toks) (fun b o hb e=>eb b o hb e) f0 f1 f3 f4 f5⟩
 self:=fun _ _ _ _ _ st h=>wpAny_pyIter_tupleiter st h
theorem qe0{P:Program}{w:World}{K:PySem.W.Frag}{tg:Expr}(it:Addr)(lo:Int)(n:Nat): Turn P w K tg (Itr lo n) [it] it (fun i h=>IsRangeIter h it (lo+(i:Nat)*1) ((n:Int)-(i:Nat)) 1) where
 mem:=by simp
 obj:=fun i h st b hb=>by
  have e:b=it:=by simpa using hb
  subst e;exact⟨_,st,fun v z=>by
   have z':Data.fields _=Data.cell v:=z;cases z'⟩
 keep:=fun i h h' st k=>k it (by simp) _ st
 item:=by
  intro X hP hw hK hc i pins s σ H E I hf st hg;subst hP hw hK;obtain⟨f0,f1,f2,f3,f4,f5⟩:=hf it (by simp);have W:=Walks.range (prog:=X.prog) (w:=X.w) (I.ok.hd hc) it lo 1 n;refine W.item i s _ _ hg st fun v h' tk hv st' kk=>?_;obtain⟨t,rfl⟩:=hv;have I1:Inv X pins σ H {s with heap:=h',toks:=tk}:=I.turned (fun b o hb e=>kk b o (by simpa using hb) e) f0 f1 f3 f4 f5;refine⟨_,rfl,q97 (s:={s with heap:=h',toks:=tk}) (n:="range_iterator") st' rfl rfl (by decide) ⟨.int (lo+i),H,I1,⟨t,?_⟩,⟨rfl,rfl⟩,st',fun b hb=>(hf b hb).1⟩⟩;rw [Int.mul_one]
 done:=by
  intro X hP hw hK hc i pins s σ H E I hf st hg;subst hP hw hK;obtain⟨f0,f1,f2,f3,f4,f5⟩:=hf it (by simp);exact wpAny_pyNext_range_end (I.ok.hd hc) st (by have:n<=i:=hg;omega) fun h' eb=>⟨rfl,I.turned (t':=s.toks) (fun b o hb e=>eb b o hb e) f0 f1 f3 f4 f5⟩
 self:=fun _ _ _ _ _ st h=>wpAny_pyIter_rangeiter st h
section
variable{X:Cx}{tg:Expr}
theorem qhq{pins:List (Addr×Obj)}{σ : St}{H:Hp}{s:Shared}{R:It->Hp->Prop}{E:Value->Shared->Prop}{lo hi:Int}{t u v:Tok}{tk:Nat}(I:Inv X pins σ H s)(h1 : -(2 ^ 62)<=lo)(h2:lo<2 ^ 62)(h3 : -(2 ^ 62)<=hi)(h4:hi<2 ^ 62)
  (q:R (Itr lo (hi-lo).toNat) H):wpAny (model X.prog X.w) X.A (pyIter (.ref s.heap.objs.size)) (PIE X pins σ tg R) E {s with heap:=s.heap.push {cls:=.type "range",data:=.fields #[.int lo t,.int hi u,.int 1 v]},toks:=tk}:=by
 refine wpAny_pyIter_range (IsRange.new ..) (small_one h1 h2 h3 h4) ?_;have I1:Inv X pins σ H {s with heap:=s.heap.push {cls:=.type "range",data:=.fields #[.int lo t,.int hi u,.int 1 v]},toks:=tk}:=I.kept fun b o e=>gd _ e;refine⟨(s.heap.push {cls:=.type "range",data:=.fields #[.int lo t,.int hi u,.int 1 v]}).objs.size,[(s.heap.push {cls:=.type "range",data:=.fields #[.int lo t,.int hi u,.int 1 v]}).objs.size],_,_,H,rfl,
  I1.kept (t':=tk) fun b o e=>gd _ e,qe0 _ lo (hi-lo).toNat,?_,fun b hb=>?_,q⟩
 ·have e1:lo+((0:Nat):Int)*1=lo:=by simp
  have e2:(((hi-lo).toNat:Nat):Int)-((0:Nat):Int)=Builtin.Range.rangeSize lo hi 1:=by rw [rangeSize_one];split <;> omega
  show IsRangeIter _ _ (lo+((0:Nat):Int)*1) ((((hi-lo).toNat:Nat):Int)-((0:Nat):Int)) 1;rw [e1,e2];exact gr _ rfl
 ·have e:b=(s.heap.push {cls:=.type "range",data:=.fields #[.int lo t,.int hi u,.int 1 v]}).objs.size:=by simpa using hb
  subst e;exact I1.fpOk (gu _) (I1.hok.fresh (gu _))
def qok(ta:TA): TI:=fun σ H R=>ta σ H fun vs H1=>∃j:Int,vs=[.int j] /\ -(2 ^ 62)<=j/\j<2 ^ 62/\R (Itr 0 j.toNat) H1
theorem qfc{a:Expr}{ta:TA}{p pos:Pos}(hg:Gl X "range")(hm:X.mg "range" = none)(ha:PA X [a] ta)(hs:starEach [a] X.env=[(false,eval a X.env)]:=by rfl): PI X tg (.Call (.Name "range" p) [a] [] pos) (qok ta):=by
 intro pins s σ H R I h;refine Call_ (q15 I hg hm boot_range (g22 (thn (ha pos pins s σ H _ I h) fun us s1 ⟨vs,H1,I1,r1,q1⟩=>?_) hs rfl));obtain⟨j,e,q1,q2,q⟩:=q1;subst e;cases r1 with
 | cons r rr=>
  cases rr;obtain⟨t,rfl⟩:=r;exact call_range_1 (qhq I1 (by omega) (by omega) q1 q2 (by simpa using q))
def qpg(wi:TI)(g:TG)(tb:TS): TS:=fun D σ H=>wi σ H fun J H1=>∃W:Nat->Nat->St->Hp->Prop,(∃m,W 0 m σ H1)/\∀i m σ H,W i m σ H ->
 (J.stop i H/\D.nx σ H)\/(J.go i H/\∃N:St->Hp->Prop,(∀ σ' H',N σ' H'->∃m',m'<m/\W (i+1) m' σ' H')/\∀x H',J.yld i H x H'->g x σ H' fun σ2 H2=>tb {D with nx:=N,ct:=N,bk:=D.nx} σ2 H2)
def q2b(fp:List Addr)(h:Heap): List (Addr×Obj):=fp.filterMap fun b=>(h.get? b).map fun o=>(b,o)
theorem q0v{fp:List Addr}{h:Heap}{b:Addr}{o:Obj}(hb:b∈fp)(e:h.get? b=some o): (b,o)∈q2b fp h:=g45.mpr ⟨b,hb,by rw [e];rfl⟩
theorem qfd{fp:List Addr}{h:Heap}{p:Addr×Obj}(hp:p∈q2b fp h): p.1∈fp/\h.get? p.1=some p.2:=by
 obtain⟨b,hb,e⟩:=g45.mp hp;cases q:h.get? b with
 | none=>rw [q] at e;cases e
 | some o=>
  rw [q] at e;have e':(b,o)=p:=m8 e;subst e';exact⟨hb,q⟩
theorem Inv.pinned{pins:List (Addr×Obj)}{σ : St}{H:Hp}{s:Shared}{fp:List Addr}(I:Inv X pins σ H s)(hf:∀b∈fp,kh X pins H b)(ho:∀b∈fp,∃o,s.heap.get? b=some o/\∀v,o.data ≠ .cell v): Inv X (pins++q2b fp s.heap) σ H s:=
 I.pins_of fun p hp=>(nh.mp hp).elim (fun z=>I.pin p (n8 _ z)) fun z=>by
  obtain⟨hb,e⟩:=qfd z;obtain⟨f0,f1,f2,_⟩:=hf p.1 hb;obtain⟨o,e',d⟩:=ho p.1 hb;rw [e] at e';cases e';exact⟨e,f0,f1,f2,d⟩
theorem Inv.unpinned{pins pl:List (Addr×Obj)}{σ : St}{H:Hp}{s:Shared}(I:Inv X (pins++pl) σ H s): Inv X pins σ H s:=I.pins_of fun p hp=>I.pin p (n8 _ (g23 _ hp))
theorem qfe{iter:Expr}{body:List Stmt}{wi:TI}{g:TG}{tb:TS}{pos:Pos}(hp:PassesOwn (model X.prog X.w) X.A X.env X.xe)(hc:X.calm=true)(hi:PI X tg iter wi)(hg:PG X tg g)(hb:PSs X body tb)
  (hs:∀x,foldedSetIterable iter X.env x=pure x:=by intro _;rfl):PS X (.For tg iter body [] pos) (qpg wi g tb):=by
 intro pins s σ H D I h;refine wpAny_For (thn (hi pins s σ H _ I h) fun v s1 h1=>thn h1 fun itv s2 h2=>?_) hs;obtain⟨it,fp,tn,J,H2,e,I2,T,st2,f2,W,⟨m0,w0⟩,turn⟩:=h2;subst e
 -- what stays true of the iterator's objects through the loop
 have stat:∀ {H':Hp},(∀b∈fp,H' b=none)->∀b∈fp,kh X pins H' b:=fun hn b hb=>⟨hn b hb,(f2 b hb).2⟩
 refine codeAny_forLoop_any (fun n s'=>∃i σ' H',Inv X pins σ' H' s'/\tn i s'.heap/\(∀b∈fp,H' b=none)/\W i n σ' H') ?_ m0 ⟨0, σ,H2,I2,st2,fun b hb=>(f2 b hb).1,w0⟩
 rintro n s3 ⟨i, σ3,H3,I3,st3,fr3,w3⟩
 rcases turn i n σ3 H3 w3 with⟨stop,qn⟩|⟨go,N,hN,step⟩
 ·refine g2b hp (thn (T.done X rfl rfl rfl hc i pins s3 σ3 H3 X.xe I3 (stat fr3) st3 stop) fun r s4 ⟨hr,I4⟩=>?_)
  subst hr;exact g5d ⟨σ3,H3,I4,qn⟩
 ·refine g2b hp (thn (T.item X rfl rfl rfl hc i pins s3 σ3 H3 X.xe I3 (stat fr3) st3 go) fun r s4 ⟨u,hr,h4⟩=>?_)
  subst hr;refine g2b hp (thn h4 fun _ s5 ⟨x,H5,I5,r5,y5,st5,fr5⟩=>?_);have I5':=I5.pinned (stat fr5) (T.obj _ _ st5);refine g2b hp (thn (hg _ s5 σ3 H5 x u _ I5' r5 (step x H5 y5)) fun _ s6 ⟨σ6,H6,I6,q6⟩=>?_);refine g2b hp (thn (hb _ s6 σ6 H6 _ I6 q6) fun f s7 q7=>?_);have again:∀ {σ7:St} {H7:Hp},Inv X (pins++q2b fp s5.heap) σ7 H7 s7->N σ7 H7->∃m,m<n/\∃i σ' H',Inv X pins σ' H' s7/\tn i s7.heap/\(∀b∈fp,H' b=none)/\W i m σ' H':=fun {σ7 H7} I7 n7=>by
   obtain⟨m',hm,w7⟩:=hN σ7 H7 n7;refine⟨m',hm,i+1, σ7,H7,I7.unpinned,T.keep _ _ _ st5 fun b hb o e=>(I7.pin (b,o) (n8 _ (n8 _ (q0v hb e)))).1,fun b hb=>?_,w7⟩;obtain⟨o,e,d⟩:=T.obj _ _ st5 b hb;exact(I7.pin (b,o) (n8 _ (n8 _ (q0v hb e)))).2.1
  cases f with
  | next=>obtain⟨σ7,H7,I7,n7⟩:=q7;exact again I7 n7
  | cont=>obtain⟨σ7,H7,I7,n7⟩:=q7;exact again I7 n7
  | brk=>obtain⟨σ7,H7,I7,q7⟩:=q7;exact⟨σ7,H7,I7.unpinned,q7⟩
  | ret v=>obtain⟨x7, σ7,H7,I7,r7,q7⟩:=q7;exact⟨x7, σ7,H7,I7.unpinned,r7,q7⟩
end
abbrev R2:=V->V->Hp->VK->Prop
def OpR(X:Cx)(f:Value->Value->Sem Value)(r:R2): Prop:=
 ∀(pins:List (Addr×Obj)) (s:Shared) (σ : St) (H:Hp) (x y:V) (v u:Value) (Q:VK),Inv X pins σ H s->RelV x v->RelV y u->r x y H Q ->
  wpAny (model X.prog X.w) X.A (f v u) (EP X pins σ Q) X.xe s
def xm(X:Cx)(f:Value)(r:List V->Hp->VK->Prop): Prop:=
 ∀(pins:List (Addr×Obj)) (s:Shared) (σ : St) (H:Hp) (xs:List V) (us:List Value) (Q:VK),Inv X pins σ H s->Vals xs us->r xs H Q ->
  wpAny (model X.prog X.w) X.A (call f us) (EP X pins σ Q) X.xe s
def qph(X:Cx)(r:V->Hp->(Bool->Hp->Prop)->Prop): Prop:=
 ∀(pins:List (Addr×Obj)) (s:Shared) (σ : St) (H:Hp) (x:V) (v:Value) (Q:Bool->Hp->Prop),Inv X pins σ H s->RelV x v->r x H Q ->
  wpAny (model X.prog X.w) X.A (truthy v) (TP X pins σ Q) X.xe s
def tOp(r:R2)(ta tb:TE): TE:=fun σ H Q=>ta σ H fun x H1=>tb σ H1 fun y H2=>r x y H2 Q
def rI(C:Int->Int->Prop)(g:Int->Int->V): R2:=fun x y H Q=>∃i j,x=.int i/\y=.int j/\C i j/\Q (g i j) H
def rI0(g:Int->Int->V): R2:=fun x y H Q=>∃i j,x=.int i/\y=.int j/\Q (g i j) H
section
variable{X:Cx}{a b c:Expr}{ta tb tc:TE}{pos:Pos}
theorem qhr(ha:PE X a ta)(hb:PE X b tb){pins:List (Addr×Obj)}{s:Shared}{σ : St}{H:Hp}{R:V->V->Hp->Prop}(I:Inv X pins σ H s)
  (h:ta σ H fun x H1=>tb σ H1 fun y H2=>R x y H2) {Q:Value->Shared->Prop} {f:Value->Value->Sem Value}
  (hf:∀v u s2 x y H2,Inv X pins σ H2 s2->RelV x v->RelV y u->R x y H2->wpAny (model X.prog X.w) X.A (f v u) Q X.xe s2) :
  wpAny (model X.prog X.w) X.A (eval a X.env) (fun v s₁=>wpAny (model X.prog X.w) X.A (eval b X.env) (fun u s₂=>wpAny (model X.prog X.w) X.A (f v u) Q X.xe s₂) X.xe s₁) X.xe s:=by
 refine thn (ha pins s σ H _ I h) fun v s1 ⟨x,H1,I1,r1,q1⟩=>?_;refine thn (hb pins s1 σ H1 _ I1 q1) fun u s2 ⟨y,H2,I2,r2,q2⟩=>?_;exact hf v u s2 x y H2 I2 r1 r2 q2
theorem qju{op:Operator}{r:R2}(ho:OpR X (binaryOp op) r)(ha:PE X a ta)(hb:PE X b tb): PE X (.BinOp a op b pos) (tOp r ta tb):=by
 intro pins s σ H Q I h;exact wpAny_BinOp (qhr ha hb I h fun v u s2 x y H2 I2 rx ry q=>ho pins s2 σ H2 x y v u Q I2 rx ry q)
theorem opI{f:Value->Value->Sem Value}{C:Int->Int->Prop}{g:Int->Int->Int}
  (rule:∀(i j:Int) (t u:Tok) (s:Shared) (Q:Value->Shared->Prop) (E:Value->Shared->Prop),C i j->Q (.int (g i j) s.toks) {s with toks:=s.toks+1}->wpAny (model X.prog X.w) X.A (f (.int i t) (.int j u)) Q E s) :
  OpR X f (rI C fun i j=>.int (g i j)):=by
 intro pins s σ H x y v u Q I rx ry h;obtain⟨i,j,rfl,rfl,hc,q⟩:=h;obtain⟨t,rfl⟩:=rx;obtain⟨t',rfl⟩:=ry;exact rule i j t t' s _ _ hc ⟨.int (g i j),H,I.tok _,⟨_,rfl⟩,q⟩
theorem qmp{f:Value->Value->Sem Value}{g:Int->Int->Int}
  (rule:∀(i j:Int) (t u:Tok) (s:Shared) (Q:Value->Shared->Prop) (E:Value->Shared->Prop),Q (.int (g i j) s.toks) {s with toks:=s.toks+1}->wpAny (model X.prog X.w) X.A (f (.int i t) (.int j u)) Q E s) :
  OpR X f (rI0 fun i j=>.int (g i j)):=by
 intro pins s σ H x y v u Q I rx ry h;obtain⟨i,j,rfl,rfl,q⟩:=h;obtain⟨t,rfl⟩:=rx;obtain⟨t',rfl⟩:=ry;exact rule i j t t' s _ _ ⟨.int (g i j),H,I.tok _,⟨_,rfl⟩,q⟩
theorem qpi{f:Value->Value->Sem Value}{g:Int->Int->Bool}
  (rule:∀(i j:Int) (t u:Tok) (s:Shared) (Q:Value->Shared->Prop) (E:Value->Shared->Prop),Q (.bool (g i j)) s->wpAny (model X.prog X.w) X.A (f (.int i t) (.int j u)) Q E s) :
  OpR X f (rI0 fun i j=>.bl (g i j)):=by
 intro pins s σ H x y v u Q I rx ry h;obtain⟨i,j,rfl,rfl,q⟩:=h;obtain⟨t,rfl⟩:=rx;obtain⟨t',rfl⟩:=ry;exact rule i j t t' s _ _ ⟨.bl (g i j),H,I,rfl,q⟩
def qpj(i j:Int): Prop:=0<j/\j<1073741824
def qpk(i j:Int): Prop:=0<=j/\j<=1000000/\i.natAbs<2 ^ 64
def CMul(i j:Int): Prop:=(-(2 ^ 64)<i/\i<2 ^ 64)\/(-(2 ^ 64)<j/\j<2 ^ 64)
theorem CMul.ok{i j:Int}(h:CMul i j): IntMulOk i j:=by
 rcases h with⟨h1,h2⟩|⟨h1,h2⟩
 ·exact .of_left (intBits_le_64 h1 h2)
 ·exact .of_right (intBits_le_64 h1 h2)
theorem qe1(k:Nat): (0:Int)<=2 ^ k:=by
 rw [two_pow_cast];exact g46 _
theorem qmq:OpR X (binaryOp .Add) (rI0 fun i j=>.int (i+j)):=qmp fun _ _ _ _ _ _ _ q=>add_int q
theorem qmr:OpR X (binaryOp .Mult) (rI CMul fun i j=>.int (i*j)):=opI fun _ _ _ _ _ _ _ hc q=>mul_int q hc.ok
theorem qkd:OpR X (binaryOp .FloorDiv) (rI qpj fun i j=>.int (i / j)):=opI fun i j _ _ _ _ _ hc q=>by
 have h1:(0:Int)<j:=hc.1;have h2:j<1073741824:=hc.2;exact floordiv_int (by omega) (by rw [g4f i (by omega)];exact q) (.inl (PyProof.noPylong_small (by omega)))
theorem qms:OpR X (binaryOp .Mod) (rI (fun _ j=>0<j) fun i j=>.int (i%j)):=opI fun i j _ _ _ _ _ hc q=>by
 have h1:(0:Int)<j:=hc;exact mod_int' (by omega) (by rw [Int.fmod_eq_emod_of_nonneg i (by omega)];exact q)
theorem qmt:OpR X (binaryOp .LShift) (rI qpk fun i j=>.int (i*2 ^ j.toNat)):=opI fun _ _ _ _ _ _ _ hc q=>lshift_int_small hc.1 hc.2.1 hc.2.2 q
theorem qmu:OpR X (binaryOp .RShift) (rI (fun _ j=>0<=j) fun i j=>.int (i / 2 ^ j.toNat)):=opI fun i j _ _ _ _ _ hc q=>
 rshift_int hc (by rw [g4f i (qe1 _)];exact q)
theorem qmv:OpR X (binaryOp .BitAnd) (rI0 fun i j=>.int (Builtin.bitAnd i j)):=qmp fun _ _ _ _ _ _ _ q=>and_int q
end
def q76:V->V->Bool
 | .non,.non=>true | .non,.int _=>true | .int _,.non=>true | .non,.bl _=>true | .bl _,.non=>true | .non,.str _=>true | .str _,.non=>true
 | .int _,.int _=>true | .bl _,.bl _=>true | .str _,.str _=>true | .byt _,.byt _=>true
 | .int _,.str _=>true | .str _,.int _=>true | .bl _,.str _=>true | .str _,.bl _=>true
 | _,_=>false
def rEq:R2:=fun x y H Q=>q76 x y=true/\Q (.bl (decide (x=y))) H
def rNe:R2:=fun x y H Q=>q76 x y=true/\Q (.bl (!decide (x=y))) H
theorem qcw{i j:Int}: decide (V.int i=V.int j)=(i==j):=by
 rw [uw];simp
theorem qff{i j:Bool}: decide (V.bl i=V.bl j)=(i==j):=by
 rw [uw];simp
theorem qcx{i j:Str}: decide (V.str i=V.str j)=(i==j):=by
 rw [uw];simp
theorem qcy{i j:Array UInt8}: decide (V.byt i=V.byt j)=(i.toList==j.toList):=by
 rw [uw];cases i;cases j;simp
section
variable{X:Cx}{a b c:Expr}{ta tb tc:TE}{pos:Pos}
theorem z9{pins:List (Addr×Obj)}{σ : St}{H:Hp}{s:Shared}{Q:VK}{k k':Bool}(I:Inv X pins σ H s)(q:Q (.bl k) H)(e:k=k'): EP X pins σ Q (.bool k') s:=by
 subst e;exact⟨.bl k,H,I,rfl,q⟩
theorem qol:OpR X (compareOp .Eq) rEq:=by
 intro pins s σ H x y v u Q I rx ry h;obtain⟨hs,q⟩:=h;cases x with
 | non=>
  cases rx;cases y with
  | non=>cases ry;exact PySem.EqNone.eq_none_none (z9 I q (by simp))
  | bl j=>cases ry;exact PySem.EqNone.eq_none_bool (z9 I q (by simp))
  | int j=>obtain⟨t',rfl⟩:=ry;exact PySem.EqNone.eq_none_int (z9 I q (by simp))
  | str j=>obtain⟨t',rfl⟩:=ry;exact PySem.EqNone.eq_none_str (z9 I q (by simp))
  | _=>exact absurd (show false=true from hs) mh
 | bl i=>
  cases rx;cases y with
  | non=>cases ry;exact PySem.EqNone.eq_bool_none (z9 I q (by simp))
  | bl j=>cases ry;exact eq_bool (z9 I q qff)
  | str j=>obtain⟨t',rfl⟩:=ry;exact PySem.EqMixed.eq_bool_str (z9 I q (by simp))
  | _=>exact absurd (show false=true from hs) mh
 | int i=>
  obtain⟨t,rfl⟩:=rx;cases y with
  | non=>cases ry;exact PySem.EqNone.eq_int_none (z9 I q (by simp))
  | int j=>obtain⟨t',rfl⟩:=ry;exact eq_int (z9 I q qcw)
  | str j=>obtain⟨t',rfl⟩:=ry;exact PySem.EqMixed.eq_int_str (z9 I q (by simp))
  | _=>exact absurd (show false=true from hs) mh
 | str i=>
  obtain⟨t,rfl⟩:=rx;cases y with
  | non=>cases ry;exact PySem.EqNone.eq_str_none (z9 I q (by simp))
  | bl j=>cases ry;exact PySem.EqMixed.eq_str_bool (z9 I q (by simp))
  | int j=>obtain⟨t',rfl⟩:=ry;exact PySem.EqMixed.eq_str_int (z9 I q (by simp))
  | str j=>obtain⟨t',rfl⟩:=ry;exact eq_str (z9 I q qcx)
  | _=>exact absurd (show false=true from hs) mh
 | byt i=>
  obtain⟨t,rfl⟩:=rx;cases y with
  | byt j=>obtain⟨t',rfl⟩:=ry;exact PySem.W.eq_bytes (z9 I q qcy)
  | _=>exact absurd (show false=true from hs) mh
 | _=>cases y <;> exact absurd (show false=true from hs) mh
theorem qom:OpR X (compareOp .NotEq) rNe:=by
 intro pins s σ H x y v u Q I rx ry h;obtain⟨hs,q⟩:=h;cases x with
 | non=>
  cases rx;cases y with
  | non=>cases ry;exact PySem.EqNone.ne_none_none (z9 I q (by simp))
  | bl j=>cases ry;exact PySem.EqNone.ne_none_bool (z9 I q (by simp))
  | int j=>obtain⟨t',rfl⟩:=ry;exact PySem.EqNone.ne_none_int (z9 I q (by simp))
  | str j=>obtain⟨t',rfl⟩:=ry;exact PySem.EqNone.ne_none_str (z9 I q (by simp))
  | _=>exact absurd (show false=true from hs) mh
 | bl i=>
  cases rx;cases y with
  | non=>cases ry;exact PySem.EqNone.ne_bool_none (z9 I q (by simp))
  | bl j=>cases ry;exact ne_bool (z9 I q (ug not qff))
  | str j=>obtain⟨t',rfl⟩:=ry;exact PySem.EqMixed.ne_bool_str (z9 I q (by simp))
  | _=>exact absurd (show false=true from hs) mh
 | int i=>
  obtain⟨t,rfl⟩:=rx;cases y with
  | non=>cases ry;exact PySem.EqNone.ne_int_none (z9 I q (by simp))
  | int j=>obtain⟨t',rfl⟩:=ry;exact ne_int (z9 I q (ug not qcw))
  | str j=>obtain⟨t',rfl⟩:=ry;exact PySem.EqMixed.ne_int_str (z9 I q (by simp))
  | _=>exact absurd (show false=true from hs) mh
 | str i=>
  obtain⟨t,rfl⟩:=rx;cases y with
  | non=>cases ry;exact PySem.EqNone.ne_str_none (z9 I q (by simp))
  | bl j=>cases ry;exact PySem.EqMixed.ne_str_bool (z9 I q (by simp))
  | int j=>obtain⟨t',rfl⟩:=ry;exact PySem.EqMixed.ne_str_int (z9 I q (by simp))
  | str j=>obtain⟨t',rfl⟩:=ry;exact ne_str (z9 I q (ug not qcx))
  | _=>exact absurd (show false=true from hs) mh
 | byt i=>
  obtain⟨t,rfl⟩:=rx;cases y with
  | byt j=>obtain⟨t',rfl⟩:=ry;exact PySem.W.ne_bytes (z9 I q (ug not qcy))
  | _=>exact absurd (show false=true from hs) mh
 | _=>cases y <;> exact absurd (show false=true from hs) mh
theorem qon:OpR X (compareOp .Gt) (rI0 fun i j=>.bl (decide (j<i))):=qpi fun _ _ _ _ _ _ _ q=>gt_int q
theorem qke{op:CmpOp}{r:R2}(ho:OpR X (compareOp op) r)(ha:PE X a ta)(hb:PE X b tb)(hm:behindInMarks op b=false): PE X (.Compare a [op] [b] pos) (tOp r ta tb):=by
 intro pins s σ H Q I h;exact wpAny_Compare1 (qhr ha hb I h fun v u s2 x y H2 I2 rx ry q=>ho pins s2 σ H2 x y v u Q I2 rx ry q) hm
def qoo(t:TE): TT:=fun σ H Q=>t σ H fun x H'=>∃k,x=.bl k/\Q k H'
theorem qkf{op:CmpOp}{r:R2}(ho:OpR X (compareOp op) r)(ha:PE X a ta)(hb:PE X b tb)(hm:behindInMarks op b=false): PT X (.Compare a [op] [b] pos) (qoo (tOp r ta tb)):=by
 intro pins s σ H Q I h;refine wpAny_isTrue_Compare1 (thn (ha pins s σ H _ I h) fun v s1 ⟨x,H1,I1,r1,q1⟩=>thn (hb pins s1 σ H1 _ I1 q1) fun u s2 ⟨y,H2,I2,r2,q2⟩=>
  thn (ho pins s2 σ H2 x y v u _ I2 r1 r2 q2) fun c s3 ⟨z,H3,I3,r3,k,e,q3⟩=>?_) hm
 subst e;cases r3;exact g1t ⟨H3,I3,q3⟩
def qhs(K:PySem.W.Frag)(x:V)(H:Hp)(k:Bool): Prop:=
 match x with
 | .non=>k=false
 | .bl b=>k=b
 | .int i=>k=(i != 0)
 | .str y=>y.length<=sizeLine/\k=((y.length:Int) != 0)
 | .byt y=>y.size<=sizeLine/\k=((y.size:Int) != 0)
 | .ref p=>(∃xs,SqL K H p xs/\k = !xs.isEmpty)\/(∃xs,SqT K H p xs/\k = !xs.isEmpty)\/∃kvs,H p=some (.dK kvs)/\k = !kvs.isEmpty
 | _=>False
theorem qe2{κ : Type}{kvs:List (κ × V)}{vs:List (κ × Value)}(r:KV kvs vs): (!vs.isEmpty) = !kvs.isEmpty:=by
 cases r <;> rfl
theorem q63{xs:List V}{its:List Value}(r:Vals xs its): (!its.toArray.isEmpty) = !xs.isEmpty:=by
 cases r <;> simp
theorem q3p:(sizeLine:Nat)<2 ^ 63:=by rw [g28];decide
theorem qmw:qph X (fun x H Q=>∃k,qhs X.K x H k/\Q k H):=by
 intro pins s σ H x v Q I rx h;obtain⟨k,e,q⟩:=h;have hl:=q3p;have hs:sizeLine=16777216:=g28;cases x with
 | non=>
  cases rx;have e':k=false:=e;subst e';exact truthy_none ⟨H,I,q⟩
 | bl b=>
  cases rx;have e':k=b:=e;subst e';exact g1t ⟨H,I,q⟩
 | int i=>
  obtain⟨t,rfl⟩:=rx;have e':k=(i != 0):=e;subst e';exact PySem.P.truthy_int ⟨H,I,q⟩
 | str y=>
  obtain⟨t,rfl⟩:=rx;obtain⟨hy,e'⟩:y.length<=sizeLine/\k=((y.length:Int) != 0):=e;subst e';exact PySem.P.truthy_str (by omega) ⟨H,I.tok _,q⟩
 | byt y=>
  obtain⟨t,rfl⟩:=rx;obtain⟨hy,e'⟩:y.size<=sizeLine/\k=((y.size:Int) != 0):=e;subst e';exact PySem.W.truthy_bytes (by omega) ⟨H,I.tok _,q⟩
 | ref p=>
  cases rx;have e':(∃xs,SqL X.K H p xs/\k = !xs.isEmpty)\/(∃xs,SqT X.K H p xs/\k = !xs.isEmpty)\/∃kvs,H p=some (.dK kvs)/\k = !kvs.isEmpty:=e;rcases e' with⟨xs,hx,e'⟩|⟨xs,hx,e'⟩|⟨kvs,hx,e'⟩
  ·subst e'
   obtain⟨its,r,pl,hz⟩:=I.list hx;have hlen:=r.length;exact wpAny_truthy_list pl.isList (by simp only [gj];omega) ⟨H,I.tok _,by rw [q63 r];exact q⟩
  ·subst e'
   obtain⟨its,r,pl,hz⟩:=I.tuple hx;have hlen:=r.length;exact truthy_tuple pl (by simp only [gj];omega) ⟨H,I.tok _,by rw [q63 r];exact q⟩
  ·subst e'
   obtain⟨hz,hS,vs,r,m⟩:kvs.length<=sizeLine/\(p==sysModules)=false/\∃vs,KV kvs vs/\s.heap.DictOf (mixKind X.prog X.w) p vs:=I.hok p _ hx;have hlen:kvs.length=vs.length:=g4e r;exact wpAny_truthy_dict hS m (by omega) ⟨H,I.tok _,by rw [qe2 r];exact q⟩
 | _=>exact(show False from e).elim
theorem qht(ha:PE X a ta)(he:∀whole,isTrue a X.env whole=(do let v <- whole;standAt a.pos;holding [v] (truthy v))):
  PT X a (fun σ H Q=>ta σ H fun x H'=>∃k,qhs X.K x H' k/\Q k H'):=by
 intro pins s σ H Q I h;exact isTrue_plain (thn (ha pins s σ H _ I h) fun v s1 ⟨x,H1,I1,r1,q1⟩=>qmw pins s1 σ H1 x v Q I1 r1 q1) (he _)
theorem vals1{x:V}{us:List Value}(r:Vals [x] us): ∃u,us=[u]/\RelV x u:=by
 cases r with
 | cons r1 r2=>cases r2;exact⟨_,rfl,r1⟩
def qpl(K:PySem.W.Frag)(x:V)(H:Hp)(n:Nat): Prop:=
 match x with
 | .str y=>y.length<=sizeLine/\n=y.length
 | .byt y=>y.size<=sizeLine/\n=y.size
 | .ref p=>(∃xs,SqL K H p xs/\n=xs.length)\/∃xs,SqT K H p xs/\n=xs.length
 | _=>False
theorem qhu:xm X (.builtin "len") (fun xs H Q=>∃x n,xs=[x]/\qpl X.K x H n/\Q (.int n) H):=by
 intro pins s σ H xs us Q I r h;obtain⟨x,n,rfl,e,q⟩:=h;obtain⟨u,rfl,rx⟩:=vals1 r;have hl:=q3p;have hs:sizeLine=16777216:=g28;cases x with
 | str y=>
  obtain⟨t,rfl⟩:=rx;obtain⟨hy,e'⟩:y.length<=sizeLine/\n=y.length:=e;subst e';exact len_str (by omega) ⟨.int _,H,I.tok _,⟨_,rfl⟩,q⟩
 | byt y=>
  obtain⟨t,rfl⟩:=rx;obtain⟨hy,e'⟩:y.size<=sizeLine/\n=y.size:=e;subst e';exact PySem.W.len_bytes (by omega) ⟨.int _,H,I.tok _,⟨_,rfl⟩,q⟩
 | ref p=>
  cases rx;have e':(∃xs,SqL X.K H p xs/\n=xs.length)\/∃xs,SqT X.K H p xs/\n=xs.length:=e;rcases e' with⟨xs,hx,e'⟩|⟨xs,hx,e'⟩
  ·subst e'
   obtain⟨its,r',pl,hz⟩:=I.list hx;have hlen:=r'.length;exact Calls.call_len_list pl.isList (by simp only [gj];omega) ⟨.int xs.length,H,I.tok _,⟨_,by simp only [gj];rw [hlen]⟩,q⟩
  ·subst e'
   obtain⟨its,r',pl,hz⟩:=I.tuple hx;have hlen:=r'.length;exact len_tuple pl (by simp only [gj];omega) ⟨.int xs.length,H,I.tok _,⟨_,by simp only [gj];rw [hlen]⟩,q⟩
 | _=>exact(show False from e).elim
end
structure ObjM(h:Heap)(x dx C:Addr)(mA:Str->Option Value): Prop where
 obj:h.get? x=some (PySem.W.instObj C dx)
 ns:h.Ns1 dx mA
 ne:dx≠x
theorem qfg{h:Heap}{dx:Addr}{mA:Str->Option Value}(n:h.Ns1 dx mA): ∃od,h.get? dx=some od/\∀name,PySem.W.lookIn name od=some (mA name):=by
 obtain⟨o,es,ep,ho,hd,hk,_,hm⟩:=n;refine⟨o,ho,fun name=>?_⟩;have e:=hm name;unfold nsFind findBy at e;rw [<- Array.find?_toList] at e;unfold PySem.W.lookIn;rw [hd];dsimp only
 split
 ·rename_i y q
  rw [q] at e;exact ug some e
 ·rename_i q
  rw [q] at e;have a:es.toList.any (·.refKey)=false:=by
   rw [List.any_eq_false];intro y hy;obtain⟨z,t,hkey⟩:=hk y (Array.mem_toList_iff.mp hy);simp [DictEntry.refKey,hkey]
  have a':¬es.toList.any (·.refKey)=true:=by rw [a];exact mh
  rw [mf a'];exact ug some e
theorem ObjM.look{h:Heap}{x dx C:Addr}{mA:Str->Option Value}(I:ObjM h x dx C mA): ∃od,PySem.W.InstAt h x (PySem.W.instObj C dx) C (some od)/\∀name,PySem.W.lookIn name od=some (mA name):=
 let⟨od,ho,hl⟩:=qfg I.ns
 ⟨od,⟨I.obj,rfl,rfl,ho⟩,hl⟩
section
variable{prog:Program}{w:World}{A:Around}{E:Value->Shared->Prop}{s:Shared}{K:PySem.W.Frag}{x dx C f:Addr}{mA:Str->Option Value}{name:Str}{v:Value}
end
section
variable{P:Program}{w:World}{H H':Hp}{h h':Heap}{a C dx:Addr}{fs fs':List (Str×V)}
theorem qkg(hok:HOk P w H h)(e:H a=some (.ins C dx fs)): ∃mA,ObjM h a dx C mA/\(∀f,qhm (fs.lookup f) (mA f))/\PySem.Within mA (fs.map (·.1))/\fs.length<=1000/\H dx=some (.own a):=by
 obtain⟨d,z,ne,ob,mA,n,r,q⟩:=(show ObjOk P w H h a (.ins C dx fs) from hok a _ e)
 exact⟨mA,⟨ob,n,ne⟩,r,q,z,d⟩
end
structure Cls(K:PySem.W.Frag)(C:Addr): Prop where
 pg:PySem.W.plainGet K C Str.empty=true
 hd:PySem.W.hasDictIn K C=true
 po:PySem.W.plainOver K C=true
 sa:PySem.W.findIn K (.ref C) "__setattr__" = some (some (.builtin "object.__setattr__"))
section
variable{X:Cx}{pins:List (Addr×Obj)}{σ : St}{H:Hp}{s:Shared}{a C dx:Addr}{fs:List (Str×V)}{f:Str}{v:V}{A:Around}{E:Value->Shared->Prop}
end
section
variable{X:Cx}{o e value:Expr}{f:Str}{pos pos' tpos:Pos}{ta tv:TE}
end
section
variable{X:Cx}{pins:List (Addr×Obj)}{σ : St}{H:Hp}{s:Shared}{A:Around}{E:Value->Shared->Prop}{Q:Value->Shared->Prop}{c:Value}{b:Bool}
end
structure Room(k:Nat)(A:Around): Prop where
 hd:A.handled=none
 dp:A.depth+3*k+5<recursionLimit
 un:A.units+16*k+200<cLine
theorem Room.mono{j k:Nat}{A:Around}(r:Room k A)(h:j<=k): Room j A:=⟨r.hd,by have:=r.dp;omega,by have:=r.un;omega⟩
theorem Room.deeper{k:Nat}{A:Around}(r:Room (k+1) A)(env:Env): Room k (A.deeper env):=
 ⟨r.hd,by have:=r.dp;show A.depth+1+3*k+5<_;omega,by have:=r.un;show A.units+3+16*k+200<_;omega⟩
theorem Room.in1{k:Nat}{A:Around}(r:Room (k+1) A): Room k A.in1:=
 ⟨r.hd,by have:=r.dp;show A.depth+3*k+5<_;omega,by have:=r.un;show A.units+1+16*k+200<_;omega⟩
theorem Room.depth{k:Nat}{A:Around}(r:Room k A): A.depth<recursionLimit:=by have:=r.dp;omega
theorem Room.units{k:Nat}{A:Around}(r:Room k A): A.units+64<cLine:=by have:=r.un;omega
def tNil:TA:=fun _ H Q=>Q [] H
def qop(ta:TE)(tr:TA): TA:=fun σ H Q=>ta σ H fun x H1=>tr σ H1 fun xs H2=>Q (x :: xs) H2
section
variable{X:Cx}{e:Expr}{es:List Expr}{te:TE}{t:TA}{pos:Pos}
theorem q2c:PA X [] tNil:=fun _ _ _ _ H Q I h=>Calls.spliced_nil ⟨[],H,I,.nil,h⟩
theorem q01(ha:PE X e te)(hr:PA X es t)(hs:starEach (e :: es) X.env=(false,eval e X.env) :: starEach es X.env:=by rfl): PA X (e :: es) (qop te t):=by
 intro pos pins s σ H Q I h;rw [hs];show wpAny _ _ (spliced ((false,eval e X.env) :: backTo pos (starEach es X.env))) _ _ s;refine Calls.spliced_cons (thn (ha pins s σ H _ I h) fun u s1 ⟨x,H1,I1,r1,q1⟩=>?_);exact thn (hr pos pins s1 σ H1 _ I1 q1) fun us s2 ⟨xs,H2,I2,r2,q2⟩=>⟨x :: xs,H2,I2,.cons r1 r2,q2⟩
def qpm(t:TA): TE:=fun σ H Q=>t σ H fun xs H1=>xs.length<=sizeLine/\∀p,H1 p=none->Q (.ref p) (upd H1 p (.tup xs))
def qpn(t:TA): TE:=fun σ H Q=>t σ H fun xs H1=>xs.length<=sizeLine/\∀p,H1 p=none->Q (.ref p) (upd H1 p (.lst xs))
theorem qmx{x1}(h:PA X es t): PE X (.Tuple es x1 pos) (qpm t):=by
 intro pins s σ H Q I hq;refine wpAny_Tuple_spliced (thn (h pos pins s σ H _ I hq) fun us s1 ⟨xs,H1,I1,r,z,q⟩=>⟨by rw [<- r.length];exact z,?_⟩);have hf:H1 s1.heap.objs.size=none:=I1.hok.fresh (gu _);refine⟨.ref s1.heap.objs.size,upd H1 s1.heap.objs.size (.tup xs),I1.laid (t':=s1.toks) (fun b u e=>gd _ e) (gu _) ?_,rfl,q _ hf⟩;exact⟨z,us,r,⟨_,gr _ rfl,rfl,_,rfl⟩⟩
theorem qmy(h:PA X es t): PE X (.List es pos) (qpn t):=by
 intro pins s σ H Q I hq;refine wpAny_List_spliced (thn (h pos pins s σ H _ I hq) fun us s1 ⟨xs,H1,I1,r,z,q⟩=>⟨by rw [<- r.length];exact z,?_⟩);have hf:H1 s1.heap.objs.size=none:=I1.hok.fresh (gu _);refine⟨.ref s1.heap.objs.size,upd H1 s1.heap.objs.size (.lst xs),I1.laid (t':=s1.toks) (fun b u e=>gd _ e) (gu _) ?_,rfl,q _ hf⟩;exact⟨z,us,0,r,gr _ rfl⟩
end
abbrev Sp:=List V->Hp->VK->XK->Prop
abbrev CXT:=List Env->Hp->Shared->XK->Value->Shared->Prop
structure Env0(P:Program)(w:World)(K:PySem.W.Frag)(mg:Str->Option Value)(base:Heap)(A:Around)(outer:List Env)(s:Shared)(H:Hp): Prop where
 frames:A.frames=some outer
 mod:Mod K mg base
 bs:∀b o,base.get? b=some o->s.heap.get? b=some o/\H b=none
 bsz:base.objs.size<=s.heap.objs.size
 funs:s.heap.FunFrames base outer
 frf:∀b∈frs outer,H b=none
 hok:HOk P w H s.heap
 bare:AllBare s.gens
def CE(outer:List Env)(P:Program)(w:World)(H:Hp)(s:Shared)(Q:VK)(u:Value)(s':Shared): Prop:=
 ∃v H',s'.os=s.os/\AllBare s'.gens/\Un (frs outer) [] H H' s.heap s'.heap/\HOk P w H' s'.heap/\RelV v u/\Q v H'
def CR(CX:CXT)(outer:List Env)(P:Program)(w:World)(H:Hp)(s:Shared)(Q:VK)(E:XK)(r:Result)(s':Shared): Prop:=
 match r with
 | .ok (.ret u)=>CE outer P w H s Q u s'
 | .ok _=>False
 | .error e=>CX outer H s E e s'
structure FnOk(P:Program)(w:World)(K:PySem.W.Frag)(mg:Str->Option Value)(base:Heap)(CX:CXT)(k:Nat)(f:Addr)(fd:FuncData)(ps:List Str)(sp:Sp): Prop where
 len:∀vs H Q E,sp vs H Q E->vs.length=ps.length
 run:∀(A:Around) (outer:List Env) (s:Shared) (H:Hp) (args:Args) (us:List Value) (vs:List V) (Q:VK) (E:XK),Room k A->Env0 P w K mg base A outer s H->BindsTo s fd args (ps.zip us)->Vals vs us->sp vs H Q E ->
  codeAny (model P w) A (.call (.ref f) args) (CR CX outer P w H s Q E) s
theorem FnOk.imp{P:Program}{w:World}{K:PySem.W.Frag}{mg:Str->Option Value}{base:Heap}{CX:CXT}{k:Nat}{f:Addr}{fd:FuncData}{ps:List Str}{sp sp':Sp}(F:FnOk P w K mg base CX k f fd ps sp)
  (h:∀vs H Q E,sp' vs H Q E->sp vs H Q E):FnOk P w K mg base CX k f fd ps sp':=
 ⟨fun vs H Q E q=>F.len vs H Q E (h _ _ _ _ q),fun A outer s H args us vs Q E hr he hb hv hs=>F.run A outer s H args us vs Q E hr he hb hv (h _ _ _ _ hs)⟩
section
variable{X:Cx}{pins:List (Addr×Obj)}{σ : St}{H:Hp}{s s':Shared}
theorem Inv.env0(I:Inv X pins σ H s): Env0 X.prog X.w X.K X.mg X.base X.A X.stack s H:=
 ⟨I.ok.frames,I.ok.mod,I.bs,ml I.ok.bsz I.sz,I.stack,I.stkFree,I.hok,I.bare⟩
theorem Inv.after{Q:VK}{u:Value}(I:Inv X pins σ H s)(h:CE X.stack X.prog X.w H s Q u s'): EP X pins σ Q u s':=by
 obtain⟨v,H',os,bare,un,hok,r,q⟩:=h;obtain⟨hh,g,d,t,os'⟩:=s';obtain rfl:os'=s.os:=os;exact⟨v,H',I.call (h':=hh) (g':=g) (d':=d) (t':=t) (ch:=[]) un hok bare (fun b z=>absurd z (by simp)),r,q⟩
end
def qoq(sp:Sp)(dvs:List V)(E:XK)(t:TA): TE:=fun σ H Q=>t σ H fun vs H1=>sp (vs++dvs) H1 Q E
def Binds(K:PySem.W.Frag)(fd:FuncData)(ps:List Str)(ds:List Value): Prop:=
 ∀(s:Shared) (us:List Value),K.In s.heap->(us++ds).length=ps.length->BindsTo s fd ⟨us,[]⟩ (ps.zip (us++ds))
theorem Binds.all{K:PySem.W.Frag}{fd:FuncData}{ps:List Str}(h:∀us:List Value,us.length=ps.length->bindArgs fd ⟨us,[]⟩=pure (ps.zip us)): Binds K fd ps []:=fun s us _ hl=>by
 rw [g2c] at hl ⊢;exact .of_eq (h us hl)
def q9h(CX:CXT)(X:Cx)(E:XK): Prop:=∀(pins:List (Addr×Obj)) (σ : St) (H:Hp) (s:Shared) (e:Value) (s':Shared),Inv X pins σ H s->CX X.stack H s E e s'->X.xe e s'
section
variable{X:Cx}{CX:CXT}{k:Nat}{f C:Addr}{fd:FuncData}{ps:List Str}{sp:Sp}{dvs:List V}{ds:List Value}{E:XK}{x m:Str}{p pos apos:Pos}{e o:Expr}{es:List Expr}{ta:TE}{t:TA}
theorem qmz{pins:List (Addr×Obj)}{σ : St}{H:Hp}{s:Shared}{Q:VK}{us:List Value}{vs:List V}(F:FnOk X.prog X.w X.K X.mg X.base CX k f fd ps sp)(hr:Room k X.A)(hb:Binds X.K fd ps ds)(hd:Vals dvs ds)(hx:q9h CX X E)
  (I:Inv X pins σ H s) (r:Vals vs us) (h:sp (vs++dvs) H Q E):wpAny (model X.prog X.w) X.A (call (.ref f) us) (EP X pins σ Q) X.xe s:=by
 have r2:Vals (vs++dvs) (us++ds):=r.append hd;have hl:(us++ds).length=ps.length:=by rw [<- r2.length];exact F.len _ _ _ _ h
 refine g4t (g2g (F.run X.A X.stack s H ⟨us,[]⟩ (us++ds) (vs++dvs) Q E hr I.env0 (hb s us I.kIn hl) r2 h) fun r s' hq=>?_);cases r with
 | error e=>exact hx pins σ H s e s' I hq
 | ok fl=>
  cases fl with
  | ret u=>exact I.after hq
  | next=>exact False.elim hq
  | brk=>exact False.elim hq
  | cont=>exact False.elim hq
theorem qkh(F:FnOk X.prog X.w X.K X.mg X.base CX k f fd ps sp)(hr:Room k X.A)(hg:Gl X x)(hm:X.mg x=some (.ref f))(hk:PySem.W.keepIn X.K (.ref f)=true)(hb:Binds X.K fd ps ds)(hd:Vals dvs ds)(hx:q9h CX X E)
  (ha:PA X (e :: es) t) (hdb:(x==("__debug__" : Str))=false:=by decide) (he:starEach (e :: es) X.env=(false,eval e X.env) :: starEach es X.env:=by rfl) (hpl:(backTo pos (starEach es X.env)).any (·.1)=false:=by rfl) :
  PE X (.Call (.Name x p) (e :: es) [] pos) (qoq sp dvs E t):=by
 intro pins s σ H Q I h;refine g1o (qct I hg hm ?_ hdb);refine PySem.W.callWith_K (h₀:=X.base) I.ok.mod.kin hk (thn (ha pos pins s σ H _ I h) fun us s1 ⟨vs,H1,I1,r,q⟩=>⟨I1.kIn,?_⟩) he hpl;exact qmz F hr hb hd hx I1 r q
end
section
variable{X:Cx}{CX:CXT}{k:Nat}{f C:Addr}{fd:FuncData}{ps ks:List Str}{sp:Sp}{E:XK}{x m:Str}{p pos apos kpos:Pos}{e o:Expr}{es:List Expr}{kws:List Keyword}{te ta:TE}{t tk:TA}{nm:Option Str}
variable{g:List Value->List Value->List Value}{gV:List V->List V->List V}
end
structure FnScope(N P:List Str)(sc:Scope): Prop where
 kind:sc.kind=.function
 co:sc.isCoroutine=false
 gen:sc.isGenerator=false
 nd:N.Nodup
 pre:N.take P.length=P
 par:∀x∈P,sc.names.lookup x=some .local\/sc.names.lookup x=some .cell
 nofree:∀y∈sc.names,y.2 ≠ .free
theorem q7z{kindOf:Str->Option NameKind}{x:Str}: ∀ {binds:List (Str×Value)} {m:Str->Option Value},(∀v,(x,v)∉binds)->bindL kindOf binds m x=m x
 | [],_,_=>rfl
 | (n,v) :: r,m,h=>by
  unfold bindL;rw [q7z fun w hw=>h w (m5 _ hw)]
  split
  ·have:x≠n:=by rintro rfl;exact h v m4
   simp [this]
  ·rfl
theorem q80{kindOf:Str->Option NameKind}{x:Str}: ∀ {binds:List (Str×Value)} {m:Str->Option Value},(∀v,(x,v)∉binds)->bindC kindOf binds m x=m x
 | [],_,_=>rfl
 | (n,v) :: r,m,h=>by
  unfold bindC;rw [q80 fun w hw=>h w (m5 _ hw)]
  split
  ·rfl
  ·have:x≠n:=by rintro rfl;exact h v m4
   simp [this]
theorem q81{kindOf:Str->Option NameKind}{x:Str}{v:Value}: ∀ {P:List Str} {vs:List Value} {i:Nat} {m:Str->Option Value},P.Nodup->P[i]? = some x->vs[i]? = some v->kindOf x=some .local ->
  bindL kindOf (P.zip vs) m x=some v
 | [],_,_,_,_,h,_,_=>by simp at h
 | _ :: _,[],_,_,_,_,h,_=>by simp at h
 | p :: P,w :: vs,0,m,nd,h1,h2,hk=>by
  simp at h1 h2;subst h1;subst h2;show bindL kindOf ((p,w) :: P.zip vs) m p=_;unfold bindL;rw [q7z fun v hv=>(g0o.mp nd).1 (g2d hv).1,mi hk];simp
 | p :: P,w :: vs,i+1,m,nd,h1,h2,hk=>by
  show bindL kindOf ((p,w) :: P.zip vs) m x=_;unfold bindL;exact q81 (i:=i) (g0o.mp nd).2 (by simpa using h1) (by simpa using h2) hk
theorem q82{kindOf:Str->Option NameKind}{x:Str}{v:Value}: ∀ {P:List Str} {vs:List Value} {i:Nat} {m:Str->Option Value},P.Nodup->P[i]? = some x->vs[i]? = some v->kindOf x≠some .local ->
  bindC kindOf (P.zip vs) m x=some v
 | [],_,_,_,_,h,_,_=>by simp at h
 | _ :: _,[],_,_,_,_,h,_=>by simp at h
 | p :: P,w :: vs,0,m,nd,h1,h2,hk=>by
  simp at h1 h2;subst h1;subst h2;show bindC kindOf ((p,w) :: P.zip vs) m p=_;unfold bindC;rw [q80 fun v hv=>(g0o.mp nd).1 (g2d hv).1,mf hk];simp
 | p :: P,w :: vs,i+1,m,nd,h1,h2,hk=>by
  show bindC kindOf ((p,w) :: P.zip vs) m x=_;unfold bindC;exact q82 (i:=i) (g0o.mp nd).2 (by simpa using h1) (by simpa using h2) hk
def start(N:List Str)(vs:List V): St:=vs.map some++List.replicate (N.length-vs.length) none
def zj(CX:CXT)(P:Program)(w:World)(K:PySem.W.Frag)(mg:Str->Option Value)(base:Heap)(N:List Str)(qual:Str)(scope:Scope)(f:Addr)(cd:Value)(A:Around)(outer:List Env)(s:Shared)(H:Hp)(E:XK): Cx where
 prog:=P
 w:=w
 K:=K
 mg:=mg
 base:=base
 A:=A.deeper (envOfC qual scope s.heap.objs.size f cd)
 N:=N
 s₀:=s
 H₀:=H
 env:=envOfC qual scope s.heap.objs.size f cd
 outer:=outer
 stack:=envOfC qual scope s.heap.objs.size f cd :: outer
 ex:=[]
 calm:=true
 fn:=fun _=>true
 pn:=[]
 xe:=fun e s'=>wpAny (model P w) (A.deeper (envOfC qual scope s.heap.objs.size f cd)) (leaving (envOfC qual scope s.heap.objs.size f cd) e) (fun _ s''=>CX outer H s E e s'') (fun e' s''=>CX outer H s E e' s'') s'
theorem q9i{sc:Scope}{n:Nat}{x:Str}(h:sc.names.lookup x=some .cell): ∃c,(cellsFrom n sc.names []).lookup x=some c:=by
 have q:=g35 sc.names n [] (.inl h);exact g0p.mp q
theorem q83{CX:CXT}{P:Program}{w:World}{K:PySem.W.Frag}{mg:Str->Option Value}{base:Heap}{N ps:List Str}{qual:Str}{scope:Scope}{f:Addr}{cd:Value}{A:Around}{outer:List Env}{s s1:Shared}{H:Hp}{E:XK}{us:List Value}{vs:List V}
  (S:FnScope N ps scope) (hd:A.handled=none) (e0:Env0 P w K mg base A outer s H) (hl:vs.length=ps.length) (r:Vals vs us)
  (x:InCallC s s.heap.objs.size (bindL (envOfC qual scope s.heap.objs.size f cd).kindOf (ps.zip us) fun _=>none) (cellsFrom (s.heap.objs.size+1) scope.names []) (bindC (envOfC qual scope s.heap.objs.size f cd).kindOf (ps.zip us) fun _=>none) s1) :
  Inv (zj CX P w K mg base N qual scope f cd A outer s H E) [] (start N vs) H s1:=by
 have hpl:ps.length<=N.length:=by have:=ug List.length S.pre;rw [ni] at this;omega
 obtain⟨h1,tk,rfl,hk⟩:=x.done;have noA:∀b:Addr,b∉(zj CX P w K mg base N qual scope f cd A outer s H E).ex:=fun b z=>absurd (show b∈([]:List Addr) from z) (by simp);refine⟨⟨e0.mod,S.kind,rfl,rfl,gu _,fun y z c h1 h2=>?_,fun y hy=>?_,fun y c _ h=>?_,fun _=>hd,Around.frames_deeper e0.frames,.inr ⟨rfl,rfl⟩,fun b z=>absurd z (noA b),e0.bs,e0.bsz,fun b _ _=>noA b,fun b z=>absurd z (noA b),e0.funs,e0.frf⟩,
  rfl,e0.bare,Un.kept hk,⟨_,x.toInCall.ns,fun i y v h1 h2 h3=>?_⟩,fun y c h=>⟨_,x.cell y c h⟩,e0.hok.fresh (gu _),fun y c h=>?_,fun p hp=>absurd (show p∈([]:List (Addr×Obj)) from hp) (by simp),e0.hok.kept hk,?_⟩
 ·exact name_of_addr x.apart (g1j h1) (g1j h2)
 ·have hy:scope.names.lookup y=some .cell\/scope.names.lookup y=some .free:=hy
  rcases hy with hy|hy
  ·exact q9i hy
  ·exact absurd rfl (S.nofree _ (g1j hy))
 ·exact g50 (x.above y c (g1j h))
 ·have hi:i<vs.length:=by
   unfold start at h2
   by_cases hi:i<vs.length
   ·exact hi
   ·rw [uc (by simpa using hi)] at h2
    rw [g0e] at h2
    split at h2 <;> cases h2
  have ha:vs[i]? = some v:=by
   unfold start at h2;rw [t7 (by simpa using hi),mn] at h2;cases e:vs[i]? with
   | none=>rw [e] at h2;cases h2
   | some a=>rw [e] at h2;cases h2;rfl
  obtain⟨u,hu,rv⟩:=r.get ha;have hp:ps[i]? = some y:=by
   rw [<- S.pre,g2h (by omega)];exact h1
  have ndP:ps.Nodup:=by rw [<- S.pre];exact S.nd.sublist (List.take_sublist _ _)
  refine⟨u,rv,?_⟩;rcases S.par y (tq hp) with k|k
  ·exact .inl ⟨k,q81 ndP hp hu k⟩
  ·obtain⟨c,e⟩:=q9i (n:=s.heap.objs.size+1) k
   refine .inr ⟨.inl k,c,e,?_⟩;have q:=x.cell y c e;rw [q82 ndP hp hu (by show scope.names.lookup y≠_;rw [k];decide)] at q;exact q
 ·exact e0.hok.fresh (g50 (x.above y c (g1j h)))
 ·unfold start
  show _=N.length;rw [pz,mj,g5q];omega
theorem qor{CX:CXT}{P:Program}{w:World}{K:PySem.W.Frag}{mg:Str->Option Value}{base:Heap}{k:Nat}{f:Addr}{name qual:Str}{params:Arguments}{body:List Stmt}{scope:Scope}{dV kV doc pm cdv ct oc:Value}{an od:Option Addr}
  {osl:Array (Option Value)} {N ps:List Str} {sp:Sp} (lk:K.lookup f=some ⟨oc,od,.func (PySem.W.fnOf name qual params body scope dV kV doc pm an cdv ct),osl⟩) (hcd:PySem.W.codeIn K cdv qual=true) (S:FnScope N ps scope)
  (len:∀vs H Q E,sp vs H Q E->vs.length=ps.length)
  (hbody:∀(A:Around) (outer:List Env) (s:Shared) (H:Hp) (vs:List V) (Q:VK) (E:XK),Room k (A.deeper (envOfC qual scope s.heap.objs.size f cdv))->sp vs H Q E ->
   ∃t,PSs (zj CX P w K mg base N qual scope f cdv A outer s H E) body t/\t {nx:=fun _ H'=>Q .non H',rt:=Q} (start N vs) H) :
  FnOk P w K mg base CX (k+1) f (PySem.W.fnOf name qual params body scope dV kV doc pm an cdv ct) ps sp:=by
 refine⟨len,fun A outer s H args us vs Q E hr e0 hb r hsp=>?_⟩;have hl:=len _ _ _ _ hsp;have KX:K.In s.heap:=e0.mod.kin.keeps fun b o e=>(e0.bs b o e).1;have lim:s.heap.NoLimit:=e0.mod.nolimit.keeps fun b o e=>(e0.bs b o e).1;have hkind:∀y∈ps.zip us,scope.names.lookup y.1=some .local\/(scope.names.lookup y.1=some .cell/\((cellsFrom (s.heap.objs.size+1) scope.names []).lookup y.1).isSome=true):=fun⟨n,v⟩ hy=>by
  rcases S.par n (g2d hy).1 with q|q
  ·exact .inl q
  ·exact .inr ⟨q,g35 _ _ _ (.inl q)⟩
 refine codeAny_call_function hr.depth (KX _ _ lk) rfl S.co S.gen rfl (PySem.W.codeRec_of KX hcd) (hb _ _ _ _ ?_);refine wpAny_newFunctionEnv_cells S.kind hkind fun env he s1 x=>?_;subst he;refine⟨lim.keeps x.toInCall.keep,codeAny_func ?_⟩;obtain⟨t,ht,hq⟩:=hbody A outer s H vs Q E (hr.deeper _) hsp;have I:Inv (zj CX P w K mg base N qual scope f cdv A outer s H E) [] (start N vs) H s1:=q83 S hr.hd e0 hl r x;refine tm (ht [] s1 (start N vs) H _ I hq) (fun fl s' hs=>?_) fun e s' hs=>hs;have fin:∀ {σ':St} {H':Hp} {v:V} {u:Value},Inv (zj CX P w K mg base N qual scope f cdv A outer s H E) [] σ' H' s'->RelV v u->Q v H'->CE outer P w H s Q u s':=
  fun {σ' H' v u} J rv q=>⟨v,H',J.os,J.bare,J.base,J.hok,rv,q⟩
 cases fl with
 | ret u=>
  obtain⟨v, σ',H',J,rv,q⟩:=hs;exact fin J rv q
 | next=>
  obtain⟨σ',H',J,q⟩:=hs;exact fin (v:=V.non) (u:=Value.none) J rfl q
 | brk=>
  obtain⟨_,_,_,q⟩:=hs;exact False.elim q
 | cont=>
  obtain⟨_,_,_,q⟩:=hs;exact False.elim q
section
variable{X:Cx}{x:Str}{p pos:Pos}{e:Expr}{es:List Expr}{t:TA}{id T:String}{r:List V->Hp->VK->Prop}
def tCB(r:List V->Hp->VK->Prop)(t:TA): TE:=fun σ H Q=>t σ H fun vs H1=>r vs H1 Q
theorem q2r(hc:xm X (.builtin id) r)(hg:Gl X x)(hm:X.mg x=none)(hv:bootBuiltins x=some (.builtin id))(ha:PA X (e :: es) t)(hn:x≠"__name__" :=by decide)(hdb:(x==("__debug__" : Str))=false:=by decide)
  (he:starEach (e :: es) X.env=(false,eval e X.env) :: starEach es X.env:=by rfl) (hpl:(backTo pos (starEach es X.env)).any (·.1)=false:=by rfl):PE X (.Call (.Name x p) (e :: es) [] pos) (tCB r t):=by
 intro pins s σ H Q I h;refine g1o (q15 I hg hm hv ?_ hn hdb);exact PyProof.Rows.callWith_builtin1 (thn (ha pos pins s σ H _ I h) fun us s1 ⟨vs,H1,I1,r1,q1⟩=>hc pins s1 σ H1 vs us Q I1 r1 q1) he hpl
theorem q3q(hc:xm X (.type T) r)(hg:Gl X x)(hm:X.mg x=none)(hv:bootBuiltins x=some (.type T))(ha:PA X (e :: es) t)(hn:x≠"__name__" :=by decide)(hdb:(x==("__debug__" : Str))=false:=by decide)
  (he:starEach (e :: es) X.env=(false,eval e X.env) :: starEach es X.env:=by rfl) (hpl:(backTo pos (starEach es X.env)).any (·.1)=false:=by rfl):PE X (.Call (.Name x p) (e :: es) [] pos) (tCB r t):=by
 intro pins s σ H Q I h;refine g1o (q15 I hg hm hv ?_ hn hdb);exact g22 (thn (ha pos pins s σ H _ I h) fun us s1 ⟨vs,H1,I1,r1,q1⟩=>hc pins s1 σ H1 vs us Q I1 r1 q1) he hpl
end
end L2
namespace HT
open PySem PyProof.Rows
section
open PySem.SeqAt
open PySem.AutoSeq1 (wpAny_loadPart')
open PySem.MeetsSeq PySem.MeetsSeq2 PySem.MeetsSeq3
end
section
variable{prog:Program}{w:World}{A:Around}{E:Value->Shared->Prop}{s:Shared}
theorem cat_tup{t b:Addr}{vs ws:List Value}{Q:Value->Shared->Prop}(ht:IsTup s.heap t vs.toArray)(hb:IsTup s.heap b ws.toArray)(hv:vs≠[])
  (h1:ws=[]->Q (.ref t) s) (h2:ws≠[]->Q (.ref s.heap.objs.size) {s with heap:=s.heap.push {cls:=.type "tuple",data:=.seq (vs++ws).toArray} })
  (hsz:vs.length+ws.length<=sizeLine):wpAny (model prog w) A (binaryOp .Add (.ref t) (.ref b)) Q E s:=by
 obtain⟨⟨cls,dd,data,sl⟩,ho,hc,n,hd⟩:=id ht;obtain⟨⟨cls2,dd2,data2,sl2⟩,ho2,hc2,n2,hd2⟩:=id hb;simp only at hc hd hc2 hd2;subst hc hd hc2 hd2;have e:vs.toArray++ws.toArray=(vs++ws).toArray:=by simp
 by_cases hw:ws=[]
 ·exact g52 ⟨_,ho,rfl⟩ ⟨_,ho2,rfl⟩ g53 seq_tuple_add g36 g2v (g2i _ _)
   (tuple_addW1 t b vs.toArray ws.toArray n n2 dd dd2 sl sl2 (by simpa using hv) (by simp [hw])) ⟨ho,ho2,h1 hw⟩
 ·refine g52 ⟨_,ho,rfl⟩ ⟨_,ho2,rfl⟩ g53 seq_tuple_add g36 g2v (g2i _ _)
   (tuple_addW2 t b vs.toArray ws.toArray n n2 dd dd2 sl sl2 (by simpa using hv) (by simpa using hw) (by rw [gj,gj];exact hsz)) ⟨ho,ho2,?_⟩
  rw [e];exact h2 hw
def sIx(n d:Nat): Option Int->Nat
 | none=>d
 | some v=>if v<0 then(v+(n:Int)).toNat else min v.toNat n
theorem sIx_none(n d:Nat): sIx n d none=d:=rfl
theorem sIx_nat(n d k:Nat): sIx n d (some (k:Int))=min k n:=by
 show(if(k:Int)<0 then((k:Int)+(n:Int)).toNat else min (k:Int).toNat n)=min k n;rw [mf (by omega),nt]
theorem qn0(n d:Nat)(hd:d<=n)(o:Option Int): sIx n d o<=n:=by
 cases o with
 | none=>exact hd
 | some v=>
  show(if v<0 then(v+(n:Int)).toNat else min v.toNat n)<=n
  by_cases hv:v<0
  ·rw [mi hv];omega
  ·rw [mf hv];exact Nat.min_le_right _ _
theorem qcz(v:Int)(n d:Nat): (if v<0 then max (v+(n:Int)) 0 else min v (n:Int))=((sIx n d (some v):Nat):Int):=by
 show(if v<0 then max (v+(n:Int)) 0 else min v (n:Int))=(((if v<0 then(v+(n:Int)).toNat else min v.toNat n):Nat):Int)
 by_cases hv:v<0
 ·simp only [mi hv];omega
 ·simp only [mf hv];omega
theorem qe3(lo hi:Option Int)(n:Nat): Builtin.Slice.sliceAdjust lo hi 1 (n:Int)=(((sIx n 0 lo:Nat):Int),((sIx n n hi:Nat):Int)):=by
 have h1:¬((1:Int)<0):=by omega
 unfold Builtin.Slice.sliceAdjust;simp only [h1,p0];refine Prod.ext ?_ ?_
 ·cases lo with
  | none=>rfl
  | some v=>exact qcz v n 0
 ·cases hi with
  | none=>rfl
  | some v=>exact qcz v n n
theorem qe4(i j:Nat): Builtin.Slice.slicePlaces (i:Int) (j:Int) 1=j-i:=by
 unfold Builtin.Slice.slicePlaces;have h1:(1:Int)>0:=by omega
 simp only [h1,ny,Int.ediv_one]
 split <;> omega
theorem q64{v:Value}{o:Option Int}{Q:Option Int->Shared->Prop}(p:IsPart v o)(h:Q o s): wpAny (model prog w) A (Builtin.Slice.slicePartIndex v) Q E s:=by
 cases p with
 | none=>exact slicePart_none h
 | int i t=>exact slicePart_int h
theorem sliceApplied_gen{sl:Addr}{vl vu:Value}{lo hi:Option Int}{n:Nat}{Q:Int×Int×Nat->Shared->Prop}(hs:s.heap.IsSliceOf sl vl vu .none)(pl:IsPart vl lo)(pu:IsPart vu hi)
  (h:Q (((sIx n 0 lo:Nat):Int),1,sIx n n hi-sIx n 0 lo) s):wpAny (model prog w) A (Builtin.Slice.sliceApplied (.ref sl) (pure (n:Int))) Q E s:=by
 obtain⟨os,hos,hcs,hds⟩:=id hs;unfold Builtin.Slice.sliceApplied Builtin.Slice.sliceFields;refine g0 (g0 (g05 hos hds (x:=vl) rfl (g0 (g05 hos hds (x:=vu) rfl (g0 (g05 hos hds (x:=.none) rfl (g9 ?_)))))));refine g0 (slicePart_none ?_);show wpAny _ _ (if((1:Int)==0)=true then _ else _) _ _ s;rw [mf (by decide)];refine g0 (q64 pl (g0 (q64 pu (g0 (g9 ?_)))));show wpAny _ _ (match Builtin.Slice.sliceAdjust lo hi 1 (n:Int) with|(lo,hi)=>pure (lo,(1:Int),Builtin.Slice.slicePlaces lo hi 1)) _ _ s;rw [qe3 lo hi n];show wpAny _ _ (pure (((sIx n 0 lo:Nat):Int),(1:Int),Builtin.Slice.slicePlaces ((sIx n 0 lo:Nat):Int) ((sIx n n hi:Nat):Int) 1)) _ _ s;rw [qe4];exact g9 h
theorem qhv(xs:Array Value)(i k:Nat): ((List.range k).filterMap fun(m:Nat)=>xs[((i:Int)+(m:Int)*1).toNat]?).toArray=((xs.toList.drop i).take k).toArray:=by
 have e:(fun(m:Nat)=>xs[((i:Int)+(m:Int)*1).toNat]?)=fun m=>xs[i+m]? :=by
  funext m
  have:((i:Int)+(m:Int)*1).toNat=i+m:=by omega
  rw [this]
 rw [e];have:=pick_run xs i k;rw [g2j] at this;have e2:((fun x=>xs[x]?) ∘ fun x=>i+x)=fun m=>xs[i+m]? :=rfl;rw [e2] at this;rw [this]
theorem getItem_tuple_cut{t sl:Addr}{items:Array Value}{vl vu:Value}{lo hi:Option Int}{Q:Value->Shared->Prop}(ht:IsTup s.heap t items)(hs:s.heap.IsSliceOf sl vl vu .none)(pl:IsPart vl lo)(pu:IsPart vu hi)
  (hw:¬(sIx items.size 0 lo=0/\sIx items.size items.size hi=items.size))
  (h:Q (.ref s.heap.objs.size) {s with heap:=s.heap.push {cls:=.type "tuple",data:=.seq ((items.toList.drop (sIx items.size 0 lo)).take (sIx items.size items.size hi-sIx items.size 0 lo)).toArray} })
  (hsz:items.size<=sizeLine):wpAny (model prog w) A (getItem (.ref t) (.ref sl)) Q E s:=by
 have htake:sizeOk (.seq ((items.toList.drop (sIx items.size 0 lo)).take (sIx items.size items.size hi-sIx items.size 0 lo)).toArray):=by
  show((items.toList.drop (sIx items.size 0 lo)).take (sIx items.size items.size hi-sIx items.size 0 lo)).toArray.size<=sizeLine;rw [gj,ni,ui,ng];omega
 have hj:sIx items.size items.size hi<=items.size:=qn0 _ _ (gu _) hi;obtain⟨os,hos,hcs,hds⟩:=id hs;have hTs:s.TypeIs (.ref sl) "slice" :=⟨os,hos,hcs⟩
 unfold getItem
 try with_reducible refine nz ?_
 first|refine g0 (g9 ?_)|skip
 refine g0 (wpAny_sequenceKey ht.typeIs (by decide) ?_);refine g0 (t6 (name:=Str.ofString "__getitem__") ht.typeIs uq
  (p5 uq ht.typeIs entry_tuple_getitem ?_ (args_tuple_getitem _ _)))
 show wpAny _ _ (Builtin.Tuple.tupleItemsOf (.ref t) >>= _) _ _ s;refine g0 (tupleItemsOf_ ht ?_);refine g0 (g1c hTs ?_);rw [mi (by decide)];refine g0 (sliceApplied_gen hs pl pu ?_);have hno:¬((((sIx items.size 0 lo:Nat):Int)==0&&(1:Int)==1&&(sIx items.size items.size hi-sIx items.size 0 lo)==items.size)=true):=by
  intro q;rw [m6,m6] at q;have q1:((sIx items.size 0 lo:Nat):Int)=0:=eq_of_beq q.1.1;have q2:sIx items.size items.size hi-sIx items.size 0 lo=items.size:=eq_of_beq q.2;exact hw ⟨by omega,by omega⟩
 show wpAny _ _ (if(((sIx items.size 0 lo:Nat):Int)==0&&(1:Int)==1&&(sIx items.size items.size hi-sIx items.size 0 lo)==items.size)=true then _ else _) _ _ s;rw [mf hno,qhv]
 first
  | exact g0 (m:=Builtin.Tuple.tupleExact _) (td (g9 ⟨_,rfl,g9 h⟩) htake)
  | exact g0 (m:=Builtin.Tuple.tupleExact _) (td (g0 (g9 (g9 ⟨_,rfl,g9 h⟩))) htake)
  | exact g0 (g0 (m:=Builtin.Tuple.tupleExact _) (td (g9 (g9 ⟨_,rfl,g9 h⟩)) htake))
  | exact g0 (g0 (m:=Builtin.Tuple.tupleExact _) (td (g9 ⟨_,rfl,g9 h⟩) htake))
end
end HT
namespace L2
open PySem PySem.Spec PyProof.Rows
abbrev TO:=St->Hp->(Option Int->Hp->Prop)->Prop
def PO(X:Cx)(e:Option Expr)(t:TO): Prop:=
 ∀(pins:List (Addr×Obj)) (s:Shared) (σ : St) (H:Hp) (Q:Option Int->Hp->Prop),Inv X pins σ H s->t σ H Q ->
  wpAny (model X.prog X.w) X.A (evalPart e X.env) (fun u s'=>∃o H',Inv X pins σ H' s'/\IsPart u o/\Q o H') X.xe s
def tNoPart:TO:=fun _ H Q=>Q none H
def qos(t:TE): TO:=fun σ H Q=>t σ H fun x H1=>∃i,x=.int i/\Q (some i) H1
theorem intsAre_of{ns:List Int}: ∀ {us:List Value},Vals (ns.map V.int) us->IntsAre us ns:=by
 induction ns with
 | nil=>intro us r;rw [g10] at r;cases r;exact .nil
 | cons n ns ih=>
  intro us r;rw [gv] at r;cases r with
  | cons r1 r2=>
   obtain⟨t,e⟩:=r1;subst e;exact .cons n t (ih r2)
section
variable{X:Cx}{e:Expr}{te:TE}{lo hi:Option Expr}{tl th:TO}{pos p2:Pos}
theorem qki:PO X none tNoPart:=by
 intro pins s σ H Q I h;rw [evalPart_none];exact g9 ⟨none,H,I,.none,h⟩
theorem qkj(h:PE X e te): PO X (some e) (qos te):=by
 intro pins s σ H Q I hw;rw [evalPart_some];refine thn (h pins s σ H _ I hw) fun u s1 ⟨x,H1,I1,r1,q1⟩=>?_;obtain⟨i,rfl,q⟩:=q1;obtain⟨t,rfl⟩:=r1;exact⟨some i,H1,I1,.int i t,q⟩
def SlR(X:Cx)(r:V->Option Int->Option Int->Hp->VK->Prop): Prop:=
 ∀(pins:List (Addr×Obj)) (s:Shared) (σ : St) (H:Hp) (x:V) (v vl vu:Value) (lo hi:Option Int) (sl:Addr) (Q:VK),Inv X pins σ H s->RelV x v->s.heap.IsSliceOf sl vl vu .none->IsPart vl lo->IsPart vu hi->r x lo hi H Q ->
  ∃T id,typeLookup (.type T) "__getitem__" = pure (some (.builtin id))/\s.TypeIs v T/\wpAny (model X.prog X.w) X.A (getItem v (.ref sl)) (EP X pins σ Q) X.xe s
theorem SlR.or{r r':V->Option Int->Option Int->Hp->VK->Prop}(h:SlR X r)(h':SlR X r'): SlR X (fun x lo hi H Q=>r x lo hi H Q\/r' x lo hi H Q):=by
 intro pins s σ H x v vl vu lo hi sl Q I rx hs pl pu q;rcases q with q|q
 ·exact h pins s σ H x v vl vu lo hi sl Q I rx hs pl pu q
 ·exact h' pins s σ H x v vl vu lo hi sl Q I rx hs pl pu q
def tSl(r:V->Option Int->Option Int->Hp->VK->Prop)(te:TE)(tl th:TO): TE:=fun σ H Q=>te σ H fun x H1=>tl σ H1 fun l H2=>th σ H2 fun u H3=>r x l u H3 Q
theorem qhw{r:V->Option Int->Option Int->Hp->VK->Prop}(hr:SlR X r)(he:PE X e te)(hl:PO X lo tl)(hu:PO X hi th): PE X (.Subscript e (.Slice lo hi none p2) pos) (tSl r te tl th):=by
 intro pins s σ H Q I h;refine Subscript_ (thn (he pins s σ H _ I h) fun v s1 ⟨x,H1,I1,r1,q1⟩=>?_);refine wpAny_Slice (thn (hl pins s1 σ H1 _ I1 q1) fun vl s2 ⟨l,H2,I2,pl,q2⟩=>thn (hu pins s2 σ H2 _ I2 q2) fun vu s3 ⟨u,H3,I3,pu,q3⟩=>?_);rw [evalPart_none];refine g9 ?_;have I4:Inv X pins σ H3 {s3 with heap:=s3.heap.push {cls:=.type "slice",data:=.fields #[vl,vu,.none]} }:=I3.kept (t':=s3.toks) fun b ob q=>gd _ q;obtain⟨T,id,hT,ht,hg⟩:=hr pins {s3 with heap:=s3.heap.push {cls:=.type "slice",data:=.fields #[vl,vu,.none]} } σ H3 x v vl vu l u s3.heap.objs.size Q I4 r1 (Heap.IsSliceOf.new ..) pl pu q3;show wpAny (model X.prog X.w) X.A (subscriptTail e (.Slice lo hi none p2) v (.ref s3.heap.objs.size)) (EP X pins σ Q) X.xe {s3 with heap:=s3.heap.push {cls:=.type "slice",data:=.fields #[vl,vu,.none]} };exact tail_any (ops:=[.ref s3.heap.objs.size,v]) ht hT hg (by with_unfolding_all rfl)
def q0n(xs:List V)(lo hi:Option Int): List V:=(xs.drop (HT.sIx xs.length 0 lo)).take (HT.sIx xs.length xs.length hi-HT.sIx xs.length 0 lo)
theorem q4z(xs:List V)(lo hi:Option Int): (q0n xs lo hi).length<=xs.length:=by
 unfold q0n;rw [ni,ui];omega
def qpo(K:PySem.W.Frag): V->Option Int->Option Int->Hp->VK->Prop:=fun x lo hi H Q=>∃a xs,x=.ref a/\SqT K H a xs /\
 ¬(HT.sIx xs.length 0 lo=0/\HT.sIx xs.length xs.length hi=xs.length)/\∀p,H p=none->Q (.ref p) (upd H p (.tup (q0n xs lo hi)))
theorem sl_tup:SlR X (qpo X.K):=by
 intro pins s σ H x v vl vu lo hi sl Q I rx hs pl pu h;obtain⟨a,xs,rfl,hx,hw,q⟩:=h;cases rx;obtain⟨its,r,ht,hz⟩:=I.tuple hx;have hlen:its.toArray.size=xs.length:=by rw [gj];exact r.length.symm
 refine⟨"tuple",_,uq.lookup,ht.typeIs,?_⟩;refine HT.getItem_tuple_cut ht hs pl pu (by rw [hlen];exact hw) ?_ (by rw [hlen];exact hz);rw [hlen];refine⟨.ref s.heap.objs.size,_,I.laid (t':=s.toks) (o:=.tup (q0n xs lo hi)) (fun b ob q=>gd _ q) (gu _) ?_,rfl,q _ (I.hok.fresh (gu _))⟩;exact⟨ml (q4z xs lo hi) hz,_,(r.drop (HT.sIx xs.length 0 lo)).take (HT.sIx xs.length xs.length hi-HT.sIx xs.length 0 lo),IsTup.new _ _⟩
def qot(K:PySem.W.Frag): R2:=fun x y H Q=>∃a b xs ys,x=.ref a/\y=.ref b/\SqT K H a xs/\SqT K H b ys/\xs≠[]/\xs.length+ys.length<=sizeLine /\
 (ys=[]->Q (.ref a) H)/\(ys≠[]->∀p,H p=none->Q (.ref p) (upd H p (.tup (xs++ys))))
theorem Vals.nil_iff{xs:List V}{us:List Value}(r:Vals xs us): us=[]↔xs=[]:=by
 cases r with
 | nil=>simp
 | cons _ _=>simp
theorem qkk:OpR X (binaryOp .Add) (qot X.K):=by
 intro pins s σ H x y v u Q I rx ry h;obtain⟨a,b,xs,ys,rfl,rfl,ha,hb,hx,hz,q1,q2⟩:=h;cases rx;cases ry;obtain⟨its,r1,p1,_⟩:=I.tuple ha;obtain⟨its2,r2,p2,_⟩:=I.tuple hb;refine HT.cat_tup p1 p2 (fun z=>hx (r1.nil_iff.mp z)) (fun z=>⟨.ref a,H,I,rfl,q1 (r2.nil_iff.mp z)⟩) (fun z=>?_) (by rw [<- r1.length, <- r2.length];exact hz);refine⟨.ref s.heap.objs.size,_,I.laid (t':=s.toks) (o:=.tup (xs++ys)) (fun b ob q=>gd _ q) (gu _) ?_,rfl,q2 (fun w=>z (r2.nil_iff.mpr w)) _ (I.hok.fresh (gu _))⟩;exact⟨by rw [pz];exact hz,_,r1.append r2,IsTup.new _ _⟩
end
def ixN(n:Nat)(i:Int): Option Nat:=if 0<=i then(if i<n then some i.toNat else none) else if -(n:Int)<=i then some (i+n).toNat else none
def atI{α : Type}(xs:List α)(i:Int): Option α :=(ixN xs.length i).bind fun j=>xs[j]?
theorem qkl{n:Nat}{i:Int}{j:Nat}(h:ixN n i=some j): seqIndex? i n=some j/\j<n /\ -(n:Int)<=i/\i<n:=by
 unfold ixN at h
 by_cases h0:0<=i
 ·rw [mi h0] at h
  by_cases h1:i<n
  ·rw [mi h1] at h
   have e:i.toNat=j:=m8 h;exact⟨by rw [seqIndex_of h0 h1,e],by omega,by omega,h1⟩
  ·rw [mf h1] at h;cases h
 ·rw [mf h0] at h
  by_cases h1 : -(n:Int)<=i
  ·rw [mi h1] at h
   have e:(i+n).toNat=j:=m8 h;exact⟨by rw [seqIndex_neg (by omega) h1,e],by omega,h1,by omega⟩
  ·rw [mf h1] at h;cases h
theorem q77{α : Type}{xs:List α}{i:Int}{v : α}(h:atI xs i=some v): ∃j,seqIndex? i xs.length=some j/\xs[j]? = some v/\j<xs.length /\ -(xs.length:Int)<=i/\i<xs.length:=by
 unfold atI at h;cases e:ixN xs.length i with
 | none=>rw [e] at h;cases h
 | some j=>
  rw [e] at h;obtain⟨h1,h2,h3,h4⟩:=qkl e;exact⟨j,h1,h,h2,h3,h4⟩
def q78(b:Expr): Prop:=∀o i,subscripted b false o i=operate [o,i] (getItem o i)
def IxR(X:Cx)(r:R2): Prop:=
 ∀(value slice:Expr) (pins:List (Addr×Obj)) (s:Shared) (σ : St) (H:Hp) (x y:V) (v u:Value) (Q:VK),Inv X pins σ H s->RelV x v->RelV y u->r x y H Q ->
  subscripted slice false v u=operate [v,u] (getItem v u)->wpAny (model X.prog X.w) X.A (subscriptTail value slice v u) (EP X pins σ Q) X.xe s
def MtR(X:Cx)(id:String)(r:V->List V->Hp->VK->Prop): Prop:=
 ∀(pins:List (Addr×Obj)) (s:Shared) (σ : St) (H:Hp) (x:V) (xs:List V) (v:Value) (us:List Value) (Q:VK),Inv X pins σ H s->RelV x v->Vals xs us->r x xs H Q ->
  wpAny (model X.prog X.w) X.A (call (.builtin id) (v :: us)) (EP X pins σ Q) X.xe s
section
variable{X:Cx}{a b:Expr}{ta tb:TE}{pos:Pos}
theorem IxR.or{r r':R2}(h:IxR X r)(h':IxR X r'): IxR X (fun x y H Q=>r x y H Q\/r' x y H Q):=by
 intro value slice pins s σ H x y v u Q I rx ry q hs;rcases q with q|q
 ·exact h value slice pins s σ H x y v u Q I rx ry q hs
 ·exact h' value slice pins s σ H x y v u Q I rx ry q hs
theorem qjv{r:R2}(hr:IxR X r)(ha:PE X a ta)(hb:PE X b tb)(hs:q78 b): PE X (.Subscript a b pos) (tOp r ta tb):=by
 intro pins s σ H Q I h;exact Subscript_ (qhr ha hb I h fun v u s2 x y H2 I2 rx ry q=>hr a b pins s2 σ H2 x y v u Q I2 rx ry q (hs _ _))
def qn1(K:PySem.W.Frag): R2:=fun x y H Q=>∃p xs i v,x=.ref p/\y=.int i/\SqL K H p xs/\atI xs i=some v/\Q v H
def qn2(K:PySem.W.Frag): R2:=fun x y H Q=>∃p xs i v,x=.ref p/\y=.int i/\SqT K H p xs/\atI xs i=some v/\Q v H
def rIxS:R2:=fun x y H Q=>∃z i c,x=.str z/\y=.int i/\z.length<=sizeLine/\atI z.cps.toList i=some c/\Q (.str ⟨#[c]⟩) H
theorem ix_list:IxR X (qn1 X.K):=by
 intro value slice pins s σ H x y v u Q I rx ry h hs;obtain⟨p,xs,i,z,rfl,rfl,hq,he,q⟩:=h;cases rx;obtain⟨t,rfl⟩:=ry;obtain⟨its,r,pl,hz⟩:=I.list hq;obtain⟨j,h1,h2,h3,h4,h5⟩:=q77 he;obtain⟨w,ew,rw'⟩:=r.get h2;have hl:=r.length;have hn:=q3p;have fin:EP X pins σ Q w s:=⟨z,H,I,rw',q⟩
 by_cases h0:0<=i
 ·have hj:i.toNat=j:=by
   rw [seqIndex_of h0 h5] at h1;exact m8 h1
  exact item_listR pl.isList h0 (by omega) (by rw [hj];simpa using ew) fin hs
 ·have hj:(i+(its.toArray.size:Int)).toNat=j:=by
   rw [seqIndex_neg (by omega) h4] at h1;rw [gj, <- hl];exact m8 h1
  exact subscriptTail_builtinR (x:=w) pl.isList.typeIs slot_list_getitem.lookup
   (wpAny_getItem_list_neg (Q:=fun r s'=>r=w/\EP X pins σ Q r s') pl.isList (by omega) (by rw [gj] <;> omega) (by omega) (by rw [hj];simpa using ew) ⟨rfl,fin⟩) hs
theorem ix_tup:IxR X (qn2 X.K):=by
 intro value slice pins s σ H x y v u Q I rx ry h hs;obtain⟨p,xs,i,z,rfl,rfl,hq,he,q⟩:=h;cases rx;obtain⟨t,rfl⟩:=ry;obtain⟨its,r,pl,hz⟩:=I.tuple hq;obtain⟨j,h1,h2,h3,h4,h5⟩:=q77 he;obtain⟨w,ew,rw'⟩:=r.get h2;have hl:=r.length;have hn:=q3p;have fin:EP X pins σ Q w s:=⟨z,H,I,rw',q⟩
 exact subscriptTail_builtinR (x:=w) pl.typeIs slot_tuple_getitem.lookup
  (getItem_tuple (j:=j) (Q:=fun r s'=>r=w/\EP X pins σ Q r s') pl (by omega) (by omega) (by rw [gj, <- hl];exact h1) (by simpa using ew) ⟨rfl,fin⟩) hs
theorem qn3:IxR X rIxS:=by
 intro value slice pins s σ H x y v u Q I rx ry h hs;obtain⟨z,i,c,rfl,rfl,hz,he,q⟩:=h;obtain⟨t,rfl⟩:=rx;obtain⟨t',rfl⟩:=ry;obtain⟨j,h1,h2,h3,h4,h5⟩:=q77 he;have hl:z.cps.toList.length=z.length:=by simp [Str.length]
 rw [hl] at h1 h4 h5;have hn:=q3p;exact tail_any (typeIs_str s z t) slot_str_getitem.lookup (getItem_str (c:=c) (by
  have e1:decide (i < -(2 ^ 63:Int))=false:=nu (by omega);have e2:decide (i>=2 ^ 63)=false:=nu (by omega);rw [e1,e2,Bool.or_false]) (by rw [h1];simpa using h2) ⟨.str ⟨#[c]⟩,H,I.tok _,⟨_,rfl⟩,q⟩) hs
def rIx(K:PySem.W.Frag): R2:=fun x y H Q=>qn1 K x y H Q\/qn2 K x y H Q\/rIxS x y H Q
theorem qn4:IxR X (rIx X.K):=ix_list.or (ix_tup.or qn3)
theorem q9j(lo hi:Option Int)(n:Nat): (sliceBounds lo hi none n).1=((HT.sIx n 0 lo:Nat):Int)/\(sliceBounds lo hi none n).2.1=((HT.sIx n n hi:Nat):Int)/\(sliceBounds lo hi none n).2.2=1:=by
 refine⟨?_,?_,rfl⟩
 ·cases lo with
  | none=>simp [sliceBounds,HT.sIx]
  | some i=>
   simp only [sliceBounds,HT.sIx,Option.getD_none,show(1:Int)>0 by decide,ny]
   by_cases h:i<0
   ·simp only [h,ny] <;> omega
   ·simp only [h,p0] <;> omega
 ·cases hi with
  | none=>simp [sliceBounds,HT.sIx]
  | some i=>
   simp only [sliceBounds,HT.sIx,Option.getD_none,show(1:Int)>0 by decide,ny]
   by_cases h:i<0
   ·simp only [h,ny] <;> omega
   ·simp only [h,p0] <;> omega
theorem q8z(its:List Value)(lo hi:Option Int): slicePick its.toArray lo hi none=((its.drop (HT.sIx its.length 0 lo)).take (HT.sIx its.length its.length hi-HT.sIx its.length 0 lo)).toArray:=by
 obtain⟨h1,h2,h3⟩:=q9j lo hi its.toArray.size;unfold slicePick;rw [h1,h2,h3];simp only [sliceRange_one,pick_run,gj] <;> rfl
def qpp(K:PySem.W.Frag): V->Option Int->Option Int->Hp->VK->Prop:=fun x lo hi H Q=>∃a xs,x=.ref a/\SqL K H a xs/\∀p,H p=none->Q (.ref p) (upd H p (.lst (q0n xs lo hi)))
theorem sl_list:SlR X (qpp X.K):=by
 intro pins s σ H x v vl vu lo hi sl Q I rx hs pl pu h;obtain⟨a,xs,rfl,hx,q⟩:=h;cases rx;obtain⟨its,r,ht,hz⟩:=I.list hx;have hlen:=r.length;refine⟨"list",_,slot_list_getitem.lookup,ht.isList.typeIs,?_⟩;refine wpAny_getItem_list_slice ht.isList hs pl pu .none (by simp) ?_ (by rw [gj] <;> omega);rw [q8z, <- hlen];refine⟨.ref s.heap.objs.size,_,I.laid (t':=s.toks) (o:=.lst (q0n xs lo hi)) (fun b ob q=>gd _ q) (gu _) ?_,rfl,q _ (I.hok.fresh (gu _))⟩;exact⟨ml (q4z xs lo hi) hz,_,0,(r.drop (HT.sIx xs.length 0 lo)).take (HT.sIx xs.length xs.length hi-HT.sIx xs.length 0 lo),gr _ rfl⟩
def kg:V->Bool
 | .non=>true
 | .bl _=>true
 | .int _=>true
 | .str _=>true
 | _=>false
def eqV:V->V->Bool
 | .non,.non=>true
 | .bl a,.bl b=>a==b
 | .bl a,.int b=>(if a then 1 else 0)==b
 | .int a,.bl b=>a==(if b then 1 else 0)
 | .int a,.int b=>a==b
 | .str a,.str b=>a==b
 | _,_=>false
theorem qfh{A:Around}{s:Shared}{y x:V}{u v:Value}(ry:RelV y u)(rx:RelV x v)(fy:kg y=true)(fx:kg x=true): SeqAt.EqAt A s u v (eqV y x):=by
 cases y with
 | non=>
  cases ry;cases x with
  | non=>cases rx;exact g5f _
  | bl b=>cases rx;exact SeqAt.EqAt.none_bool b
  | int b=>obtain⟨t,rfl⟩:=rx;exact SeqAt.EqAt.none_int b t
  | str b=>obtain⟨t,rfl⟩:=rx;exact SeqAt.EqAt.none_str b t
  | _=>exact absurd (show false=true from fx) mh
 | bl a=>
  cases ry;cases x with
  | non=>cases rx;exact SeqAt.EqAt.bool_none a
  | bl b=>cases rx;exact SeqAt.EqAt.bool_bool a b
  | int b=>obtain⟨t,rfl⟩:=rx;exact SeqAt.EqAt.bool_int a b t
  | str b=>obtain⟨t,rfl⟩:=rx;exact SeqAt.EqAt.bool_str a b t
  | _=>exact absurd (show false=true from fx) mh
 | int a=>
  obtain⟨t',rfl⟩:=ry;cases x with
  | non=>cases rx;exact SeqAt.EqAt.int_none a t'
  | bl b=>cases rx;exact SeqAt.EqAt.int_bool a t' b
  | int b=>obtain⟨t,rfl⟩:=rx;exact SeqAt.EqAt.int_int a t' b t
  | str b=>obtain⟨t,rfl⟩:=rx;exact SeqAt.EqAt.int_str a t' b t
  | _=>exact absurd (show false=true from fx) mh
 | str a=>
  obtain⟨t',rfl⟩:=ry;cases x with
  | non=>cases rx;exact SeqAt.EqAt.str_none a t'
  | bl b=>cases rx;exact SeqAt.EqAt.str_bool a t' b
  | int b=>obtain⟨t,rfl⟩:=rx;exact SeqAt.EqAt.str_int a t' b t
  | str b=>obtain⟨t,rfl⟩:=rx;exact SeqAt.EqAt.str_str a t' b t
  | _=>exact absurd (show false=true from fx) mh
 | _=>exact absurd (show false=true from fy) mh
def eqU(x:V)(u:Value): Bool:=match u with
 | .none=>eqV .non x
 | .bool b=>eqV (.bl b) x
 | .int i _=>eqV (.int i) x
 | .str z _=>eqV (.str z) x
 | _=>false
theorem qfi{x y:V}{u:Value}(r:RelV y u)(f:kg y=true): eqU x u=eqV y x:=by
 cases y with
 | non=>cases r;rfl
 | bl b=>cases r;rfl
 | int i=>obtain⟨t,rfl⟩:=r;rfl
 | str z=>obtain⟨t,rfl⟩:=r;rfl
 | _=>exact absurd (show false=true from f) mh
theorem q2d{x:V}: ∀ {xs:List V} {us:List Value},Vals xs us->xs.all kg=true->us.any (eqU x)=xs.any fun y=>eqV y x
 | _,_,.nil,_=>rfl
 | y :: xs,u :: us,.cons r t,f=>by
  rw [g38,m6] at f;rw [g27,g27,qfi r f.1,q2d t f.2]
theorem q17{A:Around}{s:Shared}{x:V}{v:Value}(rx:RelV x v)(fx:kg x=true): ∀ {xs:List V} {us:List Value},Vals xs us->xs.all kg=true->∀u∈us,SeqAt.EqAt A s u v (eqU x u)
 | _,_,.nil,_=>fun u hu=>by cases hu
 | y :: xs,u :: us,.cons r t,f=>fun u' hu=>by
  rw [g38,m6] at f;rcases me.mp hu with rfl|hu
  ·rw [qfi r f.1];exact qfh r rx f.1 fx
  ·exact q17 rx fx t f.2 u' hu
def inV(x:V)(xs:List V): Bool:=xs.any fun y=>eqV y x
def rIn(K:PySem.W.Frag)(neg:Bool): R2:=fun x y H Q=>∃p xs,y=.ref p/\(SqL K H p xs\/SqT K H p xs)/\kg x=true/\xs.all kg=true/\Q (.bl (if neg then !inV x xs else inV x xs)) H
theorem qfj:OpR X (compareOp .In) (rIn X.K false):=by
 intro pins s σ H x y v u Q I rx ry h;obtain⟨p,xs,rfl,hq,fx,fs,q⟩:=h;cases ry;rcases hq with hq|hq
 ·obtain⟨its,r,pl,hz⟩:=I.list hq
  refine SeqAt.in_listAt (eqU x) pl.isList (fun w hw=>q17 rx fx r fs w (by simpa using hw)) ⟨.bl _,H,I,rfl,?_⟩;rw [show its.toArray.any (eqU x)=its.any (eqU x) by simp,q2d r fs];exact q
 ·obtain⟨its,r,pl,hz⟩:=I.tuple hq
  refine SeqAt.in_tupleAt (eqU x) pl (fun w hw=>q17 rx fx r fs w (by simpa using hw)) ⟨.bl _,H,I,rfl,?_⟩;rw [show its.toArray.any (eqU x)=its.any (eqU x) by simp,q2d r fs];exact q
theorem q9k:OpR X (compareOp .NotIn) (rIn X.K true):=by
 intro pins s σ H x y v u Q I rx ry h;obtain⟨p,xs,rfl,hq,fx,fs,q⟩:=h;cases ry;rcases hq with hq|hq
 ·obtain⟨its,r,pl,hz⟩:=I.list hq
  refine SeqAt.notIn_listAt (eqU x) pl.isList (fun w hw=>q17 rx fx r fs w (by simpa using hw)) ⟨.bl _,H,I,rfl,?_⟩;rw [show its.toArray.any (eqU x)=its.any (eqU x) by simp,q2d r fs];exact q
 ·obtain⟨its,r,pl,hz⟩:=I.tuple hq
  refine SeqAt.notIn_tupleAt (eqU x) pl (fun w hw=>q17 rx fx r fs w (by simpa using hw)) ⟨.bl _,H,I,rfl,?_⟩;rw [show its.toArray.any (eqU x)=its.any (eqU x) by simp,q2d r fs];exact q
theorem q90:xm X (.type "tuple") (fun xs H Q=>∃p ys,xs=[.ref p]/\((SqL X.K H p ys/\∀l,H l=none->Q (.ref l) (upd H l (.tup ys)))\/(SqT X.K H p ys/\Q (.ref p) H))):=by
 intro pins s σ H xs us Q I r h;obtain⟨p,ys,rfl,h⟩:=h;obtain⟨u,rfl,rx⟩:=vals1 r;cases rx;rcases h with⟨hq,q⟩|⟨hq,q⟩
 ·obtain⟨its,r',pl,hz⟩:=I.list hq
  have hlen:=r'.length;refine call_tuple_list pl.isList (fun h' kp=>?_) (by simp only [gj] <;> omega);have I1:Inv X pins σ H {s with heap:=h'}:=I.kept (t':=s.toks) kp;have I2:Inv X pins σ (upd H h'.objs.size (.tup ys)) {s with heap:=h'.push {cls:=.type "tuple",data:=.seq its.toArray} }:=
   I1.laid (t':=s.toks) (fun b o e=>gd _ e) (gu _) (show ObjOk X.prog X.w _ _ _ (.tup ys) from⟨hz,its,r',IsTup.new _ _⟩)
  exact⟨.ref h'.objs.size,_,I2,rfl,q _ (I1.hok.fresh (gu _))⟩
 ·obtain⟨its,r',pl,hz⟩:=I.tuple hq
  exact call_tuple_same pl ⟨.ref p,H,I,rfl,q⟩
def tyV(K:PySem.W.Frag)(T:String)(x:V)(H:Hp): Prop:=match x with
 | .str _=>T="str"
 | .int _=>T="int"
 | .ref p=>(T="list" /\ ∃xs,SqL K H p xs)\/(T="tuple" /\ ∃o,K.lookup p=some o/\o.cls=.type "tuple" /\ o.dict=none) \/
   (T="dict" /\ ((∃kvs,H p=some (.dK kvs))\/∃kvs,H p=some (.dT kvs)))\/(T="set" /\ ∃S n,H p=some (.set S n))
 | _=>False
theorem qfk{pins:List (Addr×Obj)}{σ : St}{H:Hp}{s:Shared}{T:String}{x:V}{v:Value}(I:Inv X pins σ H s)(r:RelV x v)(ty:tyV X.K T x H):
  s.TypeIs v T/\∀a,v=.ref a->∃ob,s.heap.get? a=some ob/\ob.dict=none:=by
 cases x with
 | str z=>
  obtain⟨t,rfl⟩:=r;cases(show T="str" from ty);exact⟨typeIs_str s z t,fun _ e=>nomatch e⟩
 | int i=>
  obtain⟨t,rfl⟩:=r;cases(show T="int" from ty);exact⟨typeIs_int s i t,fun _ e=>nomatch e⟩
 | ref p=>
  cases r;rcases ty with⟨rfl,xs,hq⟩|⟨rfl,o,hk,hc,hd⟩|⟨rfl,hk⟩|⟨rfl,S,n,hk⟩
  ·obtain⟨its,_,pl,_⟩:=I.list hq
   refine⟨pl.isList.typeIs,fun a e=>?_⟩;cases e;obtain⟨o,n,e,c,hd,_⟩:=pl;exact⟨o,e,hd⟩
  ·refine⟨⟨o,I.kIn p o hk,hc⟩,fun a e=>?_⟩
   cases e;exact⟨o,I.kIn _ o hk,hd⟩
  ·have z:∃o,s.heap.get? p=some o/\o.ExactDict:=by
    rcases hk with⟨kvs,hk⟩|⟨kvs,hk⟩
    ·obtain⟨_,_,_,_,o,_,_,e,ex,_⟩:=I.hok p _ hk
     exact⟨o,e,ex⟩
    ·obtain⟨_,_,_,_,o,_,_,e,ex,_⟩:=I.hok p _ hk
     exact⟨o,e,ex⟩
   obtain⟨o,e,ex⟩:=z;refine⟨⟨o,e,ex.1⟩,fun a e2=>?_⟩;cases e2;exact⟨o,e,ex.2.1⟩
  ·obtain⟨o,_,_,_,e,ex,_⟩:=I.hok p _ hk
   refine⟨⟨o,e,ex.1⟩,fun a e2=>?_⟩;cases e2;exact⟨o,e,ex.2.1⟩
 | _=>exact False.elim ty
def qpq(K:PySem.W.Frag)(T:String)(r:V->List V->Hp->VK->Prop)(to:TE): TE:=fun σ H Q=>to σ H fun x H1=>tyV K T x H1/\r x [] H1 Q
def tBM(K:PySem.W.Frag)(T:String)(r:V->List V->Hp->VK->Prop)(to:TE)(t:TA): TE:=fun σ H Q=>to σ H fun x H1=>tyV K T x H1/\t σ H1 fun xs H2=>r x xs H2 Q
variable{o e:Expr}{es:List Expr}{to:TE}{t:TA}{name:Str}{apos cpos:Pos}{T id:String}{r:V->List V->Hp->VK->Prop}
theorem qn5(pa:PlainAttrs T)(slot:Slot T name id)(hty:typeOf (.builtin id)=pure (.type "method_descriptor"))(hm:MtR X id r)(ho:PE X o to)
  (hbase:attributeBase o name X.env (eval o X.env)=eval o X.env:=by rfl) (hline:(apos.endLine==cpos.line)=true:=by rfl):PE X (.Call (.Attribute o name apos) [] [] cpos) (qpq X.K T r to):=by
 intro pins s σ H Q I h;refine wpAny_Call_method0_late hbase hline (thn (ho pins s σ H _ I h) fun v s1 ⟨x,H1,I1,r1,ty,q1⟩=>?_);obtain⟨h1,h2⟩:=qfk I1 r1 ty;exact⟨T,id,pa,slot,hty,h1,h2,Calls.callWith_builtin rfl (PySem.evalArgs_none (hm pins s1 σ H1 x [] v [] Q I1 r1 .nil q1))⟩
theorem qou(pa:PlainAttrs T)(slot:Slot T name id)(hty:typeOf (.builtin id)=pure (.type "method_descriptor"))(hm:MtR X id r)(ho:PE X o to)(ha:PA X (e :: es) t)
  (hbase:attributeBase o name X.env (eval o X.env)=eval o X.env:=by rfl)
  (hfew:((backTo cpos (starEach (e :: es) X.env)).all (fun x=> !x.1)&&(backToKw cpos (keywordEach [] X.env)).all (fun x=>x.1.isSome)
   && decide ((e :: es).length+([]:List Keyword).length+(if([]:List Keyword).isEmpty then 0 else 1)<30))=true:=by rfl)
  (hline:(apos.endLine==cpos.line)=true:=by rfl) (hs:starEach (e :: es) X.env=(false,eval e X.env) :: starEach es X.env:=by rfl) (hplain:(backTo cpos (starEach es X.env)).any (·.1)=false:=by rfl) :
  PE X (.Call (.Attribute o name apos) (e :: es) [] cpos) (tBM X.K T r to t):=by
 intro pins s σ H Q I h;refine wpAny_Call_method_late hbase hfew hline rfl (thn (ho pins s σ H _ I h) fun v s1 ⟨x,H1,I1,r1,ty,q1⟩=>?_);obtain⟨h1,h2⟩:=qfk I1 r1 ty;refine⟨T,id,pa,slot,hty,h1,h2,?_⟩;have hA:=ha cpos pins s1 σ H1 _ I1 q1;rw [hs] at hA ⊢;refine Calls.callWith_builtin (by show(false || (backTo cpos (starEach es X.env)).any (·.1))=false;rw [hplain] <;> rfl) (Calls.evalArgs_plain ?_);exact thn hA fun us s2 ⟨vs,H2,I2,r2,q2⟩=>hm pins s2 σ H2 x vs v us Q I2 r1 r2 q2
end
def MtM(X:Cx)(id:String)(r:V->List V->Hp->VK->Prop): Prop:=
 ∀(pins:List (Addr×Obj)) (s:Shared) (σ : St) (H:Hp) (x:V) (xs:List V) (v:Value) (us:List Value) (Q:VK),Inv X pins σ H s->RelV x v->Vals xs us->r x xs H Q ->
  wpAny (model X.prog X.w) X.A (call (.builtin id) (v :: us)) (EP X pins σ Q) X.xe s
theorem Vals.one:∀ {x:V} {us:List Value},Vals [x] us->∃u,us=[u]/\RelV x u
 | _,_,.cons r .nil=>⟨_,rfl,r⟩
theorem Vals.two:∀ {x y:V} {us:List Value},Vals [x,y] us->∃u v,us=[u,v]/\RelV x u/\RelV y v
 | _,_,_,.cons r (.cons q .nil)=>⟨_,_,rfl,r,q⟩
section
variable{X:Cx}{pins:List (Addr×Obj)}{σ : St}{H:Hp}{s:Shared}{l b:Addr}{xs ys zs:List V}
theorem Inv.lset{its its':List Value}{n:Nat}{f:Array Value->Array Value}{t':Nat}(I:Inv X pins σ H s)(hH:H l=some (.lst xs))
  (e:s.heap.get? l=some {cls:=.type "list",data:=.seq its.toArray n}) (hf:f its.toArray=its'.toArray) (hv:Vals ys its') (hz:ys.length<=sizeLine) :
  Inv X pins σ (upd H l (.lst ys)) {s with heap:=s.heap.update l (Obj.mapSeq f),toks:=t'}:=by
 have q:=PySem.IsL.update e f;rw [hf] at q;refine I.write (x:=l) (e:=l) (by rw [hH];exact trivial) (.inl rfl) (fun b' u hb hu=>(g0z s.heap (Obj.mapSeq f) (mv hb)).trans hu) ⟨_,q⟩ ?_;exact⟨hz,its',_,hv,q⟩
theorem Inv.lnew{its:List Value}{t':Nat}(I:Inv X pins σ H s)(hv:Vals ys its)(hz:ys.length<=sizeLine):
  Inv X pins σ (upd H s.heap.objs.size (.lst ys)) {s with heap:=s.heap.push {cls:=.type "list",data:=.seq its.toArray},toks:=t'}:=
 I.laid (fun _ _ q=>gd _ q) (gu _) ⟨hz,its,0,hv,gr _ rfl⟩
theorem Inv.fresh(I:Inv X pins σ H s): H s.heap.objs.size=none:=I.hok.fresh (gu _)
theorem Inv.lstM(I:Inv X pins σ H s)(hH:H l=some (.lst xs)): xs.length<=sizeLine/\∃(its:List Value) (n:Nat),Vals xs its/\xs.length=its.length/\s.heap.get? l=some {cls:=.type "list",data:=.seq its.toArray n}:=by
 obtain⟨z,its,n,r,e⟩:=I.hok l _ hH;exact⟨z,its,n,r,r.length,e⟩
end
section
variable{X:Cx}
def rAppend:V->List V->Hp->VK->Prop:=fun x vs H Q=>∃l xs y,x=.ref l/\vs=[y]/\H l=some (.lst xs)/\xs.length<sizeLine/\Q .non (upd H l (.lst (xs++[y])))
theorem q84:MtM X "list.append" rAppend:=by
 intro pins s σ H x vs v us Q I rx rv h;obtain⟨l,xs,y,rfl,rfl,hH,hz,q⟩:=h;cases rx;obtain⟨u,rfl,ru⟩:=rv.one;obtain⟨z,its,n,r,hl,e⟩:=I.lstM hH;refine g4u F.slot_list_append ⟨_,e,rfl⟩ F.entry_list_append (F.args_list_append_2 _ _) (PySem.list_append l its.toArray n u (by rw [gj];omega)) ⟨e,?_⟩;refine⟨.non,_,I.lset (its':=its++[u]) hH e (by simp) (r.append (.cons ru .nil)) ?_,rfl,q⟩;rw [pz,g3f];omega
end
section
variable{prog:Program}{w:World}{A:Around}{E:Value->Shared->Prop}{s:Shared}
end
section
variable{X:Cx}
end
end L2
namespace Att
open PySem PySem.W PySem.Calls PyProof.Rows
theorem q65{P:Params}{h:Heap}: ∀(ns:List Int) (vs:List Value),WellAll P h vs (ns.map WData.int)->IntsAre vs ns:=by
 intro ns
 induction ns with
 | nil=>
  intro vs w;rw [g10] at w;cases w;exact .nil
 | cons n ns ih=>
  intro vs w;rw [gv] at w;cases w with
  | cons a b=>
   cases a;exact .cons _ _ (ih _ b)
theorem qfl{l:OpenLaw}{n:Nat}(hn:l.most=some n){P:Params}{h:Heap}{args:List WData}{vals:List Value}
  (hpre:l.row.toRowW.claim.pre args=true) (hwl:WellAll P h vals args) :
  ∃a vs ns,vals=[Value.ref a]/\args=[WData.list (ns.map WData.int)]/\h.get? a=some {cls:=.type "list",data:=.seq vs.toArray}/\IntsAre vs ns/\ns.length<=n:=by
 have hsh:WShape.hasAll [] args [.list .int]=true:=(pre_splitW hpre).1;have hc:l.pre.holds [] {args:=args}=true:=(pre_splitW hpre).2;obtain⟨d,r,rfl,h1,h2⟩:=hasAllW_cons hsh;obtain rfl:=hasAllW_nil h2;obtain⟨xs,rfl,h3⟩:=hasW_list h1;obtain⟨ns,rfl⟩:=items_int h3;have hlen:ns.length<=n:=by
  unfold OpenLaw.pre at hc;have h4:(WTm.not (.lt (.lit (.int (n:Int))) (.len (.arg 0)))).holds [] {args:=[.list (ns.map .int)]}=true:=by
   have h4:=(holds_andW hc).1;rw [hn] at h4;exact h4
  have h5:=condW_of h4 (w_not (w_lt w_lit (w_len_list (w_arg rfl))));rw [mj] at h5;refine Nat.le_of_not_lt fun q=>?_;have q':(n:Int)<((ns.length:Nat):Int):=by omega
  first
   | (rw [p7 q'] at h5;exact absurd h5 (by decide))
   | (simp at h5;omega)
 cases hwl with
 | cons w1 w2=>
  cases w2;cases w1 with
  | list ho hall=>exact⟨_,_,ns,rfl,rfl,ho,q65 ns _ hall,hlen⟩
theorem qfm(l:OpenLaw)(args:List WData): l.row.toRowW.claim.post args (.bool true) args=true:=
 postW_of (r:=l.row.toRowW) (X:=(true==true))
  (show WShape.has [] (.bool true) .bool=true by first|rfl|decide|simp [WShape.has,WShape.arms,WShape.armsAll])
  (show(WTm.eq .res (.lit (.bool true))).value [] {args:=args,res:=some (.bool true),after:=args}=some (.bool (true==true)) from w_eq_bool (w_res rfl) w_lit) rfl
theorem attach_call{l:OpenLaw}{n:Nat}{q:Program}{loose:List Str}{XP:(Str->Option Value)->Heap->Prop}{YP:World->Heap->Prop}{d:DefRec}
  (hn:l.most=some n) (hdf:d.params.defaults=[])
  (call:∀(w:World) (s₀ s₁:Shared) (mg mb:Str->Option Value) (fa:Addr) (o:Obj) (pm cd doc:Value) (a:Addr) (vs:List Value) (ns:List Int),
   Ground q loose [] XP w s₀ mg mb s₁.heap->YP w s₁.heap ->
   s₁.heap.get? fa=some o->o.data=.func (docDef d.name d.params d.body d.scope pm cd doc)->s₁.heap.CodeRec cd d.name->mg d.name=some (.ref fa) ->
   s₁.heap.get? a=some {cls:=.type "list",data:=.seq vs.toArray}->IntsAre vs ns->ns.length<=n->s₁.gens = #[] ->
   codeAny (model l.prog w) callerA (.call (.ref fa) ⟨[.ref a],[]⟩) (fun r s'=>r=.ok (.ret (.bool true))/\OldK s₁.heap s'.heap/\s'.os=s₁.os/\AllBare s'.gens) s₁) :
  WalkO q loose XP YP l.row.toRowW d [] (fun f vs=>PySem.call f vs):=by
 intro w s₀ s₁ mg mb G Y fa o pm cd doc dV kV ho hd hcd hD hmg hg args vals as hpre hlay hrd hwl hlo;obtain rfl:dV=.none:=Dflts.none hD hdf;obtain rfl:kV=.none:=Dflts.noKw hD;obtain⟨a,vs,ns,rfl,rfl,hobj,hints,hlen⟩:=qfl hn hpre hwl;refine enter_call (g2g (call w s₀ s₁ mg mb fa o pm cd doc a vs ns G Y ho (fd_plain hd) hcd hmg hobj hints hlen hg) fun r s' hq=>?_);obtain⟨rfl,h2,h3,h4⟩:=hq;exact⟨.inl ⟨.bool true,.bool true,[],rfl,fun _=>rfl,.bool true,qfm l _,fun _=>⟨List.Pairwise.nil,fun _ hm=>(nomatch hm)⟩⟩,h2,h3,h4⟩
section
variable{prog:Program}{w:World}{A:Around}{E:Value->Shared->Prop}{s:Shared}{K:Frag}
end
end Att
namespace L2
open PySem PySem.Spec PyProof.Rows
theorem q0f:∀ {vs:List Value} {ns:List Int},IntsAre vs ns->Vals (ns.map V.int) vs
 | _,_,.nil=>.nil
 | _,_,.cons n t h=>.cons ⟨t,rfl⟩ (q0f h)
def vz(s:Stmt): Arguments:=match s with
 | .FunctionDef _ a _ _ _ _ _ _ _ _=>a
 | _=>{posonlyargs:=[],args:=[],vararg:=none,kwonlyargs:=[],kw_defaults:=[],kwarg:=none,defaults:=[]}
def qu(s:Stmt): List Stmt:=match s with
 | .FunctionDef _ _ b _ _ _ _ _ _ _=>b
 | _=>[]
def qc(s:Stmt): Scope:=match s with
 | .FunctionDef _ _ _ _ _ _ sc _ _ _=>sc
 | _=>{kind:=.function,names:=[],isGenerator:=false,isCoroutine:=false}
abbrev CX0:CXT:=fun _ _ _ _ _ _=>False
abbrev E0:XK:=fun _ _ _=>False
theorem qov{X:Cx}: q9h CX0 X E0:=fun _ _ _ _ _ _ _ h=>h.elim
structure Fun(K:PySem.W.Frag)(x qual:Str)(st:Stmt)(f:Addr)(fd:FuncData): Prop where
 ex:∃(oc:Value) (od:Option Addr) (kV doc pm:Value) (an:Option Addr) (cdv ct:Value) (osl:Array (Option Value)),
  fd=PySem.W.fnOf x qual (vz st) (qu st) (qc st) .none kV doc pm an cdv ct/\K.lookup f=some ⟨oc,od,.func fd,osl⟩/\PySem.W.codeIn K cdv qual=true
 kp:PySem.W.keepIn K (.ref f)=true
section
variable{P:Program}{w:World}{K:PySem.W.Frag}{mg:Str->Option Value}{base:Heap}
end
section
variable{X:Cx}
theorem pv(i:Nat){x:Str}{pos:Pos}(hN:X.N[i]? = some x:=by rfl)(hv:Vis X.env.scope x:=by first|exact Or.inl rfl|exact Or.inr (Or.inl rfl)|exact Or.inr (Or.inr rfl))(hd:(x==("__debug__" : Str))=false:=by decide)
  (hcd:(x==("__classdict__" : Str))=false:=by decide):PE X (.Name x pos) (q3o i):=qme hN hv hd hcd
end
theorem qpr{A B:Prop}(h:B): if false=true then A else B:=by
 rw [mf mh];exact h
theorem qps{A B:Prop}(h:A): if true=true then A else B:=by
 rw [mi rfl];exact h
def Same(H H':Hp): Prop:=∀b o,H b=some o->H' b=some o
theorem Same.refl(H:Hp): Same H H:=fun _ _ h=>h
theorem Same.trans{H H1 H2:Hp}(a:Same H H1)(b:Same H1 H2): Same H H2:=fun c o h=>b c o (a c o h)
theorem Same.free{H H':Hp}(e:Same H H'){l:Addr}(h:H' l=Option.none): H l=Option.none:=by
 cases q:H l with
 | none=>rfl
 | some o=>
  rw [e l o q] at h;cases h
theorem Same.seq{K:PySem.W.Frag}{H H':Hp}{a:Addr}{xs:List V}(e:Same H H')(h:SqL K H a xs): SqL K H' a xs:=by
 rcases h with(h|⟨o,h⟩)|h
 ·exact .inl (.inl (e _ _ h))
 ·exact .inl (.inr ⟨o,e _ _ h⟩)
 ·exact .inr h
theorem q18(env:Env): ∀(names:List (Str×NameKind)) (acc:List (Str×Addr)),
  (∀y∈names,y.2=.free->∃c,env.cells.lookup y.1=some c)->(∀x c,acc.lookup x=some c->env.cells.lookup x=some c) ->
  ∃ cl,(forIn names acc (fun(x:Str×NameKind) (r:List (Str×Addr))=>(do
    if x.2==NameKind.free then do
     let a <- cellOf env x.1
     pure (ForInStep.yield ((x.1,a) :: r))
    else pure (ForInStep.yield r):Sem (ForInStep (List (Str×Addr))))):Sem (List (Str×Addr)))=pure cl /\
   (∀x c,cl.lookup x=some c->env.cells.lookup x=some c)/\(∀x c,acc.lookup x=some c->∃d,cl.lookup x=some d)/\(∀y∈names,y.2=.free->∃c,cl.lookup y.1=some c)
 | [],acc,_,h2=>⟨acc,rfl,h2,fun x c h=>⟨c,h⟩,fun y hy=>by cases hy⟩
 | (n,k) :: r,acc,h1,h2=>by
  by_cases hk:k=NameKind.free
  ·subst hk
   obtain⟨c,hc⟩:=h1 (n,.free) m4 rfl;have h2':∀x d,((n,c) :: acc).lookup x=some d->env.cells.lookup x=some d:=fun x d e=>by
    rw [pf] at e
    split at e
    ·rename_i q
     have q':x=n:=by simpa using q
     subst q';cases e;exact hc
    ·exact h2 x d e
   obtain⟨cl,e,a1,a2,a3⟩:=q18 env r ((n,c) :: acc) (fun y hy=>h1 y (m5 _ hy)) h2';refine⟨cl,?_,a1,fun x d e2=>?_,fun y hy hf=>?_⟩
   ·rw [g1p]
    simp only [beq_self_eq_true,ny];have hco:cellOf env n=pure c:=by unfold cellOf;rw [hc]
    rw [hco];exact e
   ·by_cases q:x=n
    ·subst q
     exact a2 x c (by rw [pf];simp)
    ·exact a2 x d (by rw [pf,show(x==n)=false by simpa using q];exact e2)
   ·rcases me.mp hy with rfl|hy
    ·exact a2 n c (by rw [pf];simp)
    ·exact a3 y hy hf
  ·obtain⟨cl,e,a1,a2,a3⟩:=q18 env r acc (fun y hy=>h1 y (m5 _ hy)) h2
   refine⟨cl,?_,a1,a2,fun y hy hf=>?_⟩
   ·rw [g1p]
    have hb:(k==NameKind.free)=false:=by simpa using hk
    simp only [hb,gf,p0];exact e
   ·rcases me.mp hy with rfl|hy
    ·exact absurd hf hk
    ·exact a3 y hy hf
theorem q66{scope:Scope}{env:Env}(h:∀y∈scope.names,y.2=.free->∃c,env.cells.lookup y.1=some c):
  ∃cl,closureFor scope env=pure cl/\(∀x c,cl.lookup x=some c->env.cells.lookup x=some c)/\(∀y∈scope.names,y.2=.free->∃c,cl.lookup y.1=some c):=by
 obtain⟨cl,e,a1,_,a3⟩:=q18 env scope.names [] h (fun x c q=>by cases q);refine⟨cl,?_,a1,a3⟩;unfold closureFor;exact(ug (fun m=>m >>= fun r=>(pure r:Sem (List (Str×Addr)))) e).trans rfl
abbrev qfn(ifs:List Expr)(env:Env): Sem Bool:=
 forIn ifs true fun c r=>if r=true then do let ok <- isTrue c env (eval c env);pure (ForInStep.yield ok) else pure (ForInStep.yield r)
def q0o(X:Cx)(ifs:List Expr)(t:TT): Prop:=
 ∀(pins:List (Addr×Obj)) (s:Shared) (σ : St) (H:Hp) (Q:Bool->Hp->Prop),Inv X pins σ H s->t σ H Q->wpAny (model X.prog X.w) X.A (qfn ifs X.env) (TP X pins σ Q) X.xe s
def tTrue:TT:=fun _ H Q=>Q true H
theorem qhx{X:Cx}: q0o X [] tTrue:=fun pins s σ H Q I h=>wpAny_tests_nil ⟨H,I,h⟩
theorem qhy{X:Cx}{c:Expr}{t:TT}(h:PT X c t): q0o X [c] t:=fun pins s σ H Q I hq=>wpAny_tests_one (h pins s σ H Q I hq)
section
variable{prog:Program}{w:World}{A:Around}{R:Result->Shared->Prop}{s:Shared}
theorem qc0{elt target iter:Expr}{ifs:List Expr}{scope:Scope}{pos:Pos}{it acc:Value}{env:Env}(I:Nat->Shared->Prop)
  (turn:∀n s,I n s->wpAny (model prog w) A (pyNext it) (fun r s₁=>match r with
   | none=>R (.ok .next) s₁
   | some v=>wpAny (model prog w) A (letOwnedTupleGo target it v) (fun _ s'=>wpAny (model prog w) A (assign target env v) (fun _ s₂=>
     wpAny (model prog w) A (qfn ifs env) (fun ok s₃=>
      if ok=true then wpAny (model prog w) A (eval elt env) (fun x s₄=>
       wpAny (model prog w) A (call (.builtin "list.append") [acc,x]) (fun _ s₅=>∃m,m<n/\I m s₅) (fun _ _=>False) s₄) (fun _ _=>False) s₃
      else ∃m,m<n/\I m s₃) (fun _ _=>False) s₂) (fun _ _=>False) s') (fun _ _=>False) s₁) (fun _ _=>False) s)
  (n:Nat) (h:I n s) :
  codeAny (model prog w) A (.compLoop (.ListComp elt [⟨target,iter,ifs,0⟩] scope pos) 0 it acc env) R s:=by
 refine codeAny_loop rfl I (fun n s hI=>?_) n h;show wpAny _ A ((compTurn (.ListComp elt [⟨target,iter,ifs,0⟩] scope pos) 0 it acc env).onRaise (fun x=>do noteFrame x env;theTreesLotGoes x)) _ _ s;refine wpAny_noted ?_;rw [compTurn_list];refine g0 (wpAny_standAt (g0 (tm (turn n s hI) (fun r s₁ h₁=>?_) fun _ _ h'=>h'.elim)));cases r with
 | none=>exact g9 h₁
 | some v=>
  refine g0 (tm h₁ (fun _ s' h'=>?_) fun _ _ h'=>h'.elim);refine g0 (tm h' (fun _ s₂ h₂=>g0 (tm h₂ (fun ok s₃ h₃=>?_) fun _ _ h'=>h'.elim)) fun _ _ h'=>h'.elim);cases ok with
  | false=>exact g9 ⟨rfl,h₃⟩
  | true=>
   exact g0 (g0 (tm h₃ (fun x s₄ h₄=>g0 (tm h₄ (fun _ s₅ h₅=>g9 (g9 ⟨rfl,h₅⟩)) fun _ _ h'=>h'.elim)) fun _ _ h'=>h'.elim))
end
def q79(cap:List (Option Nat))(σ : St): St:=cap.map fun o=>o.bind fun j=>(σ[j]?).join
theorem lookup_mem{α β : Type}[BEq α][LawfulBEq α]{l:List (α × β)}{a : α}{b : β}(h:l.lookup a=some b): (a,b)∈l:=by
 induction l with
 | nil=>cases h
 | cons p r ih=>
  obtain⟨x,y⟩:=p;rw [pf] at h
  split at h
  ·rename_i q
   have q':a=x:=by simpa using q
   subst q';cases h;exact m4
  ·exact m5 _ (ih h)
theorem q19{env:Env}: ∀ {names:List (Str×NameKind)} {x:Str} {k:NameKind},(names.map fun(n,k)=>if(k==NameKind.free&&env.scope.kind == .function&&env.kindOf n==some .cell) then(n,NameKind.cell) else(n,k)).lookup x=some k ->
  (names.lookup x=some k)\/(k=.cell/\names.lookup x=some .free)
 | [],_,_,h=>by cases h
 | (n,k0) :: r,x,k,h=>by
  have ih:=@q19 env r x k;have h':List.lookup x ((if(k0==NameKind.free&&env.scope.kind == .function&&env.kindOf n==some .cell)=true then(n,NameKind.cell) else(n,k0)) :: _)=some k:=h
  by_cases hc:(k0==NameKind.free&&env.scope.kind == .function&&env.kindOf n==some .cell)=true
  ·rw [mi hc,pf] at h'
   have hf:k0=.free:=by
    simp only [m6,g3h] at hc;exact hc.1.1
   cases q:x==n with
   | true=>rw [q] at h';cases h';exact .inr ⟨rfl,by rw [pf,q,hf]⟩
   | false=>rw [q] at h';rw [pf,q];exact ih h'
  ·rw [mf hc,pf] at h'
   cases q:x==n with
   | true=>rw [q] at h';rw [pf,q];exact .inl h'
   | false=>rw [q] at h';rw [pf,q];exact ih h'
theorem q3r{env:Env}: ∀ {names:List (Str×NameKind)} {x:Str},names.lookup x=some .free ->
  (names.map fun(n,k)=>if(k==NameKind.free&&env.scope.kind == .function&&env.kindOf n==some .cell) then(n,NameKind.cell) else(n,k)).lookup x=some .cell \/
  (names.map fun(n,k)=>if(k==NameKind.free&&env.scope.kind == .function&&env.kindOf n==some .cell) then(n,NameKind.cell) else(n,k)).lookup x=some .free
 | [],_,h=>by cases h
 | (n,k0) :: r,x,h=>by
  have ih:=@q3r env r x;show List.lookup x ((if(k0==NameKind.free&&env.scope.kind == .function&&env.kindOf n==some .cell)=true then(n,NameKind.cell) else(n,k0)) :: _)=_\/List.lookup x ((if(k0==NameKind.free&&env.scope.kind == .function&&env.kindOf n==some .cell)=true then(n,NameKind.cell) else(n,k0)) :: _)=_;rw [pf] at h
  by_cases hc:(k0==NameKind.free&&env.scope.kind == .function&&env.kindOf n==some .cell)=true
  ·rw [mi hc,pf]
   cases q:x==n with
   | true=>exact .inl rfl
   | false=>rw [q] at h;exact ih h
  ·rw [mf hc,pf]
   cases q:x==n with
   | true=>rw [q] at h;exact .inr h
   | false=>rw [q] at h;exact ih h
section
variable{X:Cx}{pins:List (Addr×Obj)}{σ : St}{H:Hp}{s:Shared}{N':List Str}{scope:Scope}{cap:List (Option Nat)}{cl:List (Str×Addr)}{fp:List Addr}
end
def qn6(J:It)(cap:List (Option Nat))(g:TG)(tc:TT)(te:TE)(σ : St)(H1:Hp)(p:Addr)(K:Hp->Prop): Prop:=
 ∃ W:Nat->Nat->St->Hp->Prop,(∃m,W 0 m (q79 cap σ) (upd H1 p (.lst [])))/\∀i m σ' H',W i m σ' H' ->
  (J.stop i H'/\K H')\/(J.go i H'/\∀x H'',J.yld i H' x H''->g x σ' H'' fun σ2 H2=>tc σ2 H2 fun b H3=>
   if b=true then te σ2 H3 fun y H4=>∃xs,H4 p=some (.lst xs)/\xs.length<sizeLine/\∃m',m'<m/\W (i+1) m' σ2 (upd H4 p (.lst (xs++[y])))
   else ∃m',m'<m/\W (i+1) m' σ2 H3)
def qe5(wi:TI)(cap:List (Option Nat))(g:TG)(tc:TT)(te:TE): TE:=fun σ H Q=>wi σ H fun J H1=>∀p,H1 p=none->qn6 J cap g tc te σ H1 p (Q (.ref p))
section
variable{X:Cx}{N':List Str}{scope:Scope}{cap:List (Option Nat)}{tg iter elt:Expr}{ifs:List Expr}{wi:TI}{g:TG}{tc:TT}{te:TE}{pos:Pos}
end
section
variable{X:Cx}{N':List Str}{scope:Scope}{cap:List (Option Nat)}{tg iter elt:Expr}{ifs:List Expr}{wi:TI}{g:TG}{tc:TT}{te:TE}{pos:Pos}
end
section
variable{M:Model}{A:Around}{E:Value->Shared->Prop}{s:Shared}
theorem q3s:∀(names:List (Str×NameKind)) (n:Nat) (acc:List (Str×Addr)),cellsFrom n names acc=cellsFrom n names []++acc
 | [],_,_=>rfl
 | (x,k) :: r,n,acc=>by
  unfold cellsFrom
  split
  ·rw [q3s r (n+1) ((x,n) :: acc),q3s r (n+1) [(x,n)],mm];rfl
  ·exact q3s r n acc
theorem q9l:∀ {names:List (Str×NameKind)} {n:Nat} {acc:List (Str×Addr)} {x:Str} {c:Addr},(x,c)∈cellsFrom n names acc->(x,c)∈acc\/(x,NameKind.cell)∈names
 | [],_,_,_,_,h=>.inl h
 | (y,k) :: r,n,acc,x,c,h=>by
  unfold cellsFrom at h
  split at h
  ·rename_i hk
   have hk:k=.cell:=by simpa using hk
   subst hk;rcases q9l h with h|h
   ·rcases me.mp h with e|h
    ·cases e;exact .inr m4
    ·exact .inl h
   ·exact .inr (m5 _ h)
  ·rcases q9l h with h|h
   ·exact .inl h
   ·exact .inr (m5 _ h)
theorem qhz{l:List (Str×Addr)}{x:Str}{c:Addr}(h:(x,c)∈l): ∃d,l.lookup x=some d:=by
 induction l with
 | nil=>cases h
 | cons p r ih=>
  obtain⟨y,d⟩:=p;rw [pf];cases q:x==y with
  | true=>exact⟨d,rfl⟩
  | false=>
   rcases me.mp h with e|h
   ·cases e;simp at q
   ·exact ih h
theorem q9m:∀ {names:List (Str×NameKind)} {n:Nat} {acc:List (Str×Addr)} {x:Str},(x,NameKind.cell)∈names->∃c,(x,c)∈cellsFrom n names acc
 | [],_,_,_,h=>by cases h
 | (y,k) :: r,n,acc,x,h=>by
  unfold cellsFrom;rcases me.mp h with e|h
  ·cases e
   rw [mi (show(NameKind.cell==NameKind.cell)=true from rfl),q3s];exact⟨n,n8 _ m4⟩
  ·split
   ·exact q9m h
   ·exact q9m h
theorem qfo{scope:Scope}{globals:Addr}{cl:List (Str×Addr)}{qual:Str}{outer:Env}{Q:Env->Shared->Prop}
  (hQ:Q {scope,locals:=s.heap.objs.size,globals,cells:=cellsFrom (s.heap.objs.size+1) scope.names []++cl,qual,func:=none,code:=outer.code,frame:=outer.frame,builtins:=outer.builtins} {s with heap:=pushCells (s.heap.push {cls:=.type "dict",data:=.dict #[]}) scope.names}) :
  wpAny M A (newFunctionEnv scope globals cl [] qual none .none (some outer)) Q E s:=by
 simp only [newFunctionEnv,Option.isSome_some,ny];refine g0 (wpAny_alloc ?_);refine g0 (wpAny_layCells _ (fun name kind cells=>by cases hkc:kind==NameKind.cell <;> simp [hkc]) _ _ _ _ ?_);rw [show({s with heap:=s.heap.push {cls:=.type "dict",data:=.dict #[]} }:Shared).heap.objs.size=s.heap.objs.size+1 from ue ..,q3s];rw [g2s];exact g0 (g9 (g9 hQ))
end
abbrev zp(X:Cx)(N':List Str)(scope:Scope)(cl:List (Str×Addr))(C:Addr)(s₀:Shared)(H₀:Hp)(fp:List Addr): Cx:=
 {X with N:=N',env:=compEnvC scope cl C X.env,s₀:=s₀,H₀:=H₀,outer:=X.stack,ex:=fp,fn:=fun x=>scope.names.lookup x==some .cell,pn:=[],xe:=fun _ _=>False}
structure CapOkC(X:Cx)(N':List Str)(scope:Scope)(cap:List (Option Nat)): Prop where
 kind:scope.kind=.function
 cells:∀y∈scope.names,y.2=.cell->scope.names.lookup y.1=some .cell
 names:∀y∈scope.names,y.2=.local->scope.names.lookup y.1=some .local
 frees:∀y∈scope.names,y.2=.free->X.env.kindOf y.1=some .cell\/X.env.kindOf y.1=some .free
 len:cap.length=N'.length
 cap:∀(i j:Nat),cap[i]? = some (some j)->∃x,N'[i]? = some x/\X.N[j]? = some x/\scope.names.lookup x=some .free
section
variable{X:Cx}{pins:List (Addr×Obj)}{σ : St}{H:Hp}{s:Shared}{N':List Str}{scope:Scope}{cap:List (Option Nat)}{cl:List (Str×Addr)}{fp:List Addr}
theorem qfp(I:Inv X pins σ H s)(co:CapOkC X N' scope cap)(h1:∀x c,cl.lookup x=some c->X.env.cells.lookup x=some c)(h2:∀y∈scope.names,y.2=.free->∃c,cl.lookup y.1=some c)
  (hf:∀b∈fp,kh X pins H b) (ho:∀b∈fp,∃o,s.heap.get? b=some o) {t':Nat} :
  Inv (zp X N' scope (cellsFrom (s.heap.objs.size+1) scope.names []++cl) s.heap.objs.size s H fp) [] (q79 cap σ) H {s with heap:=pushCells (s.heap.push {cls:=.type "dict",data:=.dict #[]}) scope.names,toks:=t'}:=by
 have flt:∀b∈fp,b<s.heap.objs.size:=fun b hb=>let⟨o,e⟩:=ho b hb;gw e
 have okc:=cellsFrom_ok scope.names (s.heap.push {cls:=.type "dict",data:=.dict #[]}) (s.heap.objs.size+1) [] ⟨fun _ _ hm=>(nomatch hm),List.Pairwise.nil⟩ (by rw [ue];exact gu _);rw [ue] at okc;have hk:∀b o,s.heap.get? b=some o->(pushCells (s.heap.push {cls:=.type "dict",data:=.dict #[]}) scope.names).get? b=some o:=fun b o e=>g5g _ _ b o (gd _ e);have hn:(pushCells (s.heap.push {cls:=.type "dict",data:=.dict #[]}) scope.names).Ns s.heap.objs.size (fun _=>none):=(Heap.Ns.new s.heap (.type "dict")).keeps (g5g _ _);generalize hnw:cellsFrom (s.heap.objs.size+1) scope.names []=nw at okc;have newc:∀ {x c},nw.lookup x=some c->(x,NameKind.cell)∈scope.names/\s.heap.objs.size+1<=c:=fun {x c} e=>by
  have m:=g4g e;have m2:=m;rw [<- hnw] at m2;rcases q9l m2 with z|z
  ·cases z
  ·exact⟨z,(okc.empty x c m).2⟩
 have hasN:∀ {x},(x,NameKind.cell)∈scope.names->∃c,nw.lookup x=some c:=fun {x} e=>by
  obtain⟨c,hc⟩:=q9m (n:=s.heap.objs.size+1) (acc:=[]) e;rw [hnw] at hc;exact qhz hc
 have old:∀ {x c},cl.lookup x=some c->c<s.heap.objs.size:=fun {x c} e=>let⟨v,q⟩:=I.cell x c (h1 x c e);q.lt
 have cases2:∀ {x c},(nw++cl).lookup x=some c->nw.lookup x=some c\/(nw.lookup x=none/\cl.lookup x=some c):=fun {x c} e=>by
  rw [g47] at e;cases q:nw.lookup x with
  | some d=>rw [q] at e;exact .inl e
  | none=>rw [q] at e;exact .inr ⟨rfl,e⟩
 refine⟨⟨I.ok.mod,co.kind,I.ok.glob,I.ok.blt,gu _,fun x y c e1 e2=>?_,fun x hx=>?_,fun x c z e=>?_,I.ok.hd,I.ok.frames,.inl rfl,fun b hb=>?_,I.bs,ml I.ok.bsz I.sz,fun b o e hb=>?_,fun b hb z=>?_,I.stack,I.stkFree⟩,
  rfl,I.bare,Un.kept hk,⟨_,hn,fun i x v e1 e2 e3=>?_⟩,fun x c e=>?_,I.hok.fresh (gu _),fun x c e=>?_,fun p hp=>(nomatch hp),I.hok.kept hk,?_⟩
 ·rcases cases2 e1 with a|⟨_,a⟩ <;> rcases cases2 e2 with b|⟨_,b⟩
  ·exact name_of_addr okc.apart (g4g a) (g4g b)
  ·exact absurd (gm (old b) (g1a (newc a).2)) (g0a _)
  ·exact absurd (gm (old a) (g1a (newc b).2)) (g0a _)
  ·exact I.ok.inj x y c (h1 x c a) (h1 y c b)
 ·have hx':(relabel scope X.env).names.lookup x=some .cell\/(relabel scope X.env).names.lookup x=some .free:=hx
  have key:(scope.names.lookup x=some .cell)\/(scope.names.lookup x=some .free):=by
   rcases hx' with q|q
   ·rcases q19 q with z|⟨_,z⟩
    ·exact .inl z
    ·exact .inr z
   ·rcases q19 q with z|⟨z,_⟩
    ·exact .inr z
    ·cases z
  show ∃c,(nw++cl).lookup x=some c;rw [g47];rcases key with z|z
  ·obtain⟨c,hc⟩:=hasN (lookup_mem z)
   exact⟨c,by rw [hc];rfl⟩
  ·obtain⟨c,hc⟩:=h2 (x,.free) (lookup_mem z) rfl
   cases q:nw.lookup x with
   | some d=>exact⟨d,rfl⟩
   | none=>exact⟨c,hc⟩
 ·have z':scope.names.lookup x=some .cell:=by simpa using z
  obtain⟨d,hd⟩:=hasN (lookup_mem z');rcases cases2 e with a|⟨a,_⟩
  ·exact g1a (newc a).2
  ·rw [hd] at a;cases a
 ·obtain⟨f0,f1,f2,f3,f4,f5⟩:=hf b hb
  refine⟨m9 (flt b hb),fun x c e=>?_⟩;rcases cases2 e with a|⟨_,a⟩
  ·exact uh (gm (flt b hb) (g1a (newc a).2))
  ·exact f4 x c (h1 x c a)
 ·obtain⟨f0,f1,f2,f3,f4,f5⟩:=hf b hb
  rcases f3 with z|z
  ·exact I.ok.noex b o e z
  ·exact absurd (gm (gw e) (ml I.ok.bsz z)) (g0a _)
 ·obtain⟨f0,f1,f2,f3,f4,f5⟩:=hf b hb
  rcases me.mp (I.stkSub b z) with q|q
  ·exact f1 q
  ·exact f2 q
 ·have e2':(cap.map fun o=>o.bind fun j=>(σ[j]?).join)[i]? = some (some v):=e2
  rw [mn] at e2';cases q:cap[i]? with
  | none=>rw [q] at e2';cases e2'
  | some o=>
   rw [q] at e2';cases o with
   | none=>cases e2'
   | some j=>
    obtain⟨y,a1,a2,a3⟩:=co.cap i j q;have e1':N'[i]? = some x:=e1;rw [a1] at e1';obtain rfl:y=x:=m8 e1';have ej:(σ[j]?).join=some v:=by
     have:=e2';simp only [nv,ma,g2z] at this;exact this
    have ej' : σ[j]? = some (some v):=by
     cases z : σ[j]? with
     | none=>rw [z] at ej;cases ej
     | some u=>rw [z] at ej;simp only [g3c] at ej;rw [ej]
    have kd:=co.frees (y,.free) (lookup_mem a3) rfl;obtain⟨m0,hn0,hl0⟩:=I.loc;have vis:Vis X.env.scope y:=by
     rcases kd with k|k
     ·exact .inr (.inl k)
     ·exact .inr (.inr k)
    obtain⟨u,ru,lk⟩:=hl0 j y v a2 ej' vis;refine⟨u,ru,.inr ⟨q3r a3,?_⟩⟩;obtain⟨c,hc⟩:=h2 (y,.free) (lookup_mem a3) rfl;have nn:nw.lookup y=none:=by
     cases q:nw.lookup y with
     | none=>rfl
     | some d=>
      have:=co.cells (y,.cell) (newc q).1 rfl;rw [a3] at this;cases this
    rcases lk with⟨k,_⟩|⟨_,c',hc',z⟩
    ·rcases kd with k'|k'
     ·rw [k] at k';cases k'
     ·rw [k] at k';cases k'
    ·have:=h1 _ _ hc
     rw [hc'] at this;obtain rfl:c'=c:=m8 this;obtain⟨o,eo,ed⟩:=z;exact⟨c',by show(nw++cl).lookup y=_;rw [g47,nn];exact hc,o,hk _ _ eo,ed⟩
 ·rcases cases2 e with a|⟨_,a⟩
  ·exact⟨none,(okc.empty x c (g4g a)).1⟩
  ·obtain⟨v,o,eo,ed⟩:=I.cell x c (h1 x c a)
   exact⟨v,o,hk _ _ eo,ed⟩
 ·rcases cases2 e with a|⟨_,a⟩
  ·exact I.hok.fresh (g1a (newc a).2)
  ·exact I.freeC x c (h1 x c a)
 ·show(cap.map _).length=N'.length
  rw [mj];exact co.len
theorem qc1{N':List Str}{C:Addr}{H':Hp}{s':Shared}{σ':St}{h':Heap}(I:Inv X pins σ H s)(hf:∀b∈fp,kh X pins H b)(J:Inv (zp X N' scope cl C s H fp) [] σ' H' s')(hs:Heap.SameBut C s'.heap h'):
  Inv X pins σ H' {s' with heap:=h'}:=by
 have hC:s.heap.objs.size<=C:=J.ok.above;have kp:∀b o,b≠C->s'.heap.get? b=some o->h'.get? b=some o:=fun b o hb e=>(hs.2 b hb).trans e;have hC0:H' C=none:=J.free;have un:Un (frs X.stack) fp H H' s.heap h':=by
  have u:Un (frs X.stack) fp H H' s.heap s'.heap:=J.base;have neC:∀b o,s.heap.get? b=some o->b≠C:=fun b o e=>m9 (gm (gw e) hC);exact⟨fun b o e n h1 h2=>kp b o (neC b o e) (u.keep b o e n h1 h2),fun b o e n h1 h2=>let⟨sl,q⟩:=u.slot b o e n h1 h2; ⟨sl,kp b _ (neC b o e) q⟩,u.free,fun b o e h=>let⟨o',q⟩:=u.there b o e h; ⟨o',kp b o' (neC b o e) q⟩,u.tups,u.frzs,u.tbls⟩
 have hok:HOk X.prog X.w H' h':=fun b u e=>by
  refine(J.hok b u e).stay (fun c v hc q=>kp c v ?_ q) (fun _ q=>q) fun _ _ q=>q;rcases hc with z|z
  ·rw [z];intro z2;rw [z2,hC0] at e;cases e
  ·intro z2;rw [z2,hC0] at z;cases z
 exact I.call' (s':={s' with heap:=h'}) (ch:=fp) J.os un hok J.bare fun b hb=>by
  obtain⟨f0,f1,f2,f3,f4,f5⟩:=hf b hb;exact⟨f3,f1,f4,f5⟩
end
section
variable{X:Cx}{N':List Str}{scope:Scope}{cap:List (Option Nat)}{tg iter elt:Expr}{ifs:List Expr}{wi:TI}{g:TG}{tc:TT}{te:TE}{pos:Pos}
theorem q67{cl:List (Str×Addr)}{pins:List (Addr×Obj)}{s:Shared}{σ : St}{H:Hp}{it:Addr}{fp:List Addr}{tn:Nat->Heap->Prop}{J:It}{E:Value->Shared->Prop}{K:Addr->Hp->Prop}
  {RR:Value->Addr->Result->Shared->Prop} (hc:X.calm=true) (co:CapOkC X N' scope cap)
  (h1:∀x c,cl.lookup x=some c->X.env.cells.lookup x=some c) (h2:∀y∈scope.names,y.2=.free->∃c,cl.lookup y.1=some c)
  (hg:∀cl C s₀ H₀ fp,PG (zp X N' scope cl C s₀ H₀ fp) tg g) (hcs:∀cl C s₀ H₀ fp,q0o (zp X N' scope cl C s₀ H₀ fp) ifs tc) (he:∀cl C s₀ H₀ fp,PE (zp X N' scope cl C s₀ H₀ fp) elt te)
  (I:Inv X pins σ H s) (T:Turn X.prog X.w X.K tg J fp it tn) (st:tn 0 s.heap) (hf:∀b∈fp,kh X pins H b) (h:∀p,H p=none->qn6 J cap g tc te σ H p (K p))
  (hRR:∀(D C:Addr) (s':Shared) (H':Hp),s.heap.objs.size<=C->(∃m,s'.heap.Ns C m)->(∀h',Heap.SameBut C s'.heap h'->Inv X pins σ H' {s' with heap:=h'})->H' C=none->K D H'->RR (.ref D) C (.ok .next) s') :
  wpAny (model X.prog X.w) X.A (newList []) (fun acc s₃=>wpAny (model X.prog X.w) X.A (newFunctionEnv scope X.env.globals cl [] X.env.qual none .none (some X.env)) (fun cenv s₄=>
   codeAny (model X.prog X.w) X.A (.compStart (.ListComp elt [⟨tg,iter,ifs,0⟩] scope pos) 0 (.ref it) acc {cenv with scope:=relabel scope X.env}) (RR acc cenv.locals) s₄) E s₃) E s:=by
 refine td (qfo ?_);have hD:H s.heap.objs.size=none:=I.fresh;have I3:Inv X pins σ (upd H s.heap.objs.size (.lst [])) {s with heap:=s.heap.push {cls:=.type "list",dict:=none,data:=.seq ([]:List Value).toArray} }:=I.lnew (ys:=[]) (its:=[]) (t':=s.toks) .nil (uy _);obtain⟨W,⟨m0,w0⟩,turn⟩:=h s.heap.objs.size hD;have fobj:∀b∈fp,∃o,s.heap.get? b=some o:=fun b hb=>let⟨o,e,_⟩:=T.obj 0 _ st b hb; ⟨o,e⟩
 generalize e3:({s with heap:=s.heap.push {cls:=.type "list",dict:=none,data:=.seq ([]:List Value).toArray} }:Shared)=s3 at I3;have es3:s3.heap=s.heap.push {cls:=.type "list",dict:=none,data:=.seq ([]:List Value).toArray}:=by rw [<- e3]
 have eC:(s.heap.push {cls:=.type "list",dict:=none,data:=.seq ([]:List Value).toArray}).objs.size=s3.heap.objs.size:=by rw [es3]
 have hf3:∀b∈fp,kh X pins (upd H s.heap.objs.size (.lst [])) b:=fun b hb=>by
  obtain⟨f0,f1⟩:=hf b hb;obtain⟨o,e⟩:=fobj b hb;exact⟨by rw [qi (m9 (gw e))];exact f0,f1⟩
 generalize ehh:pushCells (s3.heap.push {cls:=.type "dict",data:=.dict #[]}) scope.names=hh;have ehh3:hh=pushCells (s3.heap.push {cls:=.type "dict",data:=.dict #[]}) scope.names:=ehh.symm;have kp:∀b o,s3.heap.get? b=some o->hh.get? b=some o:=fun b o e=>by rw [ehh3];exact g5g _ _ b o (gd _ e)
 have hle:s.heap.objs.size<=s3.heap.objs.size:=by rw [es3,ue];exact g29 _
 have s3e:∀t:Nat,({s with heap:=hh,toks:=t}:Shared) = {s3 with heap:=hh,toks:=t}:=fun t=>by rw [<- e3]
 have I4:Inv (zp X N' scope (cellsFrom (s3.heap.objs.size+1) scope.names []++cl) s3.heap.objs.size s3 (upd H s.heap.objs.size (.lst [])) fp) [] (q79 cap σ) (upd H s.heap.objs.size (.lst [])) {s3 with heap:=hh,toks:=s.toks}:=by
  rw [ehh3];exact qfp I3 co h1 h2 hf3 (fun b hb=>let⟨o,e⟩:=fobj b hb; ⟨o,by rw [es3];exact gd _ e⟩)
 have st4:tn 0 hh:=T.keep 0 _ _ st fun b hb o e=>kp b o (by rw [es3];exact gd _ e);have etk:s3.toks=s.toks:=by rw [<- e3]
 show codeAny (model X.prog X.w) X.A (.compStart (.ListComp elt [⟨tg,iter,ifs,0⟩] scope pos) 0 (.ref it) (.ref s.heap.objs.size) (compEnvC scope (cellsFrom (s3.heap.objs.size+1) scope.names []++cl) s3.heap.objs.size X.env)) (RR (.ref s.heap.objs.size) s3.heap.objs.size)
  {s3 with heap:=hh,toks:=s3.toks}
 rw [etk];generalize eX:zp X N' scope (cellsFrom (s3.heap.objs.size+1) scope.names []++cl) s3.heap.objs.size s3 (upd H s.heap.objs.size (.lst [])) fp=X' at I4;have hg':PG X' tg g:=by rw [<- eX];exact hg _ _ _ _ _
 have hcs':q0o X' ifs tc:=by rw [<- eX];exact hcs _ _ _ _ _
 have he':PE X' elt te:=by rw [<- eX];exact he _ _ _ _ _
 have eenv:X'.env=compEnvC scope (cellsFrom (s3.heap.objs.size+1) scope.names []++cl) s3.heap.objs.size X.env:=by rw [<- eX]
 have exe:X'.xe=fun _ _=>False:=by rw [<- eX]
 have eex:X'.ex=fp:=by rw [<- eX]
 have eprog:X'.prog=X.prog:=by rw [<- eX]
 have ew:X'.w=X.w:=by rw [<- eX]
 have eK:X'.K=X.K:=by rw [<- eX]
 have eA:X'.A=X.A:=by rw [<- eX]
 have ecalm:X'.calm=true:=by rw [<- eX];exact hc
 have epn:X'.pn=[]:=by rw [<- eX]
 have eloc:X'.env.locals=s3.heap.objs.size:=by rw [eenv];rfl
 have ok':=I4.ok;have stat:∀ {H':Hp},(∀b∈fp,H' b=none)->∀b∈fp,kh X' [] H' b:=fun hn b hb=>by
  have hbx:b∈X'.ex:=by rw [eex];exact hb
  exact⟨hn b hb,(ok'.exf b hbx).1,ok'.exfs b hbx,.inl hbx,(ok'.exf b hbx).2,fun p hp=>by rw [epn] at hp;cases hp⟩
 have back:∀ {σ':St} {H':Hp} {s':Shared},Inv X' [] σ' H' s'->K s.heap.objs.size H'->RR (.ref s.heap.objs.size) s3.heap.objs.size (.ok .next) s':=fun {σ' H' s'} J' k=>by
  refine hRR _ _ _ H' hle ?_ (fun h' hs'=>?_) ?_ k
  ·obtain⟨m,hm,_⟩:=J'.loc
   exact⟨m,by rw [<- eloc];exact hm⟩
  ·rw [<- eX] at J'
   exact qc1 I3 hf3 J' hs'
  ·rw [<- eloc];exact J'.free
 have loop:codeAny (model X.prog X.w) X.A (.compLoop (.ListComp elt [⟨tg,iter,ifs,0⟩] scope pos) 0 (.ref it) (.ref s.heap.objs.size) (compEnvC scope (cellsFrom (s3.heap.objs.size+1) scope.names []++cl) s3.heap.objs.size X.env)) (RR (.ref s.heap.objs.size) s3.heap.objs.size)
   {s3 with heap:=hh,toks:=s.toks}:=by
  refine qc0 (fun n s'=>∃i σ' H',Inv X' [] σ' H' s'/\tn i s'.heap/\(∀b∈fp,H' b=none)/\W i n σ' H') ?_ m0 ⟨0,_,_,I4,st4,fun b hb=>(hf3 b hb).1,w0⟩
  rintro n s5 ⟨i, σ5,H5,I5,st5,fr5,w5⟩
  rw [<- eenv];rcases turn i n σ5 H5 w5 with⟨stop,qn⟩|⟨go,step⟩
  ·have:=T.done X' eprog ew eK ecalm i [] s5 σ5 H5 (fun _ _=>False) I5 (stat fr5) st5 stop
   rw [eA] at this;refine thn this fun r s6 ⟨hr,I6⟩=>?_;subst hr;exact back I6 qn
  ·have:=T.item X' eprog ew eK ecalm i [] s5 σ5 H5 (fun _ _=>False) I5 (stat fr5) st5 go
   rw [eA] at this;refine thn this fun r s6 ⟨u,hr,h6⟩=>?_;subst hr;refine thn h6 fun _ s7 ⟨x,H7,I7,r7,y7,st7,fr7⟩=>?_;have I7':=I7.pinned (stat fr7) (T.obj _ _ st7);have hg2:=hg' _ s7 σ5 H7 x u _ I7' r7 (step x H7 y7);rw [exe,eprog,ew,eA] at hg2;refine thn hg2 fun _ s8 ⟨σ8,H8,I8,q8⟩=>?_;have hc2:=hcs' _ s8 σ8 H8 _ I8 q8;rw [exe,eprog,ew,eA] at hc2;refine thn hc2 fun ok s9 ⟨H9,I9,q9⟩=>?_;have again:∀ {H':Hp} {s':Shared} {m':Nat},Inv X' ([]++q2b fp s7.heap) σ8 H' s'->m'<n->W (i+1) m' σ8 H'->∃m,m<n/\∃i σ' H',Inv X' [] σ' H' s'/\tn i s'.heap/\(∀b∈fp,H' b=none)/\W i m σ' H':=fun {H' s' m'} J' hm w'=>by
    refine⟨m',hm,i+1, σ8,H',J'.unpinned,T.keep _ _ _ st7 fun b hb o e=>(J'.pin (b,o) (n8 _ (n8 _ (q0v hb e)))).1,fun b hb=>?_,w'⟩;obtain⟨o,e,d⟩:=T.obj _ _ st7 b hb;exact(J'.pin (b,o) (n8 _ (n8 _ (q0v hb e)))).2.1
   cases ok with
   | false=>
    rw [mf mh] at q9 ⊢;obtain⟨m',hm,w'⟩:=q9;exact again I9 hm w'
   | true=>
    rw [mi rfl] at q9 ⊢;have he2:=he' _ s9 σ8 H9 _ I9 q9;rw [exe,eprog,ew,eA] at he2;refine thn he2 fun y s10 ⟨yv,H10,I10,r10,xs,hp,hz,m',hm,w'⟩=>?_;have ha2:=q84 (X:=X') ([]++q2b fp s7.heap) s10 σ8 H10 (.ref s.heap.objs.size) [yv] (.ref s.heap.objs.size) [y] (fun _ H'=>H'=upd H10 s.heap.objs.size (.lst (xs++[yv]))) I10 rfl (.cons r10 .nil) ⟨_,xs,yv,rfl,rfl,hp,hz,rfl⟩;rw [exe,eprog,ew,eA] at ha2;refine thn ha2 fun _ s11 ⟨_,H11,I11,_,e11⟩=>?_;subst e11;exact again I11 hm w'
 exact codeAny_compStart_list loop (T.self _ 0 _ _ _ st4 loop)
theorem qi0(hc:X.calm=true)(co:CapOkC X N' scope cap)(hi:PI X tg iter wi)
  (hg:∀cl C s₀ H₀ fp,PG (zp X N' scope cl C s₀ H₀ fp) tg g) (hcs:∀cl C s₀ H₀ fp,q0o (zp X N' scope cl C s₀ H₀ fp) ifs tc) (he:∀cl C s₀ H₀ fp,PE (zp X N' scope cl C s₀ H₀ fp) elt te)
  (hs:∀x,foldedSetIterable iter X.env x=pure x:=by intro _;rfl):PE X (.ListComp elt [⟨tg,iter,ifs,0⟩] scope pos) (qe5 wi cap g tc te):=by
 intro pins s σ H Q I h;obtain⟨cl,ecl,c1,c2⟩:=q66 (scope:=scope) (env:=X.env) fun y hy hf=>I.ok.has y.1 (co.frees y hy hf);rw [eval_ListComp];refine wpAny_comprehension_free (use:=none) rfl hs ecl co.kind co.names (tm (hi pins s σ H _ I h) (fun v s1 h1=>tm h1 (fun itv s2 h2=>?_) fun _ _ e=>e) fun _ _ e=>e);obtain⟨it,fp,tn,J,H2,rfl,I2,T,st2,f2,h2⟩:=h2;refine q67 (K:=fun p=>Q (.ref p)) (RR:=fun acc C=>compPost (model X.prog X.w) X.A X.xe none (EP X pins σ Q) acc C) hc co c1 c2 hg hcs he I2 T st2 f2 h2 ?_;intro D C s' H' hle ⟨m,hm⟩ hI hC q;exact⟨m,hm,fun h' hs'=>⟨.ref D,H',hI h' hs',rfl,q⟩⟩
end
section
variable{X:Cx}{N':List Str}{scope:Scope}{cap:List (Option Nat)}{tg iter elt:Expr}{ifs:List Expr}{wi:TI}{g:TG}{tc:TT}{te:TE}{pos:Pos}
theorem qc2{i:Nat}{x:Str}{px pe:Pos}(hc:X.calm=true)(hN:X.N.Nodup)(hx0:X.N[i]? = some x)(hx:X.env.scope.names.lookup x=some .local)(co:CapOkC X N' scope cap)(hi:PI X tg iter wi)
  (hg:∀cl C s₀ H₀ fp,PG (zp X N' scope cl C s₀ H₀ fp) tg g) (hcs:∀cl C s₀ H₀ fp,q0o (zp X N' scope cl C s₀ H₀ fp) ifs tc) (he:∀cl C s₀ H₀ fp,PE (zp X N' scope cl C s₀ H₀ fp) elt te)
  (hsw:swapsWith (.ListComp elt [⟨tg,iter,ifs,0⟩] scope pe) (some (.Name x px)) pos.line X.env=pure true:=by rfl)
  (hs:∀x,foldedSetIterable iter X.env x=pure x:=by intro _;rfl):PS X (.Assign [.Name x px] (.ListComp elt [⟨tg,iter,ifs,0⟩] scope pe) pos) (q5d (qe5 wi cap g tc te) (q0u i)):=by
 intro pins s σ H D I h;obtain⟨cl,ecl,c1,c2⟩:=q66 (scope:=scope) (env:=X.env) fun y hy hf=>I.ok.has y.1 (co.frees y hy hf);rw [exec_Assign_Name_used _ _ _ _ hsw];refine g0 (wpAny_standAt (g0 ?_));show wpAny _ X.A (do let _ <- comprehension (.ListComp elt [⟨tg,iter,ifs,0⟩] scope pe) scope X.env _ (newList []) false (eval iter X.env) (some (assign (.Name x px) X.env))) _ _ s;refine g0 (tm (wpAny_comprehension_free (use:=some (assign (.Name x px) X.env)) (Q:=fun _ s'=>SP X pins D .next s') rfl hs ecl co.kind co.names
  (tm (hi pins s σ H _ I h) (fun v s1 h1=>tm h1 (fun itv s2 h2=>?_) fun _ _ e=>e) fun _ _ e=>e)) (fun _ s' hq=>g9 (g9 hq)) fun _ _ e=>e)
 obtain⟨it,fp,tn,J,H2,rfl,I2,T,st2,f2,h2⟩:=h2;refine q67 (K:=fun p H'=>q0u i (.ref p) σ H' D.nx) (RR:=fun acc C=>compPost (model X.prog X.w) X.A X.xe (some (assign (.Name x px) X.env)) (fun _ s'=>SP X pins D .next s') acc C) hc co c1 c2 hg hcs he I2 T st2 f2 h2 ?_;intro Da C s' H' hle ⟨m,hm⟩ hI hC q;have I':Inv X pins σ H' s':=hI s'.heap (g1u ..);obtain⟨o,es,ep,ho,hd,hk⟩:=id hm;have hCL:C≠X.env.locals:=uh (gm I2.lt hle);have hCf:C∉X.fs:=I2.nofs hle;have I'':Inv X (pins++[(C,o)]) σ H' s':=I'.pins_of fun p hp=>(nh.mp hp).elim (fun z=>I'.pin p (n8 _ z)) fun z=>by
  obtain rfl:p=(C,o):=by simpa using z
  exact⟨ho,hC,hCL,hCf,fun v z=>by rw [hd] at z;cases z⟩
 show wpAny (model X.prog X.w) X.A (assign (.Name x px) X.env (.ref Da)) _ _ _;refine wpAny_assign_Name (q5c I'' hN hx0 (.inl hx) (v:=.ref Da) rfl (fun s'' J=>?_) (.inr hx));have hC2:s''.heap.get? C=some o:=(J.pin (C,o) (n8 _ (n8 _ m4))).1;refine⟨m,⟨o,es,ep,hC2,hd,hk⟩,fun h' hs'=>?_⟩;have J2:Inv X pins (σ.set i (some (.ref Da))) H' {s'' with heap:=h'}:=J.unpinned.turned (t':=s''.toks) (it:=C) (fun b ob hb e=>(hs'.2 b hb).trans e) hC hCL
  (.inr (ml I2.sz hle)) (fun y c e z=>by
   obtain⟨v,q2⟩:=I2.cell y c e;exact absurd (gm q2.lt (by rw [z];exact hle)) (g0a _)) fun p hp z=>by
   exact absurd (gm (gw (I2.pin p hp).1) (by rw [z];exact hle)) (g0a _)
 exact⟨_,H',J2,q⟩
end
end L2
namespace DL
open PySem PySem.Spec PyProof.Rows L2
structure ExcC(K:PySem.W.Frag)(D:Addr): Prop where
 ga:PySem.W.findIn K (.ref D) "__getattribute__" = some (some (.builtin "BaseException.__getattribute__"))
 gk:PySem.W.findIn K (.ref D) "__getattr__" = some none
 cc:PySem.W.findIn K (.ref D) "__class__" = some (some (.builtin "object.__class__"))
 cs:PySem.W.specialIn K (.builtin "object.__class__") "__get__" = some (some (.builtin "getset_descriptor.__get__"))
 ct:PySem.W.takesIn K (.builtin "object.__class__")=some true
 cm:PySem.W.mroIn K D (.type "object")=some true
 cb:PySem.W.mroIn K D (.type "BaseException")=some true
section
variable{prog:Program}{w:World}{A:Around}{E:Value->Shared->Prop}{K:PySem.W.Frag}{s:Shared}{x D:Addr}{ox:Obj}
open PySem.W in
theorem qd0(c:ExcC K D): (clsIn K D).isSome=true:=by
 have:=c.cm;unfold mroIn at this;cases q:clsIn K D with
 | none=>rw [q] at this;cases this
 | some cd=>rfl
def XE(a C:Addr)(h:Heap): Prop:=∃o vs,h.get? a=some o/\o.cls=.ref C/\o.data=.fields vs
open PySem.W in
theorem q2e{M:Model}{a C:Addr}{h:Heap}(e:XE a C h): Looks M h (typeOf (.ref a)) (.ref C):=by
 obtain⟨o,vs,e1,e2,e3⟩:=e;exact e2 ▸ (Looks.ld e1).andThen .now
open PySem.W Builtin.ObjectAttr in
theorem qkm{M:Model}{h:Heap}(c:ExcC K D)(X:K.In h): Looks M h (find (.ref x) (.ref D) "__class__") (.bind (.builtin "getset_descriptor.__get__") (.builtin "object.__class__")):=by
 refine(looks_findIn (M:=M) X c.cc).andThen ((looks_specialIn (M:=M) X c.cs).andThen ?_);exact(show Looks M h (dataDescriptor? (some (.builtin "object.__class__")) (some (.builtin "getset_descriptor.__get__"))) (some (.builtin "getset_descriptor.__get__",.builtin "object.__class__")) from(looks_takesIn (M:=M) X c.ct).andThen .now).andThen (Looks.tag .now)
open PySem.W Builtin Builtin.ObjectAttr Builtin.Getset_descriptor in
theorem qn7{tp:Value}{R:Result->Shared->Prop}(c:ExcC K D)(X:K.In s.heap)(I:XE x D s.heap)(h:R (.ok (.ret (.ref D))) s):
  codeAny (model prog w) A (.call (.builtin "getset_descriptor.__get__") ⟨[.builtin "object.__class__",.ref x,tp],[]⟩) R s:=by
 obtain⟨hh,g,dr,t,os⟩:=s;have L0:=q2e (M:=model prog w) I;have L1:=looks_mroIn (M:=model prog w) X c.cm;refine g3i KF.slot_gs.plain KF.entry_gs (KF.slot_gs.check _ _ _ _ _ _ _ _ KF.type_class (KF.args_gs _ _ _) ?_);unfold Builtin.«getset_descriptor.__get__» descrGet;rw [dga_obj];refine g0 (g9 ?_);unfold descrGetter descrCheckInstance descrNameAndClass isInstance;simp only [KF.owner_class]
 repeat lk
 refine⟨Code.quiet_builtin _ (by decide +kernel),g06 KF.entry_class ?_⟩;unfold Builtin.«object.__class__» shownTypeOf
 repeat lk
 exact h
open PySem.W in
theorem qi1{tk:Tok}{Q:Fin->Shared->Prop}(c:ExcC K D)(X:K.In s.heap)(I:XE x D s.heap)(hq:Q (.done (.ret (.ref D))) s):
  wpAny (model prog w) A (Builtin.«object.__getattribute__» ⟨[.ref x,.str "__class__" tk],[]⟩) Q E s:=by
 obtain⟨hh,g,dr,t,os⟩:=s;have L0:=q2e (M:=model prog w) I;have L1:=qkm (x:=x) (M:=model prog w) c X;unfold Builtin.«object.__getattribute__»;refine g0 (g9 (g0 (g9 (g0 (L0.at (g0 (L1.at ?_)))))));show wpAny _ _ (Builtin.ObjectAttr.bindTo _ _ _ _) _ _ _;unfold Builtin.ObjectAttr.bindTo;refine g0 (nz (g4t (qn7 c X I ?_)));exact g9 hq
open PySem.W in
theorem qi2{M:Model}{nameV:Value}{Q:Unit->Shared->Prop}(c:ExcC K D)(X:K.In s.heap)(I:XE x D s.heap)(hq:Q () s): wpAny M A (checkBuiltinCall "BaseException.__getattribute__" ⟨[.ref x,nameV],[]⟩) Q E s:=by
 obtain⟨hh,g,dr,t,os⟩:=s;have L0:=q2e (M:=M) I;have L1:=looks_mroIn (M:=M) X c.cb;have hk:builtinKind "BaseException.__getattribute__" = some .slot:=by decide +kernel
 have hsplit:splitId "BaseException.__getattribute__" = some ("BaseException","__getattribute__"):=by decide +kernel
 have ha:=F.args_bexc_ga (.ref x) nameV;simp only [checkBuiltinCall,hk,hsplit];refine g0 ?_;unfold isInstance;refine g0 (L0.at (L1.at ?_))
 repeat (first|wp_step)
 exact hq
open PySem.W in
theorem qi3{Q:Option Value->Shared->Prop}(c:ExcC K D)(X:K.In s.heap)(I:XE x D s.heap)(h:Q (some (.ref D)) {s with toks:=s.toks+1}): wpAny (model prog w) A (getAttr? (.ref x) "__class__") Q E s:=by
 obtain⟨hh,g,dr,t,os⟩:=s;have L0:=q2e (M:=model prog w) I;have L1:=looks_findIn (M:=model prog w) X c.ga;have L2:=looks_findIn (M:=model prog w) X c.gk;have f3:=g48.ga.bind (.ref x);unfold getAttr? getAttrBy? getAttrBy;refine g0 (wpAny_mkText (g0 (g0i (nz (g0 (L0.at (g0 (L1.at ?_))))))));show wpAny _ _ (getAttrByItsOwn _ _ _ _ _ _) _ _ _;unfold getAttrByItsOwn hookBefore;rw [mi (show onTheHeap (Value.ref D)=true from rfl)];refine g0 (L2.at ?_);refine g0 (g0i (nz ?_));unfold callGetattribute boundAndCalled;rw [mf (by decide)];rw [f3];refine g0 (g9 ?_);refine g4t (g3i g48.ga.plain F.entry_bexc_ga (qi2 c X I (qi1 c X I ?_)));dsimp only;exact handed_on rfl (g9 h)
theorem qi4(c:ExcC K D): PySem.W.KitX K (.ref x) (.ref D) (XE x D) where
 ty:=fun M h _ e=>q2e e
 it:=fun _ _ X _=>by
  obtain⟨cdD,hcD⟩:=g0p.mp (qd0 c);unfold PySem.W.clsIn at hcD
  split at hcD
  ·rename_i c' d' cd' sl' ho
   intro A' Q' E' s' k q;unfold isType loadHead;exact g0 (wpAny_loadPart (k _ _ (X _ _ ho)) (g9 q))
  ·cases hcD
 ne:=fun h tp dd its n sl X htp=>by
  obtain⟨cdD,hcD⟩:=g0p.mp (qd0 c);refine Bool.eq_false_iff.mpr fun q=>?_;have e:D=tp:=Value.ref.inj (g3h.mp q);subst e;unfold PySem.W.clsIn at hcD
  split at hcD
  ·rename_i c' d' cd' sl' ho
   have z:=(X _ _ ho).symm.trans htp;cases z
  ·cases hcD
 ca:=fun X e k=>qi3 c X e k
end
def qn8(K:PySem.W.Frag)(C:Addr): Prop:=ExcC K C/\∀T:String,T∈["int","bool","tuple","list","str","dict"]->PySem.W.kitOne K (.ref C) (.type T)=some false
inductive D where
 | non
 | bl (b:Bool)
 | int (i:Int)
 | str (x:Str)
 | tup (ds:List D)
 | lst (ds:List D)
 | dct (ks:List Key) (vs:List D)
 | dtt (ks:List (List Int)) (vs:List D)
 | obj (x:Str)
 | exc (x:Str)
abbrev Frag:=PySem.W.Frag
abbrev St:=L2.St
def qn9(K:Frag)(C:Addr): Prop:=PySem.W.plainGet K C "__class__" = true/\PySem.W.hasDictIn K C=true/\PySem.W.findIn K (.ref C) "__class__" = some (some (.builtin "object.__class__")) /\
 PySem.W.specialIn K (.builtin "object.__class__") "__get__" = some (some (.builtin "getset_descriptor.__get__"))/\PySem.W.takesIn K (.builtin "object.__class__")=some true/\PySem.W.mroIn K C (.type "object")=some true /\
 ∀T:String,T∈["int","bool","tuple","list","str","dict"]->PySem.W.kitOne K (.ref C) (.type T)=some false
def qna(x:List Int×Addr×Value): DictEntry:=⟨reduceHash (Builtin.Tuple.tupleHashOf (x.1.map hashInt)),.ref x.2.1,x.2.2⟩
def DE(a:Addr)(xs:List (List Int×Addr×Value))(ep:Nat)(h:Heap): Prop:=∃o es,h.get? a=some o/\o.ExactDict/\o.data=.dict es ep/\es.toList=xs.map qna
mutual
/-- v stands for the datum in the heap H -/
def Rep(K:Frag)(H:Hp): D->V->Prop
 | .non,v=>v=.non
 | .bl b,v=>v=.bl b
 | .int i,v=>v=.int i
 | .str x,v=>v=.str x
 | .tup ds,v=>∃a xs,v=.ref a/\SqT K H a xs/\RepL K H ds xs
 | .lst ds,v=>∃a xs,v=.ref a/\SqL K H a xs/\RepL K H ds xs
 | .dct ks vs,v=>∃a xs,v=.ref a/\H a=some (.dK (ks.zip xs))/\ks.length=xs.length/\RepL K H vs xs
 | .dtt ks vs,v=>∃a xs ys ep,v=.ref a/\H a=some (.ext (DE a xs ep))/\xs.map (·.1)=ks/\ks.Nodup/\xs.length<=sizeLine/\(a==sysModules)=false/\(∀x∈xs,SqT K H x.2.1 (x.1.map V.int))/\Vals ys (xs.map fun x=>x.2.2)/\RepL K H vs ys
 | .obj x,v=>∃a dx C,v=.ref a/\H a=some (.ins C dx [])/\PySem.W.nsIn K mainGlobals x=some (some (.ref C))/\qn9 K C
 | .exc x,v=>∃a C,v=.ref a/\H a=some (.ext (XE a C))/\PySem.W.nsIn K mainGlobals x=some (some (.ref C))/\qn8 K C
def RepL(K:Frag)(H:Hp): List D->List V->Prop
 | [],xs=>xs=[]
 | d :: ds,xs=>∃x r,xs=x :: r/\Rep K H d x/\RepL K H ds r
end
theorem qh{K:Frag}{H H':Hp}{a:Addr}{xs:List V}(e:Same H H')(h:SqT K H a xs): SqT K H' a xs:=by
 rcases h with(h|⟨o,h⟩)|h
 ·exact .inl (.inl (e _ _ h))
 ·exact .inl (.inr ⟨o,e _ _ h⟩)
 ·exact .inr h
mutual
theorem Rep.mono{K:Frag}{H H':Hp}(e:Same H H'): ∀ {d:D} {v:V},Rep K H d v->Rep K H' d v
 | .non,v,h=>by simpa only [Rep] using h
 | .bl b,v,h=>by simpa only [Rep] using h
 | .int i,v,h=>by simpa only [Rep] using h
 | .str x,v,h=>by simpa only [Rep] using h
 | .tup ds,v,h=>by
  simp only [Rep] at h ⊢;obtain⟨a,xs,e1,e2,e3⟩:=h;exact⟨a,xs,e1,qh e e2,RepL.mono e e3⟩
 | .lst ds,v,h=>by
  simp only [Rep] at h ⊢;obtain⟨a,xs,e1,e2,e3⟩:=h;exact⟨a,xs,e1,e.seq e2,RepL.mono e e3⟩
 | .dct ks vs,v,h=>by
  simp only [Rep] at h ⊢;obtain⟨a,xs,e1,e2,e3,e4⟩:=h;exact⟨a,xs,e1,e _ _ e2,e3,RepL.mono e e4⟩
 | .dtt ks vs,v,h=>by
  simp only [Rep] at h ⊢;obtain⟨a,xs,ys,ep,e1,e2,e3,e4,e5,e6,e7,e8,e9⟩:=h;exact⟨a,xs,ys,ep,e1,e _ _ e2,e3,e4,e5,e6,fun x hx=>qh e (e7 x hx),e8,RepL.mono e e9⟩
 | .obj x,v,h=>by
  simp only [Rep] at h ⊢;obtain⟨a,dx,C,e1,e2,e3⟩:=h;exact⟨a,dx,C,e1,e _ _ e2,e3⟩
 | .exc x,v,h=>by
  simp only [Rep] at h ⊢;obtain⟨a,C,e1,e2,e3⟩:=h;exact⟨a,C,e1,e _ _ e2,e3⟩
theorem RepL.mono{K:Frag}{H H':Hp}(e:Same H H'): ∀ {ds:List D} {xs:List V},RepL K H ds xs->RepL K H' ds xs
 | [],xs,h=>by simpa only [RepL] using h
 | d :: ds,xs,h=>by
  simp only [RepL] at h ⊢;obtain⟨x,r,e1,e2,e3⟩:=h;exact⟨x,r,e1,Rep.mono e e2,RepL.mono e e3⟩
end
section
variable{K:Frag}{H:Hp}
theorem RepL.nil:RepL K H [] []:=by simp only [RepL]
theorem RepL.cons{d:D}{ds:List D}{x:V}{xs:List V}(h:Rep K H d x)(t:RepL K H ds xs): RepL K H (d :: ds) (x :: xs):=by
 simp only [RepL];exact⟨x,xs,rfl,h,t⟩
theorem RepL.nil_inv{xs:List V}(h:RepL K H [] xs): xs=[]:=by simpa only [RepL] using h
theorem RepL.cons_inv{d:D}{ds:List D}{xs:List V}(h:RepL K H (d :: ds) xs): ∃x r,xs=x :: r/\Rep K H d x/\RepL K H ds r:=by simpa only [RepL] using h
theorem RepL.length:∀ {ds:List D} {xs:List V},RepL K H ds xs->ds.length=xs.length
 | [],xs,h=>by rw [h.nil_inv];rfl
 | d :: ds,xs,h=>by
  obtain⟨x,r,rfl,_,t⟩:=h.cons_inv;simp [RepL.length t]
theorem RepL.append:∀ {ds es:List D} {xs ys:List V},RepL K H ds xs->RepL K H es ys->RepL K H (ds++es) (xs++ys)
 | [],es,xs,ys,h,t=>by rw [h.nil_inv];exact t
 | d :: ds,es,xs,ys,h,t=>by
  obtain⟨x,r,rfl,h1,h2⟩:=h.cons_inv;exact .cons h1 (RepL.append h2 t)
theorem RepL.get:∀ {ds:List D} {xs:List V} {i:Nat} {d:D},RepL K H ds xs->ds[i]? = some d->∃x,xs[i]? = some x/\Rep K H d x
 | [],xs,i,d,h,e=>by simp at e
 | d :: ds,xs,0,d',h,e=>by
  obtain⟨x,r,rfl,h1,h2⟩:=h.cons_inv;simp at e;subst e;exact⟨x,rfl,h1⟩
 | d :: ds,xs,i+1,d',h,e=>by
  obtain⟨x,r,rfl,h1,h2⟩:=h.cons_inv;obtain⟨y,e1,e2⟩:=RepL.get (i:=i) h2 (by simpa using e);exact⟨y,by simpa using e1,e2⟩
theorem RepL.take:∀ {ds:List D} {xs:List V} (n:Nat),RepL K H ds xs->RepL K H (ds.take n) (xs.take n)
 | _,_,0,_=>by simp only [List.take_zero];exact .nil
 | [],xs,n+1,h=>by rw [h.nil_inv];exact .nil
 | d :: ds,xs,n+1,h=>by
  obtain⟨x,r,rfl,h1,h2⟩:=h.cons_inv;exact .cons h1 (RepL.take n h2)
theorem RepL.drop:∀ {ds:List D} {xs:List V} (n:Nat),RepL K H ds xs->RepL K H (ds.drop n) (xs.drop n)
 | ds,xs,0,h=>by simpa only [g3y] using h
 | [],xs,n+1,h=>by rw [h.nil_inv];exact .nil
 | d :: ds,xs,n+1,h=>by
  obtain⟨x,r,rfl,h1,h2⟩:=h.cons_inv;exact RepL.drop n h2
theorem RepL.ints:∀ {ns:List Int} {xs:List V},RepL K H (ns.map D.int) xs↔xs=ns.map V.int
 | [],xs=>by simp only [g10,RepL]
 | n :: ns,xs=>by
  simp only [gv,RepL]
  constructor
  ·rintro⟨x,r,rfl,h1,h2⟩
   simp only [Rep] at h1;rw [h1,RepL.ints.mp h2]
  ·rintro rfl
   exact⟨_,_,rfl,by simp only [Rep],RepL.ints.mpr rfl⟩
theorem rep_int{i:Int}{v:V}: Rep K H (.int i) v↔v=.int i:=by simp only [Rep]
theorem rep_bl{i:Bool}{v:V}: Rep K H (.bl i) v↔v=.bl i:=by simp only [Rep]
theorem rep_str{i:Str}{v:V}: Rep K H (.str i) v↔v=.str i:=by simp only [Rep]
theorem rep_non{v:V}: Rep K H .non v↔v=.non:=by simp only [Rep]
theorem rep_tup{ds:List D}{v:V}: Rep K H (.tup ds) v↔∃a xs,v=.ref a/\SqT K H a xs/\RepL K H ds xs:=by simp only [Rep]
theorem rep_lst{ds:List D}{v:V}: Rep K H (.lst ds) v↔∃a xs,v=.ref a/\SqL K H a xs/\RepL K H ds xs:=by simp only [Rep]
theorem rep_dct{ks:List Key}{vs:List D}{v:V}: Rep K H (.dct ks vs) v↔∃a xs,v=.ref a/\H a=some (.dK (ks.zip xs))/\ks.length=xs.length/\RepL K H vs xs:=by simp only [Rep]
theorem rep_dtt{ks:List (List Int)}{vs:List D}{v:V}: Rep K H (.dtt ks vs) v↔∃a xs ys ep,v=.ref a/\H a=some (.ext (DE a xs ep))/\xs.map (·.1)=ks/\ks.Nodup/\xs.length<=sizeLine/\(a==sysModules)=false/\(∀x∈xs,SqT K H x.2.1 (x.1.map V.int))/\Vals ys (xs.map fun x=>x.2.2)/\RepL K H vs ys:=by simp only [Rep]
theorem rep_exc{x:Str}{v:V}: Rep K H (.exc x) v↔∃a C,v=.ref a/\H a=some (.ext (XE a C))/\PySem.W.nsIn K mainGlobals x=some (some (.ref C))/\qn8 K C:=by simp only [Rep]
theorem rep_obj{x:Str}{v:V}: Rep K H (.obj x) v↔∃a dx C,v=.ref a/\H a=some (.ins C dx [])/\PySem.W.nsIn K mainGlobals x=some (some (.ref C))/\qn9 K C:=by simp only [Rep]
end
class Lam where
 tab:List (Addr×Str)
variable[Lam]
def Tab(H:Hp): Prop:=∀p∈Lam.tab,∃ps,H p.1=some (.tbl ps)/\TriplesOk ps.toList/\∀pos cv,codeAmong pos ps.toList=some cv->∃c φ,cv=.ref c/\H c=some (.ext φ)/\∀h, φ h->h.CodeRec (.ref c) p.2
def qi5(F:Hp): Prop:=∀p∈Lam.tab,F p.1=none
theorem Tab.updG{H:Hp}(t:Tab H){p:Addr}{o:HO}(h:∀u,H p=some u->(∀ps,u ≠ .tbl ps)/\∀ φ,u ≠ .ext φ): Tab (upd H p o):=fun q hq=>by
 obtain⟨ps,e,ht,k⟩:=t q hq;refine⟨ps,by rw [qi (fun z=>by subst z;exact(h _ e).1 ps rfl)];exact e,ht,fun pos cv z=>?_⟩;obtain⟨c, φ,e1,e2,e3⟩:=k pos cv z;exact⟨c, φ,e1,by rw [qi (fun z=>by subst z;exact(h _ e2).2 φ rfl)];exact e2,e3⟩
theorem Tab.upd{H:Hp}(t:Tab H){p:Addr}{o:HO}(h:H p=none\/∃xs,H p=some (.lst xs)): Tab (upd H p o):=t.updG fun u e=>by
 rcases h with h|⟨xs,h⟩
 ·rw [h] at e;cases e
 ·rw [h] at e;cases e;exact⟨nofun,nofun⟩
structure Kept(H H':Hp): Prop where
 lst:∀b xs,H b=some (.lst xs)->H' b=some (.lst xs)
 ext:∀b φ,H b=some (.ext φ)->H' b=some (.ext φ)
 free:∀ {b},H' b=none->H b=none
 tb:Tab H->Tab H'
 dk:∀b kvs,H b=some (.dK kvs)->H' b=some (.dK kvs)
theorem Kept.refl(H:Hp): Kept H H:=⟨fun _ _ e=>e,fun _ _ e=>e,fun e=>e,fun t=>t,fun _ _ e=>e⟩
theorem Kept.trans{H H1 H2:Hp}(a:Kept H H1)(b:Kept H1 H2): Kept H H2:=⟨fun c xs e=>b.lst c xs (a.lst c xs e),fun c φ e=>b.ext c φ (a.ext c φ e),fun e=>a.free (b.free e),fun t=>b.tb (a.tb t),fun c kvs e=>b.dk c kvs (a.dk c kvs e)⟩
theorem Kept.new{H:Hp}{p:Addr}{o:HO}(hp:H p=none): Kept H (upd H p o):=⟨fun b xs e=>by rw [qi (j9 e hp)];exact e,fun b φ e=>by rw [qi (j9 e hp)];exact e,fun {b} e=>by
 by_cases z:b=p
 ·subst z;exact hp
 ·rw [qi z] at e;exact e,fun t=>t.upd (.inl hp),fun b kvs e=>by rw [qi (j9 e hp)];exact e⟩
structure SameT(F H:Hp): Prop where
 s:Same F H
 t:Tab H
 f:qi5 F
structure Grow(F H F' H':Hp): Prop where
 ff:Same F F'
 hh:Kept H H'
 fh:Same F' H'
 nw:∀b,F' b≠none->F b≠none\/H b=none
theorem Grow.refl{F H:Hp}(h:Same F H): Grow F H F H:=⟨.refl _,.refl _,h,fun _ h=>.inl h⟩
theorem Grow.trans{F H F1 H1 F2 H2:Hp}(a:Grow F H F1 H1)(b:Grow F1 H1 F2 H2): Grow F H F2 H2:=
 ⟨a.ff.trans b.ff,a.hh.trans b.hh,b.fh,fun c h=>(b.nw c h).elim (fun z=>a.nw c z) fun z=>.inr (a.hh.free z)⟩
theorem xg{H:Hp}{p:Addr}{o:HO}(h:H p=none): Same H (upd H p o):=fun b u q=>by rw [qi (j9 q h)];exact q
theorem qfq{F H:Hp}{p:Addr}{o:HO}(h:Same F H): Same (upd F p o) (upd H p o):=fun b u q=>by
 unfold upd at q ⊢
 split
 ·rename_i z;rw [mi z] at q;exact q
 ·rename_i z;rw [mf z] at q;exact h _ _ q
theorem Grow.new{F H:Hp}{p:Addr}{o:HO}(h:Same F H)(hp:H p=none): Grow F H (upd F p o) (upd H p o):=
 ⟨xg (h.free hp),.new hp,qfq h,fun b hb=>by
  by_cases e:b=p
  ·subst e;exact .inr hp
  ·rw [qi e] at hb;exact .inl hb⟩
theorem Grow.own{F H:Hp}{p:Addr}{o:HO}(h:Same F H)(hp:H p=none): Grow F H F (upd H p o):=
 ⟨.refl _,.new hp,h.trans (xg hp),fun _ h=>.inl h⟩
inductive B where
 | fz (d:D)
 | ow (ds:List D)
 | od (kvs:List (Int×List D))
abbrev Rho:=List (Option B)
def qpt(ks:List Int)(bs:List Addr): List (Key×V):=(ks.map Sum.inl).zip (bs.map V.ref)
structure ODt(K:Frag)(F H H0:Hp)(a:Addr)(bs:List Addr)(kvs:List (Int×List D)): Prop where
 h:H a=some (.dK (qpt (kvs.map (·.1)) bs))
 f:F a=none
 z:H0 a=none
 len:bs.length=kvs.length
 nd:bs.Nodup
 b:∀(j:Nat) (b:Addr) (k:Int) (ds:List D),bs[j]? = some b->kvs[j]? = some (k,ds)->∃xs,H b=some (.lst xs)/\F b=none/\H0 b=none/\RepL K F ds xs
structure RS(K:Frag)(F0 H0 F H:Hp)(σ : St)(ρ : Rho): Prop where
 t0:Tab H0/\qi5 F0
 g:Grow F0 H0 F H
 len : σ.length = ρ.length
 fz:∀(i:Nat) (d:D), ρ[i]? = some (some (.fz d))->∃v, σ[i]? = some (some v)/\Rep K F d v
 ow:∀(i:Nat) (ds:List D), ρ[i]? = some (some (.ow ds))->∃a xs, σ[i]? = some (some (.ref a))/\H a=some (.lst xs)/\F a=none/\H0 a=none/\RepL K F ds xs
 dj:∀(i j:Nat) (ds es:List D) (a:Addr),i≠j -> ρ[i]? = some (some (.ow ds)) -> ρ[j]? = some (some (.ow es)) -> σ[i]? = some (some (.ref a)) -> σ[j]? ≠ some (some (.ref a))
 od:∀(i:Nat) (kvs:List (Int×List D)), ρ[i]? = some (some (.od kvs))->∃a bs, σ[i]? = some (some (.ref a))/\ODt K F H H0 a bs kvs/\∀(j:Nat) (es:List D) (b:Addr), ρ[j]? = some (some (.ow es))->b∈bs -> σ[j]? ≠ some (some (.ref b))
 o1:∀(i j:Nat) (k1 k2:List (Int×List D)), ρ[i]? = some (some (.od k1)) -> ρ[j]? = some (some (.od k2))->i=j
theorem qd1{F H F' H':Hp}{a:Addr}{o:HO}(g:Grow F H F' H')(h1:F a=none)(h2:H a=some o): F' a=none:=by
 cases q:F' a with
 | none=>rfl
 | some o=>
  rcases g.nw a (by rw [q];simp) with z|z
  ·exact absurd h1 z
  ·rw [h2] at z;cases z
theorem ODt.mem{K:Frag}{F H H0:Hp}{a:Addr}{bs:List Addr}{kvs:List (Int×List D)}(o:ODt K F H H0 a bs kvs){b:Addr}(h:b∈bs): ∃xs,H b=some (.lst xs)/\F b=none/\H0 b=none:=by
 obtain⟨j,hj⟩:=g3g.mp h;have hl:j<kvs.length:=by rw [<- o.len];exact(my.mp hj).1
 obtain⟨xs,e1,e2,e3,_⟩:=o.b j b _ _ hj (mr hl);exact⟨xs,e1,e2,e3⟩
theorem ODt.grow{K:Frag}{F H F' H' H0:Hp}{a:Addr}{bs:List Addr}{kvs:List (Int×List D)}(o:ODt K F H H0 a bs kvs)(g:Grow F H F' H'): ODt K F' H' H0 a bs kvs where
 h:=g.hh.dk _ _ o.h
 f:=qd1 g o.f o.h
 z:=o.z
 len:=o.len
 nd:=o.nd
 b:=fun j b k ds e1 e2=>by
  obtain⟨xs,z1,z2,z3,z4⟩:=o.b j b k ds e1 e2;exact⟨xs,g.hh.lst _ _ z1,qd1 g z2 z1,z3,z4.mono g.ff⟩
theorem ODt.other{K:Frag}{F H H0:Hp}{a p:Addr}{bs:List Addr}{kvs:List (Int×List D)}{u:HO}(o:ODt K F H H0 a bs kvs)(h1:p≠a)(h2:p∉bs): ODt K F (upd H p u) H0 a bs kvs where
 h:=by rw [qi (mv h1)];exact o.h
 f:=o.f
 z:=o.z
 len:=o.len
 nd:=o.nd
 b:=fun j b k ds e1 e2=>by
  obtain⟨xs,z1,z2,z3,z4⟩:=o.b j b k ds e1 e2;have ne:b≠p:=fun q=>h2 (by rw [<- q];exact tq e1);exact⟨xs,by rw [qi ne];exact z1,z2,z3,z4⟩
theorem ODt.otherF{K:Frag}{F H H0:Hp}{a p:Addr}{bs:List Addr}{kvs:List (Int×List D)}{u:HO}(o:ODt K F H H0 a bs kvs)(hs:Same F (upd F p u))(h1:p≠a)(h2:p∉bs): ODt K (upd F p u) H H0 a bs kvs where
 h:=o.h
 f:=by rw [qi (mv h1)];exact o.f
 z:=o.z
 len:=o.len
 nd:=o.nd
 b:=fun j b k ds e1 e2=>by
  obtain⟨xs,z1,z2,z3,z4⟩:=o.b j b k ds e1 e2;have ne:b≠p:=fun q=>h2 (by rw [<- q];exact tq e1);exact⟨xs,z1,by rw [qi ne];exact z2,z3,z4.mono hs⟩
section
variable{K:Frag}{F0 H0 F H F' H':Hp}{σ : St}{ρ : Rho}
theorem RS.fh(r:RS K F0 H0 F H σ ρ): Same F H:=r.g.fh
theorem RS.tab(r:RS K F0 H0 F H σ ρ): Tab H:=r.g.hh.tb r.t0.1
theorem RS.tabF(r:RS K F0 H0 F H σ ρ): qi5 F:=fun p hp=>by
 cases q:F p.1 with
 | none=>rfl
 | some o=>
  rcases r.g.nw p.1 (by rw [q];simp) with z|z
  ·exact absurd (r.t0.2 p hp) z
  ·obtain⟨ps,e,_⟩:=r.t0.1 p hp
   rw [e] at z;cases z
theorem RS.grow(r:RS K F0 H0 F H σ ρ)(g:Grow F H F' H'): RS K F0 H0 F' H' σ ρ where
 t0:=r.t0
 g:=r.g.trans g
 len:=r.len
 fz:=fun i d e=>let⟨v,e1,e2⟩:=r.fz i d e; ⟨v,e1,e2.mono g.ff⟩
 ow:=fun i ds e=>by
  obtain⟨a,xs,e1,e2,e3,e4,e5⟩:=r.ow i ds e;refine⟨a,xs,e1,g.hh.lst _ _ e2,?_,e4,e5.mono g.ff⟩;cases q:F' a with
  | none=>rfl
  | some o=>
   rcases g.nw a (by rw [q];simp) with z|z
   ·exact absurd e3 z
   ·rw [e2] at z;cases z
 dj:=r.dj
 od:=fun i kvs e=>let⟨a,bs,e1,e2,e3⟩:=r.od i kvs e; ⟨a,bs,e1,e2.grow g,e3⟩
 o1:=r.o1
theorem RS.sameT(r:RS K F0 H0 F H σ ρ)(g:Grow F H F' H'): SameT F' H':=⟨g.fh,(r.grow g).tab,(r.grow g).tabF⟩
theorem qo{α : Type}{l:List α}{i:Nat}{x y : α}(h:(l.set i x)[i]? = some y): y=x/\i<l.length:=by
 rw [g4n] at h;simp only [ny] at h
 split at h
 ·exact⟨(m8 h).symm,by assumption⟩
 ·cases h
theorem RS.set(r:RS K F0 H0 F H σ ρ){d:D}{v:V}(i:Nat)(h:Rep K F d v): RS K F0 H0 F H (σ.set i (some v)) (ρ.set i (some (.fz d))) where
 t0:=r.t0
 g:=r.g
 len:=by rw [t8,t8];exact r.len
 fz:=fun j e h1=>by
  by_cases q:j=i
  ·subst q
   obtain⟨z,l⟩:=qo h1;cases z;exact⟨v,by rw [g4n];simp [r.len,l],h⟩
  ·rw [gh (mv q)] at h1 ⊢
   exact r.fz j e h1
 ow:=fun j ds h1=>by
  by_cases q:j=i
  ·subst q
   obtain⟨z,l⟩:=qo h1;cases z
  ·rw [gh (mv q)] at h1 ⊢
   exact r.ow j ds h1
 dj :=fun j k ds es a hjk h1 h2 h3=>by
  by_cases q:j=i
  ·subst q
   obtain⟨z,l⟩:=qo h1;cases z
  ·by_cases q2:k=i
   ·subst q2
    obtain⟨z,l⟩:=qo h2;cases z
   ·rw [gh (mv q)] at h1 h3
    rw [gh (mv q2)] at h2 ⊢;exact r.dj j k ds es a hjk h1 h2 h3
 od :=fun j kvs h1=>by
  by_cases q:j=i
  ·subst q
   obtain⟨z,l⟩:=qo h1;cases z
  ·rw [gh (mv q)] at h1 ⊢
   obtain⟨a,bs,e1,e2,e3⟩:=r.od j kvs h1;refine⟨a,bs,e1,e2,fun k es b h2 h3=>?_⟩
   by_cases q2:k=i
   ·subst q2
    obtain⟨z,l⟩:=qo h2;cases z
   ·rw [gh (mv q2)] at h2 ⊢
    exact e3 k es b h2 h3
 o1 :=fun j k k1 k2 h1 h2=>by
  by_cases q:j=i
  ·subst q
   obtain⟨z,l⟩:=qo h1;cases z
  ·by_cases q2:k=i
   ·subst q2
    obtain⟨z,l⟩:=qo h2;cases z
   ·rw [gh (mv q)] at h1
    rw [gh (mv q2)] at h2;exact r.o1 j k k1 k2 h1 h2
theorem RS.setO(r:RS K F0 H0 F H σ ρ){ds:List D}{xs:List V}{a:Addr}(i:Nat)(h1:H a=some (.lst xs))(h2:F a=none)(h3:H0 a=none)(h4:RepL K F ds xs)
  (h5:∀(j:Nat) (es:List D), ρ[j]? = some (some (.ow es)) -> σ[j]? ≠ some (some (.ref a)))
  (h6:∀(j:Nat) (kvs:List (Int×List D)), ρ[j]? = some (some (.od kvs))->∃a' bs, σ[j]? = some (some (.ref a'))/\ODt K F H H0 a' bs kvs/\a∉bs/\∀(j':Nat) (es:List D) (b:Addr), ρ[j']? = some (some (.ow es))->b∈bs -> σ[j']? ≠ some (some (.ref b))):RS K F0 H0 F H (σ.set i (some (.ref a))) (ρ.set i (some (.ow ds))) where
 t0:=r.t0
 g:=r.g
 len:=by rw [t8,t8];exact r.len
 fz:=fun j e q1=>by
  by_cases q:j=i
  ·subst q
   obtain⟨z,l⟩:=qo q1;cases z
  ·rw [gh (mv q)] at q1 ⊢
   exact r.fz j e q1
 ow:=fun j es q1=>by
  by_cases q:j=i
  ·subst q
   obtain⟨z,l⟩:=qo q1;cases z;exact⟨a,xs,by rw [g4n];simp [r.len,l],h1,h2,h3,h4⟩
  ·rw [gh (mv q)] at q1 ⊢
   exact r.ow j es q1
 dj :=fun j k ds' es b hjk q1 q2 q3=>by
  by_cases q:j=i
  ·subst q
   have e3:=qo q3;have eb:b=a:=by have:=e3.1;simpa using this
   subst eb;rw [gh hjk] at q2 ⊢;exact h5 k es q2
  ·rw [gh (mv q)] at q1 q3
   by_cases q4:k=i
   ·subst q4
    intro z;have eb:b=a:=by have:=(qo z).1;simpa using this
    subst eb;exact h5 j ds' q1 q3
   ·rw [gh (mv q4)] at q2 ⊢
    exact r.dj j k ds' es b hjk q1 q2 q3
 od :=fun j kvs q1=>by
  by_cases q:j=i
  ·subst q
   obtain⟨z,l⟩:=qo q1;cases z
  ·rw [gh (mv q)] at q1 ⊢
   obtain⟨a',bs,e1,e2,e3,e4⟩:=h6 j kvs q1;refine⟨a',bs,e1,e2,fun k es b p1 p2 p3=>?_⟩
   by_cases q2:k=i
   ·subst q2
    have eb:b=a:=by have:=(qo p3).1;simpa using this
    exact e3 (eb ▸ p2)
   ·rw [gh (mv q2)] at p1 p3
    exact e4 k es b p1 p2 p3
 o1 :=fun j k k1 k2 p1 p2=>by
  by_cases q:j=i
  ·subst q
   obtain⟨z,l⟩:=qo p1;cases z
  ·by_cases q2:k=i
   ·subst q2
    obtain⟨z,l⟩:=qo p2;cases z
   ·rw [gh (mv q)] at p1
    rw [gh (mv q2)] at p2;exact r.o1 j k k1 k2 p1 p2
theorem RS.wrt(r:RS K F0 H0 F H σ ρ){ds es:List D}{ys:List V}{a:Addr}{i:Nat}(h1 : ρ[i]? = some (some (.ow ds)))(h2 : σ[i]? = some (some (.ref a)))(h4:RepL K F es ys):
  RS K F0 H0 F (upd H a (.lst ys)) σ (ρ.set i (some (.ow es))):=by
 obtain⟨a',xs,e1,e2,e3,e4,e5⟩:=r.ow i ds h1;rw [h2] at e1;obtain rfl:a=a':=by simpa using e1
 have nF:∀b o,F b=some o->b≠a:=fun b o e z=>by subst z;rw [e3] at e;cases e
 exact {
  t0:=r.t0
  g :=⟨r.g.ff,⟨fun b o e=>by rw [qi (fun z=>by subst z;rw [e4] at e;cases e)];exact r.g.hh.lst b o e,fun b o e=>by rw [qi (fun z=>by subst z;rw [e4] at e;cases e)];exact r.g.hh.ext b o e,fun {b} e=>by
    by_cases z:b=a
    ·subst z;exact e4
    ·rw [qi z] at e;exact r.g.hh.free e,fun t=>(r.g.hh.tb t).upd (.inr ⟨_,e2⟩),fun b o e=>by rw [qi (fun z=>by subst z;rw [e4] at e;cases e)];exact r.g.hh.dk b o e⟩,fun b o e=>by rw [qi (nF b o e)];exact r.g.fh b o e,r.g.nw⟩
  len:=by rw [t8];exact r.len
  fz:=fun j e q1=>by
   by_cases q:j=i
   ·subst q
    obtain⟨z,l⟩:=qo q1;cases z
   ·rw [gh (mv q)] at q1
    exact r.fz j e q1
  ow :=fun j es' q1=>by
   by_cases q:j=i
   ·subst q
    obtain⟨z,l⟩:=qo q1;cases z;exact⟨a,ys,h2,ql,e3,e4,h4⟩
   ·rw [gh (mv q)] at q1
    obtain⟨b,zs,f1,f2,f3,f4,f5⟩:=r.ow j es' q1;have hb:b≠a:=fun z=>by
     subst z;exact r.dj i j ds es' b (mv q) h1 q1 h2 f1
    exact⟨b,zs,f1,by rw [qi hb];exact f2,f3,f4,f5⟩
  dj:=fun j k ds' es' b hjk q1 q2 q3=>by
   have back:∀(l:Nat) (us:List D),(ρ.set i (some (.ow es)))[l]? = some (some (.ow us))->∃ws, ρ[l]? = some (some (.ow ws)):=fun l us z=>by
    by_cases q:l=i
    ·subst q;exact⟨ds,h1⟩
    ·rw [gh (mv q)] at z;exact⟨us,z⟩
   obtain⟨w1,z1⟩:=back j ds' q1;obtain⟨w2,z2⟩:=back k es' q2;exact r.dj j k w1 w2 b hjk z1 z2 q3
  od:=fun j kvs q1=>by
   by_cases q:j=i
   ·subst q
    obtain⟨z,l⟩:=qo q1;cases z
   ·rw [gh (mv q)] at q1
    obtain⟨a',bs,f1,f2,f3⟩:=r.od j kvs q1;refine⟨a',bs,f1,f2.other (fun z=>by subst z;have:=f2.h;rw [e2] at this;cases this) fun z=>f3 i ds a h1 z h2,fun k es' b p1 p2=>?_⟩
    by_cases q2:k=i
    ·subst q2;exact f3 k ds b h1 p2
    ·rw [gh (mv q2)] at p1;exact f3 k es' b p1 p2
  o1 :=fun j k k1 k2 p1 p2=>by
   have back:∀(l:Nat) (us),(ρ.set i (some (.ow es)))[l]? = some (some (.od us)) -> ρ[l]? = some (some (.od us)):=fun l us z=>by
    by_cases q:l=i
    ·subst q
     obtain⟨z',_⟩:=qo z;cases z'
    ·rw [gh (mv q)] at z;exact z
   exact r.o1 j k k1 k2 (back _ _ p1) (back _ _ p2)}
theorem RS.freeze(r:RS K F0 H0 F H σ ρ){ds:List D}{i:Nat}(h1 : ρ[i]? = some (some (.ow ds))): ∃F',Same F F'/\RS K F0 H0 F' H σ (ρ.set i (some (.fz (.lst ds)))):=by
 obtain⟨a,xs,e1,e2,e3,e4,e5⟩:=r.ow i ds h1;have sF:Same F (upd F a (.lst xs)):=xg e3;refine⟨upd F a (.lst xs),sF,?_⟩;exact {
  t0:=r.t0
  g :=⟨r.g.ff.trans sF,r.g.hh,fun b o e=>by
    by_cases q:b=a
    ·subst q;rw [ql] at e;cases e;exact e2
    ·rw [qi q] at e;exact r.g.fh b o e,fun b hb=>by
    by_cases q:b=a
    ·subst q;exact .inr e4
    ·rw [qi q] at hb;exact r.g.nw b hb⟩
  len:=by rw [t8];exact r.len
  fz:=fun j e q1=>by
   by_cases q:j=i
   ·subst q
    obtain⟨z,l⟩:=qo q1;cases z;exact⟨_,e1,rep_lst.mpr ⟨a,xs,rfl,SqL.of ql,e5.mono sF⟩⟩
   ·rw [gh (mv q)] at q1
    obtain⟨v,z1,z2⟩:=r.fz j e q1;exact⟨v,z1,z2.mono sF⟩
  ow :=fun j es' q1=>by
   by_cases q:j=i
   ·subst q
    obtain⟨z,l⟩:=qo q1;cases z
   ·rw [gh (mv q)] at q1
    obtain⟨b,zs,f1,f2,f3,f4,f5⟩:=r.ow j es' q1;have hb:b≠a:=fun z=>by
     subst z;exact r.dj i j ds es' b (mv q) h1 q1 e1 f1
    exact⟨b,zs,f1,f2,by rw [qi hb];exact f3,f4,f5.mono sF⟩
  dj :=fun j k ds' es' b hjk q1 q2 q3=>by
   have back:∀(l:Nat) (us:List D),(ρ.set i (some (.fz (.lst ds))))[l]? = some (some (.ow us)) -> ρ[l]? = some (some (.ow us)):=fun l us z=>by
    by_cases q:l=i
    ·subst q
     obtain⟨z',_⟩:=qo z;cases z'
    ·rw [gh (mv q)] at z;exact z
   exact r.dj j k ds' es' b hjk (back _ _ q1) (back _ _ q2) q3
  od:=fun j kvs q1=>by
   by_cases q:j=i
   ·subst q
    obtain⟨z,l⟩:=qo q1;cases z
   ·rw [gh (mv q)] at q1
    obtain⟨a',bs,f1,f2,f3⟩:=r.od j kvs q1;refine⟨a',bs,f1,f2.otherF sF (fun z=>by subst z;have:=f2.h;rw [e2] at this;cases this) fun z=>f3 i ds a h1 z e1,fun k es' b p1 p2=>?_⟩
    by_cases q2:k=i
    ·subst q2;exact f3 k ds b h1 p2
    ·rw [gh (mv q2)] at p1;exact f3 k es' b p1 p2
  o1 :=fun j k k1 k2 p1 p2=>by
   have back:∀(l:Nat) (us),(ρ.set i (some (.fz (.lst ds))))[l]? = some (some (.od us)) -> ρ[l]? = some (some (.od us)):=fun l us z=>by
    by_cases q:l=i
    ·subst q
     obtain⟨z',_⟩:=qo z;cases z'
    ·rw [gh (mv q)] at z;exact z
   exact r.o1 j k k1 k2 (back _ _ p1) (back _ _ p2)}
end
end DL
namespace DL
open PySem PySem.Spec PyProof.Rows L2
variable[Lam]
abbrev lim:Nat:=1000000
theorem ja{n:Nat}(h:n<=lim): n<=sizeLine:=ml h (by decide)
theorem q85{n:Nat}(h:n<lim): n<sizeLine:=gm h (by decide)
abbrev FE:=Rho->Option D
abbrev FT:=Rho->Option Bool
abbrev FA:=Rho->Option (List D)
inductive Fl where
 | nx|bk|ct
 | rt (d:D)
abbrev FS:=Rho->Option (Fl×Rho)
def tD(K:Frag)(f:FE): TE:=fun σ H Q=>∃F0 H0 F ρ d,RS K F0 H0 F H σ ρ /\ f ρ = some d/\∀v F' H',Grow F H F' H'->Rep K F' d v->Q v H'
def tL(K:Frag)(f:FA): TE:=fun σ H Q=>∃F0 H0 F ρ ds,RS K F0 H0 F H σ ρ /\ f ρ = some ds/\∀a xs F' H',Grow F H F' H'->F' a=none->H a=none->H' a=some (.lst xs)->RepL K F' ds xs->Q (.ref a) H'
def tDT(K:Frag)(f:FT): TT:=fun σ H Q=>∃F0 H0 F ρ b,RS K F0 H0 F H σ ρ /\ f ρ = some b/\∀F' H',Grow F H F' H'->Q b H'
def tDA(K:Frag)(f:FA): TA:=fun σ H Q=>∃F0 H0 F ρ ds,RS K F0 H0 F H σ ρ /\ f ρ = some ds/\∀vs F' H',Grow F H F' H'->RepL K F' ds vs->Q vs H'
def qe6(K:Frag)(F0 H0 F:Hp)(D:Ends)(fl:Fl)(ρ':Rho): Prop:=match fl with
 | .nx=>∀ σ' F' H',Same F F'->RS K F0 H0 F' H' σ' ρ'->D.nx σ' H'
 | .bk=>∀ σ' F' H',Same F F'->RS K F0 H0 F' H' σ' ρ'->D.bk σ' H'
 | .ct=>∀ σ' F' H',Same F F'->RS K F0 H0 F' H' σ' ρ'->D.ct σ' H'
 | .rt d=>∀v F' H',Grow F0 H0 F' H'->Rep K F' d v->D.rt v H'
def tDS(K:Frag)(f:FS): TS:=fun D σ H=>∃F0 H0 F ρ fl ρ',RS K F0 H0 F H σ ρ /\ f ρ = some (fl, ρ')/\qe6 K F0 H0 F D fl ρ'
section
variable{X:Cx}{e:Expr}{pos:Pos}
theorem zt{t t':TE}(h:PE X e t)(i:∀ σ H Q,t' σ H Q->t σ H Q): PE X e t':=fun pins s σ H Q I q=>h pins s σ H Q I (i σ H Q q)
theorem q9n{t t':TT}(h:PT X e t)(i:∀ σ H Q,t' σ H Q->t σ H Q): PT X e t':=fun pins s σ H Q I q=>h pins s σ H Q I (i σ H Q q)
theorem qfr{es:List Expr}{t t':TA}(h:PA X es t)(i:∀ σ H Q,t' σ H Q->t σ H Q): PA X es t':=fun pos pins s σ H Q I q=>h pos pins s σ H Q I (i σ H Q q)
theorem q1a{st:Stmt}{t t':TS}(h:PS X st t)(i:∀D σ H,t' D σ H->t D σ H): PS X st t':=fun pins s σ H D I q=>h pins s σ H D I (i D σ H q)
theorem q4j{st:List Stmt}{t t':TS}(h:PSs X st t)(i:∀D σ H,t' D σ H->t D σ H): PSs X st t':=fun pins s σ H D I q=>h pins s σ H D I (i D σ H q)
def eV(i:Nat): FE:=fun ρ =>match ρ[i]? with
 | some (some (.fz d))=>some d
 | _=>none
def eC(d:D): FE:=fun _=>some d
theorem qkn{i:Nat}{ρ : Rho}{d:D}(h:eV i ρ = some d): ρ[i]? = some (some (.fz d)):=by
 unfold eV at h
 split at h
 ·rename_i e;rw [e,m8 h]
 ·cases h
theorem q0{K:Frag}{i:Nat}(h:PE X e (q3o i)): PE X e (tD K (eV i)):=zt h fun σ H Q ⟨F0,H0,F, ρ,d,r,hf,q⟩=>by
 obtain⟨v,e1,e2⟩:=r.fz i d (qkn hf);exact⟨v,e1,q v F H (.refl r.fh) e2⟩
theorem q9o{K:Frag}{v:V}{d:D}(h:PE X e (tC v))(hd:∀H,Rep K H d v): PE X e (tD K (eC d)):=zt h fun σ H Q ⟨F0,H0,F, ρ,d',r,hf,q⟩=>by
 cases hf;exact q v F H (.refl r.fh) (hd F)
theorem qj{K:Frag}{i j}: PE X (.Constant (.int i) j pos) (tD K (eC (.int i))):=q9o qmf fun _=>rep_int.mpr rfl
theorem wc{K:Frag}{b j}: PE X (.Constant (.bool b) j pos) (tD K (eC (.bl b))):=q9o qod fun _=>rep_bl.mpr rfl
def rD(K:Frag)(op:D->D->Option D): R2:=fun x y H Q=>∃F d1 d2 d,Same F H/\Rep K F d1 x/\Rep K F d2 y/\op d1 d2=some d/\∀v F' H',Grow F H F' H'->Rep K F' d v->Q v H'
def eOp(op:D->D->Option D)(f g:FE): FE:=fun ρ =>(f ρ).bind fun x=>(g ρ).bind fun y=>op x y
theorem two{K:Frag}{f g:FE}{op:D->D->Option D}{σ : St}{H:Hp}{Q:VK}(h:tD K (eOp op f g) σ H Q): tD K f σ H fun x H1=>tD K g σ H1 fun y H2=>rD K op x y H2 Q:=by
 obtain⟨F0,H0,F, ρ,d,r,hf,q⟩:=h;obtain⟨d1,h1,hf⟩:=gc.mp hf;obtain⟨d2,h2,h3⟩:=gc.mp hf;refine⟨F0,H0,F, ρ,d1,r,h1,fun v F1 H1 g1 r1=>⟨F0,H0,F1, ρ,d2,r.grow g1,h2,fun u F2 H2 g2 r2=>?_⟩⟩;exact⟨F2,d1,d2,d,g2.fh,r1.mono g2.ff,r2,h3,fun w F3 H3 g3 r3=>q w F3 H3 (g1.trans (g2.trans g3)) r3⟩
variable{a b:Expr}{f g:FE}
theorem z8{op:Operator}{o:D->D->Option D}(ho:OpR X (binaryOp op) (rD X.K o))(ha:PE X a (tD X.K f))(hb:PE X b (tD X.K g)): PE X (.BinOp a op b pos) (tD X.K (eOp o f g)):=
 zt (qju ho ha hb) fun σ H Q h=>two h
theorem q02{f:Value->Value->Sem Value}{r r':R2}(h:OpR X f r)(i:∀x y H Q,r' x y H Q->r x y H Q): OpR X f r':=fun pins s σ H x y v u Q I rx ry q=>h pins s σ H x y v u Q I rx ry (i x y H Q q)
theorem q9p{f:Value->Value->Sem Value}{K:Frag}{o o':D->D->Option D}(h:OpR X f (rD K o))(h':OpR X f (rD K o')): OpR X f (rD K fun x y=>(o x y).or (o' x y)):=fun pins s σ H x y v u Q I rx ry q=>by
 obtain⟨F,d1,d2,d,q1,q2,q3,q4,q5⟩:=q;have q4:(o d1 d2).or (o' d1 d2)=some d:=q4;cases e:o d1 d2 with
 | some d'=>rw [e] at q4;cases q4;exact h pins s σ H x y v u Q I rx ry ⟨F,d1,d2,_,q1,q2,q3,e,q5⟩
 | none=>rw [e] at q4;exact h' pins s σ H x y v u Q I rx ry ⟨F,d1,d2,d,q1,q2,q3,q4,q5⟩
def oI(C:Int->Int->Bool)(z:Int->Int->Int): D->D->Option D
 | .int i,.int j=>if C i j then some (.int (z i j)) else none
 | _,_=>none
def oB(z:Int->Int->Bool): D->D->Option D
 | .int i,.int j=>some (.bl (z i j))
 | _,_=>none
theorem qd2{C:Int->Int->Bool}{z:Int->Int->Int}{d1 d2 d:D}(h:oI C z d1 d2=some d): ∃i j,d1=.int i/\d2=.int j/\C i j=true/\d=.int (z i j):=by
 cases d1 <;> cases d2 <;> simp only [oI] at h <;> first|(cases h;done)|skip
 split at h
 ·exact⟨_,_,rfl,rfl,by assumption,(m8 h).symm⟩
 ·cases h
theorem qko{z:Int->Int->Bool}{d1 d2 d:D}(h:oB z d1 d2=some d): ∃i j,d1=.int i/\d2=.int j/\d=.bl (z i j):=by
 cases d1 <;> cases d2 <;> simp only [oB] at h <;> first|(cases h;done)|skip
 exact⟨_,_,rfl,rfl,(m8 h).symm⟩
theorem q68{fv:Value->Value->Sem Value}{P:Int->Int->Prop}{C:Int->Int->Bool}{z:Int->Int->Int}(h:OpR X fv (rI P fun i j=>.int (z i j)))(hC:∀i j,C i j=true->P i j): OpR X fv (rD X.K (oI C z)):=
 q02 h fun x y H Q ⟨F,d1,d2,d,q1,q2,q3,q4,q5⟩=>by
  obtain⟨i,j,rfl,rfl,c,rfl⟩:=qd2 q4;exact⟨i,j,rep_int.mp q2,rep_int.mp q3,hC i j c,q5 _ F H (.refl q1) (rep_int.mpr rfl)⟩
theorem qfs{fv:Value->Value->Sem Value}{z:Int->Int->Int}(h:OpR X fv (rI0 fun i j=>.int (z i j))): OpR X fv (rD X.K (oI (fun _ _=>true) z)):=
 q02 h fun x y H Q ⟨F,d1,d2,d,q1,q2,q3,q4,q5⟩=>by
  obtain⟨i,j,rfl,rfl,c,rfl⟩:=qd2 q4;exact⟨i,j,rep_int.mp q2,rep_int.mp q3,q5 _ F H (.refl q1) (rep_int.mpr rfl)⟩
theorem qnb{fv:Value->Value->Sem Value}{z:Int->Int->Bool}(h:OpR X fv (rI0 fun i j=>.bl (z i j))): OpR X fv (rD X.K (oB z)):=
 q02 h fun x y H Q ⟨F,d1,d2,d,q1,q2,q3,q4,q5⟩=>by
  obtain⟨i,j,rfl,rfl,rfl⟩:=qko q4;exact⟨i,j,rep_int.mp q2,rep_int.mp q3,q5 _ F H (.refl q1) (rep_bl.mpr rfl)⟩
abbrev oAdd:=oI (fun _ _=>true) fun i j=>i+j
abbrev oSub:=oI (fun _ _=>true) fun i j=>i-j
abbrev oMul:=oI (fun i j=>(decide (-(2 ^ 64)<i)&&decide (i<2 ^ 64)) || (decide (-(2 ^ 64)<j)&&decide (j<2 ^ 64))) fun i j=>i*j
abbrev oDiv:=oI (fun _ j=>decide (0<j)&&decide (j<1073741824)) fun i j=>i / j
abbrev oMod:=oI (fun _ j=>decide (0<j)) fun i j=>i%j
abbrev oShr:=oI (fun _ j=>decide (0<=j)) fun i j=>i / 2 ^ j.toNat
theorem q4k{p q:Prop}[Decidable p][Decidable q](h:(decide p&&decide q)=true): p/\q:=by simpa using h
theorem qnc:OpR X (binaryOp .Add) (rD X.K oAdd):=qfs qmq
theorem qnd:OpR X (binaryOp .Mult) (rD X.K oMul):=q68 qmr fun i j h=>by
 rcases g0q _ _ ▸ h with z|z
 ·exact .inl (q4k z)
 ·exact .inr (q4k z)
theorem q69:OpR X (binaryOp .FloorDiv) (rD X.K oDiv):=q68 qkd fun i j h=>q4k h
theorem xu:OpR X (binaryOp .Mod) (rD X.K oMod):=q68 qms fun i j h=>g0f h
theorem qne:OpR X (binaryOp .RShift) (rD X.K oShr):=q68 qmu fun i j h=>g0f h
abbrev oShl:=oI (fun i j=>decide (0<=j)&&(decide (j<=1000000)&&decide (i.natAbs<2 ^ 64))) fun i j=>i*2 ^ j.toNat
abbrev oPow:=oI (fun i j=>decide (0<=j)&&(decide (j<=1000000)&&decide (i.natAbs<2 ^ 64))) fun i j=>i ^ j.toNat
theorem qi6{p q r:Prop}[Decidable p][Decidable q][Decidable r](h:(decide p&&(decide q&&decide r))=true): p/\q/\r:=by simpa using h
theorem qft:OpR X (binaryOp .LShift) (rD X.K oShl):=q68 qmt fun i j h=>qi6 h
abbrev oLt:=oB fun i j=>decide (i<j)
abbrev oLe:=oB fun i j=>decide (i<=j)
abbrev oGt:=oB fun i j=>decide (j<i)
abbrev oGe:=oB fun i j=>decide (j<=i)
theorem q6a:OpR X (compareOp .Gt) (rD X.K oGt):=qnb qon
def flD:D->Option V
 | .non=>some .non
 | .bl b=>some (.bl b)
 | .int i=>some (.int i)
 | .str x=>some (.str x)
 | _=>none
theorem q4l{K:Frag}{H:Hp}{d:D}{v u:V}(h:flD d=some u)(r:Rep K H d v): v=u:=by
 cases d <;> simp only [flD] at h <;> first|(cases h;done)|skip
 ·cases h;exact rep_non.mp r
 ·cases h;exact rep_bl.mp r
 ·cases h;exact rep_int.mp r
 ·cases h;exact rep_str.mp r
def qi7:D->D->Option D:=fun d e=>(flD d).bind fun x=>(flD e).bind fun y=>if q76 x y then some (.bl (decide (x=y))) else none
def q3t:D->D->Option D:=fun d e=>(flD d).bind fun x=>(flD e).bind fun y=>if q76 x y then some (.bl (!decide (x=y))) else none
theorem qnf:OpR X (compareOp .Eq) (rD X.K qi7):=q02 qol fun x y H Q ⟨F,d1,d2,d,q1,q2,q3,q4,q5⟩=>by
 obtain⟨u,h1,q4⟩:=gc.mp q4;obtain⟨w,h2,q4⟩:=gc.mp q4;cases q4l h1 q2;cases q4l h2 q3
 split at q4
 ·rename_i z
  cases q4;exact⟨z,q5 _ F H (.refl q1) (rep_bl.mpr rfl)⟩
 ·cases q4
theorem qfu:OpR X (compareOp .NotEq) (rD X.K q3t):=q02 qom fun x y H Q ⟨F,d1,d2,d,q1,q2,q3,q4,q5⟩=>by
 obtain⟨u,h1,q4⟩:=gc.mp q4;obtain⟨w,h2,q4⟩:=gc.mp q4;cases q4l h1 q2;cases q4l h2 q3
 split at q4
 ·rename_i z
  cases q4;exact⟨z,q5 _ F H (.refl q1) (rep_bl.mpr rfl)⟩
 ·cases q4
theorem q2f{op:CmpOp}{o:D->D->Option D}(ho:OpR X (compareOp op) (rD X.K o))(ha:PE X a (tD X.K f))(hb:PE X b (tD X.K g))(hm:behindInMarks op b=false:=by first|exact q9g _ (by decide) (by decide)|rfl):
  PE X (.Compare a [op] [b] pos) (tD X.K (eOp o f g)):=zt (qke ho ha hb hm) fun σ H Q h=>two h
def qe7:D->Option Bool
 | .non=>some false
 | .bl b=>some b
 | .int i=>some (i != 0)
 | .tup ds=>some (!ds.isEmpty)
 | .lst ds=>some (!ds.isEmpty)
 | .str x=>if x.length<=lim then some ((x.length:Int) != 0) else none
 | _=>none
def bT(f:FE): FT:=fun ρ =>(f ρ).bind qe7
theorem qng{K:Frag}{F H:Hp}{d:D}{b:Bool}{v:V}(h:qe7 d=some b)(fh:Same F H)(r:Rep K F d v): qhs K v H b:=by
 cases d with
 | non=>cases h;rw [rep_non.mp r];rfl
 | bl c=>cases h;rw [rep_bl.mp r];rfl
 | int i=>cases h;rw [rep_int.mp r];rfl
 | str x=>
  simp only [qe7] at h
  split at h
  ·rename_i z
   cases h;rw [rep_str.mp r];exact⟨ja z,rfl⟩
  ·cases h
 | tup ds=>
  cases h;obtain⟨p,xs,rfl,q1,q2⟩:=rep_tup.mp r;refine .inr (.inl ⟨xs,qh fh q1,?_⟩);cases ds with
  | nil=>rw [q2.nil_inv];rfl
  | cons d ds=>obtain⟨y,r',rfl,_⟩:=q2.cons_inv;rfl
 | lst ds=>
  cases h;obtain⟨p,xs,rfl,q1,q2⟩:=rep_lst.mp r;refine .inl ⟨xs,fh.seq q1,?_⟩;cases ds with
  | nil=>rw [q2.nil_inv];rfl
  | cons d ds=>obtain⟨y,r',rfl,_⟩:=q2.cons_inv;rfl
 | dct _ _=>cases h
 | dtt _ _=>cases h
 | obj _=>cases h
 | exc _=>cases h
theorem jq(ha:PE X a (tD X.K f))(he:∀whole,isTrue a X.env whole=(do let v <- whole;standAt a.pos;holding [v] (truthy v)):=by intro _;rfl): PT X a (tDT X.K (bT f)):=
 q9n (qht ha he) fun σ H Q ⟨F0,H0,F, ρ,b,r,hf,q⟩=>by
  obtain⟨d,h1,h2⟩:=gc.mp hf;exact⟨F0,H0,F, ρ,d,r,h1,fun v F' H' g' r'=>⟨b,qng h2 g'.fh r',q F' H' g'⟩⟩
def isB:D->Option Bool
 | .bl b=>some b
 | _=>none
def zd(o:D->D->Option D)(f g:FE): FT:=fun ρ =>(eOp o f g ρ).bind isB
theorem zy{op:CmpOp}{o:D->D->Option D}(ho:OpR X (compareOp op) (rD X.K o))(ha:PE X a (tD X.K f))(hb:PE X b (tD X.K g))(hm:behindInMarks op b=false:=by first|exact q9g _ (by decide) (by decide)|rfl):
  PT X (.Compare a [op] [b] pos) (tDT X.K (zd o f g)):=q9n (qkf ho ha hb hm) fun σ H Q ⟨F0,H0,F, ρ,c,r,hf,q⟩=>by
 obtain⟨d,h1,h2⟩:=gc.mp hf;refine two ⟨F0,H0,F, ρ,d,r,h1,fun v F' H' g' r'=>?_⟩;cases d <;> simp only [isB] at h2 <;> first|(cases h2;done)|skip
 cases h2;exact⟨_,rep_bl.mp r',q F' H' g'⟩
def wd(t:FT): FT:=fun ρ =>(t ρ).map not
def q7a(t u:FT): FT:=fun ρ =>(t ρ).bind fun c=>if c then u ρ else some false
def bOr(t u:FT): FT:=fun ρ =>(t ρ).bind fun c=>if c then some true else u ρ
variable{t u:FT}{rest:List Expr}
theorem k9(ha:PT X a (tDT X.K t)): PT X (.UnaryOp .Not a pos) (tDT X.K (wd t)):=q9n (qmi ha) fun σ H Q ⟨F0,H0,F, ρ,c,r,hf,q⟩=>by
 obtain⟨d,h1,h2⟩:=gz.mp hf;subst h2;exact⟨F0,H0,F, ρ,d,r,h1,fun F' H' g'=>q F' H' g'⟩
theorem qfv{t t':TT}(h:PW X a t)(i:∀ σ H Q,t' σ H Q->t σ H Q): PW X a t':=fun wh pins s σ H Q I q=>h wh pins s σ H Q I (i σ H Q q)
theorem q4m(ha:PT X a (tDT X.K t)): PW X (.BoolOp .And [a] pos) (tDT X.K t):=qk9 ha
theorem q9q(ha:PT X a (tDT X.K t)): PW X (.BoolOp .Or [a] pos) (tDT X.K t):=qmg ha
theorem q6b(ha:PT X a (tDT X.K t))(hb:PW X (.BoolOp .And (b :: rest) pos) (tDT X.K u)): PW X (.BoolOp .And (a :: b :: rest) pos) (tDT X.K (q7a t u)):=qfv (qmh ha hb) fun σ H Q ⟨F0,H0,F, ρ,c,r,hf,q⟩=>by
 obtain⟨d,h1,h2⟩:=gc.mp hf;refine⟨F0,H0,F, ρ,d,r,h1,fun F' H' g'=>?_⟩;cases d with
 | true=>rw [mi rfl] at h2 ⊢;exact⟨F0,H0,F', ρ,c,r.grow g',h2,fun F2 H2 g2=>q F2 H2 (g'.trans g2)⟩
 | false=>rw [mf mh] at h2 ⊢;cases h2;exact q F' H' g'
theorem q98(ha:PT X a (tDT X.K t))(hb:PW X (.BoolOp .Or (b :: rest) pos) (tDT X.K u)): PW X (.BoolOp .Or (a :: b :: rest) pos) (tDT X.K (bOr t u)):=qfv (qoe ha hb) fun σ H Q ⟨F0,H0,F, ρ,c,r,hf,q⟩=>by
 obtain⟨d,h1,h2⟩:=gc.mp hf;refine⟨F0,H0,F, ρ,d,r,h1,fun F' H' g'=>?_⟩;cases d with
 | false=>rw [mf mh] at h2 ⊢;exact⟨F0,H0,F', ρ,c,r.grow g',h2,fun F2 H2 g2=>q F2 H2 (g'.trans g2)⟩
 | true=>rw [mi rfl] at h2 ⊢;cases h2;exact q F' H' g'
def qe8(f g:FE): FE:=fun ρ =>(f ρ).bind fun x=>(isB x).bind fun c=>if c then g ρ else some (.bl false)
def q9r(f:FE): FE:=fun ρ =>(f ρ).bind fun x=>(isB x).map fun c=>.bl (!c)
theorem q9s{d:D}{c:Bool}(h:isB d=some c): d=.bl c:=by
 cases d <;> simp only [isB] at h <;> first|(cases h;done)|skip
 rw [m8 h]
theorem qnh{op}(h:PE X a (tD X.K f)): PE X (.BoolOp op [a] pos) (tD X.K f):=qmj h
theorem qfw(ha:PE X a (tD X.K f))(hb:PE X (.BoolOp .And (b :: rest) pos) (tD X.K g)): PE X (.BoolOp .And (a :: b :: rest) pos) (tD X.K (qe8 f g)):=zt (qmk ha hb) fun σ H Q ⟨F0,H0,F, ρ,d,r,hf,q⟩=>by
 obtain⟨x,h1,hf⟩:=gc.mp hf;obtain⟨c,h2,h3⟩:=gc.mp hf;refine⟨F0,H0,F, ρ,x,r,h1,fun v F' H' g' r'=>?_⟩;rw [q9s h2] at r';refine⟨c,rep_bl.mp r',?_⟩;cases c with
 | true=>rw [mi rfl] at h3 ⊢;exact⟨F0,H0,F', ρ,d,r.grow g',h3,fun w F2 H2 g2 r2=>q w F2 H2 (g'.trans g2) r2⟩
 | false=>rw [mf mh] at h3 ⊢;cases h3;exact q _ F' H' g' (rep_bl.mpr rfl)
theorem q9t(ha:PE X a (tD X.K f)): PE X (.UnaryOp .Not a pos) (tD X.K (q9r f)):=zt (qml ha) fun σ H Q ⟨F0,H0,F, ρ,d,r,hf,q⟩=>by
 obtain⟨x,h1,hf⟩:=gc.mp hf;obtain⟨c,h2,h3⟩:=gz.mp hf;subst h3;refine⟨F0,H0,F, ρ,x,r,h1,fun v F' H' g' r'=>?_⟩;rw [q9s h2] at r';exact⟨c,rep_bl.mp r',q _ F' H' g' (rep_bl.mpr rfl)⟩
end
section
variable{X:Cx}{e:Expr}{es:List Expr}{pos:Pos}{f g:FE}{fa:FA}
def notStar:Expr->Bool
 | .Starred _ _=>false
 | _=>true
theorem qd3{e:Expr}{es:List Expr}{env:Env}(h:notStar e=true): starEach (e :: es) env=(false,eval e env) :: starEach es env:=by
 cases e <;> first|rfl|cases h
def qd:FA:=fun _=>some []
def qa(f:FE)(fa:FA): FA:=fun ρ =>(f ρ).bind fun d=>(fa ρ).map fun ds=>d :: ds
theorem qg:PA X [] (tDA X.K qd):=qfr q2c fun σ H Q ⟨F0,H0,F, ρ,ds,r,hf,q⟩=>by
 cases hf;exact q [] F H (.refl r.fh) .nil
theorem qkp(ha:PE X e (tD X.K f))(hr:PA X es (tDA X.K fa))(hs:starEach (e :: es) X.env=(false,eval e X.env) :: starEach es X.env:=by first|exact qd3 rfl|rfl): PA X (e :: es) (tDA X.K (qa f fa)):=
 qfr (q01 ha hr hs) fun σ H Q ⟨F0,H0,F, ρ,ds,r,hf,q⟩=>by
  obtain⟨d,h1,hf⟩:=gc.mp hf;obtain⟨ds',h2,h3⟩:=gz.mp hf;subst h3;refine⟨F0,H0,F, ρ,d,r,h1,fun v F1 H1 g1 r1=>⟨F0,H0,F1, ρ,ds',r.grow g1,h2,fun vs F2 H2 g2 r2=>?_⟩⟩;exact q _ F2 H2 (g1.trans g2) (.cons (r1.mono g2.ff) r2)
def we(fa:FA): FE:=fun ρ =>(fa ρ).bind fun ds=>if ds.length<=lim then some (.tup ds) else none
def q2s(fa:FA): FA:=fun ρ =>(fa ρ).bind fun ds=>if ds.length<=lim then some ds else none
theorem q2g{x1}(h:PA X es (tDA X.K fa)): PE X (.Tuple es x1 pos) (tD X.K (we fa)):=zt (qmx h) fun σ H Q ⟨F0,H0,F, ρ,d,r,hf,q⟩=>by
 obtain⟨ds,h1,h2⟩:=gc.mp hf
 split at h2
 ·rename_i hl
  cases h2;refine⟨F0,H0,F, ρ,ds,r,h1,fun vs F1 H1 g1 r1=>⟨ja (by rw [<- r1.length];exact hl),fun p hp=>?_⟩⟩;have gn:Grow F1 H1 (upd F1 p (.tup vs)) (upd H1 p (.tup vs)):=Grow.new g1.fh hp;exact q _ _ _ (g1.trans gn) (rep_tup.mpr ⟨p,vs,rfl,SqT.of ql,r1.mono gn.ff⟩)
 ·cases h2
theorem q1b(h:PA X es (tDA X.K fa)): PE X (.List es pos) (tL X.K (q2s fa)):=zt (qmy h) fun σ H Q ⟨F0,H0,F, ρ,ds,r,hf,q⟩=>by
 obtain⟨ds',h1,h2⟩:=gc.mp hf
 split at h2
 ·rename_i hl
  cases h2;refine⟨F0,H0,F, ρ,ds,r,h1,fun vs F1 H1 g1 r1=>⟨ja (by rw [<- r1.length];exact hl),fun p hp=>?_⟩⟩;exact q p vs F1 (upd H1 p (.lst vs)) (g1.trans (Grow.own g1.fh hp)) (g1.fh.free hp) (g1.hh.free hp) ql r1
 ·cases h2
def eL(fa:FA): FE:=fun ρ =>(fa ρ).map .lst
theorem jb(h:PE X e (tL X.K fa)): PE X e (tD X.K (eL fa)):=zt h fun σ H Q ⟨F0,H0,F, ρ,d,r,hf,q⟩=>by
 obtain⟨ds,h1,h2⟩:=gz.mp hf;subst h2;refine⟨F0,H0,F, ρ,ds,r,h1,fun a xs F1 H1 g1 fa' ha' hl r1=>?_⟩;have sF:Same F1 (upd F1 a (.lst xs)):=xg fa';refine q _ (upd F1 a (.lst xs)) H1 ⟨g1.ff.trans sF,g1.hh,fun b o z=>?_,fun b hb=>?_⟩ (rep_lst.mpr ⟨a,xs,rfl,SqL.of ql,r1.mono sF⟩)
 ·by_cases q':b=a
  ·subst q';rw [ql] at z;cases z;exact hl
  ·rw [qi q'] at z;exact g1.fh b o z
 ·by_cases q':b=a
  ·subst q';exact .inr ha'
  ·rw [qi q'] at hb;exact g1.nw b hb
def rC(K:Frag)(op:List D->Option D): List V->Hp->VK->Prop:=fun xs H Q=>∃F ds d,Same F H/\RepL K F ds xs/\op ds=some d/\∀v F' H',Grow F H F' H'->Rep K F' d v->Q v H'
def qf(op:List D->Option D)(fa:FA): FE:=fun ρ =>(fa ρ).bind op
theorem q86{f:Value}{r r':List V->Hp->VK->Prop}(h:xm X f r)(i:∀xs H Q,r' xs H Q->r xs H Q): xm X f r':=fun pins s σ H xs us Q I rv q=>h pins s σ H xs us Q I rv (i xs H Q q)
theorem qfx{K:Frag}{op:List D->Option D}{σ : St}{H:Hp}{Q:VK}(h:tD K (qf op fa) σ H Q): tDA K fa σ H fun vs H1=>rC K op vs H1 Q:=by
 obtain⟨F0,H0,F, ρ,d,r,hf,q⟩:=h;obtain⟨ds,h1,h2⟩:=gc.mp hf;exact⟨F0,H0,F, ρ,ds,r,h1,fun vs F1 H1 g1 r1=>⟨F1,ds,d,g1.fh,r1,h2,fun v F2 H2 g2 r2=>q v F2 H2 (g1.trans g2) r2⟩⟩
theorem zh{x:Str}{p:Pos}{id:String}{op:List D->Option D}(hc:xm X (.builtin id) (rC X.K op))(hg:Gl X x)(hm:X.mg x=none)(hv:bootBuiltins x=some (.builtin id))(ha:PA X (e :: es) (tDA X.K fa))
  (hn:x≠"__name__" :=by decide) (hdb:(x==("__debug__" : Str))=false:=by decide)
  (he:starEach (e :: es) X.env=(false,eval e X.env) :: starEach es X.env:=by rfl) (hpl:(backTo pos (starEach es X.env)).any (·.1)=false:=by rfl):PE X (.Call (.Name x p) (e :: es) [] pos) (tD X.K (qf op fa)):=
 zt (q2r hc hg hm hv ha hn hdb he hpl) fun σ H Q h=>qfx h
theorem zk{x:Str}{p:Pos}{T:String}{op:List D->Option D}(hc:xm X (.type T) (rC X.K op))(hg:Gl X x)(hm:X.mg x=none)(hv:bootBuiltins x=some (.type T))(ha:PA X (e :: es) (tDA X.K fa))
  (hn:x≠"__name__" :=by decide) (hdb:(x==("__debug__" : Str))=false:=by decide)
  (he:starEach (e :: es) X.env=(false,eval e X.env) :: starEach es X.env:=by rfl) (hpl:(backTo pos (starEach es X.env)).any (·.1)=false:=by rfl):PE X (.Call (.Name x p) (e :: es) [] pos) (tD X.K (qf op fa)):=
 zt (q3q hc hg hm hv ha hn hdb he hpl) fun σ H Q h=>qfx h
def spD(K:Frag)(ar:Nat)(op:List D->Option D): Sp:=fun vs H Q _=>∃F ds d,SameT F H/\RepL K F ds vs/\ds.length=ar/\op ds=some d/\∀v F' H',Grow F H F' H'->Rep K F' d v->Q v H'
theorem SameT.grow{F H F' H':Hp}(s:SameT F H)(g:Grow F H F' H'): SameT F' H':=⟨g.fh,g.hh.tb s.t,fun p hp=>by
 cases q:F' p.1 with
 | none=>rfl
 | some o=>
  rcases g.nw p.1 (by rw [q];simp) with z|z
  ·exact absurd (s.f p hp) z
  ·obtain⟨ps,e,_⟩:=s.t p hp
   rw [e] at z;cases z⟩
def qk(ar:Nat)(dds:List D)(op:List D->Option D): List D->Option D:=fun ds=>if(ds++dds).length=ar then op (ds++dds) else none
theorem qkq{k ar:Nat}{fn:Addr}{fd:FuncData}{ps:List Str}{op:List D->Option D}{x:Str}{p:Pos}{dvs:List V}{dds:List D}{dv:List Value}(F:FnOk X.prog X.w X.K X.mg X.base CX0 k fn fd ps (spD X.K ar op))(hr:Room k X.A)(hg:Gl X x)(hm:X.mg x=some (.ref fn))(hk:PySem.W.keepIn X.K (.ref fn)=true)
  (hb:Binds X.K fd ps dv) (hd:Vals dvs dv) (hdd:∀H,RepL X.K H dds dvs) (ha:PA X (e :: es) (tDA X.K fa)) (hdb:(x==("__debug__" : Str))=false:=by decide)
  (he:starEach (e :: es) X.env=(false,eval e X.env) :: starEach es X.env:=by rfl) (hpl:(backTo pos (starEach es X.env)).any (·.1)=false:=by rfl) :
  PE X (.Call (.Name x p) (e :: es) [] pos) (tD X.K (qf (qk ar dds op) fa)):=
 zt (qkh F hr hg hm hk hb hd qov ha hdb he hpl) fun σ H Q ⟨F0,H0,Fz, ρ,d,r,hf,q⟩=>by
  obtain⟨ds,h1,h2⟩:=gc.mp hf;unfold qk at h2
  split at h2
  ·rename_i hl
   exact⟨F0,H0,Fz, ρ,ds,r,h1,fun vs F1 H1 g1 r1=>⟨F1,ds++dds,d,r.sameT g1,r1.append (hdd F1),hl,h2,fun v F2 H2 g2 r2=>q v F2 H2 (g1.trans g2) r2⟩⟩
  ·cases h2
end
section
variable{X:Cx}{st:Stmt}{rest:List Stmt}{e:Expr}{pos:Pos}{f:FE}{fa:FA}{t:FT}{u w:FS}
def ya:FS:=fun ρ =>some (.nx, ρ)
def ze(u w:FS): FS:=fun ρ =>(u ρ).bind fun r=>match r with
 | (.nx, ρ')=>w ρ'
 | (fl, ρ')=>some (fl, ρ')
def sIf(t:FT)(u w:FS): FS:=fun ρ =>(t ρ).bind fun c=>if c then u ρ else w ρ
def xh(i:Nat)(f:FE): FS:=fun ρ =>(f ρ).map fun d=>(.nx, ρ.set i (some (.fz d)))
def q1c(i:Nat)(fa:FA): FS:=fun ρ =>(fa ρ).map fun ds=>(.nx, ρ.set i (some (.ow ds)))
def zl(f:FE): FS:=fun ρ =>(f ρ).map fun d=>(.rt d, ρ)
theorem jw:PSs X [] (tDS X.K ya):=q4j qka fun D σ H ⟨F0,H0,F, ρ,fl, ρ',r,hf,q⟩=>by
 cases hf;exact q σ F H (.refl _) r
theorem q1d{K:Frag}{F0 H0 F F':Hp}{D:Ends}{fl:Fl}{ρ':Rho}(s:Same F F')(h:qe6 K F0 H0 F D fl ρ'): qe6 K F0 H0 F' D fl ρ':=by
 cases fl with
 | nx=>exact fun σ' F2 H2 s2 r=>h σ' F2 H2 (s.trans s2) r
 | bk=>exact fun σ' F2 H2 s2 r=>h σ' F2 H2 (s.trans s2) r
 | ct=>exact fun σ' F2 H2 s2 r=>h σ' F2 H2 (s.trans s2) r
 | rt d=>exact h
theorem qq(h1:PS X st (tDS X.K u))(h2:PSs X rest (tDS X.K w)): PSs X (st :: rest) (tDS X.K (ze u w)):=q4j (q16 h1 h2) fun D σ H ⟨F0,H0,F, ρ,fl, ρ',r,hf,q⟩=>by
 obtain⟨⟨fl1, ρ1⟩,h3,h4⟩:=gc.mp hf;refine⟨F0,H0,F, ρ,fl1, ρ1,r,h3,?_⟩;cases fl1 with
 | nx=>exact fun σ' F' H' s r'=>⟨F0,H0,F', ρ1,fl, ρ',r',h4,q1d s q⟩
 | bk=>cases h4;exact q
 | ct=>cases h4;exact q
 | rt d=>cases h4;exact q
theorem qp(h1:PS X st (tDS X.K u)): PSs X [st] (tDS X.K u):=qcu h1
theorem vf{c:Expr}{a b:List Stmt}(hc:PT X c (tDT X.K t))(ha:PSs X a (tDS X.K u))(hb:PSs X b (tDS X.K w)): PS X (.If c a b pos) (tDS X.K (sIf t u w)):=q1a (qoi hc ha hb) fun D σ H ⟨F0,H0,F, ρ,fl, ρ',r,hf,q⟩=>by
 obtain⟨c,h1,h2⟩:=gc.mp hf;refine⟨F0,H0,F, ρ,c,r,h1,fun F' H' g'=>?_⟩;cases c with
 | true=>rw [mi rfl] at h2 ⊢;exact⟨F0,H0,F', ρ,fl, ρ',r.grow g',h2,q1d g'.ff q⟩
 | false=>rw [mf mh] at h2 ⊢;exact⟨F0,H0,F', ρ,fl, ρ',r.grow g',h2,q1d g'.ff q⟩
theorem za(he:PE X e (tD X.K f)): PS X (.Return (some e) pos) (tDS X.K (zl f)):=q1a (qmm he) fun D σ H ⟨F0,H0,F, ρ,fl, ρ',r,hf,q⟩=>by
 obtain⟨d,h1,h2⟩:=gz.mp hf;cases h2;exact⟨F0,H0,F, ρ,d,r,h1,fun v F' H' g' r'=>q v F' H' (r.g.trans g') r'⟩
theorem qow{K:Frag}{i:Nat}{D:Ends}{σ : St}{H:Hp}(h:tDS K (xh i f) D σ H): tD K f σ H fun x H1=>q0u i x σ H1 D.nx:=by
 obtain⟨F0,H0,F, ρ,fl, ρ',r,hf,q⟩:=h;obtain⟨d,h1,h2⟩:=gz.mp hf;cases h2;exact⟨F0,H0,F, ρ,d,r,h1,fun v F' H' g' r'=>q _ F' H' g'.ff ((r.grow g').set i r')⟩
theorem qjw{K:Frag}{i:Nat}{D:Ends}{σ : St}{H:Hp}(h:tDS K (q1c i fa) D σ H): tL K fa σ H fun x H1=>q0u i x σ H1 D.nx:=by
 obtain⟨F0,H0,F, ρ,fl, ρ',r,hf,q⟩:=h;obtain⟨ds,h1,h2⟩:=gz.mp hf;cases h2;refine⟨F0,H0,F, ρ,ds,r,h1,fun a xs F' H' g' fa' ha' hl r'=>q _ F' H' g'.ff ((r.grow g').setO i hl fa' (r.g.hh.free ha') r' (fun j es z1 z2=>?_) fun j kvs z1=>?_)⟩
 ·obtain⟨b,ys,e1,e2,_⟩:=r.ow j es z1
  rw [z2] at e1;obtain rfl:a=b:=by simpa using e1
  rw [ha'] at e2;cases e2
 ·obtain⟨b,bs,e1,e2,e3⟩:=r.od j kvs z1
  refine⟨b,bs,e1,e2.grow g',fun z=>?_,e3⟩;obtain⟨xs,f,_⟩:=e2.mem z;rw [ha'] at f;cases f
theorem j3{i:Nat}{x:Str}{px:Pos}(hN:X.N.Nodup)(hi:X.N[i]? = some x)(hx:Loc X.env.scope x)(he:PE X e (tD X.K f))(hs:swapsWith e (some (.Name x px)) pos.line X.env=pure false:=by rfl)(hf:X.fn x=true\/X.env.scope.names.lookup x=some .local:=by first|exact .inl rfl|exact .inr rfl|assumption):
  PS X (.Assign [.Name x px] e pos) (tDS X.K (xh i f)):=q1a (q62 hN hi hx he hs hf) fun D σ H h=>qow h
theorem q3u{i:Nat}{x:Str}{px:Pos}(hN:X.N.Nodup)(hi:X.N[i]? = some x)(hx:Loc X.env.scope x)(he:PE X e (tL X.K fa))(hs:swapsWith e (some (.Name x px)) pos.line X.env=pure false:=by rfl)(hf:X.fn x=true\/X.env.scope.names.lookup x=some .local:=by first|exact .inl rfl|exact .inr rfl|assumption):
  PS X (.Assign [.Name x px] e pos) (tDS X.K (q1c i fa)):=q1a (q62 hN hi hx he hs hf) fun D σ H h=>qjw h
def q7b(i:Nat)(ρ : Rho): Option (List D):=match ρ[i]? with
 | some (some (.ow ds))=>some ds
 | _=>none
theorem qfy{i:Nat}{ρ : Rho}{ds:List D}(h:q7b i ρ = some ds): ρ[i]? = some (some (.ow ds)):=by
 unfold q7b at h
 split at h
 ·rename_i e;rw [e,m8 h]
 ·cases h
def q1e(i:Nat)(f:FE): FS:=fun ρ =>(q7b i ρ).bind fun ds=>(f ρ).bind fun d=>if ds.length<lim then some (.nx, ρ.set i (some (.ow (ds++[d])))) else none
theorem q6c{i:Nat}{x:Str}{px apos cpos:Pos}(hv:PE X (.Name x px) (q3o i))(he:PE X e (tD X.K f))
  (hbase:attributeBase (.Name x px) "append" X.env (eval (.Name x px) X.env)=eval (.Name x px) X.env:=by rfl)
  (hfew:((backTo cpos (starEach [e] X.env)).all (fun x=> !x.1)&&(backToKw cpos (keywordEach [] X.env)).all (fun x=>x.1.isSome)&&decide ([e].length+([]:List Keyword).length+(if([]:List Keyword).isEmpty then 0 else 1)<30))=true:=by rfl)
  (hline:(apos.endLine==cpos.line)=true:=by rfl) (hse:starEach [e] X.env=(false,eval e X.env) :: starEach [] X.env:=by rfl)
  (hs:swapsWith (.Call (.Attribute (.Name x px) "append" apos) [e] [] cpos) none pos.line X.env=pure false:=by rfl):PS X (.Expr (.Call (.Attribute (.Name x px) "append" apos) [e] [] cpos) pos) (tDS X.K (q1e i f)):=
 q1a (qkb (qou PySem.F.plainAttrs_list PySem.F.slot_list_append PySem.F.type_list_append q84 hv (q01 he q2c hse) hbase hfew hline hse rfl) hs) fun D σ H ⟨F0,H0,F, ρ,fl, ρ',r,hf,q⟩=>by
  obtain⟨ds,h1,hf⟩:=gc.mp hf;obtain⟨d,h2,h3⟩:=gc.mp hf;have h1:=qfy h1
  split at h3
  ·rename_i hl
   cases h3;obtain⟨a,xs,e1,e2,e3,e4,e5⟩:=r.ow i ds h1;refine⟨.ref a,e1,.inl ⟨rfl,xs,SqL.of e2⟩,F0,H0,F, ρ,d,r,h2,fun v F' H' g' r'=>?_⟩;have r2:=r.grow g';refine⟨a,xs,v,rfl,rfl,g'.hh.lst _ _ e2,q85 (by rw [<- e5.length];exact hl),?_⟩;exact q _ F' _ g'.ff (r2.wrt h1 e1 ((e5.mono g'.ff).append (.cons r' .nil)))
  ·cases h3
def frz(i:Nat)(ρ : Rho): Rho:=match ρ[i]? with
 | some (some (.ow ds))=> ρ.set i (some (.fz (.lst ds)))
 | _=> ρ
def q22(i:Nat)(u:FS): FS:=fun ρ =>u (frz i ρ)
theorem qni{K:Frag}{F0 H0 F H:Hp}{σ : St}{ρ : Rho}(i:Nat)(r:RS K F0 H0 F H σ ρ): ∃F',Same F F'/\RS K F0 H0 F' H σ (frz i ρ):=by
 unfold frz
 split
 ·rename_i ds h
  exact r.freeze h
 ·exact⟨F,.refl _,r⟩
theorem q0g(i:Nat){sts:List Stmt}(h:PSs X sts (tDS X.K u)): PSs X sts (tDS X.K (q22 i u)):=q4j h fun D σ H ⟨F0,H0,F, ρ,fl, ρ',r,hf,q⟩=>by
 obtain⟨F',s',r'⟩:=qni i r;exact⟨F0,H0,F',frz i ρ,fl, ρ',r',hf,q1d s' q⟩
end
def z5(n:Nat)(u:FS)(ds:List D): Option D:=match u (ds.map (fun d=>some (.fz d))++List.replicate (n-ds.length) none) with
 | some (.rt d,_)=>some d
 | some (.nx,_)=>some .non
 | _=>none
theorem qfz{N:List Str}{vs:List V}{i:Nat}{v:V}(h:vs[i]? = some v): (L2.start N vs)[i]? = some (some v):=by
 unfold L2.start;have hi:i<vs.length:=(my.mp h).1;rw [t7 (by simpa using hi),mn,h];rfl
theorem qg0{P:Program}{w:World}{K:Frag}{H:Hp}{vs:List V}{Q:VK}{N:List Str}{u:FS}{ar:Nat}{E:XK}(hl:ar<=N.length)(h:spD K ar (z5 N.length u) vs H Q E): tDS K u {nx:=fun _ H'=>Q .non H',rt:=Q} (L2.start N vs) H:=by
 obtain⟨F,ds,d,fh,rl,el,hd,q⟩:=h;have hlen:=rl.length;have r:RS K F H F H (L2.start N vs) (ds.map (fun d=>some (.fz d))++List.replicate (N.length-ds.length) none):={
  t0:=⟨fh.t,fh.f⟩
  g:=.refl fh.s
  len:=by unfold L2.start;simp only [pz,mj,g5q];omega
  fz :=fun i e h1=>by
   by_cases hi:i<ds.length
   ·rw [t7 (by simpa using hi),mn] at h1
    cases z:ds[i]? with
    | none=>rw [z] at h1;cases h1
    | some d'=>
     rw [z] at h1;cases h1;obtain⟨v,e1,e2⟩:=rl.get z;exact⟨v,qfz e1,e2⟩
   ·rw [uc (by simpa using hi),g0e] at h1
    split at h1 <;> cases h1
  ow:=fun i es h1=>by
   by_cases hi:i<ds.length
   ·rw [t7 (by simpa using hi),mn] at h1
    cases z:ds[i]? with
    | none=>rw [z] at h1;cases h1
    | some d'=>rw [z] at h1;cases h1
   ·rw [uc (by simpa using hi),g0e] at h1
    split at h1 <;> cases h1
  dj:=fun i j us es a _ h1=>by
   by_cases hi:i<ds.length
   ·rw [t7 (by simpa using hi),mn] at h1
    cases z:ds[i]? with
    | none=>rw [z] at h1;cases h1
    | some d'=>rw [z] at h1;cases h1
   ·rw [uc (by simpa using hi),g0e] at h1
    split at h1 <;> cases h1
  od:=fun i kvs h1=>by
   by_cases hi:i<ds.length
   ·rw [t7 (by simpa using hi),mn] at h1
    cases z:ds[i]? with
    | none=>rw [z] at h1;cases h1
    | some d'=>rw [z] at h1;cases h1
   ·rw [uc (by simpa using hi),g0e] at h1
    split at h1 <;> cases h1
  o1:=fun i j k1 k2 h1=>by
   by_cases hi:i<ds.length
   ·rw [t7 (by simpa using hi),mn] at h1
    cases z:ds[i]? with
    | none=>rw [z] at h1;cases h1
    | some d'=>rw [z] at h1;cases h1
   ·rw [uc (by simpa using hi),g0e] at h1
    split at h1 <;> cases h1}
 unfold z5 at hd;cases z:u (ds.map (fun d=>some (.fz d))++List.replicate (N.length-ds.length) none) with
 | none=>rw [z] at hd;cases hd
 | some p=>
  obtain⟨fl, ρ'⟩:=p;rw [z] at hd;refine⟨F,H,F,_,fl, ρ',r,z,?_⟩;cases fl with
  | nx=>cases hd;exact fun σ' F' H' s' r'=>q .non F' H' r'.g (rep_non.mpr rfl)
  | bk=>cases hd
  | ct=>cases hd
  | rt d'=>cases hd;exact fun v F' H' g' r'=>q v F' H' g' r'
theorem qjx{P:Program}{w:World}{K:Frag}{mg:Str->Option Value}{base:Heap}{k:Nat}{f:Addr}{name qual:Str}{params:Arguments}{body:List Stmt}{scope:Scope}{dV kV doc pm cdv ct oc:Value}{an od:Option Addr}
  {osl:Array (Option Value)} {N ps:List Str} {u:FS} (lk:K.lookup f=some ⟨oc,od,.func (PySem.W.fnOf name qual params body scope dV kV doc pm an cdv ct),osl⟩) (hcd:PySem.W.codeIn K cdv qual=true) (S:FnScope N ps scope)
  (hb:∀(A:Around) (outer:List Env) (s:Shared) (H:Hp) (E:XK),Room k (A.deeper (envOfC qual scope s.heap.objs.size f cdv))->PSs (zj CX0 P w K mg base N qual scope f cdv A outer s H E).nox body (tDS K u)) :
  FnOk P w K mg base CX0 (k+1) f (PySem.W.fnOf name qual params body scope dV kV doc pm an cdv ct) ps (spD K ps.length (z5 N.length u)):=by
 have hpl:ps.length<=N.length:=by have:=ug List.length S.pre;rw [ni] at this;omega
 refine qor lk hcd S (fun vs H Q E h=>?_) fun A outer s H vs Q E hr hsp=>⟨_,(hb A outer s H E hr).nox,qg0 (P:=P) (w:=w) hpl hsp⟩
 obtain⟨F,ds,d,_,rl,el,_⟩:=h;rw [<- rl.length];exact el
structure ItD(K:Frag)(F:Hp)(ds:List D)(J:It): Prop where
 go:∀(i:Nat) (F' H:Hp),Same F F'->Same F' H->i<ds.length->J.go i H
 yld:∀(i:Nat) (d:D) (F' H:Hp) (x:V) (H':Hp),Same F F'->Same F' H->ds[i]? = some d->J.yld i H x H'->∃F'',Grow F' H F'' H'/\Rep K F'' d x
 stop:∀(i:Nat) (F' H:Hp),Same F F'->Same F' H->ds.length<=i->J.stop i H
def tDI(K:Frag)(f:FA): TI:=fun σ H R=>∃F0 H0 F ρ ds,RS K F0 H0 F H σ ρ /\ f ρ = some ds/\∀J F' H',Grow F H F' H'->ItD K F' ds J->R J H'
abbrev FB:=D->Rho->Option Rho
abbrev FBs:=List D->Rho->Option Rho
def tDG(K:Frag)(b:FB): TG:=fun v σ H Q=>∃F0 H0 F ρ d ρ',RS K F0 H0 F H σ ρ /\ Rep K F d v/\b d ρ = some ρ'/\∀ σ',RS K F0 H0 F H σ' ρ'->Q σ' H
def qe9(K:Frag)(b:FBs): TGs:=fun vs σ H Q=>∃F0 H0 F ρ ds ρ',RS K F0 H0 F H σ ρ /\ RepL K F ds vs/\b ds ρ = some ρ'/\∀ σ',RS K F0 H0 F H σ' ρ'->Q σ' H
section
variable{X:Cx}{tg e:Expr}{es:List Expr}{pos:Pos}
theorem q6d{t t':TI}(h:PI X tg e t)(i:∀ σ H R,t' σ H R->t σ H R): PI X tg e t':=fun pins s σ H R I q=>h pins s σ H R I (i σ H R q)
theorem qg1{t t':TG}(h:PG X e t)(i:∀v σ H Q,t' v σ H Q->t v σ H Q): PG X e t':=fun pins s σ H v u Q I r q=>h pins s σ H v u Q I r (i v σ H Q q)
theorem qd4{t t':TGs}(h:PGs X es t)(i:∀v σ H Q,t' v σ H Q->t v σ H Q): PGs X es t':=fun pins s σ H v u Q I r q=>h pins s σ H v u Q I r (i v σ H Q q)
def bN(i:Nat): FB:=fun d ρ =>some (ρ.set i (some (.fz d)))
def q9u:FBs:=fun ds ρ =>if ds.isEmpty then some ρ else none
def q4n(b:FB)(bs:FBs): FBs:=fun ds ρ =>match ds with
 | d :: r=>(b d ρ).bind fun ρ'=>bs r ρ'
 | []=>none
def q9v(n:Nat)(bs:FBs): FB:=fun d ρ =>match d with
 | .tup ds=>if ds.length=n then bs ds ρ else none
 | _=>none
theorem qw{i:Nat}{x:Str}(hN:X.N.Nodup)(hi:X.N[i]? = some x)(hx:Loc X.env.scope x)(hf:X.fn x=true\/X.env.scope.names.lookup x=some .local:=by first|exact .inl rfl|exact .inr rfl|assumption): PG X (.Name x pos) (tDG X.K (bN i)):=
 qg1 (qcv hN hi hx hf) fun v σ H Q ⟨F0,H0,F, ρ,d, ρ',r,hr,hb,q⟩=>by
  cases hb;exact q _ (r.set i hr)
theorem qnj:PGs X [] (qe9 X.K q9u):=qd4 qkc fun vs σ H Q ⟨F0,H0,F, ρ,ds, ρ',r,hr,hb,q⟩=>by
 unfold q9u at hb
 split at hb
 ·rename_i z
  cases hb;have z':ds=[]:=by simpa using z
  subst z';exact⟨hr.nil_inv,q σ r⟩
 ·cases hb
theorem qd5{b:FB}{bs:FBs}(h1:PG X e (tDG X.K b))(h2:PGs X es (qe9 X.K bs))(hs:(assignEach (e :: es) X.env).map (·.2)=assign e X.env :: (assignEach es X.env).map (·.2):=by rfl): PGs X (e :: es) (qe9 X.K (q4n b bs)):=
 qd4 (qho h1 h2 hs) fun vs σ H Q ⟨F0,H0,F, ρ,ds, ρ',r,hr,hb,q⟩=>by
  cases ds with
  | nil=>cases hb
  | cons d ds=>
   obtain⟨v,vr,rfl,h3,h4⟩:=hr.cons_inv;obtain⟨ρ1,h5,h6⟩:=gc.mp hb;exact⟨v,vr,rfl,F0,H0,F, ρ,d, ρ1,r,h3,h5,fun σ' r'=>⟨F0,H0,F, ρ1,ds, ρ',r',h4,h6,q⟩⟩
theorem qnk{k n:Nat}{bs:FBs}(hc:X.calm=true)(h:PGs X es (qe9 X.K bs))(hn:(assignEach es X.env).length=n:=by rfl)(hst:(assignEach es X.env).findIdx? (·.1)=none:=by rfl): PG X (.Tuple es k pos) (tDG X.K (q9v n bs)):=
 qg1 (qmo hc h hn hst) fun v σ H Q ⟨F0,H0,F, ρ,d, ρ',r,hr,hb,q⟩=>by
  cases d <;> simp only [q9v] at hb <;> first|(cases hb;done)|skip
  rename_i ds
  split at hb
  ·rename_i hl
   obtain⟨a,xs,rfl,h1,h2⟩:=rep_tup.mp hr;exact⟨a,xs,rfl,qh r.fh h1,by rw [<- h2.length];exact hl,F0,H0,F, ρ,ds, ρ',r,h2,hb,q⟩
  ·cases hb
theorem qi8{K:Frag}{F:Hp}{a:Addr}{xs:List V}{ds:List D}(h:SqL K F a xs)(hd:RepL K F ds xs): ItD K F ds (Itl K a) where
 go:=fun i F' H s1 s2 hi=>⟨xs,xs[i]'(by rw [<- hd.length];exact hi),(s1.trans s2).seq h,by simp⟩
 yld:=fun i d F' H x H' s1 s2 hi ⟨e,y⟩=>by
  subst e;obtain⟨z,h1,h2⟩:=hd.get hi;have:=y xs ((s1.trans s2).seq h);rw [h1] at this;cases this;exact⟨F',.refl s2,h2.mono s1⟩
 stop:=fun i F' H s1 s2 hi=>⟨xs,(s1.trans s2).seq h,by rw [<- hd.length];exact hi⟩
theorem qkr{K:Frag}{F:Hp}{a:Addr}{xs:List V}{ds:List D}(h:SqT K F a xs)(hd:RepL K F ds xs): ItD K F ds (Itt K a) where
 go:=fun i F' H s1 s2 hi=>⟨xs,xs[i]'(by rw [<- hd.length];exact hi),qh (s1.trans s2) h,by simp⟩
 yld:=fun i d F' H x H' s1 s2 hi ⟨e,y⟩=>by
  subst e;obtain⟨z,h1,h2⟩:=hd.get hi;have:=y xs (qh (s1.trans s2) h);rw [h1] at this;cases this;exact⟨F',.refl s2,h2.mono s1⟩
 stop:=fun i F' H s1 s2 hi=>⟨xs,qh (s1.trans s2) h,by rw [<- hd.length];exact hi⟩
def qr(lo:Int)(n:Nat): List D:=(List.range n).map fun i:Nat=>.int (lo+i)
theorem qg2{K:Frag}{F:Hp}(lo:Int)(n:Nat): ItD K F (qr lo n) (Itr lo n) where
 go:=fun i F' H s1 s2 hi=>by show i<n;simpa [qr] using hi
 yld:=fun i d F' H x H' s1 s2 hi ⟨e,y⟩=>by
  subst e y;simp only [qr,mn] at hi;cases q:(List.range n)[i]? with
  | none=>rw [q] at hi;cases hi
  | some j=>
   rw [q] at hi;cases hi;have:j=i:=by
    have h2:=my.mp q;obtain⟨h3,h4⟩:=h2;rw [List.getElem_range] at h4;exact h4.symm
   subst this;exact⟨F',.refl s2,rep_int.mpr rfl⟩
 stop:=fun i F' H s1 s2 hi=>by show n<=i;simpa [qr] using hi
def q5e:D->Option (List D)
 | .tup ds=>some ds
 | .lst ds=>some ds
 | _=>none
def zu(f:FE): FA:=fun ρ =>(f ρ).bind q5e
theorem qox{l:Expr}{tl:TE}(hl:PE X l tl): PI X tg l (fun σ H R=>tl σ H fun x H1=>(∃a,x=.ref a/\(∃xs,SqL X.K H1 a xs)/\R (Itl X.K a) H1)\/(∃a,x=.ref a/\(∃xs,SqT X.K H1 a xs)/\R (Itt X.K a) H1)):=by
 intro pins s σ H R I h;refine thn (hl pins s σ H _ I h) fun v s1 ⟨x,H1,I1,r1,q1⟩=>?_;rcases q1 with⟨a,e,⟨xs,hq⟩,q⟩|⟨a,e,⟨xs,hq⟩,q⟩
 ·subst e
  cases r1;obtain⟨its,rv,p,hz⟩:=I1.list hq;refine g30 p.isList ?_;refine⟨s1.heap.objs.size,[s1.heap.objs.size],_,_,H1,rfl,I1.kept (t':=s1.toks) fun b o e=>gd _ e,qfb a _,⟨_,gr _ rfl,rfl,rfl⟩,fun b hb=>?_,q⟩;have e:b=s1.heap.objs.size:=by simpa using hb
  subst e;exact I1.fpOk (gu _) (I1.hok.fresh (gu _))
 ·subst e
  cases r1;obtain⟨its,rv,p,hz⟩:=I1.tuple hq;refine g49 (show s1.heap.IsTuple a its.toArray from p) ?_;refine⟨s1.heap.objs.size,[s1.heap.objs.size],_,_,H1,rfl,I1.kept (t':=s1.toks) fun b o e=>gd _ e,qdz a _,⟨_,gr _ rfl,rfl,rfl⟩,fun b hb=>?_,q⟩;have e:b=s1.heap.objs.size:=by simpa using hb
  subst e;exact I1.fpOk (gu _) (I1.hok.fresh (gu _))
theorem jc{f:FE}(h:PE X e (tD X.K f)): PI X tg e (tDI X.K (zu f)):=q6d (qox h) fun σ H R ⟨F0,H0,F, ρ,ds,r,hf,q⟩=>by
 obtain⟨d,h1,h2⟩:=gc.mp hf;refine⟨F0,H0,F, ρ,d,r,h1,fun v F' H' g' r'=>?_⟩;cases d <;> simp only [q5e] at h2 <;> first|(cases h2;done)|skip
 ·cases h2
  obtain⟨a,xs,rfl,h3,h4⟩:=rep_tup.mp r';exact .inr ⟨a,rfl,⟨xs,qh g'.fh h3⟩,q _ F' H' g' (qkr h3 h4)⟩
 ·cases h2
  obtain⟨a,xs,rfl,h3,h4⟩:=rep_lst.mp r';exact .inl ⟨a,rfl,⟨xs,g'.fh.seq h3⟩,q _ F' H' g' (qi8 h3 h4)⟩
def iR1(fa:FA): FA:=fun ρ =>(fa ρ).bind fun ds=>match ds with
 | [.int j]=>if decide (-(2 ^ 62)<=j)&&decide (j<2 ^ 62) then some (qr 0 j.toNat) else none
 | _=>none
theorem xv{a:Expr}{fa:FA}{p:Pos}(hg:Gl X "range")(hm:X.mg "range" = none)(ha:PA X [a] (tDA X.K fa))(hs:starEach [a] X.env=[(false,eval a X.env)]:=by rfl): PI X tg (.Call (.Name "range" p) [a] [] pos) (tDI X.K (iR1 fa)):=
 q6d (qfc hg hm ha hs) fun σ H R ⟨F0,H0,F, ρ,ds,r,hf,q⟩=>by
  obtain⟨es,h1,h2⟩:=gc.mp hf;refine⟨F0,H0,F, ρ,es,r,h1,fun vs F' H' g' r'=>?_⟩
  split at h2
  ·rename_i j
   split at h2
   ·rename_i z
    cases h2;obtain⟨x,t,rfl,h3,h4⟩:=r'.cons_inv;cases h4.nil_inv;obtain⟨z1,z2⟩:=q4k z;exact⟨j,by rw [rep_int.mp h3],z1,z2,q _ F' H' g' (qg2 0 _)⟩
   ·cases h2
  ·cases h2
def runFor(b:FB)(body:FS): List D->Rho->Option (Fl×Rho)
 | [], ρ =>some (.nx, ρ)
 | d :: ds, ρ =>(b d ρ).bind fun ρ1=>(body ρ1).bind fun r=>match r with
  | (.nx, ρ2)=>runFor b body ds ρ2
  | (.ct, ρ2)=>runFor b body ds ρ2
  | (.bk, ρ2)=>some (.nx, ρ2)
  | (.rt v, ρ2)=>some (.rt v, ρ2)
def k6(it:FA)(b:FB)(body:FS): FS:=fun ρ =>(it ρ).bind fun ds=>runFor b body ds ρ
theorem q2h{iter:Expr}{body:List Stmt}{it:FA}{b:FB}{u:FS}(hp:PassesOwn (model X.prog X.w) X.A X.env X.xe)(hc:X.calm=true)(hi:PI X tg iter (tDI X.K it))(hg:PG X tg (tDG X.K b))(hb:PSs X body (tDS X.K u))
  (hs:∀x,foldedSetIterable iter X.env x=pure x:=by intro _;rfl):PS X (.For tg iter body [] pos) (tDS X.K (k6 it b u)):=q1a (qfe hp hc hi hg hb hs) fun D σ H ⟨F0,H0,F, ρ,fl, ρ',r,hf,q⟩=>by
 obtain⟨ds,h1,h2⟩:=gc.mp hf;refine⟨F0,H0,F, ρ,ds,r,h1,fun J F1 H1 g1 itd=>?_⟩;refine⟨fun i m σ H=>m=ds.length-i/\i<=ds.length/\∃F' ρi,Same F1 F'/\RS X.K F0 H0 F' H σ ρi/\runFor b u (ds.drop i) ρi=some (fl, ρ'),⟨ds.length,by simp,uy _,F1, ρ,.refl _,r.grow g1,by simpa using h2⟩,?_⟩
 rintro i m σ H ⟨rfl,hi,F', ρi,s1,r1,h3⟩
 by_cases hlt:i<ds.length
 ·have hd:ds.drop i=ds[i] :: ds.drop (i+1):=pb hlt
  rw [hd] at h3;obtain⟨ρ1,h4,h5⟩:=gc.mp h3;obtain⟨⟨fl1, ρ2⟩,h6,h7⟩:=gc.mp h5;refine .inr ⟨itd.go i F' H s1 r1.fh hlt,fun σ' H'=>∃F',Same F1 F'/\RS X.K F0 H0 F' H' σ' ρ2/\runFor b u (ds.drop (i+1)) ρ2=some (fl, ρ'),fun σ' H' ⟨F',z1,z2,z3⟩=>⟨ds.length-(i+1),by omega,rfl,hlt,F', ρ2,z1,z2,z3⟩,fun x H' y=>?_⟩;obtain⟨F2,g2,r2⟩:=itd.yld i ds[i] F' H x H' s1 r1.fh (by simp [hlt]) y;refine⟨F0,H0,F2, ρi,ds[i], ρ1,r1.grow g2,r2,h4,fun σ' r3=>⟨F0,H0,F2, ρ1,fl1, ρ2,r3,h6,?_⟩⟩;cases fl1 with
  | nx=>exact fun σ2 F3 H3 s3 r4=>⟨F3,(s1.trans g2.ff).trans s3,r4,h7⟩
  | ct=>exact fun σ2 F3 H3 s3 r4=>⟨F3,(s1.trans g2.ff).trans s3,r4,h7⟩
  | bk=>cases h7;exact fun σ2 F3 H3 s3 r4=>q σ2 F3 H3 ((g1.ff.trans (s1.trans g2.ff)).trans s3) r4
  | rt d=>cases h7;exact q
 ·have e:i=ds.length:=by omega
  subst e;rw [g54] at h3;cases h3;exact .inl ⟨itd.stop _ F' H s1 r1.fh (gu _),q σ F' H (g1.ff.trans s1) r1⟩
end
def qnl:Option B->Option B
 | some (.fz d)=>some (.fz d)
 | _=>none
def wg(cap:List (Option Nat))(ρ : Rho): Rho:=cap.map fun o=>o.bind fun j=>qnl (ρ[j]?).join
structure Sub(ρ ρ':Rho): Prop where
 len : ρ.length = ρ'.length
 sub:∀(i:Nat) (b:B), ρ[i]? = some (some b) -> ρ'[i]? = some (some b)
theorem RS.weak{K:Frag}{F0 H0 F H:Hp}{σ : St}{ρ ρ':Rho}(r:RS K F0 H0 F H σ ρ')(s:Sub ρ ρ'): RS K F0 H0 F H σ ρ where
 t0:=r.t0
 g:=r.g
 len:=by rw [s.len];exact r.len
 fz:=fun i d e=>r.fz i d (s.sub i _ e)
 ow:=fun i ds e=>r.ow i ds (s.sub i _ e)
 dj:=fun i j ds es a h e1 e2=>r.dj i j ds es a h (s.sub i _ e1) (s.sub j _ e2)
 od:=fun i kvs e=>let⟨a,bs,e1,e2,e3⟩:=r.od i kvs (s.sub i _ e); ⟨a,bs,e1,e2,fun j es b h=>e3 j es b (s.sub j _ h)⟩
 o1:=fun i j k1 k2 e1 e2=>r.o1 i j k1 k2 (s.sub i _ e1) (s.sub j _ e2)
def xn(ρ : Rho): Prop:=∀(i:Nat) (b:B), ρ[i]? = some (some b)->∃d,b=.fz d
theorem vc{ρ : Rho}(no:xn ρ){i:Nat}{ds:List D}(h : ρ[i]? = some (some (.ow ds))): False:=let⟨_,e⟩:=no i _ h;nomatch e
theorem vd{ρ : Rho}(no:xn ρ){i:Nat}{ds}(h : ρ[i]? = some (some (.od ds))): False:=let⟨_,e⟩:=no i _ h;nomatch e
theorem yc(cap:List (Option Nat))(ρ : Rho): xn (wg cap ρ):=fun i ds h=>by
 unfold wg at h;rw [mn] at h;cases q:cap[i]? with
 | none=>rw [q] at h;cases h
 | some o=>
  rw [q] at h;cases o with
  | none=>cases h
  | some j=>
   simp only [nv,ma,g2z] at h;generalize (ρ[j]?).join=z at h;cases z with
   | none=>cases h
   | some b=>cases b with
    | fz d=>cases h;exact⟨d,rfl⟩
    | ow _=>cases h
    | od _=>cases h
theorem qnm{K:Frag}{F0 H0 F H:Hp}{σ : St}{ρ : Rho}(cap:List (Option Nat))(r:RS K F0 H0 F H σ ρ): RS K F H F H (q79 cap σ) (wg cap ρ) where
 t0:=⟨r.tab,r.tabF⟩
 g:=.refl r.fh
 len:=by unfold q79 wg;rw [mj,mj]
 fz := fun i d h=>by
  unfold wg at h;rw [mn] at h;cases q:cap[i]? with
  | none=>rw [q] at h;cases h
  | some o=>
   rw [q] at h;cases o with
   | none=>cases h
   | some j=>
    simp only [nv,ma,g2z] at h;have e : ρ[j]? = some (some (.fz d)):=by
     cases z : ρ[j]? with
     | none=>rw [z] at h;cases h
     | some b=>
      rw [z] at h;cases b with
      | none=>cases h
      | some b=>cases b with
       | fz d'=>cases h;rfl
       | ow _=>cases h
       | od _=>cases h
    obtain⟨v,e1,e2⟩:=r.fz j d e;refine⟨v,?_,e2⟩;unfold q79;rw [mn,q];simp only [nv,ma,e1,g3c]
 ow:=fun i ds h=>(vc (yc cap ρ) h).elim
 dj:=fun i j ds es a _ h=>(vc (yc cap ρ) h).elim
 od:=fun i ds h=>(vd (yc cap ρ) h).elim
 o1:=fun i j ds es h=>(vd (yc cap ρ) h).elim
theorem RS.other{K:Frag}{F0 H0 F H:Hp}{σ : St}{ρ : Rho}(r:RS K F0 H0 F H σ ρ)(no:xn ρ){p:Addr}{o:HO}(h1:F p=none)(h2:H0 p=none)(h3:H p=none\/∃xs,H p=some (.lst xs)): RS K F0 H0 F (upd H p o) σ ρ where
 t0:=r.t0
 g :=⟨r.g.ff,⟨fun b u e=>by rw [qi (fun z=>by subst z;rw [h2] at e;cases e)];exact r.g.hh.lst b u e,fun b u e=>by rw [qi (fun z=>by subst z;rw [h2] at e;cases e)];exact r.g.hh.ext b u e,fun {b} e=>by
   by_cases z:b=p
   ·subst z;exact h2
   ·rw [qi z] at e;exact r.g.hh.free e,fun t=>(r.g.hh.tb t).upd h3,fun b u e=>by rw [qi (fun z=>by subst z;rw [h2] at e;cases e)];exact r.g.hh.dk b u e⟩,fun b u e=>by rw [qi (fun z=>by subst z;rw [h1] at e;cases e)];exact r.g.fh b u e,r.g.nw⟩
 len:=r.len
 fz:=r.fz
 ow:=fun i ds h=>(vc no h).elim
 dj:=fun i j ds es a _ h=>(vc no h).elim
 od:=fun i ds h=>(vd no h).elim
 o1:=fun i j ds es h=>(vd no h).elim
theorem q1s{F H F' H':Hp}{p:Addr}(g:Grow F H F' H')(h1:F p=none){o:HO}(h2:H p=some o): F' p=none:=by
 cases q:F' p with
 | none=>rfl
 | some u=>
  rcases g.nw p (by rw [q];simp) with z|z
  ·exact absurd h1 z
  ·rw [h2] at z;cases z
def zf(b:FB)(c:FT)(f:FE)(ρ : Rho): List D->Option (List D)
 | []=>some []
 | d :: ds=>(b d ρ).bind fun ρ1=>(c ρ1).bind fun t=>if t then(f ρ1).bind fun y=>(zf b c f ρ ds).map fun ys=>y :: ys else zf b c f ρ ds
def zx:FT:=fun _=>some true
def qm(it:FA)(cap:List (Option Nat))(b:FB)(c:FT)(f:FE): FA:=fun ρ =>(it ρ).bind fun ds=>if ds.length<=lim then zf b c f (wg cap ρ) ds else none
def q99(b:FB)(cap:List (Option Nat)): Prop:=∀ ρ d ρ',b d (wg cap ρ)=some ρ'->Sub (wg cap ρ) ρ'/\xn ρ'
section
variable{X:Cx}
theorem qi9{ifs:List Expr}{t t':TT}(h:q0o X ifs t)(i:∀ σ H Q,t' σ H Q->t σ H Q): q0o X ifs t':=fun pins s σ H Q I q=>h pins s σ H Q I (i σ H Q q)
theorem vt:q0o X [] (tDT X.K zx):=qi9 qhx fun σ H Q ⟨F0,H0,F, ρ,b,r,hf,q⟩=>by cases hf;exact q F H (.refl r.fh)
theorem vh{c:Expr}{t:FT}(h:PT X c (tDT X.K t)): q0o X [c] (tDT X.K t):=qhy h
theorem qg3{K:Frag}{it:FA}{cap:List (Option Nat)}{b:FB}{c:FT}{f:FE}{σ : St}{H:Hp}{Q:VK}(fr:q99 b cap)(h:tL K (qm it cap b c f) σ H Q): qe5 (tDI K it) cap (tDG K b) (tDT K c) (tD K f) σ H Q:=by
 obtain⟨F0,H0,F, ρ,zs,r,hf,q⟩:=h;obtain⟨ds,h1,h2⟩:=gc.mp hf;have hlim:ds.length<=lim:=Decidable.byContradiction fun z=>by rw [mf z] at h2;cases h2
 rw [mi hlim] at h2;refine⟨F0,H0,F, ρ,ds,r,h1,fun J F1 H1 g1 itd p hp=>?_⟩;have rc:=qnm cap (r.grow g1);have hF1:F1 p=none:=g1.fh.free hp;refine⟨fun i m σ H=>m=ds.length-i/\i<=ds.length/\∃F' xs ys us,Same F1 F'/\RS K F1 H1 F' H σ (wg cap ρ)/\H p=some (.lst xs)/\F' p=none/\RepL K F' ys xs/\zf b c f (wg cap ρ) (ds.drop i)=some us/\ys++us=zs/\ys.length<=i,
  ⟨ds.length,by simp,uy _,F1,[],[],zs,.refl _,rc.other (yc cap ρ) hF1 hp (.inl hp),ql,hF1,.nil,by simpa using h2,rfl,gu _⟩,?_⟩
 rintro i m σ' H' ⟨rfl,hi,F',xs,ys,us,s1,r1,hl,hn,ry,h3,h4,hyi⟩
 by_cases hlt:i<ds.length
 ·have hd:ds.drop i=ds[i] :: ds.drop (i+1):=pb hlt
  rw [hd] at h3;obtain⟨ρ1,h5,h3⟩:=gc.mp h3;obtain⟨t,h6,h3⟩:=gc.mp h3;obtain⟨sb,no1⟩:=fr ρ _ _ h5;refine .inr ⟨itd.go i F' H' s1 r1.fh hlt,fun x H'' y=>?_⟩;obtain⟨F2,g2,r2⟩:=itd.yld i ds[i] F' H' x H'' s1 r1.fh (by simp [hlt]) y;refine⟨F1,H1,F2,wg cap ρ,ds[i], ρ1,r1.grow g2,r2,h5,fun σ2 r3=>⟨F1,H1,F2, ρ1,t,r3,h6,fun F3 H3 g3=>?_⟩⟩;have r4:=r3.grow g3;have hl2:=g2.hh.lst _ _ hl;have hn2:=q1s g2 hn hl;have hl3:=g3.hh.lst _ _ hl2;have hn3:=q1s g3 hn2 hl2;cases t with
  | false=>
   rw [mf mh] at h3;exact qpr ⟨ds.length-(i+1),by omega,rfl,hlt,F3,xs,ys,us,(s1.trans g2.ff).trans g3.ff,r4.weak sb,hl3,hn3,ry.mono (g2.ff.trans g3.ff),h3,h4,Nat.le_succ_of_le hyi⟩
  | true=>
   rw [mi rfl] at h3;obtain⟨yd,h7,h3⟩:=gc.mp h3;obtain⟨us',h8,h9⟩:=gz.mp h3;refine qps ⟨F1,H1,F3, ρ1,yd,r4,h7,fun v F4 H4 g4 r5=>?_⟩;have hl4:=g4.hh.lst _ _ hl3;have hn4:=q1s g4 hn3 hl3;have ss:Same F' F4:=(g2.ff.trans g3.ff).trans g4.ff;refine⟨xs,hl4,q85 (by have:=ry.length;omega),ds.length-(i+1),by omega,rfl,hlt,F4,xs++[v],ys++[yd],us',(s1.trans ss),?_,ql,hn4,(ry.mono ss).append (.cons r5 .nil),h8,?_,?_⟩
   ·exact((r4.grow g4).weak sb).other (yc cap ρ) hn4 hp (.inr ⟨_,hl4⟩)
   ·rw [mm,List.singleton_append,h9];exact h4
   ·rw [pz,g3f];omega
 ·have e:i=ds.length:=by omega
  subst e;rw [g54] at h3;cases h3;rw [g2c] at h4;subst h4;have gg:Grow F1 H1 F' H':=r1.g;exact .inl ⟨itd.stop _ F' H' s1 r1.fh (gu _),q p xs F' H' (g1.trans gg) hn (g1.hh.free hp) hl ry⟩
variable{N':List Str}{scope:Scope}{cap:List (Option Nat)}{tg iter elt:Expr}{ifs:List Expr}{it:FA}{b:FB}{c:FT}{f:FE}{pos:Pos}
end
theorem qia{cap:List (Option Nat)}{ρ : Rho}{i:Nat}(h:cap[i]? = some none): (wg cap ρ)[i]? = some none:=by
 unfold wg;rw [mn,h];rfl
theorem qks{ρ ρ':Rho}{i:Nat}{b:Option B}(s:Sub ρ ρ')(h : ρ[i]? = some none): Sub ρ (ρ'.set i b):=
 ⟨by rw [t8];exact s.len,fun j c e=>by
  by_cases q:j=i
  ·subst q;rw [h] at e;cases e
  ·rw [gh (mv q)];exact s.sub j c e⟩
theorem q87{ρ : Rho}{i:Nat}{d:D}(h:xn ρ): xn (ρ.set i (some (.fz d))):=fun j ds e=>by
 by_cases q:j=i
 ·subst q
  obtain⟨z,_⟩:=qo e;cases z;exact⟨d,rfl⟩
 ·rw [gh (mv q)] at e;exact h j ds e
theorem Sub.refl(ρ : Rho): Sub ρ ρ :=⟨rfl,fun _ _ h=>h⟩
theorem qt{cap:List (Option Nat)}{i:Nat}(h:cap[i]? = some none): q99 (bN i) cap:=fun ρ d ρ' e=>by
 cases e;exact⟨qks (.refl _) (qia h),q87 (yc cap ρ)⟩
section
variable{X:Cx}{e:Expr}{es:List Expr}{pos:Pos}{f g:FE}{fa:FA}
inductive Ty where
 | int|bool|tuple|list|str|dict
def Ty.name:Ty->String
 | .int=>"int" | .bool=>"bool" | .tuple=>"tuple" | .list=>"list" | .str=>"str" | .dict=>"dict"
def z0:Ty->D->Bool
 | .int,.int _=>true
 | .int,.bl _=>true
 | .bool,.bl _=>true
 | .tuple,.tup _=>true
 | .list,.lst _=>true
 | .str,.str _=>true
 | .dict,.dct _ _=>true
 | .dict,.dtt _ _=>true
 | _,_=>false
theorem qib{prog:Program}{w:World}{A:Around}{E:Value->Shared->Prop}{s:Shared}{Q:Value->Shared->Prop}{K:Frag}{T:String}{b:Bool}(hk:K.In s.heap)(h:∀tk,Q (.bool b) {s with toks:=tk})(hT:PySem.W.kitOne K (.type "NoneType") (.type T)=some b):
  wpAny (model prog w) A (call (.builtin "isinstance") [.none,.type T]) Q E s:=g5h PySem.W.kitx_none hk True.intro hT (fun z=>nomatch z) h
theorem qic(T:Ty): xm X (.builtin "isinstance") (fun xs H Q=>∃x F d,xs=[x,.ty T.name]/\Same F H/\Rep X.K F d x/\Q (.bl (z0 T d)) H):=by
 intro pins s σ H xs us Q I r h;obtain⟨x,F,d,rfl,fh,rd,q⟩:=h;obtain⟨u,w',rfl,rx,rt⟩:=r.two;obtain rfl:w'=Value.type T.name:=rt;have fin:∀ {b:Bool},Q (.bl b) H->EP X pins σ Q (.bool b) s:=fun q=>⟨.bl _,H,I,rfl,q⟩
 have fin1:∀ {b:Bool},Q (.bl b) H->EP X pins σ Q (.bool b) {s with toks:=s.toks+1}:=fun q=>⟨.bl _,H,I.tok _,rfl,q⟩
 cases d with
 | non=>
  cases rep_non.mp rd;cases rx;cases T <;> exact qib I.kIn (fun tk=>⟨.bl _,H,I.tok _,rfl,q⟩) (by rfl)
 | bl b=>
  cases rep_bl.mp rd;cases rx;cases T
  ·exact IsiPair.bool_int (fin q)
  ·exact IsiPair.bool_bool (fin q)
  ·exact IsiPair.bool_tuple (fin1 q)
  ·exact IsiPair.bool_list (fin1 q)
  ·exact IsiPair.bool_str (fin1 q)
  ·exact IsiPair.bool_dict (fin1 q)
 | int i=>
  cases rep_int.mp rd;obtain⟨t,rfl⟩:=rx;cases T
  ·exact IsiPair.int_int (fin q)
  ·exact IsiPair.int_bool (fin1 q)
  ·exact IsiPair.int_tuple (fin1 q)
  ·exact IsiPair.int_list (fin1 q)
  ·exact IsiPair.int_str (fin1 q)
  ·exact IsiPair.int_dict (fin1 q)
 | str z=>
  cases rep_str.mp rd;obtain⟨t,rfl⟩:=rx;cases T
  ·exact IsiPair.str_int (fin1 q)
  ·exact IsiPair.str_bool (fin1 q)
  ·exact IsiPair.str_tuple (fin1 q)
  ·exact IsiPair.str_list (fin1 q)
  ·exact IsiPair.str_str (fin q)
  ·exact IsiPair.str_dict (fin1 q)
 | tup ds=>
  obtain⟨a,ys,rfl,h1,h2⟩:=rep_tup.mp rd;cases rx;obtain⟨its,_,⟨o,ho,hc,_⟩,_⟩:=I.tuple (qh fh h1);cases T
  ·exact IsiPair.tuple_int ho hc (fin1 q)
  ·exact IsiPair.tuple_bool ho hc (fin1 q)
  ·exact IsiPair.tuple_tuple ho hc (fin q)
  ·exact IsiPair.tuple_list ho hc (fin1 q)
  ·exact IsiPair.tuple_str ho hc (fin1 q)
  ·exact IsiPair.tuple_dict ho hc (fin1 q)
 | lst ds=>
  obtain⟨a,ys,rfl,h1,h2⟩:=rep_lst.mp rd;cases rx;obtain⟨its,_,⟨o,n,ho,hc,_⟩,_⟩:=I.list (fh.seq h1);cases T
  ·exact IsiPair.list_int ho hc (fin1 q)
  ·exact IsiPair.list_bool ho hc (fin1 q)
  ·exact IsiPair.list_tuple ho hc (fin1 q)
  ·exact IsiPair.list_list ho hc (fin q)
  ·exact IsiPair.list_str ho hc (fin1 q)
  ·exact IsiPair.list_dict ho hc (fin1 q)
 | dct ks vs=>
  obtain⟨a,ys,rfl,h1,h2,h3⟩:=rep_dct.mp rd;cases rx;obtain⟨_,_,vs',_,o,es',ep,ho,hc,_⟩:=(show ObjOk X.prog X.w H s.heap a _ from I.hok a _ (fh _ _ h1))
  cases T
  ·exact IsiPair.dict_int ho hc.1 (fin1 q)
  ·exact IsiPair.dict_bool ho hc.1 (fin1 q)
  ·exact IsiPair.dict_tuple ho hc.1 (fin1 q)
  ·exact IsiPair.dict_list ho hc.1 (fin1 q)
  ·exact IsiPair.dict_str ho hc.1 (fin1 q)
  ·exact IsiPair.dict_dict ho hc.1 (fin q)
 | dtt ks vs=>
  obtain⟨a,xs',ys,ep,rfl,h1,_⟩:=rep_dtt.mp rd;cases rx;obtain⟨⟨o,es',ho,hc,_⟩,_,_⟩:=(show ObjOk X.prog X.w H s.heap a _ from I.hok a _ (fh _ _ h1))
  cases T
  ·exact IsiPair.dict_int ho hc.1 (fin1 q)
  ·exact IsiPair.dict_bool ho hc.1 (fin1 q)
  ·exact IsiPair.dict_tuple ho hc.1 (fin1 q)
  ·exact IsiPair.dict_list ho hc.1 (fin1 q)
  ·exact IsiPair.dict_str ho hc.1 (fin1 q)
  ·exact IsiPair.dict_dict ho hc.1 (fin q)
 | obj x=>
  obtain⟨a,dx,C,rfl,h1,_,c1,c2,c3,c4,c5,c6,c7⟩:=rep_obj.mp rd;cases rx;obtain⟨mA,O,_⟩:=qkg I.hok (fh _ _ h1);obtain⟨od,J,_⟩:=O.look;cases T <;> exact g5h (PySem.W.kitx_own c1 c2 c3 c4 c5 c6) I.kIn J (c7 _ (by decide)) (fun z=>nomatch z) (fun tk=>⟨.bl _,H,I.tok _,rfl,q⟩)
 | exc x=>
  obtain⟨a,C,rfl,h1,_,c1,c2⟩:=rep_exc.mp rd;cases rx;obtain⟨J,_,_⟩:=(show ObjOk X.prog X.w H s.heap a _ from I.hok a _ (fh _ _ h1))
  cases T <;> exact g5h (qi4 c1) I.kIn J (c2 _ (by decide)) (fun z=>nomatch z) (fun tk=>⟨.bl _,H,I.tok _,rfl,q⟩)
def q7c(T:Ty)(f:FE): FE:=fun ρ =>(f ρ).map fun d=>.bl (z0 T d)
theorem qid:bootBuiltins "isinstance" = some (.builtin "isinstance"):=by decide +kernel
theorem q6e{x:Str}{p px:Pos}(T:Ty)(hg:Gl X "isinstance")(hm:X.mg "isinstance" = none)(hgT:Gl X x)(hmT:X.mg x=none)(hvT:bootBuiltins x=some (.type T.name))(ha:PE X e (tD X.K f))
  (hnT:x≠"__name__" :=by decide) (hdT:(x==("__debug__" : Str))=false:=by decide) (he2:starEach [e,.Name x px] X.env=(false,eval e X.env) :: starEach [.Name x px] X.env:=by rfl) :
  PE X (.Call (.Name "isinstance" p) [e,.Name x px] [] pos) (tD X.K (q7c T f)):=
 zt (q2r (qic T) hg hm qid (q01 ha (q01 (qk8 (v:=.ty T.name) hgT hmT hvT rfl hnT hdT) q2c) he2) (by decide) (by decide) he2 rfl) fun σ H Q ⟨F0,H0,F, ρ,d,r,hf,q⟩=>by
  obtain⟨d',h1,h2⟩:=gz.mp hf;subst h2;exact⟨F0,H0,F, ρ,d',r,h1,fun v F' H' g' r'=>⟨v,F',d',rfl,g'.fh,r',q _ F' H' g' (rep_bl.mpr rfl)⟩⟩
def xo:List D->Option (List Int)
 | []=>some []
 | .int i :: r=>(xo r).map fun is=>i :: is
 | _ :: _=>none
def q2i:List D->Option (List Bool)
 | []=>some []
 | .bl i :: r=>(q2i r).map fun is=>i :: is
 | _ :: _=>none
theorem q2t:∀ {ds:List D} {ns:List Int},xo ds=some ns->ds=ns.map D.int
 | [],ns,h=>by cases h;rfl
 | d :: r,ns,h=>by
  cases d <;> simp only [xo] at h <;> first|(cases h;done)|skip
  obtain⟨is,h1,h2⟩:=gz.mp h;subst h2;rw [q2t h1];rfl
omit [Lam] in
theorem vn:∀(ns:List Int),xo (ns.map D.int)=some ns
 | []=>rfl
 | n :: r=>by simp only [gv,xo,vn r,nv]
theorem q50:∀ {ds:List D} {bs:List Bool},q2i ds=some bs->ds=bs.map D.bl
 | [],ns,h=>by cases h;rfl
 | d :: r,ns,h=>by
  cases d <;> simp only [q2i] at h <;> first|(cases h;done)|skip
  obtain⟨is,h1,h2⟩:=gz.mp h;subst h2;rw [q50 h1];rfl
omit [Lam] in
theorem q6f:∀(ns:List Bool),q2i (ns.map D.bl)=some ns
 | []=>rfl
 | n :: r=>by simp only [gv,q2i,q6f r,nv]
theorem RepL.bools{K:Frag}{H:Hp}: ∀ {bs:List Bool} {xs:List V},RepL K H (bs.map D.bl) xs->xs=bs.map V.bl
 | [],xs,h=>h.nil_inv
 | b :: bs,xs,h=>by
  obtain⟨x,r,rfl,h1,h2⟩:=h.cons_inv;rw [rep_bl.mp h1,RepL.bools h2];rfl
def o1L(z:List D->Option D): List D->Option D
 | [.lst ds]=>z ds
 | _=>none
theorem q9w{z:List D->Option D}{es:List D}{d:D}(h:o1L z es=some d): ∃ds,es=[.lst ds]/\z ds=some d:=by
 unfold o1L at h
 split at h
 ·exact⟨_,rfl,h⟩
 ·cases h
theorem rep1{K:Frag}{F:Hp}{d:D}{xs:List V}(h:RepL K F [d] xs): ∃x,xs=[x]/\Rep K F d x:=by
 obtain⟨x,r,rfl,h1,h2⟩:=h.cons_inv;cases h2.nil_inv;exact⟨x,rfl,h1⟩
abbrev qea:List D->Option D:=o1L fun ds=>(xo ds).map fun ns=>.int ns.sum
abbrev q5f:List D->Option D:=o1L fun ds=>(q2i ds).map fun bs=>.bl (bs.any id)
theorem qnn(hc:X.calm=true): xm X (.builtin "sum") (rC X.K qea):=by
 intro pins s σ H xs us Q I r h;obtain⟨F,ds,d,fh,rl,ho,q⟩:=h;obtain⟨es,rfl,h1⟩:=q9w ho;obtain⟨ns,h2,h3⟩:=gz.mp h1;subst h3;cases q2t h2;obtain⟨x,rfl,rx⟩:=rep1 rl;obtain⟨u,rfl,ru⟩:=r.one;obtain⟨a,ys,rfl,k1,k2⟩:=rep_lst.mp rx;cases ru;cases RepL.ints.mp k2;obtain⟨its,rv,pl,_⟩:=I.list (fh.seq k1);have hi:=intsAre_of rv;obtain⟨zs,hz⟩:=hi.allInts.items;have hl:s.heap.IsList a (intItems zs):=hz ▸ pl.isList;refine sum_intListG (I.ok.hd hc) hl fun h' tk t' hk=>?_;have e1:ns=zs.toList.map (·.1):=by
  rw [<- nums_intItems, <- hz];exact(show numsOf its.toArray.toList=ns from hi.numsOf).symm
 have e2:preSum (numAt zs) zs.size=ns.sum:=by
  rw [preSum_eq,pd (by simp),e1]
 rw [e2];exact⟨.int ns.sum,H,I.kept hk,⟨_,rfl⟩,q _ F H (.refl fh) (rep_int.mpr rfl)⟩
theorem q6g:∀ {bs:List Bool} {us:List Value},Vals (bs.map V.bl) us->us=bs.map Value.bool
 | [],us,h=>by cases h;rfl
 | b :: bs,us,h=>by
  rw [gv] at h;cases h with
  | cons r t=>
   cases(show _=Value.bool b from r);rw [q6g t];rfl
theorem q6h(hc:X.calm=true): xm X (.builtin "any") (rC X.K q5f):=by
 intro pins s σ H xs us Q I r h;obtain⟨F,ds,d,fh,rl,ho,q⟩:=h;obtain⟨es,rfl,h1⟩:=q9w ho;obtain⟨bs,h2,h3⟩:=gz.mp h1;subst h3;cases q50 h2;obtain⟨x,rfl,rx⟩:=rep1 rl;obtain⟨u,rfl,ru⟩:=r.one;obtain⟨a,ys,rfl,k1,k2⟩:=rep_lst.mp rx;cases ru;cases k2.bools;obtain⟨its,rv,pl,_⟩:=I.list (fh.seq k1);cases q6g rv;have hlt:a<s.heap.objs.size:=by obtain⟨_,e,_⟩:=pl.isList;exact gw e
 refine call_any_walk (g30 pl.isList ?_);refine⟨s.heap.objs.size,[s.heap.objs.size,a],[s.heap.objs.size],(bs.map Value.bool).toArray.size,_,_,fun i=>(bs[i]?).getD false,rfl,Walks.list (A:=X.A.in1) (I.ok.hd hc) _ a (m9 hlt) (bs.map Value.bool).toArray,
  ⟨⟨_,gr _ rfl,rfl,rfl⟩,pl.isList.push _⟩,fun i v s' Q' E' hP hQ=>?_,fun h' tk hk=>?_⟩
 ·have hP':(bs.map Value.bool)[i]? = some v:=by simpa using hP
  rw [mn] at hP';cases z:bs[i]? with
  | none=>rw [z] at hP';cases hP'
  | some b=>
   rw [z] at hP';cases hP';simp only [z,Option.getD_some] at hQ;exact g1t hQ
 ·have e:((List.range (bs.map Value.bool).toArray.size).any fun i=>(bs[i]?).getD false)=bs.any id:=by
   rw [gj,mj];exact LSm.range_any bs
  rw [e];exact⟨.bl _,H,I.kept (LSm.kept_iter hk),rfl,q _ F H (.refl fh) (rep_bl.mpr rfl)⟩
theorem boot_sum:bootBuiltins "sum" = some (.builtin "sum"):=by decide +kernel
theorem boot_any:bootBuiltins "any" = some (.builtin "any"):=by decide +kernel
theorem j4:bootBuiltins "len" = some (.builtin "len"):=by decide +kernel
theorem boot_tuple:bootBuiltins "tuple" = some (.type "tuple"):=by decide +kernel
theorem boot_int:bootBuiltins "int" = some (.type "int"):=by decide +kernel
theorem boot_bool:bootBuiltins "bool" = some (.type "bool"):=by decide +kernel
theorem boot_dict:bootBuiltins "dict" = some (.type "dict"):=by decide +kernel
def jz:List D->Option D
 | [.tup ds]=>some (.int ds.length)
 | [.lst ds]=>some (.int ds.length)
 | [.str x]=>if x.length<=lim then some (.int x.length) else none
 | _=>none
theorem vi:xm X (.builtin "len") (rC X.K jz):=q86 qhu fun xs H Q ⟨F,ds,d,fh,rl,ho,q⟩=>by
 unfold jz at ho
 split at ho
 ·cases ho
  obtain⟨x,rfl,rx⟩:=rep1 rl;obtain⟨a,ys,rfl,k1,k2⟩:=rep_tup.mp rx;exact⟨_,ys.length,rfl,.inr ⟨ys,qh fh k1,rfl⟩,by rw [<- k2.length];exact q _ F H (.refl fh) (rep_int.mpr rfl)⟩
 ·cases ho
  obtain⟨x,rfl,rx⟩:=rep1 rl;obtain⟨a,ys,rfl,k1,k2⟩:=rep_lst.mp rx;exact⟨_,ys.length,rfl,.inl ⟨ys,fh.seq k1,rfl⟩,by rw [<- k2.length];exact q _ F H (.refl fh) (rep_int.mpr rfl)⟩
 ·split at ho
  ·rename_i z
   cases ho;obtain⟨x,rfl,rx⟩:=rep1 rl;cases rep_str.mp rx;exact⟨_,_,rfl,⟨ja z,rfl⟩,q _ F H (.refl fh) (rep_int.mpr rfl)⟩
  ·cases ho
 ·cases ho
def zv:List D->Option D
 | [.tup ds]=>some (.tup ds)
 | [.lst ds]=>some (.tup ds)
 | _=>none
theorem jh:xm X (.type "tuple") (rC X.K zv):=q86 q90 fun xs H Q ⟨F,ds,d,fh,rl,ho,q⟩=>by
 unfold zv at ho
 split at ho
 ·cases ho
  obtain⟨x,rfl,rx⟩:=rep1 rl;obtain⟨a,ys,rfl,k1,k2⟩:=rep_tup.mp rx;exact⟨a,ys,rfl,.inr ⟨qh fh k1,q _ F H (.refl fh) rx⟩⟩
 ·cases ho
  obtain⟨x,rfl,rx⟩:=rep1 rl;obtain⟨a,ys,rfl,k1,k2⟩:=rep_lst.mp rx;refine⟨a,ys,rfl,.inl ⟨fh.seq k1,fun l hl=>?_⟩⟩;have gn:Grow F H (upd F l (.tup ys)) (upd H l (.tup ys)):=Grow.new fh hl;exact q _ _ _ gn (rep_tup.mpr ⟨l,ys,rfl,SqT.of ql,k2.mono gn.ff⟩)
 ·cases ho
def rCL(K:Frag)(op:List D->Option (List D)): List V->Hp->VK->Prop:=fun xs H Q=>∃F ds es,Same F H/\RepL K F ds xs/\op ds=some es/\∀a ys F' H',Grow F H F' H'->F' a=none->H a=none->H' a=some (.lst ys)->RepL K F' es ys->Q (.ref a) H'
def q09(op:List D->Option (List D))(fa:FA): FA:=fun ρ =>(fa ρ).bind op
theorem qkt{K:Frag}{op:List D->Option (List D)}{σ : St}{H:Hp}{Q:VK}(h:tL K (q09 op fa) σ H Q): tDA K fa σ H fun vs H1=>rCL K op vs H1 Q:=by
 obtain⟨F0,H0,F, ρ,d,r,hf,q⟩:=h;obtain⟨ds,h1,h2⟩:=gc.mp hf;exact⟨F0,H0,F, ρ,ds,r,h1,fun vs F1 H1 g1 r1=>⟨F1,ds,d,g1.fh,r1,h2,fun a ys F2 H2 g2 k1 k2 k3 k4=>q a ys F2 H2 (g1.trans g2) k1 (g1.hh.free k2) k3 k4⟩⟩
theorem qie{x:Str}{p:Pos}{id:String}{op:List D->Option (List D)}(hc:xm X (.builtin id) (rCL X.K op))(hg:Gl X x)(hm:X.mg x=none)(hv:bootBuiltins x=some (.builtin id))(ha:PA X (e :: es) (tDA X.K fa))
  (hn:x≠"__name__" :=by decide) (hdb:(x==("__debug__" : Str))=false:=by decide)
  (he:starEach (e :: es) X.env=(false,eval e X.env) :: starEach es X.env:=by rfl) (hpl:(backTo pos (starEach es X.env)).any (·.1)=false:=by rfl):PE X (.Call (.Name x p) (e :: es) [] pos) (tL X.K (q09 op fa)):=
 zt (q2r hc hg hm hv ha hn hdb he hpl) fun σ H Q h=>qkt h
def qjy:List D->Option (List D)
 | [.tup ds]=>some ds
 | [.lst ds]=>some ds
 | _=>none
theorem qd6{K:Frag}{H:Hp}{ds:List D}{xs:List V}{i:Int}{d:D}(h:RepL K H ds xs)(e:atI ds i=some d): ∃x,atI xs i=some x/\Rep K H d x:=by
 unfold atI at e ⊢;rw [<- h.length];cases q:ixN ds.length i with
 | none=>rw [q] at e;cases e
 | some j=>
  rw [q] at e;exact h.get e
def oIx:D->D->Option D
 | .tup ds,.int i=>atI ds i
 | .lst ds,.int i=>atI ds i
 | _,_=>none
theorem q1t{a b:Expr}(ha:PE X a (tD X.K f))(hb:PE X b (tD X.K g))(hs:q78 b:=by intro _ _;rfl): PE X (.Subscript a b pos) (tD X.K (eOp oIx f g)):=zt (qjv qn4 ha hb hs) fun σ H Q h=>by
 have h':=two h;obtain⟨F0,H0,F, ρ,d,r,hf,q⟩:=h';refine⟨F0,H0,F, ρ,d,r,hf,fun v F1 H1 g1 r1=>?_⟩;obtain⟨F0',H0',F', ρ',d',r',hf',q'⟩:=q v F1 H1 g1 r1;refine⟨F0',H0',F', ρ',d',r',hf',fun v2 F2 H2 g2 r2=>?_⟩;obtain⟨F3,d1,d2,d3,fh,k1,k2,k3,k4⟩:=q' v2 F2 H2 g2 r2;unfold oIx at k3
 split at k3
 ·obtain⟨p,ys,rfl,z1,z2⟩:=rep_tup.mp k1
  obtain⟨y,z3,z4⟩:=qd6 z2 k3;exact .inr (.inl ⟨p,ys,_,y,rfl,rep_int.mp k2,qh fh z1,z3,k4 y F3 H2 (.refl fh) z4⟩)
 ·obtain⟨p,ys,rfl,z1,z2⟩:=rep_lst.mp k1
  obtain⟨y,z3,z4⟩:=qd6 z2 k3;exact .inl ⟨p,ys,_,y,rfl,rep_int.mp k2,fh.seq z1,z3,k4 y F3 H2 (.refl fh) z4⟩
 ·cases k3
def oBits:D->Option D
 | .int i=>some (.int (Builtin.Int.intBits i))
 | _=>none
def eUn(o:D->Option D)(f:FE): FE:=fun ρ =>(f ρ).bind o
theorem qku:MtR X "int.bit_length" (fun x xs H Q=>∃i,x=.int i/\xs=[]/\Q (.int (Builtin.Int.intBits i)) H):=by
 intro pins s σ H x xs v us Q I rx rv h;obtain⟨i,rfl,rfl,q⟩:=h;obtain⟨t,rfl⟩:=rx;cases rv;exact call_int_bit_length ⟨.int _,H,I.tok _,⟨_,rfl⟩,q⟩
theorem qkv{o:Expr}{apos cpos:Pos}(ho:PE X o (tD X.K f))(hbase:attributeBase o "bit_length" X.env (eval o X.env)=eval o X.env:=by rfl)(hline:(apos.endLine==cpos.line)=true:=by rfl):
  PE X (.Call (.Attribute o "bit_length" apos) [] [] cpos) (tD X.K (eUn oBits f)):=zt (qn5 PySem.F.plainAttrs_int PySem.F.slot_int_bit_length PySem.F.type_int_bit_length qku ho hbase hline) fun σ H Q ⟨F0,H0,F, ρ,d,r,hf,q⟩=>by
 obtain⟨d',h1,h2⟩:=gc.mp hf;refine⟨F0,H0,F, ρ,d',r,h1,fun v F1 H1 g1 r1=>?_⟩;cases d' <;> simp only [oBits] at h2 <;> first|(cases h2;done)|skip
 cases h2;cases rep_int.mp r1;exact⟨rfl,_,rfl,rfl,q _ F1 H1 g1 (rep_int.mpr rfl)⟩
end
section
variable{prog:Program}{w:World}{A:Around}{E:Value->Shared->Prop}{s:Shared}
theorem q91{t sl:Addr}{items:Array Value}{vl vu:Value}{lo hi:Option Int}{Q:Value->Shared->Prop}(ht:IsTup s.heap t items)(hs:s.heap.IsSliceOf sl vl vu .none)
  (pl:IsPart vl lo) (pu:IsPart vu hi) (w1:HT.sIx items.size 0 lo=0) (w2:HT.sIx items.size items.size hi=items.size) (h:Q (.ref t) s) :
  wpAny (model prog w) A (getItem (.ref t) (.ref sl)) Q E s:=by
 obtain⟨os,hos,hcs,hds⟩:=id hs;have hTs:s.TypeIs (.ref sl) "slice" :=⟨os,hos,hcs⟩
 unfold getItem
 try with_reducible refine nz ?_
 first|refine g0 (g9 ?_)|skip
 refine g0 (wpAny_sequenceKey ht.typeIs (by decide) (g0 (t6 (name:=Str.ofString "__getitem__") ht.typeIs uq
  (p5 uq ht.typeIs entry_tuple_getitem ?_ (args_tuple_getitem _ _)))))
 show wpAny _ _ (Builtin.Tuple.tupleItemsOf (.ref t) >>= _) _ _ s;refine g0 (tupleItemsOf_ ht (g0 (g1c hTs ?_)));rw [mi (by decide)];refine g0 (HT.sliceApplied_gen hs pl pu ?_);rw [w1,w2];show wpAny _ _ (if(((0:Nat):Int)==0&&(1:Int)==1&&(items.size-0)==items.size)=true then _ else _) _ _ s;rw [mi (by simp)];refine g0 ?_;unfold Builtin.Tuple.tupleIsExact;refine g0 (g1c ht.typeIs (g9 ?_))
 first
  | rw [mi (by decide)]
  | skip
 first
  | exact g0 (g00 (g0 (g9 (g9 ⟨_,rfl,g9 h⟩))))
  | exact g0 (g00 (g9 ⟨_,rfl,g9 h⟩))
  | exact g0 (g0 (g00 (g9 (g9 ⟨_,rfl,g9 h⟩))))
end
section
variable{X:Cx}{e:Expr}{es:List Expr}{pos:Pos}{f g:FE}{fa:FA}
def qpu(K:Frag): V->Option Int->Option Int->Hp->VK->Prop:=fun x lo hi H Q=>∃a xs,x=.ref a/\SqT K H a xs/\HT.sIx xs.length 0 lo=0/\HT.sIx xs.length xs.length hi=xs.length/\Q (.ref a) H
theorem qif:SlR X (qpu X.K):=by
 intro pins s σ H x v vl vu lo hi sl Q I rx hs pl pu h;obtain⟨a,xs,rfl,hx,w1,w2,q⟩:=h;cases rx;obtain⟨its,r,ht,hz⟩:=I.tuple hx;have hlen:its.toArray.size=xs.length:=by rw [gj];exact r.length.symm
 exact⟨"tuple",_,uq.lookup,ht.typeIs,q91 ht hs pl pu (by rw [hlen];exact w1) (by rw [hlen];exact w2) ⟨.ref a,H,I,rfl,q⟩⟩
def cutD(ds:List D)(lo hi:Option Int): List D:=(ds.drop (HT.sIx ds.length 0 lo)).take (HT.sIx ds.length ds.length hi-HT.sIx ds.length 0 lo)
def oSl:D->Option Int->Option Int->Option D
 | .tup ds,lo,hi=>some (.tup (cutD ds lo hi))
 | .lst ds,lo,hi=>some (.lst (cutD ds lo hi))
 | _,_,_=>none
abbrev FO:=Rho->Option (Option Int)
def oNo:FO:=fun _=>some none
def oAt(f:FE): FO:=fun ρ =>(f ρ).bind fun d=>match d with
 | .int i=>some (some i)
 | _=>none
def tDO(K:Frag)(f:FO): TO:=fun σ H Q=>∃F0 H0 F ρ i,RS K F0 H0 F H σ ρ /\ f ρ = some i/\∀F' H',Grow F H F' H'->Q i H'
theorem qg4{o:Option Expr}{t t':TO}(h:PO X o t)(i:∀ σ H Q,t' σ H Q->t σ H Q): PO X o t':=fun pins s σ H Q I q=>h pins s σ H Q I (i σ H Q q)
theorem q5g:PO X none (tDO X.K oNo):=qg4 qki fun σ H Q ⟨F0,H0,F, ρ,i,r,hf,q⟩=>by cases hf;exact q F H (.refl r.fh)
theorem q1f(h:PE X e (tD X.K f)): PO X (some e) (tDO X.K (oAt f)):=qg4 (qkj h) fun σ H Q ⟨F0,H0,F, ρ,i,r,hf,q⟩=>by
 obtain⟨d,h1,h2⟩:=gc.mp hf;cases d <;> simp only at h2 <;> first|(cases h2;done)|skip
 cases h2;exact⟨F0,H0,F, ρ,_,r,h1,fun v F' H' g' r'=>⟨_,rep_int.mp r',q F' H' g'⟩⟩
def eSl(f:FE)(lo hi:FO): FE:=fun ρ =>(f ρ).bind fun d=>(lo ρ).bind fun l=>(hi ρ).bind fun h=>oSl d l h
theorem q2u{a:Expr}{lo hi:Option Expr}{fl fh:FO}{p2:Pos}(ha:PE X a (tD X.K f))(hl:PO X lo (tDO X.K fl))(hh:PO X hi (tDO X.K fh)): PE X (.Subscript a (.Slice lo hi none p2) pos) (tD X.K (eSl f fl fh)):=
 zt (qhw (sl_list.or (sl_tup.or qif)) ha hl hh) fun σ H Q ⟨F0,H0,F, ρ,d,r,hf,q⟩=>by
  obtain⟨x,h1,hf⟩:=gc.mp hf;obtain⟨l,h2,hf⟩:=gc.mp hf;obtain⟨u,h3,h4⟩:=gc.mp hf;refine⟨F0,H0,F, ρ,x,r,h1,fun v F1 H1 g1 r1=>⟨F0,H0,F1, ρ,l,r.grow g1,h2,fun F2 H2 g2=>⟨F0,H0,F2, ρ,u,(r.grow g1).grow g2,h3,fun F3 H3 g3=>?_⟩⟩⟩;have gg:=g1.trans (g2.trans g3);have r3:Rep X.K F3 x v:=r1.mono (g2.ff.trans g3.ff);cases x with
  | tup ds=>
   cases h4;obtain⟨p,xs,rfl,k1,k2⟩:=rep_tup.mp r3;have hlen:=k2.length
   by_cases wh:HT.sIx xs.length 0 l=0/\HT.sIx xs.length xs.length u=xs.length
   ·refine .inr (.inr ⟨p,xs,rfl,qh g3.fh k1,wh.1,wh.2,q _ F3 H3 gg ?_⟩)
    have e:cutD ds l u=ds:=by
     unfold cutD;rw [hlen,wh.1,wh.2,g3y,Nat.sub_zero, <- hlen,g55]
    rw [e];exact r3
   ·refine .inr (.inl ⟨p,xs,rfl,qh g3.fh k1,wh,fun p' hp=>?_⟩)
    have gn:Grow F3 H3 (upd F3 p' (.tup (q0n xs l u))) (upd H3 p' (.tup (q0n xs l u))):=Grow.new g3.fh hp;refine q _ _ _ (gg.trans gn) (rep_tup.mpr ⟨p',_,rfl,SqT.of ql,?_⟩);unfold cutD q0n;rw [hlen];exact((k2.mono gn.ff).drop _).take _
  | lst ds=>
   cases h4;obtain⟨p,xs,rfl,k1,k2⟩:=rep_lst.mp r3;have hlen:=k2.length;refine .inl ⟨p,xs,rfl,g3.fh.seq k1,fun p' hp=>?_⟩;have gn:Grow F3 H3 (upd F3 p' (.lst (q0n xs l u))) (upd H3 p' (.lst (q0n xs l u))):=Grow.new g3.fh hp;refine q _ _ _ (gg.trans gn) (rep_lst.mpr ⟨p',_,rfl,SqL.of ql,?_⟩);unfold cutD q0n;rw [hlen];exact((k2.mono gn.ff).drop _).take _
  | _=>cases h4
def q5h:D->D->Option D
 | .tup xs,.tup ys=>if xs.length+ys.length<=lim then some (.tup (xs++ys)) else none
 | .lst xs,.lst ys=>if xs.length+ys.length<=lim then some (.lst (xs++ys)) else none
 | _,_=>none
theorem qno:OpR X (binaryOp .Add) (rD X.K q5h):=by
 intro pins s σ H x y v u Q I rx ry h;obtain⟨F,d1,d2,d,fh,r1,r2,ho,q⟩:=h;unfold q5h at ho
 split at ho
 ·rename_i ds es
  split at ho
  ·rename_i hl
   cases ho;obtain⟨a,xs,rfl,k1,k2⟩:=rep_tup.mp r1;obtain⟨b,ys,rfl,k3,k4⟩:=rep_tup.mp r2
   by_cases hd:ds=[]
   ·subst hd
    cases k2.nil_inv;cases rx;cases ry;obtain⟨i1,v1,⟨⟨c1,dd1,dt1,sl1⟩,o1,e1,n1,t1⟩,_⟩:=I.tuple (qh fh k1);obtain⟨i2,v2,⟨⟨c2,dd2,dt2,sl2⟩,o2,e2,n2,t2⟩,_⟩:=I.tuple (qh fh k3);simp only at e1 t1 e2 t2;subst e1 t1 e2 t2;cases v1;exact g52 ⟨_,o1,rfl⟩ ⟨_,o2,rfl⟩ g53 seq_tuple_add g36 g2v (g2i _ _)
     (tuple_addW0 a b #[] i2.toArray n1 n2 dd1 dd2 sl1 sl2 rfl) ⟨o1,o2,⟨.ref b,H,I,rfl,q _ F H (.refl fh) (by simpa using r2)⟩⟩
   ·refine qkk pins s σ H _ _ v u Q I rx ry ⟨a,b,xs,ys,rfl,rfl,qh fh k1,qh fh k3,fun z=>hd ?_,ja (by rw [<- k2.length, <- k4.length];exact hl),fun z=>?_,fun z p hp=>?_⟩
    ·have:=k2.length;rw [z] at this;exact g3v this
    ·have e:es=[]:=by have:=k4.length;rw [z] at this;exact g3v this
     subst e;rw [g2c] at q;exact q _ F H (.refl fh) r1
    ·have gn:Grow F H (upd F p (.tup (xs++ys))) (upd H p (.tup (xs++ys))):=Grow.new fh hp
     exact q _ _ _ gn (rep_tup.mpr ⟨p,_,rfl,SqT.of ql,(k2.mono gn.ff).append (k4.mono gn.ff)⟩)
  ·cases ho
 ·rename_i ds es
  split at ho
  ·rename_i hl
   cases ho;obtain⟨a,xs,rfl,k1,k2⟩:=rep_lst.mp r1;obtain⟨b,ys,rfl,k3,k4⟩:=rep_lst.mp r2;cases rx;cases ry;obtain⟨i1,v1,⟨⟨c1,dd1,dt1,sl1⟩,n1,o1,e1,g1,t1⟩,_⟩:=I.list (fh.seq k1);obtain⟨i2,v2,⟨⟨c2,dd2,dt2,sl2⟩,n2,o2,e2,g2,t2⟩,_⟩:=I.list (fh.seq k3);simp only at e1 t1 e2 t2;subst e1 t1 e2 t2;have hz:xs.length+ys.length<=sizeLine:=ja (by rw [<- k2.length, <- k4.length];exact hl);refine g52 ⟨_,o1,rfl⟩ ⟨_,o2,rfl⟩ noFill_list_add seq_list_add PySem.F.slot_list_add PySem.F.entry_list_add (PySem.F.args_list_add_2 _ _)
    (list_addW a b i1.toArray i2.toArray n1 n2 dd1 dd2 sl1 sl2 (by rw [gj,gj, <- v1.length, <- v2.length];exact hz)) ⟨o1,o2,?_⟩
   have ea:i1.toArray++i2.toArray=(i1++i2).toArray:=by simp
   rw [ea];have gn:Grow F H (upd F s.heap.objs.size (.lst (xs++ys))) (upd H s.heap.objs.size (.lst (xs++ys))):=Grow.new fh I.fresh;exact⟨.ref _,_,I.lnew (t':=s.toks) (v1.append v2) (by rw [pz];exact hz),rfl,q _ _ _ gn (rep_lst.mpr ⟨_,_,rfl,SqL.of ql,(k2.mono gn.ff).append (k4.mono gn.ff)⟩)⟩
  ·cases ho
 ·cases ho
abbrev jf:D->D->Option D:=fun x y=>(oAdd x y).or (q5h x y)
theorem yr:OpR X (binaryOp .Add) (rD X.K jf):=q9p qnc qno
def flat(d:D): Bool:=(flD d).isSome
def eqF:D->D->Bool
 | .non,.non=>true
 | .bl a,.bl b=>a==b
 | .bl a,.int b=>(if a then 1 else 0)==b
 | .int a,.bl b=>a==(if b then 1 else 0)
 | .int a,.int b=>a==b
 | .str a,.str b=>a==b
 | _,_=>false
def inF(d:D)(ds:List D): Bool:=ds.any fun e=>eqF e d
theorem q9a{K:Frag}{H:Hp}{d e:D}{x y:V}(h1:flat d=true)(h2:flat e=true)(r1:Rep K H d x)(r2:Rep K H e y): eqV x y=eqF d e/\kg x=true/\kg y=true:=by
 cases d <;> first|(cases h1;done)|skip
 all_goals (cases e <;> first|(cases h2;done)|skip)
 all_goals (first|(cases rep_non.mp r1)|(cases rep_bl.mp r1)|(cases rep_int.mp r1)|(cases rep_str.mp r1))
 all_goals (first|(cases rep_non.mp r2)|(cases rep_bl.mp r2)|(cases rep_int.mp r2)|(cases rep_str.mp r2))
 all_goals exact⟨rfl,rfl,rfl⟩
theorem qeb{K:Frag}{H:Hp}{d:D}{x:V}(h1:flat d=true)(r1:Rep K H d x): ∀ {ds:List D} {xs:List V},ds.all flat=true->RepL K H ds xs->inV x xs=inF d ds/\kg x=true/\xs.all kg=true
 | [],xs,_,r=>by cases r.nil_inv;exact⟨rfl,(q9a h1 h1 r1 r1).2.1,rfl⟩
 | e :: ds,xs,h2,r=>by
  obtain⟨y,ys,rfl,k1,k2⟩:=r.cons_inv;rw [g38,m6] at h2;obtain⟨z1,z2,z3⟩:=qeb h1 r1 h2.2 k2;obtain⟨w1,w2,w3⟩:=q9a h2.1 h1 k1 r1;refine⟨?_,z2,?_⟩
  ·show(eqV y x || inV x ys)=(eqF e d || inF d ds)
   rw [w1,z1]
  ·rw [g38,w2,z3];rfl
def oIn(neg:Bool): D->D->Option D
 | d,.tup ds=>if flat d&&ds.all flat then some (.bl (if neg then !inF d ds else inF d ds)) else none
 | d,.lst ds=>if flat d&&ds.all flat then some (.bl (if neg then !inF d ds else inF d ds)) else none
 | _,_=>none
theorem qjz{K:Frag}{neg:Bool}{x y:V}{H:Hp}{Q:VK}(h:rD K (oIn neg) x y H Q): rIn K neg x y H Q:=by
 obtain⟨F,d1,d2,d,fh,r1,r2,ho,q⟩:=h;cases d2 <;> simp only [oIn] at ho <;> first|(cases ho;done)|skip
 ·split at ho
  ·rename_i hc
   cases ho;rw [m6] at hc;obtain⟨p,xs,rfl,k1,k2⟩:=rep_tup.mp r2;obtain⟨z1,z2,z3⟩:=qeb hc.1 r1 hc.2 k2;exact⟨p,xs,rfl,.inr (qh fh k1),z2,z3,by rw [z1];exact q _ F H (.refl fh) (rep_bl.mpr rfl)⟩
  ·cases ho
 ·split at ho
  ·rename_i hc
   cases ho;rw [m6] at hc;obtain⟨p,xs,rfl,k1,k2⟩:=rep_lst.mp r2;obtain⟨z1,z2,z3⟩:=qeb hc.1 r1 hc.2 k2;exact⟨p,xs,rfl,.inl (fh.seq k1),z2,z3,by rw [z1];exact q _ F H (.refl fh) (rep_bl.mpr rfl)⟩
  ·cases ho
theorem q9b:OpR X (compareOp .In) (rD X.K (oIn false)):=q02 qfj fun x y H Q h=>qjz h
theorem q9x:OpR X (compareOp .NotIn) (rD X.K (oIn true)):=q02 q9k fun x y H Q h=>qjz h
end
mutual
def eqD:D->D->Bool
 | .tup ds,.tup es=>eqL ds es
 | .lst ds,.lst es=>eqL ds es
 | d,e=>eqF d e
def eqL:List D->List D->Bool
 | [],[]=>true
 | d :: ds,e :: es=>eqD d e&&eqL ds es
 | _,_=>false
end
mutual
def okE:D->D->Bool
 | .tup ds,.tup es=>ye ds es
 | .lst ds,.lst es=>ye ds es
 | d,e=>flat d&&flat e
def ye:List D->List D->Bool
 | d :: ds,e :: es=>okE d e&&ye ds es
 | _,_=>true
end
mutual
def yf:D->Nat
 | .tup ds=>vp ds+1
 | .lst ds=>vp ds+1
 | _=>0
def vp:List D->Nat
 | []=>0
 | d :: ds=>max (yf d) (vp ds)
end
def eqJ(ds es:List D)(j:Nat): Bool:=match ds[j]?,es[j]? with
 | some d,some e=>eqD d e
 | _,_=>true
theorem yg:∀(ds es:List D),((List.range (min ds.length es.length)).all (eqJ ds es)&&ds.length==es.length)=eqL ds es
 | [],[]=>by simp [eqL]
 | [],e :: es=>by simp [eqL]
 | d :: ds,[]=>by simp [eqL]
 | d :: ds,e :: es=>by
  have ih:=yg ds es;have e1:min (d :: ds).length (e :: es).length=min ds.length es.length+1:=by simp only [t9];lia
  rw [e1,g1r,g38,g08];have e2:(eqJ (d :: ds) (e :: es) ∘ Nat.succ)=eqJ ds es:=by funext j;simp [eqJ]
  have e3:eqJ (d :: ds) (e :: es) 0=eqD d e:=by simp [eqJ]
  have e4:((d :: ds).length==(e :: es).length)=(ds.length==es.length):=by simp
  rw [e2,e3,e4,Bool.and_assoc,ih];simp only [eqL]
theorem q9y{d e:D}(h1:flat d=true)(h2:flat e=true): eqD d e=eqF d e:=by
 cases d <;> first|(cases h1;done)|skip
 all_goals (cases e <;> first|(cases h2;done)|skip)
 all_goals simp only [eqD]
section
variable{X:Cx}{pins:List (Addr×Obj)}{σ : St}{F H:Hp}{s:Shared}
theorem qg5{A:Around}{d e:D}{x y:V}{u v:Value}(h1:flat d=true)(h2:flat e=true)(r1:Rep X.K F d x)(r2:Rep X.K F e y)(q1:RelV x u)(q2:RelV y v): SeqAt.EqAt A s u v (eqD d e):=by
 obtain⟨z1,z2,z3⟩:=q9a h1 h2 r1 r2;rw [q9y h1 h2, <- z1];exact qfh q1 q2 z2 z3
theorem q9z{d e:D}(h:okE d e=true): (∃ds es,d=.tup ds/\e=.tup es/\ye ds es=true)\/(∃ds es,d=.lst ds/\e=.lst es/\ye ds es=true)\/(flat d=true/\flat e=true):=by
 cases d <;> cases e <;> simp only [okE,m6] at h <;> first
  | exact .inl ⟨_,_,rfl,rfl,h⟩
  | exact .inr (.inl ⟨_,_,rfl,rfl,h⟩)
  | exact .inr (.inr h)
theorem qd7(I:Inv X pins σ H s)(fh:Same F H): ∀ {d e:D} {x:V},okE d e=true->Rep X.K F d x->Rep X.K F e x->eqD d e=true:=by
 suffices hh:∀n,(∀d e x,sizeOf d<n->okE d e=true->Rep X.K F d x->Rep X.K F e x->eqD d e=true) from fun {d e x}=>hh (sizeOf d+1) d e x (uz _)
 intro n
 induction n with
 | zero=>intro d e x h;exact absurd h (ph _)
 | succ n ih=>
  intro d e x hn ok r1 r2;have seq:∀(ds es:List D) (xs:List V),sizeOf ds<n->ye ds es=true->RepL X.K F ds xs->RepL X.K F es xs->eqL ds es=true:=by
   intro ds
   induction ds with
   | nil=>
    intro es xs _ _ k1 k2;cases k1.nil_inv;cases es with
    | nil=>simp only [eqL]
    | cons e es=>obtain⟨_,_,z,_⟩:=k2.cons_inv;cases z
   | cons d ds ihd=>
    intro es xs hs ho k1 k2;obtain⟨x,r,rfl,a1,a2⟩:=k1.cons_inv;cases es with
    | nil=>cases k2.nil_inv
    | cons e es=>
     obtain⟨x',r',z,b1,b2⟩:=k2.cons_inv;cases z;simp only [ye,m6] at ho;have hs1:sizeOf d<n:=by simp only [g1y] at hs;lia
     have hs2:sizeOf ds<n:=by simp only [g1y] at hs;lia
     simp only [eqL,m6];exact⟨ih d e x hs1 ho.1 a1 b1,ihd es r hs2 ho.2 a2 b2⟩
  rcases q9z ok with⟨ds,es,rfl,rfl,ho⟩|⟨ds,es,rfl,rfl,ho⟩|⟨h1,h2⟩
  ·obtain⟨a,xs,rfl,k1,k2⟩:=rep_tup.mp r1
   obtain⟨b,ys,z,k3,k4⟩:=rep_tup.mp r2;cases z;cases I.tuple_inj (qh fh k1) (qh fh k3);simp only [eqD];exact seq ds es xs (by simp only [D.tup.sizeOf_spec] at hn;lia) ho k2 k4
  ·obtain⟨a,xs,rfl,k1,k2⟩:=rep_lst.mp r1
   obtain⟨b,ys,z,k3,k4⟩:=rep_lst.mp r2;cases z;cases I.list_inj (fh.seq k1) (fh.seq k3);simp only [eqD];exact seq ds es xs (by simp only [D.lst.sizeOf_spec] at hn;lia) ho k2 k4
  ·obtain⟨z1,_⟩:=q9a h1 h2 r1 r2
   rw [q9y h1 h2, <- z1];cases d <;> first|(cases h1;done)|skip
   ·cases rep_non.mp r1;rfl
   ·cases rep_bl.mp r1;simp [eqV]
   ·cases rep_int.mp r1;simp [eqV]
   ·cases rep_str.mp r1;simp [eqV]
theorem qa0 (I:Inv X pins σ H s) (fh:Same F H):∀ {d e:D} {x y:V} {u v:Value} (A:Around),okE d e=true->A.units+yf d<cLine->Rep X.K F d x->Rep X.K F e y->RelV x u->RelV y v->SeqAt.EqAt A s u v (eqD d e):=by
 suffices hh:∀n,(∀d e x y u v (A:Around),sizeOf d<n->okE d e=true->A.units+yf d<cLine->Rep X.K F d x->Rep X.K F e y->RelV x u->RelV y v->SeqAt.EqAt A s u v (eqD d e)) from
  fun {d e x y u v} A=>hh (sizeOf d+1) d e x y u v A (uz _)
 intro n
 induction n with
 | zero=>intro d e x y u v A h;exact absurd h (ph _)
 | succ n ih=>
  intro d e x y u v A hn ok hu r1 r2 q1 q2;have seq:∀(ds es:List D) (xs ys:List V) (us vs:List Value) (A:Around),sizeOf ds<n->ye ds es=true->A.units+vp ds<cLine->RepL X.K F ds xs->RepL X.K F es ys->Vals xs us->Vals ys vs ->
    ∀j (h1:j<us.length) (h2:j<vs.length),SeqAt.EqAt A s us[j] vs[j] (eqJ ds es j):=by
   intro ds
   induction ds with
   | nil=>
    intro es xs ys us vs A _ _ _ k1 _ w1 _ j h1;cases k1.nil_inv;cases w1;exact absurd h1 (ph _)
   | cons d ds ihd=>
    intro es xs ys us vs A hs ho hu k1 k2 w1 w2 j h1 h2;obtain⟨x,r,rfl,a1,a2⟩:=k1.cons_inv;cases w1 with
    | cons p1 p2=>
     cases es with
     | nil=>cases k2.nil_inv;cases w2;exact absurd h2 (ph _)
     | cons e es=>
      obtain⟨y,r',rfl,b1,b2⟩:=k2.cons_inv;cases w2 with
      | cons p3 p4=>
       simp only [ye,m6] at ho;have hs1:sizeOf d<n:=by simp only [g1y] at hs;lia
       have hs2:sizeOf ds<n:=by simp only [g1y] at hs;lia
       simp only [vp] at hu;cases j with
       | zero=>
        have e0:eqJ (d :: ds) (e :: es) 0=eqD d e:=by simp [eqJ]
        rw [e0];exact ih d e x y _ _ A hs1 ho.1 (by lia) a1 b1 p1 p3
       | succ j=>
        have e0:eqJ (d :: ds) (e :: es) (j+1)=eqJ ds es j:=by simp [eqJ]
        rw [e0];exact ihd es r r' _ _ A hs2 ho.2 (by lia) a2 b2 p2 p4 j (by simpa using h1) (by simpa using h2)
  rcases q9z ok with⟨ds,es,rfl,rfl,ho⟩|⟨ds,es,rfl,rfl,ho⟩|⟨h1,h2⟩
  ·have rr:=qd7 I fh ok r1
   obtain⟨a,xs,rfl,k1,k2⟩:=rep_tup.mp r1;obtain⟨b,ys,rfl,k3,k4⟩:=rep_tup.mp r2;cases q1;cases q2
   by_cases hab:a=b
   ·subst hab
    rw [rr r2];exact g5f _
   ·obtain⟨i1,v1,t1,_⟩:=I.tuple (qh fh k1)
    obtain⟨i2,v2,t2,_⟩:=I.tuple (qh fh k3);simp only [yf] at hu;refine SeqAt.EqAt.of_refs hab ?_;have hq:=seq ds es xs ys i1 i2 A.in1 (by simp only [D.tup.sizeOf_spec] at hn;lia) ho (by show A.units+1+vp ds<cLine;lia) k2 k4 v1 v2;have:=SeqAt.RcAt.tuples (A:=A) (e:=eqJ ds es) (show s.heap.IsTuple a i1.toArray from t1) (show s.heap.IsTuple b i2.toArray from t2) (by lia) (fun j h1 h2=>by simpa using hq j (by simpa using h1) (by simpa using h2));simp only [gj, <- v1.length, <- v2.length, <- k2.length, <- k4.length,yg] at this
    simpa only [eqD] using this
  ·have rr:=qd7 I fh ok r1
   obtain⟨a,xs,rfl,k1,k2⟩:=rep_lst.mp r1;obtain⟨b,ys,rfl,k3,k4⟩:=rep_lst.mp r2;cases q1;cases q2
   by_cases hab:a=b
   ·subst hab
    rw [rr r2];exact g5f _
   ·obtain⟨i1,v1,t1,_⟩:=I.list (fh.seq k1)
    obtain⟨i2,v2,t2,_⟩:=I.list (fh.seq k3);simp only [yf] at hu;refine SeqAt.EqAt.of_refs hab ?_;have hq:=seq ds es xs ys i1 i2 A.in1 (by simp only [D.lst.sizeOf_spec] at hn;lia) ho (by show A.units+1+vp ds<cLine;lia) k2 k4 v1 v2;have hl1:i1.length=ds.length:=by rw [<- v1.length, <- k2.length]
    have hl2:i2.length=es.length:=by rw [<- v2.length, <- k4.length]
    simp only [eqD]
    by_cases hl:ds.length=es.length
    ·have:=SeqAt.RcAt.lists (A:=A) (e:=eqJ ds es) t1.isList t2.isList (by rw [gj,gj,hl1,hl2];exact hl) (by lia) (fun j h1 h2=>by simpa using hq j (by simpa using h1) (by simpa using h2))
     have e1:(List.range i1.toArray.size).all (eqJ ds es)=eqL ds es:=by
      rw [<- yg,gj,hl1, <- hl,g56];simp
     rw [e1] at this;exact this
    ·have e1:eqL ds es=false:=by rw [<- yg];simp [hl]
     rw [e1];exact SeqAt.RcAt.lists_lengths t1.isList t2.isList (by rw [gj,gj,hl1,hl2];simpa using hl) (by lia)
  ·exact qg5 h1 h2 r1 r2 q1 q2
def qig:D->D->Option D
 | .tup ds,.tup es=>if ye ds es&&decide (vp ds<=60) then some (.bl (eqL ds es)) else none
 | .lst ds,.lst es=>if ye ds es&&decide (vp ds<=60) then some (.bl (eqL ds es)) else none
 | _,_=>none
theorem qnp(hu:X.A.units+64<cLine): OpR X (compareOp .Eq) (rD X.K qig):=by
 intro pins s σ H x y v u Q I rx ry h;obtain⟨F,d1,d2,d,fh,r1,r2,ho,q⟩:=h;have part:∀ {ds es:List D} {xs ys:List V} {us vs:List Value},ye ds es=true->vp ds<=60->RepL X.K F ds xs->RepL X.K F es ys->Vals xs us->Vals ys vs ->
   ∀j (h1:j<us.length) (h2:j<vs.length),SeqAt.EqAt X.A.in1 s us[j] vs[j] (eqJ ds es j):=by
  intro ds
  induction ds with
  | nil=>
   intro es xs ys us vs _ _ k1 _ w1 _ j h1;cases k1.nil_inv;cases w1;exact absurd h1 (ph _)
  | cons d ds ihd=>
   intro es xs ys us vs ho hd k1 k2 w1 w2 j h1 h2;obtain⟨x,r,rfl,a1,a2⟩:=k1.cons_inv;cases w1 with
   | cons p1 p2=>
    cases es with
    | nil=>cases k2.nil_inv;cases w2;exact absurd h2 (ph _)
    | cons e es=>
     obtain⟨y,r',rfl,b1,b2⟩:=k2.cons_inv;cases w2 with
     | cons p3 p4=>
      simp only [ye,m6] at ho;simp only [vp] at hd;cases j with
      | zero=>
       have e0:eqJ (d :: ds) (e :: es) 0=eqD d e:=by simp [eqJ]
       rw [e0];exact qa0 I fh _ ho.1 (by show X.A.units+1+yf d<cLine;lia) a1 b1 p1 p3
      | succ j=>
       have e0:eqJ (d :: ds) (e :: es) (j+1)=eqJ ds es j:=by simp [eqJ]
       rw [e0];exact ihd ho.2 (by lia) a2 b2 p2 p4 j (by simpa using h1) (by simpa using h2)
 unfold qig at ho
 split at ho
 ·rename_i ds es
  split at ho
  ·rename_i hc
   cases ho;rw [m6] at hc;obtain⟨a,xs,rfl,k1,k2⟩:=rep_tup.mp r1;obtain⟨b,ys,rfl,k3,k4⟩:=rep_tup.mp r2;cases rx;cases ry;obtain⟨i1,v1,t1,_⟩:=I.tuple (qh fh k1);obtain⟨i2,v2,t2,_⟩:=I.tuple (qh fh k3);have hq:=part hc.1 (g0f hc.2) k2 k4 v1 v2;refine SeqAt.eq_tupleAt (e:=eqJ ds es) (show s.heap.IsTuple a i1.toArray from t1) (show s.heap.IsTuple b i2.toArray from t2) (by lia) (fun j h1 h2=>by simpa using hq j (by simpa using h1) (by simpa using h2)) ?_;simp only [gj, <- v1.length, <- v2.length, <- k2.length, <- k4.length,yg];exact⟨.bl _,H,I,rfl,q _ F H (.refl fh) (rep_bl.mpr rfl)⟩
  ·cases ho
 ·rename_i ds es
  split at ho
  ·rename_i hc
   cases ho;rw [m6] at hc;obtain⟨a,xs,rfl,k1,k2⟩:=rep_lst.mp r1;obtain⟨b,ys,rfl,k3,k4⟩:=rep_lst.mp r2;cases rx;cases ry;obtain⟨i1,v1,t1,_⟩:=I.list (fh.seq k1);obtain⟨i2,v2,t2,_⟩:=I.list (fh.seq k3);have hq:=part hc.1 (g0f hc.2) k2 k4 v1 v2;have hl1:i1.length=ds.length:=by rw [<- v1.length, <- k2.length]
   have hl2:i2.length=es.length:=by rw [<- v2.length, <- k4.length]
   by_cases hl:ds.length=es.length
   ·refine SeqAt.eq_listAt (e:=eqJ ds es) t1.isList t2.isList (by rw [gj,gj,hl1,hl2];exact hl) (by lia) (fun j h1 h2=>by simpa using hq j (by simpa using h1) (by simpa using h2)) ?_
    have e1:(List.range i1.toArray.size).all (eqJ ds es)=eqL ds es:=by
     rw [<- yg,gj,hl1, <- hl,g56];simp
    rw [e1];exact⟨.bl _,H,I,rfl,q _ F H (.refl fh) (rep_bl.mpr rfl)⟩
   ·have e1:eqL ds es=false:=by rw [<- yg];simp [hl]
    rw [e1] at q;exact SeqAt.eq_list_lengthsAt t1.isList t2.isList (by rw [gj,gj,hl1,hl2];simpa using hl) (by lia) ⟨.bl _,H,I,rfl,q _ F H (.refl fh) (rep_bl.mpr rfl)⟩
  ·cases ho
 ·cases ho
abbrev oEq:D->D->Option D:=fun x y=>(qi7 x y).or (qig x y)
theorem wj(hu:X.A.units+64<cLine): OpR X (compareOp .Eq) (rD X.K oEq):=q9p qnf (qnp hu)
end
def itN:Bool->String
 | true=>"list_iterator"
 | false=>"tuple_iterator"
def sqN:Bool->String
 | true=>"list"
 | false=>"tuple"
def SI(b:Bool)(h:Heap)(it l:Addr)(k:Nat): Prop:=∃o,h.get? it=some o/\o.cls=.type (itN b)/\o.data=.fields #[.ref l,.int k 0]
def SO(b:Bool)(h:Heap)(l:Addr)(xs:Array Value): Prop:=∃o,h.get? l=some o/\o.cls=.type (sqN b)/\∃n,o.data=.seq xs n
theorem SI.ext{b:Bool}{h h':Heap}{it l c:Addr}{k:Nat}(x:SI b h it l k)(e:Heap.ExtBut c h h')(n:it≠c): SI b h' it l k:=let⟨o,ho,r⟩:=x; ⟨o,e it o n ho,r⟩
theorem SO.ext{b:Bool}{h h':Heap}{l c:Addr}{xs:Array Value}(x:SO b h l xs)(e:Heap.ExtBut c h h')(n:l≠c): SO b h' l xs:=let⟨o,ho,r⟩:=x; ⟨o,e l o n ho,r⟩
theorem SI.keep{b:Bool}{h h':Heap}{it l:Addr}{k:Nat}(x:SI b h it l k)(e:∀o,h.get? it=some o->h'.get? it=some o): SI b h' it l k:=let⟨o,ho,r⟩:=x; ⟨o,e o ho,r⟩
section
variable{prog:Program}{w:World}{A:Around}{E:Value->Shared->Prop}{s:Shared}
theorem q7d{b:Bool}{it l:Addr}{k:Nat}{xs:Array Value}{x:Value}{Q:Value->Shared->Prop}(hi:SI b s.heap it l k)(ho:SO b s.heap l xs)(hx:xs[k]? = some x)
  (h:∀h',SI b h' it l (k+1)->Heap.SameBut it s.heap h'->Q x {s with heap:=h'}):wpAny (model prog w) A (Builtin.SmallTypes.nextOf (.ref it)) Q E s:=by
 cases b with
 | true=>exact wpAny_nextOf_list_item hi ho hx h
 | false=>
  obtain⟨o,e1,e2,e3⟩:=id hi;obtain⟨o2,f1,f2,n,f3⟩:=id ho;have ty:s.TypeIs (.ref it) "tuple_iterator" :=⟨o,e1,e2⟩
  unfold Builtin.SmallTypes.nextOf;refine g0 (t6 (name:=Str.ofString "__next__") ty g18 (p5 g18 ty g4a ?_ (g3z _)));show wpAny _ _ (field (.ref it) 0 >>= _) _ _ s;refine g0 (g05 e1 e3 (x:=.ref l) rfl ?_);show wpAny _ _ (if(Value.ref l==Value.none)=true then _ else _) _ _ s;rw [mf (fun z:(Value.ref l==Value.none)=true=>mh z)];show wpAny _ _ (field (.ref it) 1 >>= _) _ _ s;refine g0 (g05 e1 e3 (x:=.int k 0) rfl ?_);show wpAny _ _ (seqItems? (.ref l) >>= _) _ _ s;refine g0 (g0l f1 f3 ?_);simp only [nt,hx];refine g0 (g2t e1 e3 (by simp) (g9 ⟨x,rfl,g9 (h _ ⟨_,g0m _ e1 (Obj.isFreed_of_fields (g2k e3 _)),(Obj.cls_mapFields ..).trans e2,?_⟩ (u6 ..))⟩));rw [g2k e3];simp [rawInt]
theorem qd8{b:Bool}{it l:Addr}{k:Nat}{xs:Array Value}{Q:Value->Shared->Prop}(hh:A.handled=none)(hi:SI b s.heap it l k)(ho:SO b s.heap l xs)(hx:xs[k]? = none)
  (h:∀h' e,Heap.ExtBut it s.heap h'->(∃o,h'.get? e=some o/\o.cls=.type "StopIteration")->E (.ref e) {s with heap:=h'}):wpAny (model prog w) A (Builtin.SmallTypes.nextOf (.ref it)) Q E s:=by
 cases b with
 | true=>exact wpAny_nextOf_list_end hh hi ho hx h
 | false=>
  obtain⟨o,e1,e2,e3⟩:=id hi;obtain⟨o2,f1,f2,n,f3⟩:=id ho;have ty:s.TypeIs (.ref it) "tuple_iterator" :=⟨o,e1,e2⟩
  unfold Builtin.SmallTypes.nextOf;refine g0 (t6 (name:=Str.ofString "__next__") ty g18 (p5 g18 ty g4a ?_ (g3z _)));show wpAny _ _ (field (.ref it) 0 >>= _) _ _ s;refine g0 (g05 e1 e3 (x:=.ref l) rfl ?_);show wpAny _ _ (if(Value.ref l==Value.none)=true then _ else _) _ _ s;rw [mf (fun z:(Value.ref l==Value.none)=true=>mh z)];show wpAny _ _ (field (.ref it) 1 >>= _) _ _ s;refine g0 (g05 e1 e3 (x:=.int k 0) rfl ?_);show wpAny _ _ (seqItems? (.ref l) >>= _) _ _ s;refine g0 (g0l f1 f3 ?_);simp only [nt,hx];refine g0 (g00 (g0 (g2t e1 e3 (by simp) ?_)));show wpAny _ _ (newExc (.type "StopIteration") [] >>= _) _ _ _;refine g0 ?_;simp only [newExc,newTuple];refine g0 (td (g0 (m:=firstArgMember _ _) (g5l (a:=Value.none) (by first|rfl|(simp only [firstArgMember];rfl)) (td ?_ (by size_fits)))) (by size_fits));simp only [raiseNew];refine g0 (g4h ?_)
  first|rw [show A.in1.handled=none from hh]|rw [hh]
  exact g0 (g9 (wpAny_throw (h _ _ (((u6 ..).extBut.push _).push _) ⟨_,gr _ rfl,rfl⟩)))
structure Z5(z ti to i1 i2:Addr): Prop where
 a1:ti≠z
 a2:to≠z
 a3:i1≠z
 a4:i2≠z
 a5:ti≠to
 a6:ti≠i1
 a7:ti≠i2
 a8:to≠i1
 a9:to≠i2
 a10:i1≠i2
structure Off(l z to i1 i2:Addr): Prop where
 z:l≠z
 o:l≠to
 i:l≠i1
 j:l≠i2
theorem qg6{b1 b2:Bool}{z ti to i1 i2 l1 l2:Addr}{k1 k2:Nat}{xs ys:Array Value}{x y p q:Value}{Q:Value->Shared->Prop}(D:Z5 z ti to i1 i2)(m1:Off l1 z to i1 i2)(m2:Off l2 z to i1 i2)
  (hz:IsZip s.heap z ti to .none) (ht:IsPair s.heap ti (.ref i1) (.ref i2)) (hp:IsPair s.heap to p q)
  (h1:SI b1 s.heap i1 l1 k1) (h2:SI b2 s.heap i2 l2 k2) (o1:SO b1 s.heap l1 xs) (o2:SO b2 s.heap l2 ys) (hx:xs[k1]? = some x) (hy:ys[k2]? = some y)
  (hQ:∀h',IsZip h' z ti to (rawInt s.heap.objs.size)->IsPair h' to x y->SI b1 h' i1 l1 (k1+1)->SI b2 h' i2 l2 (k2+1)->IsPair h' s.heap.objs.size x y->h'.objs.size=s.heap.objs.size+1 ->
   (∀c o,c≠z->c≠to->c≠i1->c≠i2->s.heap.get? c=some o->h'.get? c=some o)->Q (.ref s.heap.objs.size) {s with heap:=h'}) :
  wpAny (model prog w) A (Builtin.«zip.__next__» ⟨[.ref z],[]⟩) (fun fin s'=>∃v,fin=.done (.ret v)/\Q v s') E s:=by
 show wpAny _ _ (field (.ref z) 2 >>= _) _ _ _;refine g0 (g05 hz rfl (x:=.bool false) rfl ?_);show wpAny _ _ (field (.ref z) 3 >>= _) _ _ _;refine g0 (g05 hz rfl (x:=.ref ti) rfl (g0 (g0l ht rfl ?_)));show wpAny _ _ (Builtin.SmallTypes.ownedTupleIsFree (.ref z) >>= _) _ _ _;refine g0 ?_;unfold Builtin.SmallTypes.ownedTupleIsFree;refine g0 (g05 hz rfl (x:=.none) rfl (g9 ?_));simp only [ny];refine g0 (g00 (g0 (g05 hz rfl (x:=.ref to) rfl (g0 (g11 hz (by simp) fun g1 hz1 u1=>?_)))));have hz1':IsZip g1 z ti to .ellipsis:=hz1;refine g0 ?_;simp only [g57,List.zipIdx_nil,g1p,g2s];refine g0 (g0 (g4i ?_));show wpAny _ _ (Builtin.SmallTypes.nextOf (.ref i1) >>= _) _ _ _;refine g0 (q7d (h1.ext u1.extBut D.a3) (o1.ext u1.extBut m1.z) hx fun g2 n1 u2=>g9 ?_);have hp2:IsPair g2 to p q:=u2.extBut _ _ D.a8 (u1.extBut _ _ D.a2 hp);refine g0 (g0l hp2 rfl (g0 (g3j hp2 fun g3 hp3 u3=>?_)));have hp3':IsPair g3 to x q:=hp3;refine g0 (g5m (g9 (g0 (g0 (g4i ?_)))));show wpAny _ _ (Builtin.SmallTypes.nextOf (.ref i2) >>= _) _ _ _;refine g0 (q7d (((h2.ext u1.extBut D.a4).ext u2.extBut D.a10.symm).ext u3.extBut D.a9.symm) (((o2.ext u1.extBut m2.z).ext u2.extBut m2.i).ext u3.extBut m2.o) hy fun g4 n2 u4=>g9 ?_);have hp4:IsPair g4 to x q:=u4.extBut _ _ D.a9 hp3';refine g0 (g0l hp4 rfl (g0 (g3j hp4 fun g5 hp5 u5=>?_)));have hp5':IsPair g5 to x y:=hp5;refine g0 (g5m (g9 (g9 (g0 (g0l hp5' rfl (g0 (wpAny_newTuple ?_)))))));have hsz:g5.objs.size=s.heap.objs.size:=by rw [u5.1,u4.1,u3.1,u2.1,u1.1]
 have hz5:IsZip g5 z ti to .ellipsis:=u5.extBut _ _ D.a2.symm (u4.extBut _ _ D.a4.symm (u3.extBut _ _ D.a2.symm (u2.extBut _ _ D.a3.symm hz1')));have kp:∀c o,c≠z->c≠to->c≠i1->c≠i2->s.heap.get? c=some o->g5.get? c=some o:=fun c o c1 c2 c3 c4 e=>u5.extBut _ _ c2 (u4.extBut _ _ c4 (u3.extBut _ _ c2 (u2.extBut _ _ c3 (u1.extBut _ _ c1 e))));have j1:SI b1 g5 i1 l1 (k1+1):=((n1.ext u3.extBut D.a8.symm).ext u4.extBut D.a10).ext u5.extBut D.a8.symm;have j2:SI b2 g5 i2 l2 (k2+1):=n2.ext u5.extBut D.a9.symm;have hzl:z<g5.objs.size:=gw hz5;show wpAny _ _ (Builtin.SmallTypes.ownedTupleHandOut (.ref z) (.ref g5.objs.size) >>= _) _ _ _;refine g0 ?_;unfold Builtin.SmallTypes.ownedTupleHandOut;have hz6:IsZip (g5.push {cls:=.type "tuple",data:=.seq #[x,y]}) z ti to .ellipsis:=gd _ hz5;refine g0 (g11 hz6 (by simp) fun g7 hz7 u7=>?_);have hz7':IsZip g7 z ti to (rawInt g5.objs.size):=hz7;refine g11 hz7' (by simp) fun g8 hz8 u8=>?_;have hz8':IsZip g8 z ti to (rawInt g5.objs.size):=hz8;have up:∀c o,c≠z->g5.get? c=some o->g8.get? c=some o:=fun c o c1 e=>u8.extBut _ _ c1 (u7.extBut _ _ c1 (gd _ e));have hT:IsPair g8 g5.objs.size x y:=u8.extBut _ _ (uh hzl) (u7.extBut _ _ (uh hzl) (gr _ rfl));have hl8:g8.objs.size=g5.objs.size+1:=by rw [u8.1,u7.1,ue]
 rw [hsz] at hz8' hT hl8;refine g9 ⟨_,rfl,?_⟩;show Q (.ref g5.objs.size) _;rw [hsz];exact hQ g8 hz8' (up _ _ D.a2 hp5') (j1.keep fun o e=>up _ o D.a3 e) (j2.keep fun o e=>up _ o D.a4 e) hT hl8 fun c o c1 c2 c3 c4 e=>up c o c1 (kp c o c1 c2 c3 c4 e)
theorem qih{b1 b2:Bool}{z ti to i1 i2 l1 l2:Addr}{k1 k2:Nat}{xs ys:Array Value}{p q:Value}{Q:Fin->Shared->Prop}(hh:A.handled=none)(D:Z5 z ti to i1 i2)(m1:Off l1 z to i1 i2)(m2:Off l2 z to i1 i2)
  (hz:IsZip s.heap z ti to .none) (ht:IsPair s.heap ti (.ref i1) (.ref i2)) (hp:IsPair s.heap to p q)
  (h1:SI b1 s.heap i1 l1 k1) (h2:SI b2 s.heap i2 l2 k2) (o1:SO b1 s.heap l1 xs) (o2:SO b2 s.heap l2 ys) (hend:xs[k1]? = none\/ys[k2]? = none)
  (hE:∀h' e,(∀c o,c≠z->c≠to->c≠i1->c≠i2->s.heap.get? c=some o->h'.get? c=some o)->(∃o,h'.get? e=some o/\o.cls=.type "StopIteration")->E (.ref e) {s with heap:=h'}) :
  wpAny (model prog w) A (Builtin.«zip.__next__» ⟨[.ref z],[]⟩) Q E s:=by
 show wpAny _ _ (field (.ref z) 2 >>= _) _ _ _;refine g0 (g05 hz rfl (x:=.bool false) rfl ?_);show wpAny _ _ (field (.ref z) 3 >>= _) _ _ _;refine g0 (g05 hz rfl (x:=.ref ti) rfl (g0 (g0l ht rfl ?_)));show wpAny _ _ (Builtin.SmallTypes.ownedTupleIsFree (.ref z) >>= _) _ _ _;refine g0 ?_;unfold Builtin.SmallTypes.ownedTupleIsFree;refine g0 (g05 hz rfl (x:=.none) rfl (g9 ?_));simp only [ny];refine g0 (g00 (g0 (g05 hz rfl (x:=.ref to) rfl (g0 (g11 hz (by simp) fun g1 hz1 u1=>?_)))));have hz1':IsZip g1 z ti to .ellipsis:=hz1;refine g0 ?_;simp only [g57,List.zipIdx_nil,g1p,g2s];refine g0 (g0 (g4i ?_));show wpAny _ _ (Builtin.SmallTypes.nextOf (.ref i1) >>= _) _ _ _;cases hx:xs[k1]? with
 | none=>
  refine g0 (qd8 hh (h1.ext u1.extBut D.a3) (o1.ext u1.extBut m1.z) hx fun g2 e u2 he=>?_);obtain⟨oe,y1,y2⟩:=he;have hz2:IsZip g2 z ti to .ellipsis:=u2 _ _ D.a3.symm hz1';have ne:e≠z:=fun x=>by subst x;rw [hz2] at y1;cases y1;simp at y2
  exact g11 hz2 (by simp) fun g3 _ u3=>hE g3 e (fun c o c1 _ c3 _ x=>u3.extBut _ _ c1 (u2 _ _ c3 (u1.extBut _ _ c1 x))) ⟨oe,u3.extBut _ _ ne y1,y2⟩
 | some x=>
  have hy:ys[k2]? = none:=by rcases hend with h|h;rw [hx] at h;cases h;exact h
  refine g0 (q7d (h1.ext u1.extBut D.a3) (o1.ext u1.extBut m1.z) hx fun g2 n1 u2=>g9 ?_);have hp2:IsPair g2 to p q:=u2.extBut _ _ D.a8 (u1.extBut _ _ D.a2 hp);refine g0 (g0l hp2 rfl (g0 (g3j hp2 fun g3 hp3 u3=>?_)));refine g0 (g5m (g9 (g0 (g0 (g4i ?_)))));show wpAny _ _ (Builtin.SmallTypes.nextOf (.ref i2) >>= _) _ _ _;refine g0 (qd8 hh (((h2.ext u1.extBut D.a4).ext u2.extBut D.a10.symm).ext u3.extBut D.a9.symm) (((o2.ext u1.extBut m2.z).ext u2.extBut m2.i).ext u3.extBut m2.o) hy fun g4 e u4 he=>?_);obtain⟨oe,y1,y2⟩:=he;have hz4:IsZip g4 z ti to .ellipsis:=u4 _ _ D.a4.symm (u3.extBut _ _ D.a2.symm (u2.extBut _ _ D.a3.symm hz1'));have ne:e≠z:=fun x=>by subst x;rw [hz4] at y1;cases y1;simp at y2
  exact g11 hz4 (by simp) fun g5 _ u5=>hE g5 e (fun c o c1 c2 c3 c4 x=>u5.extBut _ _ c1 (u4 _ _ c4 (u3.extBut _ _ c2 (u2.extBut _ _ c3 (u1.extBut _ _ c1 x))))) ⟨oe,u5.extBut _ _ ne y1,y2⟩
theorem qec{b1 b2:Bool}{z ti to i1 i2 l1 l2:Addr}{k1 k2:Nat}{xs ys:Array Value}{x y p q:Value}{Q:Option Value->Shared->Prop}(D:Z5 z ti to i1 i2)(m1:Off l1 z to i1 i2)(m2:Off l2 z to i1 i2)
  (hz:IsZip s.heap z ti to .none) (ht:IsPair s.heap ti (.ref i1) (.ref i2)) (hp:IsPair s.heap to p q)
  (h1:SI b1 s.heap i1 l1 k1) (h2:SI b2 s.heap i2 l2 k2) (o1:SO b1 s.heap l1 xs) (o2:SO b2 s.heap l2 ys) (hx:xs[k1]? = some x) (hy:ys[k2]? = some y)
  (hQ:∀h',IsZip h' z ti to (rawInt s.heap.objs.size)->IsPair h' to x y->SI b1 h' i1 l1 (k1+1)->SI b2 h' i2 l2 (k2+1)->IsPair h' s.heap.objs.size x y->h'.objs.size=s.heap.objs.size+1 ->
   (∀c o,c≠z->c≠to->c≠i1->c≠i2->s.heap.get? c=some o->h'.get? c=some o)->Q (some (.ref s.heap.objs.size)) {s with heap:=h'}) :
  wpAny (model prog w) A (pyNext (.ref z)) Q E s:=by
 have ty:s.TypeIs (.ref z) "zip" :=⟨_,hz,rfl⟩
 unfold pyNext;exact g0 (g0i (t6 (name:=Str.ofString "__next__") ty g3k (p5 g3k ty F.entry_zip_next
  (qg6 D m1 m2 hz ht hp h1 h2 o1 o2 hx hy fun h' c1 c2 c3 c4 c5 c6 c7=>g9 (hQ h' c1 c2 c3 c4 c5 c6 c7)) (F.args_zip_next_1 _))))
theorem q92{b1 b2:Bool}{z ti to i1 i2 l1 l2:Addr}{k1 k2:Nat}{xs ys:Array Value}{p q:Value}{Q:Option Value->Shared->Prop}(hh:A.handled=none)(D:Z5 z ti to i1 i2)(m1:Off l1 z to i1 i2)(m2:Off l2 z to i1 i2)
  (hz:IsZip s.heap z ti to .none) (ht:IsPair s.heap ti (.ref i1) (.ref i2)) (hp:IsPair s.heap to p q)
  (h1:SI b1 s.heap i1 l1 k1) (h2:SI b2 s.heap i2 l2 k2) (o1:SO b1 s.heap l1 xs) (o2:SO b2 s.heap l2 ys) (hend:xs[k1]? = none\/ys[k2]? = none)
  (hQ:∀h',(∀c o,c≠z->c≠to->c≠i1->c≠i2->s.heap.get? c=some o->h'.get? c=some o)->Q none {s with heap:=h'}):wpAny (model prog w) A (pyNext (.ref z)) Q E s:=by
 have ty:s.TypeIs (.ref z) "zip" :=⟨_,hz,rfl⟩
 unfold pyNext;refine g0 (g0i (t6 (name:=Str.ofString "__next__") ty g3k (p5 g3k ty F.entry_zip_next
  (qih hh D m1 m2 hz ht hp h1 h2 o1 o2 hend fun h' e hk he=>?_) (F.args_zip_next_1 _))))
 obtain⟨o,y1,y2⟩:=he;exact g0 (g24 (T:="StopIteration") (b:=true) ⟨o,y1,y2⟩ isSubtype_stop (g9 (hQ _ hk)))
theorem q88{b:Bool}{l:Addr}{xs:Array Value}{Q:Value->Shared->Prop}(h:SO b s.heap l xs)(q:Q (.ref s.heap.objs.size) {s with heap:=s.heap.push {cls:=.type (itN b),data:=.fields #[.ref l,.int 0 0]} }):
  wpAny (model prog w) A (pyIter (.ref l)) Q E s:=by
 cases b with
 | true=>exact g30 h q
 | false=>exact g49 h q
end
def zh1(b1:Bool)(h:Heap)(l1:Addr): Heap:=h.push {cls:=.type (itN b1),data:=.fields #[.ref l1,.int 0 0]}
def zh2(b1 b2:Bool)(h:Heap)(l1 l2:Addr): Heap:=(zh1 b1 h l1).push {cls:=.type (itN b2),data:=.fields #[.ref l2,.int 0 0]}
def zh3(b1 b2:Bool)(h:Heap)(l1 l2:Addr): Heap:=(zh2 b1 b2 h l1 l2).push {cls:=.type "tuple",data:=.seq #[.ref h.objs.size,.ref (zh1 b1 h l1).objs.size]}
def zh4(b1 b2:Bool)(h:Heap)(l1 l2:Addr): Heap:=(zh3 b1 b2 h l1 l2).push {cls:=.type "tuple",data:=.seq #[.none,.none]}
def zh5(b1 b2:Bool)(h:Heap)(l1 l2:Addr): Heap:=(zh4 b1 b2 h l1 l2).push {cls:=.type "zip",data:=.fields #[.none,.bool false,.bool false,.ref (zh2 b1 b2 h l1 l2).objs.size,.ref (zh3 b1 b2 h l1 l2).objs.size]}
theorem SO.push{b:Bool}{h:Heap}{l:Addr}{xs:Array Value}(x:SO b h l xs)(o:Obj): SO b (h.push o) l xs:=let⟨u,e,r⟩:=x; ⟨u,gd _ e,r⟩
theorem qed(b1 b2:Bool)(l1 l2:Addr)(xs ys:Array Value):
  Meets (Builtin.«zip.__new__» ⟨[.type "zip",.ref l1,.ref l2],[]⟩) (fun _ R s=>SO b1 s.heap l1 xs/\SO b2 s.heap l2 ys/\R (.ok (.ret (.ref (zh4 b1 b2 s.heap l1 l2).objs.size))) {s with heap:=zh5 b1 b2 s.heap l1 l2}):=
 .of_wp fun prog w A R s h=>by
  obtain⟨hp,gg,dd,tk,os⟩:=s;obtain⟨ha,hb,h⟩:=h;have hsub:=sub_zip;have f1:SO b1 (Shared.heap ⟨hp,gg,dd,tk,os⟩) l1 xs:=ha;have f2:SO b2 (Shared.heap ⟨hp.push {cls:=.type (itN b1),data:=.fields #[.ref l1,.int 0 0]},gg,dd,tk,os⟩) l2 ys:=SO.push hb _
  wp_walk using q88 f1,q88 f2
  exact⟨_,rfl,h⟩
section
variable{X:Cx}{pins:List (Addr×Obj)}{σ : St}{H:Hp}{s:Shared}{h':Heap}
theorem qd9{fp:List Addr}{t':Nat}(I:Inv X pins σ H s)(hf:∀b∈fp,kh X pins H b)(k:∀b o,b∉fp->s.heap.get? b=some o->h'.get? b=some o): Inv X pins σ H {s with heap:=h',toks:=t'}:=by
 have nin:∀b u,H b=some u->b∉fp:=fun b u e hb=>by rw [(hf b hb).1] at e;cases e
 refine I.step (g':=s.gens) (d':=s.drawn) (ch:=fp) (fun b hb=>?_) (fun b o _ _ hc e _=>k b o hc e) (fun b o _ _ hc e _=>⟨o.slots,k b o hc e⟩) (fun _ _ _ _ n=>n)
  (fun b o hc e=>⟨o,k b o hc e⟩) (fun _ _ e=>e) (fun _ _ _ e=>e) (fun b ps e=>⟨#[],by rw [e];simp⟩) (fun m hm=>?_) (fun b u e=>?_) I.bare
 ·obtain⟨_,f1,_,f3,f4,f5⟩:=hf b hb
  exact⟨f3,f1,f4,f5⟩
 ·obtain⟨o,es,ep,ho,r⟩:=hm
  exact⟨o,es,ep,k _ o (fun z=>(hf _ z).2.1 rfl) ho,r⟩
 ·refine(I.hok b u e).stay (fun c v hc q=>k c v ?_ q) (fun _ q=>q) fun _ _ q=>q
  rcases hc with z|z
  ·rw [z];exact nin b u e
  ·exact nin c _ z
theorem adopt{p:Addr}{o:HO}(I:Inv X pins σ H s)(f:kh X pins H p)(new:ObjOk X.prog X.w (upd H p o) s.heap p o): Inv X pins σ (upd H p o) s:=by
 have hp:=f.1;obtain⟨_,f1,_,f3,f4,f5⟩:=f;have ne:∀ {b:Addr} {u:HO},H b=some u->upd H p o b=some u:=fun {b u} e=>by rw [qi (j9 e hp)];exact e
 refine I.step (h':=s.heap) (g':=s.gens) (t':=s.toks) (d':=s.drawn) (ch:=[p]) (fun b hb=>?_) (fun b o _ _ hc e _=>e) (fun b o _ _ hc e _=>⟨o.slots,e⟩) (fun b o hc e n=>?_)
  (fun b o hc e=>⟨o,e⟩) (fun _ _ e=>ne e) (fun _ _ _ e=>ne e) (fun b ps e=>⟨#[],by rw [ne e];simp⟩) (fun m hm=>hm) (fun b u e=>?_) I.bare
 ·obtain rfl:b=p:=by simpa using hb
  exact⟨f3,f1,f4,f5⟩
 ·rw [qi (fun z=>hc (by simp [z]))];exact n
 ·by_cases hb:b=p
  ·subst hb;rw [ql] at e;cases e;exact new
  ·rw [qi hb] at e
   exact(I.hok b u e).stay (fun c v _ q=>q) (fun c q=>ne q) fun c xs q=>ne q
def Sq:Bool->Frag->Hp->Addr->List V->Prop
 | true=>SqL
 | false=>SqT
theorem q4o{b:Bool}{a:Addr}{xs:List V}(I:Inv X pins σ H s)(h:Sq b X.K H a xs): ∃its:List Value,Vals xs its/\SO b s.heap a its.toArray:=by
 cases b with
 | true=>obtain⟨its,r,⟨o,n,e,c,_,d⟩,_⟩:=I.list h;exact⟨its,r,o,e,c,n,d⟩
 | false=>obtain⟨its,r,⟨o,e,c,n,d⟩,_⟩:=I.tuple h;exact⟨its,r,o,e,c,n,d⟩
theorem qg7{b:Bool}{a:Addr}{xs ys:List V}(I:Inv X pins σ H s)(h:Sq b X.K H a xs)(h':Sq b X.K H a ys): xs=ys:=by
 cases b with
 | true=>exact I.list_inj h h'
 | false=>exact I.tuple_inj h h'
theorem kx{b:Bool}{K:Frag}{F H:Hp}{a:Addr}{xs:List V}(e:Same F H)(h:Sq b K F a xs): Sq b K H a xs:=by
 cases b with
 | true=>exact e.seq h
 | false=>exact qh e h
theorem q0h{b:Bool}{a c:Addr}{xs:List V}(I:Inv X pins σ H s)(h:Sq b X.K H a xs)(f:kh X pins H c): a≠c:=by
 obtain⟨f0,f1,f2,f3,_⟩:=f;have inK:∀ {o:Obj},X.K.lookup a=some o->a≠c:=fun {o} hk z=>by
  subst z;have hb:X.base.get? a=some o:=I.mod.kin a o hk;rcases f3 with q|q
  ·exact I.ok.noex a o hb q
  ·exact absurd (gm (gw hb) (ml I.ok.bsz q)) (g0a _)
 have trk:∀ {u:HO},H a=some u->a≠c:=fun {u} e z=>by subst z;rw [f0] at e;cases e
 cases b with
 | true=>
  rcases h with(h|⟨o,h⟩)|⟨o,its,n,hk,_⟩
  ·exact trk h
  ·exact trk h
  ·exact inK hk
 | false=>
  rcases h with(h|⟨o,h⟩)|⟨o,its,n,hk,_⟩
  ·exact trk h
  ·exact trk h
  ·exact inK hk
end
def Itz(K:Frag)(b1:Bool)(a1:Addr)(b2:Bool)(a2:Addr): It:=
 ⟨fun i H=>∃xs ys x y,Sq b1 K H a1 xs/\Sq b2 K H a2 ys/\xs[i]? = some x/\ys[i]? = some y,
  fun i H v H'=>∃p x y,H p=none/\(∀xs,Sq b1 K H a1 xs->xs[i]? = some x)/\(∀ys,Sq b2 K H a2 ys->ys[i]? = some y)/\v=.ref p/\H'=upd H p (.tup [x,y]),
  fun i H=>∃xs ys,Sq b1 K H a1 xs/\Sq b2 K H a2 ys/\(xs.length<=i\/ys.length<=i)⟩
theorem qii{P:Program}{w:World}{K:Frag}{elts:List Expr}{x1}{tp:Pos}{b1 b2:Bool}{a1 a2 z ti to i1 i2:Addr}(D:Z5 z ti to i1 i2):
  Turn P w K (.Tuple elts x1 tp) (Itz K b1 a1 b2 a2) [z,ti,to,i1,i2] z
   (fun i h=>IsZip h z ti to .none/\IsPair h ti (.ref i1) (.ref i2)/\(∃p q,IsPair h to p q)/\SI b1 h i1 a1 i/\SI b2 h i2 a2 i) where
 mem:=by simp
 obj:=fun i h ⟨c1,c2,⟨p,q,c3⟩,⟨o4,c4,_,d4⟩,⟨o5,c5,_,d5⟩⟩ b hb=>by
  simp only [me,g09,g2l] at hb;rcases hb with rfl|rfl|rfl|rfl|rfl
  ·exact⟨_,c1,fun v z=>by cases z⟩
  ·exact⟨_,c2,fun v z=>by cases z⟩
  ·exact⟨_,c3,fun v z=>by cases z⟩
  ·exact⟨_,c4,fun v z=>by rw [d4] at z;cases z⟩
  ·exact⟨_,c5,fun v z=>by rw [d5] at z;cases z⟩
 keep:=fun i h h' ⟨c1,c2,⟨p,q,c3⟩,c4,c5⟩ k=>⟨k _ (by simp) _ c1,k _ (by simp) _ c2,⟨p,q,k _ (by simp) _ c3⟩,c4.keep fun o e=>k _ (by simp) o e,c5.keep fun o e=>k _ (by simp) o e⟩
 item:=by
  intro X hP hw hK hc i pins s σ H E I hf st hg;subst hP hw hK;obtain⟨xs,ys,x,y,q1,q2,hx,hy⟩:=hg;obtain⟨its1,v1,o1⟩:=q4o I q1;obtain⟨its2,v2,o2⟩:=q4o I q2;obtain⟨u1,hu1,ru1⟩:=v1.get hx;obtain⟨u2,hu2,ru2⟩:=v2.get hy;obtain⟨c1,c2,⟨p,q,c3⟩,c4,c5⟩:=st;have off:∀ {b:Bool} {a:Addr} {ws:List V},Sq b X.K H a ws->Off a z to i1 i2:=fun h=>⟨q0h I h (hf _ (by simp)),q0h I h (hf _ (by simp)),q0h I h (hf _ (by simp)),q0h I h (hf _ (by simp))⟩
  refine qec D (off q1) (off q2) c1 c2 c3 c4 c5 o1 o2 (x:=u1) (y:=u2) (by simpa using hu1) (by simpa using hu2) fun g n1 n2 n3 n4 n5 n6 n7=>?_;refine⟨_,rfl,wpAny_letOwnedTupleGo_zip n1 fun g2 m1 sb=>?_⟩;have hsz:z<s.heap.objs.size:=gw c1;have kp:∀c o,c∉[z,ti,to,i1,i2]->s.heap.get? c=some o->g2.get? c=some o:=fun c o hc e=>by
   simp only [me,g09,g2l,g5r] at hc;exact sb.extBut _ _ hc.1 (n7 c o hc.1 hc.2.2.1 hc.2.2.2.1 hc.2.2.2.2 e)
  have I1:Inv X pins σ H {s with heap:=g2}:=qd9 (t':=s.toks) I hf kp;have fp:kh X pins H s.heap.objs.size:=I.fpOk (gu _) I.fresh;have hT:IsPair g2 s.heap.objs.size u1 u2:=sb.extBut _ _ (uh hsz) n5;have I2:Inv X pins σ (upd H s.heap.objs.size (.tup [x,y])) {s with heap:=g2}:=
   adopt I1 fp ⟨by show 2<=sizeLine;decide,[u1,u2],.cons ru1 (.cons ru2 .nil),⟨_,hT,rfl,_,rfl⟩⟩
  refine⟨.ref s.heap.objs.size,_,I2,rfl,⟨_,x,y,I.fresh,fun ws h=>?_,fun ws h=>?_,rfl,rfl⟩,⟨m1,?_,⟨u1,u2,sb.extBut _ _ D.a2 n2⟩,n3.ext sb.extBut D.a3,n4.ext sb.extBut D.a4⟩,fun b hb=>?_⟩
  ·rw [qg7 I h q1];exact hx
  ·rw [qg7 I h q2];exact hy
  ·exact sb.extBut _ _ D.a1 (n7 _ _ D.a1 D.a5 D.a6 D.a7 c2)
  ·have hb0:=(hf b hb).1
   have:b≠s.heap.objs.size:=by
    simp only [me,g09,g2l] at hb;rcases hb with rfl|rfl|rfl|rfl|rfl
    ·exact m9 hsz
    ·exact m9 (gw c2)
    ·exact m9 (gw c3)
    ·obtain⟨_,e,_⟩:=c4;exact m9 (gw e)
    ·obtain⟨_,e,_⟩:=c5;exact m9 (gw e)
   rw [qi this];exact hb0
 done:=by
  intro X hP hw hK hc i pins s σ H E I hf st hg;subst hP hw hK;obtain⟨xs,ys,q1,q2,hend⟩:=hg;obtain⟨its1,v1,o1⟩:=q4o I q1;obtain⟨its2,v2,o2⟩:=q4o I q2;obtain⟨c1,c2,⟨p,q,c3⟩,c4,c5⟩:=st;have off:∀ {b:Bool} {a:Addr} {ws:List V},Sq b X.K H a ws->Off a z to i1 i2:=fun h=>⟨q0h I h (hf _ (by simp)),q0h I h (hf _ (by simp)),q0h I h (hf _ (by simp)),q0h I h (hf _ (by simp))⟩
  refine q92 (I.ok.hd hc) D (off q1) (off q2) c1 c2 c3 c4 c5 o1 o2 ?_ fun g n7=>⟨rfl,qd9 (t':=s.toks) I hf fun c o hc e=>?_⟩
  ·have l1:=v1.length
   have l2:=v2.length;rcases hend with h|h
   ·exact .inl (by simp;lia)
   ·exact .inr (by simp;lia)
  ·simp only [me,g09,g2l,g5r] at hc
   exact n7 c o hc.1 hc.2.2.1 hc.2.2.2.1 hc.2.2.2.2 e
 self:=fun A i s Q E st h=>wpAny_pyIter_zip st.1 h
def q3v(xs ys:List D): List D:=List.zipWith (fun a b=>.tup [a,b]) xs ys
theorem qkw{K:Frag}{F:Hp}{b1 b2:Bool}{a1 a2:Addr}{xs ys:List V}{ds es:List D}(h1:Sq b1 K F a1 xs)(h2:Sq b2 K F a2 ys)(r1:RepL K F ds xs)(r2:RepL K F es ys): ItD K F (q3v ds es) (Itz K b1 a1 b2 a2) where
 go:=fun i F' H s1 s2 hi=>by
  have hi':i<ds.length/\i<es.length:=by unfold q3v at hi;rw [List.length_zipWith] at hi;lia
  exact⟨xs,ys,xs[i]'(by rw [<- r1.length];exact hi'.1),ys[i]'(by rw [<- r2.length];exact hi'.2),kx (s1.trans s2) h1,kx (s1.trans s2) h2,by simp,by simp⟩
 yld:=fun i d F' H x H' s1 s2 hi ⟨p,x1,y1,hp,q1,q2,e1,e2⟩=>by
  subst e1 e2;unfold q3v at hi;rw [List.getElem?_zipWith] at hi;cases z1:ds[i]? with
  | none=>rw [z1] at hi;cases hi
  | some d1=>
   cases z2:es[i]? with
   | none=>rw [z1,z2] at hi;cases hi
   | some d2=>
    rw [z1,z2] at hi;cases hi;obtain⟨v1,k1,k2⟩:=r1.get z1;obtain⟨v2,k3,k4⟩:=r2.get z2;have w1:=q1 xs (kx (s1.trans s2) h1);have w2:=q2 ys (kx (s1.trans s2) h2);rw [k1] at w1;cases w1;rw [k3] at w2;cases w2;have gn:Grow F' H (upd F' p (.tup [x1,y1])) (upd H p (.tup [x1,y1])):=Grow.new s2 hp;exact⟨_,gn,rep_tup.mpr ⟨p,_,rfl,SqT.of ql,.cons ((k2.mono s1).mono gn.ff) (.cons ((k4.mono s1).mono gn.ff) .nil)⟩⟩
 stop:=fun i F' H s1 s2 hi=>by
  unfold q3v at hi;rw [List.length_zipWith] at hi;refine⟨xs,ys,kx (s1.trans s2) h1,kx (s1.trans s2) h2,?_⟩;rw [<- r1.length, <- r2.length];lia
section
variable{X:Cx}{pos:Pos}{elts:List Expr}{x1:Nat}{tp:Pos}
def qpv(K:Frag)(ta:TA): TI:=fun σ H R=>ta σ H fun vs H1=>∃b1 a1 xs b2 a2 ys,vs=[.ref a1,.ref a2]/\Sq b1 K H1 a1 xs/\Sq b2 K H1 a2 ys/\R (Itz K b1 a1 b2 a2) H1
theorem qg8:bootBuiltins "zip" = some (.type "zip"):=by decide +kernel
theorem qnq{a b:Expr}{ta:TA}{p:Pos}(hg:Gl X "zip")(hm:X.mg "zip" = none)(ha:PA X [a,b] ta)(hs:starEach [a,b] X.env=[(false,eval a X.env),(false,eval b X.env)]:=by rfl)(hs2:starEach [b] X.env=[(false,eval b X.env)]:=by rfl):
  PI X (.Tuple elts x1 tp) (.Call (.Name "zip" p) [a,b] [] pos) (qpv X.K ta):=by
 intro pins s σ H R I h;refine Call_ (q15 I hg hm qg8 (g22 (thn (ha pos pins s σ H _ I h) fun us s1 ⟨vs,H1,I1,r1,q1⟩=>?_) (by rw [hs,hs2]) (by rw [hs2];rfl)));obtain⟨b1,a1,xs,b2,a2,ys,rfl,k1,k2,q⟩:=q1;obtain⟨u1,u2,rfl,e1,e2⟩:=r1.two;cases e1;cases e2;obtain⟨its1,v1,o1⟩:=q4o I1 k1;obtain⟨its2,v2,o2⟩:=q4o I1 k2;refine callType_new F.called_zip (by decide) (F.typeCall_zip_2 _ _) (F.newCall_zip_2 _ _) (fun obj=>F.args_object_init_3 obj _ _) F.entry_zip_new (qed b1 b2 a1 a2 its1.toArray its2.toArray) ⟨o1,o2,?_⟩;have z1:(zh1 b1 s1.heap a1).objs.size=s1.heap.objs.size+1:=ue ..;have z2:(zh2 b1 b2 s1.heap a1 a2).objs.size=s1.heap.objs.size+2:=by unfold zh2;rw [ue,z1]
 have z3:(zh3 b1 b2 s1.heap a1 a2).objs.size=s1.heap.objs.size+3:=by unfold zh3;rw [ue,z2]
 have z4:(zh4 b1 b2 s1.heap a1 a2).objs.size=s1.heap.objs.size+4:=by unfold zh4;rw [ue,z3]
 have g5:(zh5 b1 b2 s1.heap a1 a2).get? (zh4 b1 b2 s1.heap a1 a2).objs.size=some {cls:=.type "zip",data:=.fields #[.none,.bool false,.bool false,.ref (zh2 b1 b2 s1.heap a1 a2).objs.size,.ref (zh3 b1 b2 s1.heap a1 a2).objs.size]}:=gr _ rfl;have g4:(zh5 b1 b2 s1.heap a1 a2).get? (zh3 b1 b2 s1.heap a1 a2).objs.size=some {cls:=.type "tuple",data:=.seq #[.none,.none]}:=gd _ (gr _ rfl);have g3:(zh5 b1 b2 s1.heap a1 a2).get? (zh2 b1 b2 s1.heap a1 a2).objs.size=some {cls:=.type "tuple",data:=.seq #[.ref s1.heap.objs.size,.ref (zh1 b1 s1.heap a1).objs.size]}:=gd _ (gd _ (gr _ rfl));have g2:(zh5 b1 b2 s1.heap a1 a2).get? (zh1 b1 s1.heap a1).objs.size=some {cls:=.type (itN b2),data:=.fields #[.ref a2,.int 0 0]}:=gd _ (gd _ (gd _ (gr _ rfl)));have g1:(zh5 b1 b2 s1.heap a1 a2).get? s1.heap.objs.size=some {cls:=.type (itN b1),data:=.fields #[.ref a1,.int 0 0]}:=gd _ (gd _ (gd _ (gd _ (gr _ rfl))));have kp:∀c o,s1.heap.get? c=some o->(zh5 b1 b2 s1.heap a1 a2).get? c=some o:=fun c o e=>gd _ (gd _ (gd _ (gd _ (gd _ e))));have I2:Inv X pins σ H1 {s1 with heap:=zh5 b1 b2 s1.heap a1 a2}:=I1.kept (t':=s1.toks) kp;refine⟨⟨_,g5,rfl⟩,wpAny_pyIter_zip g5 ?_⟩;refine⟨_,_,_,_,H1,rfl,I2,qii (b1:=b1) (b2:=b2) (a1:=a1) (a2:=a2) (i1:=s1.heap.objs.size) (i2:=(zh1 b1 s1.heap a1).objs.size) ?_,⟨g5,g3,⟨_,_,g4⟩,⟨_,g1,rfl,rfl⟩,⟨_,g2,rfl,rfl⟩⟩,fun c hc=>?_,q⟩
 ·constructor <;> (first|exact m9 (by lia)|exact uh (by lia))
 ·have hge:s1.heap.objs.size<=c:=by
   simp only [me,g09,g2l] at hc;rcases hc with rfl|rfl|rfl|rfl|rfl <;> lia
  exact I1.fpOk hge (I1.hok.fresh hge)
def qij(fa:FA): FA:=fun ρ =>(fa ρ).bind fun ds=>match ds with
 | [x,y]=>(q5e x).bind fun xs=>(q5e y).map fun ys=>q3v xs ys
 | _=>none
theorem qda{K:Frag}{F:Hp}{d:D}{ds:List D}{v:V}(h:q5e d=some ds)(r:Rep K F d v): ∃b a xs,v=.ref a/\Sq b K F a xs/\RepL K F ds xs:=by
 cases d <;> simp only [q5e] at h <;> first|(cases h;done)|skip
 ·cases h
  obtain⟨a,xs,rfl,h3,h4⟩:=rep_tup.mp r;exact⟨false,a,xs,rfl,h3,h4⟩
 ·cases h
  obtain⟨a,xs,rfl,h3,h4⟩:=rep_lst.mp r;exact⟨true,a,xs,rfl,h3,h4⟩
theorem qnr{a b:Expr}{fa:FA}{p:Pos}(hg:Gl X "zip")(hm:X.mg "zip" = none)(ha:PA X [a,b] (tDA X.K fa))(hs:starEach [a,b] X.env=[(false,eval a X.env),(false,eval b X.env)]:=by rfl)(hs2:starEach [b] X.env=[(false,eval b X.env)]:=by rfl):
  PI X (.Tuple elts x1 tp) (.Call (.Name "zip" p) [a,b] [] pos) (tDI X.K (qij fa)):=q6d (qnq hg hm ha hs hs2) fun σ H R ⟨F0,H0,F, ρ,ds,r,hf,q⟩=>by
 obtain⟨es,h1,h2⟩:=gc.mp hf;refine⟨F0,H0,F, ρ,es,r,h1,fun vs F' H' g' r'=>?_⟩
 split at h2
 ·rename_i x y
  obtain⟨xs,k1,h2⟩:=gc.mp h2;obtain⟨ys,k2,h2⟩:=gz.mp h2;subst h2;obtain⟨v1,t,rfl,e1,e2⟩:=r'.cons_inv;obtain⟨v2,t2,rfl,e3,e4⟩:=e2.cons_inv;cases e4.nil_inv;obtain⟨b1,a1,us,rfl,s1,l1⟩:=qda k1 e1;obtain⟨b2,a2,ws,rfl,s2,l2⟩:=qda k2 e3;exact⟨b1,a1,us,b2,a2,ws,rfl,kx g'.fh s1,kx g'.fh s2,q _ F' H' g' (qkw s1 s2 l1 l2)⟩
 ·cases h2
end
section
variable{X:Cx}{e:Expr}{es:List Expr}{kws:List Keyword}{pos:Pos}{f g:FE}{fa fk:FA}
end
structure Cal(P:Program)(w:World)(K:Frag)(mg:Str->Option Value)(base:Heap)(x:Str)(k:Nat)(ps:List Str)(ar:Nat)(op:List D->Option D)(fn:Addr)(fd:FuncData): Prop where
 ok:FnOk P w K mg base CX0 k fn fd ps (spD K ar op)
 mg:mg x=some (.ref fn)
 kp:PySem.W.keepIn K (.ref fn)=true
section
variable{X:Cx}{e:Expr}{es:List Expr}{kws:List Keyword}{pos p:Pos}{fa fk:FA}{k ar k':Nat}{fn:Addr}{fd:FuncData}{ps ks:List Str}{op:List D->Option D}{x:Str}
theorem qz(C:Cal X.prog X.w X.K X.mg X.base x k ps ar op fn fd)(b:Binds X.K fd ps [])(hr:Room k' X.A)(hk:k<=k')(hg:Gl X x)(ha:PA X (e :: es) (tDA X.K fa))(hdb:(x==("__debug__" : Str))=false:=by decide)
  (he:starEach (e :: es) X.env=(false,eval e X.env) :: starEach es X.env:=by rfl) (hpl:(backTo pos (starEach es X.env)).any (·.1)=false:=by rfl):PE X (.Call (.Name x p) (e :: es) [] pos) (tD X.K (qf (qk ar [] op) fa)):=
 qkq C.ok (hr.mono hk) hg C.mg C.kp b .nil (fun H=>.nil) ha hdb he hpl
def q1g:D->Option D
 | .int i=>some (.int (-i))
 | _=>none
theorem qg9{f:FE}(ha:PE X e (tD X.K f)): PE X (.UnaryOp .USub e pos) (tD X.K (eUn q1g f)):=by
 intro pins s σ H Q I h;obtain⟨F0,H0,F, ρ,d,r,hf,q⟩:=h;obtain⟨d',h1,h2⟩:=gc.mp hf;cases d' <;> simp only [q1g] at h2 <;> first|(cases h2;done)|skip
 cases h2;refine UnaryOp_ (thn (ha pins s σ H (fun v H'=>∃F',Grow F H F' H'/\Rep X.K F' (.int _) v) I ⟨F0,H0,F, ρ,_,r,h1,fun v F' H' g' r'=>⟨F',g',r'⟩⟩) fun v s1 ⟨x,H1,I1,r1,F',g',r'⟩=>?_);cases rep_int.mp r';obtain⟨t,rfl⟩:=r1;exact neg_int ⟨.int _,H1,I1.tok _,⟨_,rfl⟩,q _ F' H1 g' (rep_int.mpr rfl)⟩
end
structure Fun2(K:Frag)(x qual:Str)(st:Stmt)(dV:Value)(f:Addr)(fd:FuncData): Prop where
 ex:∃(oc:Value) (od:Option Addr) (kV doc pm:Value) (an:Option Addr) (cdv ct:Value) (osl:Array (Option Value)),
  fd=PySem.W.fnOf x qual (vz st) (qu st) (qc st) dV kV doc pm an cdv ct/\K.lookup f=some ⟨oc,od,.func fd,osl⟩/\PySem.W.codeIn K cdv qual=true
 kp:PySem.W.keepIn K (.ref f)=true
section
variable{P:Program}{w:World}{K:Frag}{mg:Str->Option Value}{base:Heap}{x qual:Str}{st:Stmt}{dV:Value}{f:Addr}{fd:FuncData}{N ps:List Str}
theorem Fun2.ok{k:Nat}{u:FS}(F:Fun2 K x qual st dV f fd)(S:FnScope N ps (qc st))
  (hb:∀(cdv:Value) (A:Around) (outer:List Env) (s:Shared) (H:Hp) (E:XK),Room k (A.deeper (envOfC qual (qc st) s.heap.objs.size f cdv))->PSs (zj CX0 P w K mg base N qual (qc st) f cdv A outer s H E).nox (qu st) (tDS K u)) :
  FnOk P w K mg base CX0 (k+1) f fd ps (spD K ps.length (z5 N.length u)):=by
 obtain⟨oc,od,kV,doc,pm,an,cdv,ct,osl,rfl,lk,hcd⟩:=F.ex;exact qjx lk hcd S fun A outer s H E hr=>hb cdv A outer s H E hr
theorem Fun2.okn{k n ar k1:Nat}{u:FS}(F:Fun2 K x qual st dV f fd)(S:FnScope N ps (qc st))(hn:N.length=n)(ha:ps.length=ar)(hk:k+1=k1)
  (hb:∀(cdv:Value) (A:Around) (outer:List Env) (s:Shared) (H:Hp) (E:XK),Room k (A.deeper (envOfC qual (qc st) s.heap.objs.size f cdv))->PSs (zj CX0 P w K mg base N qual (qc st) f cdv A outer s H E).nox (qu st) (tDS K u)) :
  FnOk P w K mg base CX0 k1 f fd ps (spD K ar (z5 n u)):=by
 subst hn ha hk;exact F.ok S hb
theorem qkx{oc:Value}{od an:Option Addr}{osl:Array (Option Value)}{kV doc pm cdv ct:Value}(l:K.lookup f=some ⟨oc,od,.func (PySem.W.fnOf x qual (vz st) (qu st) (qc st) dV kV doc pm an cdv ct),osl⟩)
  (c:PySem.W.codeIn K cdv qual=true) (k:PySem.W.keepIn K (.ref f)=true):Fun2 K x qual st dV f (PySem.W.fnOf x qual (vz st) (qu st) (qc st) dV kV doc pm an cdv ct):=⟨⟨oc,od,kV,doc,pm,an,cdv,ct,osl,rfl,l,c⟩,k⟩
theorem Fun2.bindsTo(F:Fun2 K x qual st dV f fd){P:FuncData->Prop}(h:∀(kV doc pm:Value) (an:Option Addr) (cdv ct:Value),P (PySem.W.fnOf x qual (vz st) (qu st) (qc st) dV kV doc pm an cdv ct)): P fd:=by
 obtain⟨oc,od,kV,doc,pm,an,cdv,ct,osl,rfl,lk,hcd⟩:=F.ex;exact h kV doc pm an cdv ct
end
def q9c(K:Frag): Sp:=fun vs H Q _=>∃(a:Addr) (ns:List Int) (F:Hp),vs=[.ref a]/\SameT F H/\SqL K F a (ns.map V.int)/\ns.length<=63/\∀H',Q (.bl true) H'
theorem qns{P:Program}{w:World}{K:Frag}{mg:Str->Option Value}{base:Heap}{k:Nat}{f:Addr}{fd:FuncData}{x:Str}{op:List D->Option D}(F:FnOk P w K mg base CX0 k f fd [x] (spD K 1 op))(h:∀ns:List Int,ns.length<=63->op [.lst (ns.map .int)]=some (.bl true)):
  FnOk P w K mg base CX0 k f fd [x] (q9c K):=F.imp fun vs H Q E ⟨a,ns,Fz,e,fz,hS,hl,q⟩=>by
 subst e;exact⟨Fz,[.lst (ns.map .int)],.bl true,fz,.cons (rep_lst.mpr ⟨a,_,rfl,hS,RepL.ints.mpr rfl⟩) .nil,rfl,h ns hl,fun v F' H' g' r'=>by rw [rep_bl.mp r'];exact q H'⟩
section
variable{X:Cx}{pos:Pos}{f g:FE}{a b:Expr}
abbrev oLt':=oLt
end
section
variable{X:Cx}{pos:Pos}{f g k:FE}{a b c:Expr}
theorem qdb{pins:List (Addr×Obj)}{σ : St}{H:Hp}{s:Shared}(I:Inv X pins σ H s): sysModules<s.heap.objs.size:=
 Nat.lt_trans (by decide) (I.mod.glob.keeps I.bk).lt
end
theorem q7e:fillsNumberSlot (.type "tuple") "mul" = pure false:=
 PySem.fillsNumberSlot_seq (id:="tuple.__mul__") (r:=some (.builtin "tuple.__rmul__")) g25.lookup (by decide +kernel) F.slot_tuple_rmul.lookup (by decide +kernel)
theorem qee:seqRepeat? (.type "tuple")=pure (some (.builtin "tuple.__mul__")):=by
 unfold seqRepeat?;rw [PySem.seqSlot_of (T:="tuple") (name:="__mul__") g25.lookup (by decide +kernel),PySem.seqSlot_of (T:="tuple") (name:="__rmul__") F.slot_tuple_rmul.lookup (by decide +kernel)]
 rfl
theorem qik(i:Int)(t:Tok)(l:Addr)(xs:Array Value)(n:Nat)(dd:Option Addr)(sl:Array (Option Value)):
  Meets (Builtin.«int.__rmul__» ⟨[.int i t,.ref l],[]⟩) (fun _ R s=>s.heap.get? l=some {cls:=.type "tuple",dict:=dd,data:=.seq xs n,slots:=sl}/\R (.ok (.ret Value.notImplemented)) s):=
 .of_wp fun prog w A R s h=>by
  obtain⟨hp,g,d,tk,os⟩:=s;obtain⟨hl,h⟩:=h
  wp_walk
  exact⟨_,rfl,h⟩
theorem qa1(i:Int)(t:Tok)(l:Addr)(xs:Array Value)(n:Nat)(dd:Option Addr)(sl:Array (Option Value))(h0:¬(decide (i < -(2 ^ 63)) || decide (i>=2 ^ 63))=true)(h1:(xs.isEmpty || i==1)=true):
  Meets (Builtin.«tuple.__mul__» ⟨[.ref l,.int i t],[]⟩) (fun _ R s=>s.heap.get? l=some {cls:=.type "tuple",dict:=dd,data:=.seq xs n,slots:=sl}/\R (.ok (.ret (.ref l))) s):=
 .of_wp fun prog w A R s h=>by
  obtain⟨hp,g,d,tk,os⟩:=s;obtain⟨hl,h⟩:=h;have f1:=g58;have f2:=g1d
  wp_walk using g02 hl
  refine g3l (nu h0) ?_
  wp_walk using g02 hl
  exact⟨_,rfl,h⟩
theorem qa2(i:Int)(t:Tok)(l:Addr)(xs:Array Value)(n:Nat)(dd:Option Addr)(sl:Array (Option Value))(h0:¬(decide (i < -(2 ^ 63)) || decide (i>=2 ^ 63))=true)(h1:¬(xs.isEmpty || i==1)=true)(h2:(decide (i<=0) || xs.isEmpty)=true):
  Meets (Builtin.«tuple.__mul__» ⟨[.ref l,.int i t],[]⟩) (fun _ R s=>s.heap.get? l=some {cls:=.type "tuple",dict:=dd,data:=.seq xs n,slots:=sl}/\R (.ok (.ret (.ref s.heap.objs.size))) {s with heap:=s.heap.push {cls:=.type "tuple",data:=.seq #[]} }):=
 .of_wp fun prog w A R s h=>by
  obtain⟨hp,g,d,tk,os⟩:=s;obtain⟨hl,h⟩:=h;have f1:=g58;have f2:=g1d
  wp_walk using g02 hl
  refine g3l (nu h0) ?_
  wp_walk using g02 hl
  exact⟨_,rfl,h⟩
theorem qa3(i:Int)(t:Tok)(l:Addr)(xs:Array Value)(n:Nat)(dd:Option Addr)(sl:Array (Option Value))(h0:¬(decide (i < -(2 ^ 63)) || decide (i>=2 ^ 63))=true)(h1:¬(xs.isEmpty || i==1)=true)(h2:¬(decide (i<=0) || xs.isEmpty)=true)
  (h3:¬((xs.size:Int)*i>(2 ^ 63-1) / 8)) (h4:¬Builtin.Tuple.tupleTooMany ((xs.size:Int)*i)=true) (h5:((List.replicate i.toNat xs).foldl (· ++ ·) #[]).size<=sizeLine) :
  Meets (Builtin.«tuple.__mul__» ⟨[.ref l,.int i t],[]⟩) (fun _ R s=>s.heap.get? l=some {cls:=.type "tuple",dict:=dd,data:=.seq xs n,slots:=sl}/\R (.ok (.ret (.ref s.heap.objs.size))) {s with heap:=s.heap.push {cls:=.type "tuple",data:=.seq ((List.replicate i.toNat xs).foldl (· ++ ·) #[])} }):=
 .of_wp fun prog w A R s h=>by
  obtain⟨hp,g,d,tk,os⟩:=s;obtain⟨hl,h⟩:=h;have f1:=g58;have f2:=g1d
  wp_walk using g02 hl
  refine g3l (nu h0) ?_
  wp_walk using g02 hl
  refine g3l (nu h3) ?_
  wp_walk using g02 hl
  exact⟨_,rfl,h⟩
theorem qa4(xs:Array Value): ∀(n:Nat) (acc:Array Value),((List.replicate n xs).foldl (· ++ ·) acc).toList=acc.toList++(List.replicate n xs.toList).flatten
 | 0,acc=>by simp
 | n+1,acc=>by
  rw [g0w,g5i,qa4 xs n (acc++xs),g0w,g1v,p8,mm]
theorem q89(xs:List Value)(n:Nat): (List.replicate n xs.toArray).foldl (· ++ ·) #[]=(List.replicate n xs).flatten.toArray:=by
 apply Array.toList_inj.mp;rw [qa4];simp
section
variable{prog:Program}{w:World}{A:Around}{E:Value->Shared->Prop}{s:Shared}
theorem qky{t:Addr}{vs:List Value}{i:Int}{u:Tok}{Q:Value->Shared->Prop}(ht:IsTup s.heap t vs.toArray)(h0 : -(2 ^ 62)<i)(h1:i<2 ^ 62)(hz:vs.length*i.toNat<=1000000)
  (q1:(vs=[]\/i=1)->Q (.ref t) s) (q2:¬(vs=[]\/i=1)->Q (.ref s.heap.objs.size) {s with heap:=s.heap.push {cls:=.type "tuple",data:=.seq (List.replicate i.toNat vs).flatten.toArray} }) :
  wpAny (model prog w) A (binaryOp .Mult (.ref t) (.int i u)) Q E s:=by
 obtain⟨⟨cls,dd,data,sl⟩,ho,hc,n,hd⟩:=id ht;simp only at hc hd;subst hc hd;have ty:s.TypeIs (.ref t) "tuple" :=⟨_,ho,rfl⟩
 have b0:¬(decide (i < -(2 ^ 63)) || decide (i>=2 ^ 63))=true:=by
  simp only [g0q,g0g,g5r]
  constructor <;> lia
 refine wpAny_binaryOp_repeat_ref (T:="tuple") (U:="int") (by decide) ty (fun s'=>typeIs_int s' i u) q7e F.fills_int_mul F.slot_int_rmul qee F.slot_int_index.lookup
  (g4u F.slot_int_rmul (typeIs_int s i u) F.entry_int_rmul (F.args_int_rmul_2 _ _) (qik i u t vs.toArray n dd sl) ⟨ho,rfl,ty,?_⟩)
 have em:vs.toArray.isEmpty=true↔vs=[]:=by simp
 by_cases c1:(vs.toArray.isEmpty || i==1)=true
 ·have c1':vs=[]\/i=1:=by simpa using c1
  exact g4u g25 ty g4o (g4b _ _) (qa1 i u t vs.toArray n dd sl b0 c1) ⟨ho,q1 c1'⟩
 ·have c1':¬(vs=[]\/i=1):=by simpa using c1
  have q:=q2 c1'
  by_cases c2:(decide (i<=0) || vs.toArray.isEmpty)=true
  ·have i0:i<=0:=by
    rcases g0q _ _ ▸ c2 with z|z
    ·exact g0f z
    ·exact absurd (.inl (em.mp z)) c1'
   have e:(List.replicate i.toNat vs).flatten.toArray = #[]:=by
    rw [show i.toNat=0 by lia];rfl
   rw [e] at q;exact g4u g25 ty g4o (g4b _ _) (qa2 i u t vs.toArray n dd sl b0 c1 c2) ⟨ho,q⟩
  ·have c2':0<i:=by
    have:¬i<=0:=fun z=>c2 (by rw [p7 z];rfl);lia
   have ei:(vs.toArray.size:Int)*i=((vs.length*i.toNat:Nat):Int):=by
    rw [Int.natCast_mul,g1k (by lia),gj]
   have el:(List.replicate i.toNat vs).flatten.length=vs.length*i.toNat:=by
    rw [List.length_flatten,List.map_replicate,g5n,Nat.mul_comm]
   rw [<- q89] at q;refine g4u g25 ty g4o (g4b _ _) (qa3 i u t vs.toArray n dd sl b0 c1 c2 ?_ ?_ ?_) ⟨ho,q⟩
   ·rw [ei];lia
   ·rw [ei]
    unfold Builtin.Tuple.tupleTooMany;have:sizeLine=16777216:=g28;rw [this,g0g];lia
   ·rw [q89,gj,el]
    exact ja hz
end
section
variable{X:Cx}
def qil:D->D->Option D
 | .tup xs,.int n=>if decide (-(2 ^ 62)<n)&&decide (n<2 ^ 62)&&decide (xs.length*n.toNat<=lim) then some (.tup (List.replicate n.toNat xs).flatten) else none
 | _,_=>none
theorem qa5{xs:List V}{us:List Value}(r:Vals xs us): ∀n:Nat,Vals (List.replicate n xs).flatten (List.replicate n us).flatten
 | 0=>.nil
 | n+1=>by rw [g0w,g0w,g1v,g1v];exact r.append (qa5 r n)
theorem qa6{K:Frag}{H:Hp}{ds:List D}{xs:List V}(r:RepL K H ds xs): ∀n:Nat,RepL K H (List.replicate n ds).flatten (List.replicate n xs).flatten
 | 0=>.nil
 | n+1=>by rw [g0w,g0w,g1v,g1v];exact r.append (qa6 r n)
theorem qnt:OpR X (binaryOp .Mult) (rD X.K qil):=fun pins s σ H x y v u Q I rx ry ⟨F,d1,d2,d,q1,q2,q3,q4,q5⟩=>by
 unfold qil at q4
 split at q4
 ·rename_i ds n
  split at q4
  ·rename_i hc
   cases q4;simp only [m6,g0g] at hc;obtain⟨⟨c1,c2⟩,c3⟩:=hc;obtain⟨p,xs,rfl,z1,z2⟩:=rep_tup.mp q2;cases rep_int.mp q3;cases rx;obtain⟨t,rfl⟩:=ry;obtain⟨its,r1,p1,hz⟩:=I.tuple (qh q1 z1);have lx:=r1.length;have ld:=z2.length;refine qky p1 c1 c2 (by rw [<- lx, <- ld];exact c3) (fun hq=>?_) fun hq=>?_
   ·have e:(List.replicate n.toNat ds).flatten=ds:=by
     rcases hq with z|z
     ·have:ds=[]:=g1l.mp (by rw [ld,lx,z];rfl)
      subst this;simp
     ·subst z;simp [List.replicate]
    rw [e] at q5;exact⟨.ref p,H,I,rfl,q5 _ F H (.refl q1) q2⟩
   ·have hn:H s.heap.objs.size=none:=I.hok.fresh (gu _)
    have rr:=qa5 r1 n.toNat;have el:(List.replicate n.toNat xs).flatten.length=ds.length*n.toNat:=by
     rw [List.length_flatten,List.map_replicate,g5n,Nat.mul_comm,ld]
    refine⟨.ref s.heap.objs.size,_,I.laid (t':=s.toks) (o:=.tup (List.replicate n.toNat xs).flatten) (fun b ob q=>gd _ q) (gu _) ⟨by rw [el];exact ja c3,_,rr,IsTup.new _ _⟩,rfl,?_⟩;have gn:=Grow.new (o:=.tup (List.replicate n.toNat xs).flatten) q1 hn;exact q5 _ _ _ gn (rep_tup.mpr ⟨_,_,rfl,SqT.of ql,(qa6 z2 n.toNat).mono gn.ff⟩)
  ·cases q4
 ·cases q4
def kb:D->D->Option D:=fun x y=>(oMul x y).or (qil x y)
theorem q1h:OpR X (binaryOp .Mult) (rD X.K kb):=q9p qnd qnt
end
section
variable{prog:Program}{w:World}{A:Around}{E:Value->Shared->Prop}{s:Shared}
end
section
variable{X:Cx}{pos:Pos}{elts:List Expr}{x1:Nat}{tp:Pos}
end
section
variable{X:Cx}{st:Stmt}
abbrev oBand:=oI (fun _ _=>true) fun i j=>Builtin.bitAnd i j
theorem qdc:OpR X (binaryOp .BitAnd) (rD X.K oBand):=qfs qmv
theorem q3w:∀ {l m:List Int},l.Perm m->l.Pairwise (· <= ·)->m.Pairwise (· <= ·)->l=m
 | [],m,p,_,_=>(p.nil_eq).symm ▸ rfl
 | x :: l,[],p,_,_=>by cases p.length_eq
 | x :: l,y :: m,p,.cons h1 h2,.cons k1 k2=>by
  have e:x=y:=by
   have hx:x∈y :: m:=p.mem_iff.mp m4;have hy:y∈x :: l:=p.mem_iff.mpr m4;rcases me.mp hx with e|hx
   ·exact e
   ·rcases me.mp hy with e|hy
    ·exact e.symm
    ·exact Int.le_antisymm (h1 y hy) (k1 x hx)
  subst e;rw [q3w (List.perm_cons _ |>.mp p) h2 k2]
theorem q0f:∀ {us:List Value} {ns:List Int},IntsAre us ns->Vals (ns.map V.int) us
 | _,_,.nil=>.nil
 | _,_,.cons n t h=>.cons ⟨t,rfl⟩ (q0f h)
theorem boot_sorted:bootBuiltins "sorted" = some (.builtin "sorted"):=by decide +kernel
end
section
variable{X:Cx}{pins:List (Addr×Obj)}{σ : St}{F H:Hp}{s:Shared}
end
end DL
namespace DL
open PySem PyProof.Rows L2
def rkD:D->Nat
 | .int _=>0
 | .tup _=>1
 | _=>2
mutual
def ki:D->D->Ordering
 | .int i,.int j=>if i<j then .lt else if j<i then .gt else .eq
 | .tup ds,.tup es=>wk ds es
 | d,e=>if rkD d<rkD e then .lt else if rkD e<rkD d then .gt else .eq
def wk:List D->List D->Ordering
 | [],[]=>.eq
 | [],_ :: _=>.lt
 | _ :: _,[]=>.gt
 | d :: ds,e :: es=>match ki d e with
  | .eq=>wk ds es
  | o=>o
end
def ltT(d e:D): Bool:=(ki d e).isLT
def k7(ds es:List D): Bool:=(wk ds es).isLT
mutual
/-- ints, and tuples of such -/
def kD:D->Bool
 | .int _=>true
 | .tup ds=>kDL ds
 | _=>false
def kDL:List D->Bool
 | []=>true
 | d :: ds=>kD d&&kDL ds
end
mutual
/-- where Python compares these two, it meets only ints with ints, tuples with tuples -/
def shD:D->D->Bool
 | .int _,.int _=>true
 | .tup ds,.tup es=>shL ds es
 | _,_=>false
def shL:List D->List D->Bool
 | d :: ds,e :: es=>shD d e&&shL ds es
 | _,_=>true
end
def q3x(k:D×D): List (D×D)->List (D×D)
 | []=>[k]
 | y :: r=>if ltT y.1 k.1=true then y :: q3x k r else k :: y :: r
def yt:List (D×D)->List (D×D)
 | []=>[]
 | x :: r=>q3x x (yt r)
theorem swap3{a b:Nat}: (if a<b then Ordering.lt else if b<a then .gt else .eq).swap=if b<a then .lt else if a<b then .gt else .eq:=by
 by_cases h:a<b
 ·rw [mi h,mf (by omega),mi h];rfl
 ·by_cases k:b<a
  ·rw [mf h,mi k,mi k];rfl
  ·rw [mf h,mf k,mf k,mf h];rfl
theorem swap4{a b:Int}: (if a<b then Ordering.lt else if b<a then .gt else .eq).swap=if b<a then .lt else if a<b then .gt else .eq:=by
 by_cases h:a<b
 ·rw [mi h,mf (by omega),mi h];rfl
 ·by_cases k:b<a
  ·rw [mf h,mi k,mi k];rfl
  ·rw [mf h,mf k,mf k,mf h];rfl
theorem qa7:∀n,(∀d e:D,sizeOf d<n->ki e d=(ki d e).swap)/\(∀ds es:List D,sizeOf ds<n->wk es ds=(wk ds es).swap):=by
 intro n
 induction n with
 | zero=>exact⟨fun d e h=>absurd h (ph _),fun d e h=>absurd h (ph _)⟩
 | succ n ih=>
  refine⟨fun d e hn=>?_,fun ds es hn=>?_⟩
  ·cases d <;> cases e <;> simp only [ki] <;> first
    | exact swap3.symm
    | exact swap4.symm
    | exact ih.2 _ _ (by simp at hn;omega)
  ·cases ds with
   | nil=>cases es <;> simp only [wk] <;> rfl
   | cons d ds=>
    cases es with
    | nil=>simp only [wk];rfl
    | cons e es=>
     simp only [wk];rw [ih.1 d e (by simp at hn;omega),ih.2 ds es (by simp at hn;omega)];cases ki d e <;> rfl
theorem cmp_swap(d e:D): ki e d=(ki d e).swap:=(qa7 (sizeOf d+1)).1 d e (uz _)
theorem ky(d e:D)(ds es:List D): k7 (d :: ds) (e :: es)=(ltT d e || (!ltT e d&&k7 ds es)):=by
 unfold k7 ltT;rw [cmp_swap d e,wk];cases ki d e <;> rfl
theorem q1i(ds:List D): k7 ds []=false:=by cases ds <;> simp only [k7,wk] <;> rfl
theorem yh(e:D)(es:List D): k7 [] (e :: es)=true:=by simp only [k7,wk];rfl
theorem lt3{a b:Nat}: (if a<b then Ordering.lt else if b<a then .gt else .eq).isLT=decide (a<b):=by
 by_cases h:a<b
 ·simp [h]
 ·by_cases k:b<a <;> simp [h,k]
theorem lt4{a b:Int}: (if a<b then Ordering.lt else if b<a then .gt else .eq).isLT=decide (a<b):=by
 by_cases h:a<b
 ·simp [h]
 ·by_cases k:b<a <;> simp [h,k]
theorem yu(ds es:List D): ltT (.tup ds) (.tup es)=k7 ds es:=by unfold ltT;simp only [ki];rfl
theorem ju(i j:Int): ltT (.int i) (.int j)=decide (i<j):=by unfold ltT;simp only [ki];exact lt4
theorem qa8{d e:D}(h:ltT d e=true): ltT e d=false:=by
 unfold ltT at h ⊢;rw [cmp_swap d e];cases q:ki d e <;> rw [q] at h <;> first|rfl|(cases h;done)
theorem wm(d e:D): (∃i j,d=.int i/\e=.int j)\/(∃ds es,d=.tup ds/\e=.tup es)\/ltT d e=decide (rkD d<rkD e):=by
 cases d <;> cases e <;> first
  | (left;exact⟨_,_,rfl,rfl⟩)
  | (right;left;exact⟨_,_,rfl,rfl⟩)
  | (right;right;simp only [ltT,ki];exact lt3)
theorem qef:∀n,(∀d e f:D,sizeOf d+sizeOf e+sizeOf f<n->ltT e d=false->ltT f e=false->ltT f d=false)/\(∀ds es fs:List D,sizeOf ds+sizeOf es+sizeOf fs<n->k7 es ds=false->k7 fs es=false->k7 fs ds=false):=by
 intro n
 induction n with
 | zero=>exact⟨fun d e f h=>absurd h (ph _),fun d e f h=>absurd h (ph _)⟩
 | succ n ih=>
  refine⟨fun d e f hn h k=>?_,fun ds es fs hn h k=>?_⟩
  ·rcases wm e d with⟨i,j,rfl,rfl⟩|⟨es,ds,rfl,rfl⟩|g1
   ·rcases wm f (.int i) with⟨i',j',rfl,z⟩|⟨es,ds,rfl,z⟩|g2
    ·cases z
     simp only [ju,ur] at h k ⊢;omega
    ·cases z
    ·rcases wm f (.int j) with⟨i',j',rfl,z⟩|⟨es,ds,rfl,z⟩|g3
     ·rw [ju,ur] at k
      simp only [ju,ur] at h ⊢;omega
     ·cases z
     ·rw [g3];simp [rkD]
   ·rcases wm f (.tup es) with⟨i',j',rfl,z⟩|⟨fs,es',rfl,z⟩|g2
    ·cases z
    ·cases z
     simp only [yu] at h k ⊢;exact ih.2 _ _ _ (by simp at hn;omega) h k
    ·rcases wm f (.tup ds) with⟨i',j',rfl,z⟩|⟨fs,es',rfl,z⟩|g3
     ·cases z
     ·cases z
      simp only [yu] at h k ⊢;exact ih.2 _ _ _ (by simp at hn;omega) h k
     ·rw [g2] at k;rw [g3];exact k
   ·rcases wm f e with⟨i,j,rfl,rfl⟩|⟨es,ds,rfl,rfl⟩|g2
    ·rcases wm (.int i) d with⟨i',j',z,rfl⟩|⟨fs,es',z,rfl⟩|g3
     ·cases z
      rw [ju,ur] at h;simp only [ju,ur] at k ⊢;omega
     ·cases z
     ·rw [g1] at h;rw [g3];exact h
    ·rcases wm (.tup es) d with⟨i',j',z,rfl⟩|⟨fs,es',z,rfl⟩|g3
     ·cases z
     ·cases z
      simp only [yu] at h k ⊢;exact ih.2 _ _ _ (by simp at hn;omega) h k
     ·rw [g1] at h;rw [g3];exact h
    ·rcases wm f d with⟨i,j,rfl,rfl⟩|⟨es,ds,rfl,rfl⟩|g3
     ·rw [g1] at h;rw [g2] at k
      cases e <;> simp [rkD] at h k
      rename_i m;have h':ltT (.int m) (.int j)=false:=by rw [g1];simp [rkD]
      have k':ltT (.int i) (.int m)=false:=by rw [g2];simp [rkD]
      simp only [ju,ur] at h' k' ⊢;omega
     ·rw [g1] at h;rw [g2] at k
      cases e <;> simp [rkD] at h k
      rename_i ms;have h':ltT (.tup ms) (.tup ds)=false:=by rw [g1];simp [rkD]
      have k':ltT (.tup es) (.tup ms)=false:=by rw [g2];simp [rkD]
      simp only [yu] at h' k' ⊢;exact ih.2 _ _ _ (by simp at hn;omega) h' k'
     ·rw [g1] at h;rw [g2] at k;rw [g3]
      simp only [ur] at h k ⊢;omega
  ·cases fs with
   | nil=>
    cases es with
    | nil=>exact h
    | cons e es=>rw [yh] at k;cases k
   | cons f fs=>
    cases ds with
    | nil=>rw [q1i]
    | cons d ds=>
     cases es with
     | nil=>rw [yh] at h;cases h
     | cons e es=>
      rw [ky] at h k ⊢;have z1:sizeOf d+sizeOf e+sizeOf f<n:=by simp at hn;omega
      have z2:sizeOf ds+sizeOf es+sizeOf fs<n:=by simp at hn;omega
      have z3:sizeOf e+sizeOf f+sizeOf d<n:=by simp at hn;omega
      have z4:sizeOf f+sizeOf d+sizeOf e<n:=by simp at hn;omega
      simp only [Bool.or_eq_false_iff,g5s,g2m] at h k ⊢;obtain⟨h1,h2⟩:=h;obtain⟨k1,k2⟩:=k;refine⟨ih.1 d e f z1 h1 k1,?_⟩;rcases h2 with h2|h2
      ·left
       cases q:ltT d f
       ·-- f <= d and e <= f give e <= d
        have:=ih.1 e f d z3 k1 q;rw [this] at h2;cases h2
       ·rfl
      ·rcases k2 with k2|k2
       ·left
        cases q:ltT d f
        ·have:=ih.1 f d e z4 q h1
         rw [this] at k2;cases k2
        ·rfl
       ·right
        exact ih.2 ds es fs z2 h2 k2
theorem qa9{d e f:D}(h:ltT e d=false)(k:ltT f e=false): ltT f d=false:=(qef (sizeOf d+sizeOf e+sizeOf f+1)).1 d e f (uz _) h k
theorem qga:∀n,(∀d e:D,sizeOf d<n->kD d=true->kD e=true->ltT d e=false->ltT e d=false->d=e)/\(∀ds es:List D,sizeOf ds<n->kDL ds=true->kDL es=true->k7 ds es=false->k7 es ds=false->ds=es):=by
 intro n
 induction n with
 | zero=>exact⟨fun d e h=>absurd h (ph _),fun d e h=>absurd h (ph _)⟩
 | succ n ih=>
  refine⟨fun d e hn kd ke h k=>?_,fun ds es hn kd ke h k=>?_⟩
  ·cases d <;> simp only [kD] at kd <;> first|(cases kd;done)|skip
   all_goals (cases e <;> simp only [kD] at ke <;> first|(cases ke;done)|skip)
   ·simp only [ju,ur] at h k
    congr 1;omega
   ·simp [ltT,ki,rkD] at h
   ·simp [ltT,ki,rkD] at k
   ·simp only [yu] at h k
    rw [ih.2 _ _ (by simp at hn;omega) kd ke h k]
  ·cases ds with
   | nil=>
    cases es with
    | nil=>rfl
    | cons e es=>rw [yh] at h;cases h
   | cons d ds=>
    cases es with
    | nil=>rw [yh] at k;cases k
    | cons e es=>
     rw [ky] at h k;simp only [kDL,m6] at kd ke;simp only [Bool.or_eq_false_iff,g5s,g2m] at h k;have hd:sizeOf d<n:=by simp at hn;omega
     have hds:sizeOf ds<n:=by simp at hn;omega
     have e1:=ih.1 d e hd kd.1 ke.1 h.1 k.1;have e2:=ih.2 ds es hds kd.2 ke.2 (h.2.resolve_left (by rw [k.1];simp)) (k.2.resolve_left (by rw [h.1];simp));rw [e1,e2]
theorem lt_eq{d e:D}(kd:kD d=true)(ke:kD e=true)(h:ltT d e=false)(k:ltT e d=false): d=e:=(qga (sizeOf d+1)).1 d e (uz _) kd ke h k
theorem q3y(x:D×D): ∀l,(q3x x l).Perm (x :: l)
 | []=>.refl _
 | y :: r=>by
  unfold q3x
  split
  ·exact((q3y x r).cons y).trans (.swap x y r)
  ·exact .refl _
theorem q6i:∀l,(yt l).Perm l
 | []=>.refl _
 | x :: r=>(q3y x _).trans ((q6i r).cons x)
def leT(x y:D×D): Prop:=ltT y.1 x.1=false
theorem q8a(x:D×D): ∀ {l:List (D×D)},l.Pairwise leT->(q3x x l).Pairwise leT
 | [],_=>.cons (fun _ h=>by cases h) .nil
 | y :: r,.cons h1 h2=>by
  unfold q3x
  split
  ·rename_i hxy
   refine .cons (fun z hz=>?_) (q8a x h2);rcases me.mp ((q3y x r).mem_iff.mp hz) with rfl|hz
   ·exact qa8 hxy
   ·exact h1 z hz
  ·rename_i hxy
   have hxy':ltT y.1 x.1=false:=by simpa using hxy
   refine .cons (fun z hz=>?_) (.cons h1 h2);rcases me.mp hz with rfl|hz
   ·exact hxy'
   ·exact qa9 hxy' (h1 z hz)
theorem q6j:∀l,(yt l).Pairwise leT
 | []=>.nil
 | x :: r=>q8a x (q6j r)
theorem qaa:∀ {l m:List (D×D)},l.Perm m->l.Pairwise leT->m.Pairwise leT->(∀x∈l,∀y∈l,ltT x.1 y.1=false->ltT y.1 x.1=false->x=y)->l=m
 | [],m,p,_,_,_=>(p.nil_eq).symm ▸ rfl
 | x :: l,[],p,_,_,_=>by cases p.length_eq
 | x :: l,y :: m,p,.cons h1 h2,.cons k1 k2,hu=>by
  have e:x=y:=by
   have hx:x∈y :: m:=p.mem_iff.mp m4;have hy:y∈x :: l:=p.mem_iff.mpr m4;rcases me.mp hx with e|hx
   ·exact e
   ·rcases me.mp hy with e|hy'
    ·exact e.symm
    ·exact hu x m4 y hy (k1 x hx) (h1 y hy')
  subst e;rw [qaa (List.perm_cons _ |>.mp p) h2 k2 (fun a ha b hb=>hu a (m5 _ ha) b (m5 _ hb))]
theorem q5i{l m:List (D×D)}(p:m.Perm l)(h:m.Pairwise leT)(hu:∀x∈l,∀y∈l,ltT x.1 y.1=false->ltT y.1 x.1=false->x=y): m=yt l:=
 qaa (p.trans (q6i l).symm) h (q6j l) (fun x hx y hy=>hu x (p.mem_iff.mp hx) y (p.mem_iff.mp hy))
end DL
namespace Srt
open PySem PyProof.Rows
structure Cmp(prog:Program)(w:World)(A:Around)(s:Shared)(κ : SortKind)(G:Value->Prop)(lt:Value->Value->Bool): Prop where
 ask:∀x y,G x->G y->∀Q:Bool->Shared->Prop,Q (lt x y) s->wpAny (model prog w) A (keyLt' κ x y) Q (fun _ _=>False) s
 asy:∀x y,lt x y=true->lt y x=false
 tra:∀x y z,lt y x=false->lt z y=false->lt z x=false
abbrev q0p:Bool->Keyed->Array Keyed->Nat->Nat->Nat->StateT SortSt Sem (Option Nat):=sortPriv% PySem.Builtin.gallop
noncomputable def qnu(far:Nat->StateT SortSt Sem (Option Bool))(n l0 r0:Nat): StateT SortSt Sem (Option Nat):=do
 let mut l:=l0
 let mut r:=r0
 for _ in [0:n] do
  if l>=r then break
  let c:=l+(r-l) / 2
  let some go <- far c|return none
  if go then l:=c+1 else r:=c
 return some r
noncomputable def qim(far:Nat->StateT SortSt Sem (Option Bool))(n hi0:Nat): StateT SortSt Sem (Option Nat):=do
 let mut u:=0
 let mut v:=1
 let mut l:=0
 let mut r:=0
 let some rg <- far hi0|return none
 if rg then
  let mo:=n-hi0
  for _ in [0:n] do
   if v>=mo then break
   let some go <- far (hi0+v)|return none
   if !go then break
   u:=v
   v:=2*v+1
  l:=hi0+u+1
  r:=hi0+min v mo
 else
  let mo:=hi0+1
  for _ in [0:n] do
   if v>=mo then break
   let some go <- far (hi0-v)|return none
   if go then break
   u:=v
   v:=2*v+1
  l:=hi0+1-min v mo
  r:=hi0-u
 for _ in [0:n] do
  if l>=r then break
  let c:=l+(r-l) / 2
  let some go <- far c|return none
  if go then l:=c+1 else r:=c
 return some r
noncomputable def qnv(lf:Bool)(ke:Keyed)(xs:Array Keyed)(ba i:Nat): StateT SortSt Sem (Option Bool):=do
 let x <- elem' xs (ba+i)
 if lf then lt' x ke else return (<- lt' ke x).map (!·)
theorem qkz(lf:Bool)(ke:Keyed)(xs:Array Keyed)(ba n hi0:Nat): q0p lf ke xs ba n hi0=qim (qnv lf ke xs ba) n hi0:=rfl
section
variable{prog:Program}{w:World}{A:Around}{E:Value->Shared->Prop}{s:Shared}{κ : SortKind}{G:Value->Prop}{lt:Value->Value->Bool}
def kz(p:Option Keyed): Value:=match p with|some p=>p.1|none=>.none
theorem q2j{C:Cmp prog w A s κ G lt}{st:SortSt}{x y:Keyed}{Q:Option Bool->SortSt->Prop}(hk:kindOf st = κ)(gx:G x.1)(gy:G y.1)(h:Q (some (lt x.1 y.1)) st):
  wpS (model prog w) A E s (lt' x y) Q st:=by
 rw [lt'_eq];refine gq (g2u ?_);rw [hk];exact gq (wpS_lift (g0i (tm (C.ask _ _ gx gy (fun b s'=>s'=s/\b=lt x.1 y.1) ⟨rfl,rfl⟩) (fun b s' h'=>by
  obtain⟨rfl,rfl⟩:=h';exact⟨rfl,md h⟩) fun _ _ e=>e.elim)))
theorem z6{st:SortSt}{xs:Array Keyed}{i:Nat}{Q:Keyed->SortSt->Prop}(hi:i<xs.size)(h:Q xs[i] st): wpS (model prog w) A E s (elem' xs i) Q st:=by
 rw [elem'_eq,g1e xs i hi];exact md h
def far1(lt:Value->Value->Bool)(lf:Bool)(ke x:Keyed): Bool:=if lf then lt x.1 ke.1 else !lt ke.1 x.1
theorem qin{st:SortSt}{far:Nat->StateT SortSt Sem (Option Bool)}{n hi0:Nat}{Q:Option Nat->SortSt->Prop}(f:Nat->Bool)(hh:hi0<n)
  (hfar:∀i,i<n->∀R:Option Bool->SortSt->Prop,R (some (f i)) st->wpS (model prog w) A E s (far i) R st)
  (mono':∀i j,i<=j->j<n->f j=true->f i=true)
  (h':∀k,k<=n->(∀i,i<k->f i=true)->(∀i,k<=i->i<n->f i=false)->Q (some k) st) :
  wpS (model prog w) A E s (qim far n hi0) Q st:=by
 unfold qim;have bin:∀l r,l<=r->r<=n->(∀i,i<l->f i=true)->(∀i,r<=i->i<n->f i=false)->wpS (model prog w) A E s (qnu far n l r) Q st:=by
  intro l r hlr hrn ha hb;unfold qnu;refine gq (tw (uj (I:=fun x c st'=>st'=st/\∃l r,c=(none,l,r)/\l<=r/\r<=n/\r-l<=n-x/\(∀i,i<l->f i=true)/\(∀i,r<=i->i<n->f i=false))
   (Q:=fun c st'=>st'=st/\∃r,c=(none,r,r)/\r<=n/\(∀i,i<r->f i=true)/\(∀i,r<=i->i<n->f i=false)) ?_ ?_ ?_) ?_)
  ·rintro x c st' _ hx ⟨rfl,l,r,rfl,h1,h2,h3,h4,h5⟩
   dsimp only
   by_cases hge:l>=r
   ·rw [mi hge]
    have:l=r:=by omega
    subst this;exact md ⟨rfl,l,rfl,h2,h4,h5⟩
   ·rw [mf hge]
    refine gq (hfar _ (by omega) _ ?_);cases e:f (l+(r-l) / 2)
    ·simp only [gf,p0]
     refine md ⟨rfl,_,_,rfl,by omega,by omega,by omega,h4,fun i i1 i2=>?_⟩;cases e':f i
     ·rfl
     ·rw [mono' _ _ i1 i2 e'] at e;cases e
    ·simp only [ny]
     exact md ⟨rfl,_,_,rfl,by omega,by omega,by omega,fun i i1=>mono' _ _ (by omega) (by omega) e,h5⟩
  ·rintro c st' ⟨rfl,l,r,rfl,h1,h2,h3,h4,h5⟩
   have:l=r:=by omega
   subst this;exact⟨rfl,l,rfl,h2,h4,h5⟩
  ·exact⟨rfl,l,r,rfl,hlr,hrn,by omega,ha,hb⟩
  ·rintro c st' ⟨rfl,r,rfl,h2,h4,h5⟩
   exact md (h' r h2 h4 h5)
 refine gq (hfar hi0 hh _ ?_);dsimp only;cases e0:f hi0
 ·simp only [gf,p0]
  refine gq (tw (uj (I:=fun x c st'=>st'=st/\∃u v,c=(none,u,v)/\u<v/\x+1<=v/\u<=hi0/\f (hi0-u)=false)
   (Q:=fun c st'=>st'=st/\∃u v,c=(none,u,v)/\u<v/\u<=hi0/\f (hi0-u)=false/\(v>=hi0+1\/f (hi0-v)=true)) ?_ ?_ ?_) ?_)
  ·rintro x c st' _ hx ⟨rfl,u,v,rfl,h1,h2,h3,h4⟩
   dsimp only
   by_cases hge:v>=hi0+1
   ·rw [mi hge]
    exact md ⟨rfl,u,v,rfl,h1,h3,h4,.inl hge⟩
   ·rw [mf hge]
    refine gq (hfar _ (by omega) _ ?_);cases e:f (hi0-v)
    ·simp only [gf,p0]
     exact md ⟨rfl,v,2*v+1,rfl,by omega,by omega,by omega,e⟩
    ·simp only [ny]
     exact md ⟨rfl,u,v,rfl,h1,h3,h4,.inr e⟩
  ·rintro c st' ⟨rfl,u,v,rfl,h1,h2,h3,h4⟩
   exact⟨rfl,u,v,rfl,h1,h3,h4,.inl (by omega)⟩
  ·exact⟨rfl,0,1,rfl,by omega,by omega,by omega,e0⟩
  ·rintro c st' ⟨rfl,u,v,rfl,h1,h3,h4,h5⟩
   dsimp only;refine bin (hi0+1-min v (hi0+1)) (hi0-u) (by omega) (by omega) (fun i hi=>?_) (fun i i1 i2=>?_)
   ·rcases h5 with h5|h5
    ·omega
    ·exact mono' _ _ (by omega) (by omega) h5
   ·cases e':f i
    ·rfl
    ·rw [mono' _ _ i1 i2 e'] at h4;cases h4
 ·simp only [ny]
  refine gq (tw (uj (I:=fun x c st'=>st'=st/\∃u v,c=(none,u,v)/\u<v/\x+1<=v/\hi0+u<n/\f (hi0+u)=true)
   (Q:=fun c st'=>st'=st/\∃u v,c=(none,u,v)/\u<v/\hi0+u<n/\f (hi0+u)=true/\(v>=n-hi0\/f (hi0+v)=false)) ?_ ?_ ?_) ?_)
  ·rintro x c st' _ hx ⟨rfl,u,v,rfl,h1,h2,h3,h4⟩
   dsimp only
   by_cases hge:v>=n-hi0
   ·rw [mi hge]
    exact md ⟨rfl,u,v,rfl,h1,h3,h4,.inl hge⟩
   ·rw [mf hge]
    refine gq (hfar _ (by omega) _ ?_);cases e:f (hi0+v)
    ·simp only [g1z,ny]
     exact md ⟨rfl,u,v,rfl,h1,h3,h4,.inr e⟩
    ·simp only [g0j,gf,p0]
     exact md ⟨rfl,v,2*v+1,rfl,by omega,by omega,by omega,e⟩
  ·rintro c st' ⟨rfl,u,v,rfl,h1,h2,h3,h4⟩
   exact⟨rfl,u,v,rfl,h1,h3,h4,.inl (by omega)⟩
  ·exact⟨rfl,0,1,rfl,by omega,by omega,by omega,e0⟩
  ·rintro c st' ⟨rfl,u,v,rfl,h1,h3,h4,h5⟩
   dsimp only;refine bin (hi0+u+1) (hi0+min v (n-hi0)) (by omega) (by omega) (fun i hi=>mono' _ (hi0+u) (by omega) (by omega) h4) (fun i i1 i2=>?_);rcases h5 with h5|h5
   ·omega
   ·cases e':f i
    ·rfl
    ·by_cases hv:v<=n-hi0
     ·rw [mono' _ _ (show hi0+v<=i by omega) i2 e'] at h5;cases h5
     ·omega
theorem q13(C:Cmp prog w A s κ G lt){st:SortSt}{lf:Bool}{ke:Keyed}{xs:Array Keyed}{ba n hi0:Nat}{Q:Option Nat->SortSt->Prop}(hk:kindOf st = κ)
  (gk:G ke.1) (gx:∀p∈xs.toList,G p.1) (hh:hi0<n) (hn:ba+n<=xs.size)
  (mono:∀i j,(hij:i<=j)->(hj:j<n)->far1 lt lf ke (xs[ba+j]'(by omega))=true->far1 lt lf ke (xs[ba+i]'(by omega))=true)
  (h:∀k,k<=n->(∀i,(hi:i<k)->(hi':i<n)->far1 lt lf ke (xs[ba+i]'(by omega))=true)->(∀i,k<=i->(hi:i<n)->far1 lt lf ke (xs[ba+i]'(by omega))=false)->Q (some k) st) :
  wpS (model prog w) A E s (q0p lf ke xs ba n hi0) Q st:=by
 rw [qkz];obtain⟨f,hf⟩:∃f:Nat->Bool,∀i,(hi:i<n)->f i=far1 lt lf ke (xs[ba+i]'(by omega)):=⟨fun i=>if hi:i<n then far1 lt lf ke (xs[ba+i]'(by omega)) else false,fun i hi=>by simp [hi]⟩
 refine qin f hh (fun i hi R hR=>?_) (fun i j hij hj e=>?_) (fun k hk1 a b=>?_)
 ·unfold qnv
  refine gq (z6 (by omega) ?_);have gi:G (xs[ba+i]'(by omega)).1:=gx _ (by simp);rw [hf i hi] at hR;unfold far1 at hR;cases lf
  ·simp only [gf,p0] at hR ⊢
   exact gq (q2j (C:=C) hk gk gi (md hR))
  ·simp only [ny] at hR ⊢
   exact q2j (C:=C) hk gi gk hR
 ·rw [hf i (by omega)];rw [hf j hj] at e
  exact mono i j hij hj e
 ·exact h k hk1 (fun i hi hi'=>by rw [<- hf i hi'];exact a i hi) (fun i hi hi'=>by rw [<- hf i hi'];exact b i hi hi')
end
def le(lt:Value->Value->Bool)(p q:Keyed): Prop:=lt q.1 p.1=false
structure MI(lt:Value->Value->Bool)(la lb o:List Keyed)(ia ib:Nat): Prop where
 perm:o.Perm (la.take ia++lb.take ib)
 ord:o.Pairwise (le lt)
 ua:∀p∈o,∀q∈la.drop ia,le lt p q
 ub:∀p∈o,∀q∈lb.drop ib,le lt p q
section
variable{lt:Value->Value->Bool}{la lb o:List Keyed}{ia ib:Nat}
theorem MI.swap(h:MI lt la lb o ia ib): MI lt lb la o ib ia:=⟨h.perm.trans u0,h.ord,h.ub,h.ua⟩
theorem q7f(sa:la.Pairwise (le lt))(h:ia<la.length): ∀q∈la.drop (ia+1),le lt la[ia] q:=by
 have e:=pb h;have s2:=g2n (i:=ia) sa;rw [e] at s2;exact(g12.mp s2).1
theorem MI.step(m:MI lt la lb o ia ib)(sa:la.Pairwise (le lt))(h:ia<la.length)(hq:∀q∈lb.drop ib,le lt la[ia] q): MI lt la lb (o++[la[ia]]) (ia+1) ib:=by
 have e:=pb h;refine⟨?_,?_,?_,?_⟩
 ·rw [p9 h]
  refine(m.perm.append_right _).trans ?_;rw [mm,mm];exact uk _ u0
 ·refine nj.mpr ⟨m.ord,g1m _ _,fun p hp q hq=>?_⟩
  rw [mw.mp hq];exact m.ua p hp _ (by rw [e];exact m4)
 ·intro p hp q hq'
  rcases nh.mp hp with hp|hp
  ·exact m.ua p hp q (by rw [e];exact m5 _ hq')
  ·rw [mw.mp hp]
   exact q7f sa h q hq'
 ·intro p hp q hq'
  rcases nh.mp hp with hp|hp
  ·exact m.ub p hp q hq'
  ·rw [mw.mp hp]
   exact hq q hq'
theorem MI.steps(m:MI lt la lb o ia ib)(sa:la.Pairwise (le lt)): ∀(k:Nat),ia+k<=la.length->(∀i,(hi:i<k)->(hl:ia+i<la.length)->∀q∈lb.drop ib,le lt la[ia+i] q) ->
  MI lt la lb (o++(la.drop ia).take k) (ia+k) ib
 | 0,_,_=>by simpa using m
 | k+1,hk,hq=>by
  have m':=MI.steps m sa k (by omega) (fun i hi hl=>hq i (by omega) hl);have m2:=m'.step sa (by omega) (hq k (by omega) (by omega));have e:(la.drop ia).take (k+1)=(la.drop ia).take k++[la[ia+k]]:=by
   rw [p9 (by simp;omega)];simp
  rw [e, <- mm];exact m2
theorem MI.fin(m:MI lt la lb o ia ib)(sa:la.Pairwise (le lt))(hb:lb.length<=ib): (o++la.drop ia).Perm (la++lb)/\(o++la.drop ia).Pairwise (le lt):=by
 refine⟨?_,nj.mpr ⟨m.ord,g2n sa,m.ua⟩⟩;have:=m.perm;rw [pd hb] at this;refine(this.append_right _).trans ?_;rw [mm];refine(uk _ u0).trans ?_;rw [<- mm,nk]
theorem MI.last(m:MI lt la lb o ia ib)(sa:la.Pairwise (le lt))(sb:lb.Pairwise (le lt))(hl:∀q∈lb.drop ib,∀p∈la.drop ia,le lt q p):
  (o++lb.drop ib++la.drop ia).Perm (la++lb)/\(o++lb.drop ib++la.drop ia).Pairwise (le lt):=by
 refine⟨?_,nj.mpr ⟨nj.mpr ⟨m.ord,g2n sb,m.ub⟩,g2n sa,fun p hp q hq=>?_⟩⟩
 ·have:=m.perm
  refine((this.append_right _).append_right _).trans ?_;have e1:(la.take ia++lb.take ib++lb.drop ib++la.drop ia)=la.take ia++(lb++la.drop ia):=by
   rw [mm (la.take ia),nk,mm]
  rw [e1];refine(uk _ u0).trans ?_;rw [<- mm,nk]
 ·rcases nh.mp hp with hp|hp
  ·exact m.ua p hp q hq
  ·exact hl p hp q hq
end
abbrev qeg:Array Keyed->Array Keyed->StateT SortSt Sem (Array Keyed):=sortPriv% PySem.Builtin.mergeLo
abbrev q0w(g:Nat): StateT SortSt Sem Unit:=modify fun z=>SortSt.mk' (kindOf z) (arrOf z) (pendingOf z) g (failedOf z)
theorem bc{α β : Type}{m:StateT SortSt Sem α}{f g : α -> StateT SortSt Sem β}(h:∀x,f x=g x): m >>= f=m >>= g:=by rw [funext h]
theorem bc2{α β : Type}{m n:StateT SortSt Sem α}{f g : α -> StateT SortSt Sem β}(hm:m=n)(h:∀x,f x=g x): m >>= f=n >>= g:=by rw [hm,funext h]
theorem fc{β : Type}{r:Std.Legacy.Range}{b : β}{f g:Nat -> β -> StateT SortSt Sem (ForInStep β)}(h:∀x u,f x u=g x u): forIn r b f=forIn r b g:=by
 rw [show f=g from funext fun x=>funext fun u=>h x u]
abbrev TI:=Option (Array Keyed)×Array Keyed×Nat×Nat×Nat×Nat
abbrev TG:=Option (Array Keyed)×Array Keyed×Nat×Nat×Nat×Nat×Nat
abbrev TO:=Option (Array Keyed)×Array Keyed×Nat×Nat×Nat
section
variable(a b:Array Keyed)
def fiL(o:Array Keyed)(i j:Nat): Array Keyed:=o++a.extract i a.size++b.extract j b.size
def laL(o:Array Keyed)(i j:Nat): Array Keyed:=o++b.extract j b.size++a.extract i a.size
noncomputable def loI(g:Nat)(t:TI): StateT SortSt Sem (ForInStep TI):=do
 match <- lt' (<- elem' b t.2.2.2.1) (<- elem' a t.2.2.1) with
 | some wi=>
  if wi=true then
   let x <- elem' b t.2.2.2.1
   if(t.2.2.2.1+1==b.size)=true then pure (.done (some (fiL a b (t.2.1.push x) t.2.2.1 (t.2.2.2.1+1)),t.2.1.push x,t.2.2.1,t.2.2.2.1+1,0,t.2.2.2.2.2+1))
   else if t.2.2.2.2.2+1>=g then pure (.done (none,t.2.1.push x,t.2.2.1,t.2.2.2.1+1,0,t.2.2.2.2.2+1))
   else pure (.yield (none,t.2.1.push x,t.2.2.1,t.2.2.2.1+1,0,t.2.2.2.2.2+1))
  else
   let x <- elem' a t.2.2.1
   if(t.2.2.1+1+1==a.size)=true then pure (.done (some (laL a b (t.2.1.push x) (t.2.2.1+1) t.2.2.2.1),t.2.1.push x,t.2.2.1+1,t.2.2.2.1,t.2.2.2.2.1+1,0))
   else if t.2.2.2.2.1+1>=g then pure (.done (none,t.2.1.push x,t.2.2.1+1,t.2.2.2.1,t.2.2.2.2.1+1,0))
   else pure (.yield (none,t.2.1.push x,t.2.2.1+1,t.2.2.2.1,t.2.2.2.2.1+1,0))
 | _=>pure (.done (some (fiL a b t.2.1 t.2.2.1 t.2.2.2.1),t.2.1,t.2.2.1,t.2.2.2.1,t.2.2.2.2.1,t.2.2.2.2.2))
noncomputable def loD(o:Array Keyed)(i j g c d:Nat): StateT SortSt Sem (ForInStep TG):=do
 let x <- elem' a i
 if(i+1+1==a.size)=true then pure (.done (some (laL a b (o.push x) (i+1) j),o.push x,i+1,j,g,c,d))
 else if(decide (c<7)&&decide (d<7))=true then pure (.done (none,o.push x,i+1,j,g,c,d))
 else pure (.yield (none,o.push x,i+1,j,g,c,d))
noncomputable def loC(o:Array Keyed)(i j g c d:Nat): StateT SortSt Sem (ForInStep TG):=do
 let x <- elem' b j
 if(j+1==b.size)=true then pure (.done (some (fiL a b (o.push x) i (j+1)),o.push x,i,j+1,g,c,d))
 else do
  match <- q0p true (<- elem' a i) b (j+1) (b.size-(j+1)) 0 with
  | some k=>
   if k>0 then
    if(j+1+k==b.size)=true then pure (.done (some (fiL a b (o.push x++b.extract (j+1) (j+1+k)) i (j+1+k)),o.push x++b.extract (j+1) (j+1+k),i,j+1+k,g,c,k))
    else loD a b (o.push x++b.extract (j+1) (j+1+k)) i (j+1+k) g c k
   else loD a b (o.push x) i (j+1) g c k
  | _=>pure (.done (some (fiL a b (o.push x) i (j+1)),o.push x,i,j+1,g,c,d))
noncomputable def loB(o:Array Keyed)(i j g c d:Nat): StateT SortSt Sem (ForInStep TG):=do
 q0w g
 match <- q0p false (<- elem' b j) a i (a.size-i) 0 with
 | some k=>
  if k>0 then
   if(i+k+1==a.size)=true then pure (.done (some (laL a b (o++a.extract i (i+k)) (i+k) j),o++a.extract i (i+k),i+k,j,g,k,d))
   else if(i+k==a.size)=true then pure (.done (some (fiL a b (o++a.extract i (i+k)) (i+k) j),o++a.extract i (i+k),i+k,j,g,k,d))
   else loC a b (o++a.extract i (i+k)) (i+k) j g k d
  else loC a b o i j g k d
 | _=>pure (.done (some (fiL a b o i j),o,i,j,g,c,d))
noncomputable def loG(t:TG): StateT SortSt Sem (ForInStep TG):=
 if t.2.2.2.2.1>1 then loB a b t.2.1 t.2.2.1 t.2.2.2.1 (t.2.2.2.2.1-1) t.2.2.2.2.2.1 t.2.2.2.2.2.2 else loB a b t.2.1 t.2.2.1 t.2.2.2.1 t.2.2.2.2.1 t.2.2.2.2.2.1 t.2.2.2.2.2.2
noncomputable def loO(t:TO): StateT SortSt Sem (ForInStep TO):=do
 let u <- forIn [0:a.size+b.size] ((none,t.2.1,t.2.2.1,t.2.2.2.1,0,0):TI) fun _=>loI a b t.2.2.2.2
 match u.1 with
 | some r=>pure (.done (some r,u.2.1,u.2.2.1,u.2.2.2.1,t.2.2.2.2))
 | none=>do
  rule "list.sort.gallop"
  let v <- forIn [0:a.size+b.size] ((none,u.2.1,u.2.2.1,u.2.2.2.1,t.2.2.2.2+1,u.2.2.2.2.1,u.2.2.2.2.2):TG) fun _=>loG a b
  match v.1 with
  | some r=>pure (.done (some r,v.2.1,v.2.2.1,v.2.2.2.1,v.2.2.2.2.1))
  | none=>do
   q0w (v.2.2.2.2.1+1)
   pure (.yield (none,v.2.1,v.2.2.1,v.2.2.2.1,v.2.2.2.2.1+1))
end
theorem qio(a b:Array Keyed): qeg a b=(do
 rule "list.sort.merge-lo"
 let all:=a.size+b.size
 let fi (o:Array Keyed) (i j:Nat):=o++a.extract i a.size++b.extract j b.size
 let la (o:Array Keyed) (i j:Nat):=o++b.extract j b.size++a.extract i a.size
 let mut o:Array Keyed:= #[<- elem' b 0]
 let mut i:=0
 let mut j:=1
 if j==b.size then return fi o i j
 if i+1==a.size then return la o i j
 let mut g:=gallopOf (<- get)
 for _ in [0:all] do
  let mut c:=0
  let mut d:=0
  for _ in [0:all] do
   let some wi <- lt' (<- elem' b j) (<- elem' a i)|return fi o i j
   if wi then
    o:=o.push (<- elem' b j);j:=j+1;d:=d+1;c:=0
    if j==b.size then return fi o i j
    if d>=g then break
   else
    o:=o.push (<- elem' a i);i:=i+1;c:=c+1;d:=0
    if i+1==a.size then return la o i j
    if c>=g then break
  rule "list.sort.gallop"
  g:=g+1
  for _ in [0:all] do
   if g>1 then g:=g-1
   q0w g
   let some k <- q0p false (<- elem' b j) a i (a.size-i) 0|return fi o i j
   c:=k
   if k>0 then
    o:=o++a.extract i (i+k);i:=i+k
    if i+1==a.size then return la o i j
    if i==a.size then return fi o i j
   o:=o.push (<- elem' b j);j:=j+1
   if j==b.size then return fi o i j
   let some k <- q0p true (<- elem' a i) b j (b.size-j) 0|return fi o i j
   d:=k
   if k>0 then
    o:=o++b.extract j (j+k);j:=j+k
    if j==b.size then return fi o i j
   o:=o.push (<- elem' a i);i:=i+1
   if i+1==a.size then return la o i j
   if c<7&&d<7 then break
  g:=g+1
  q0w g
 unsupported "internal:list.sort.merge-bound"):=rfl
theorem ql0 (a b:Array Keyed):qeg a b=(do
 rule "list.sort.merge-lo"
 let x <- elem' b 0
 if(1==b.size)=true then return fiL a b #[x] 0 1
 if(0+1==a.size)=true then return laL a b #[x] 0 1
 let z <- get
 let t <- forIn [0:a.size+b.size] ((none, #[x],0,1,gallopOf z):TO) fun _=>loO a b
 match t.1 with
 | some r=>pure r
 | none=>unsupported "internal:list.sort.merge-bound"):=by
 rw [qio];dsimp only;refine bc fun _=>bc fun x=>um rfl (fun _=>rfl) fun _=>um rfl (fun _=>rfl) fun _=>bc fun z=>bc2 (fc fun _ t=>?_) fun t=>?_
 ·unfold loO
  refine bc2 (fc fun _ u=>?_) fun u=>?_
  ·rfl
  ·cases e:u.1 with
   | some r=>rfl
   | none=>
    refine bc fun _=>bc2 (fc fun _ v=>?_) fun v=>?_
    ·unfold loG
     refine um rfl (fun _=>?_) (fun _=>?_)
     all_goals
      unfold loB;refine bc fun _=>bc fun y=>bc fun k=>?_;cases k with
      | none=>rfl
      | some k=>
       dsimp only;refine um rfl (fun _=>um rfl (fun _=>rfl) fun _=>um rfl (fun _=>rfl) fun _=>?_) (fun _=>?_)
       all_goals
        unfold loC;refine bc fun y=>um rfl (fun _=>rfl) fun _=>bc fun y=>bc fun k=>?_;cases k with
        | none=>rfl
        | some k=>rfl
    ·cases e:v.1 <;> rfl
 ·cases e:t.1 <;> rfl
def Eg(st st':SortSt): Prop:=kindOf st'=kindOf st/\arrOf st'=arrOf st/\pendingOf st'=pendingOf st/\failedOf st'=failedOf st
theorem Eg.rfl'(st:SortSt): Eg st st:=⟨rfl,rfl,rfl,rfl⟩
theorem Eg.trans{a b c:SortSt}(h:Eg a b)(k:Eg b c): Eg a c:=⟨k.1.trans h.1,k.2.1.trans h.2.1,k.2.2.1.trans h.2.2.1,k.2.2.2.trans h.2.2.2⟩
section
variable{prog:Program}{w:World}{A:Around}{E:Value->Shared->Prop}{s:Shared}{κ : SortKind}{G:Value->Prop}{lt:Value->Value->Bool}
theorem q2v{st:SortSt}{g:Nat}{Q:Unit->SortSt->Prop}(h:∀st',Eg st st'->Q () st'): wpS (model prog w) A E s (q0w g) Q st:=g3m (h _ ⟨rfl,rfl,rfl,rfl⟩)
variable{a b:Array Keyed}
def Rm(lt:Value->Value->Bool)(a b r:Array Keyed): Prop:=r.toList.Perm (a.toList++b.toList)/\r.toList.Pairwise (le lt)
structure Mh(G:Value->Prop)(lt:Value->Value->Bool)(a b:Array Keyed): Prop where
 ga:∀p∈a.toList,G p.1
 gb:∀p∈b.toList,G p.1
 sa:a.toList.Pairwise (le lt)
 sb:b.toList.Pairwise (le lt)
 ha:1<=a.size
 hb:1<=b.size
 first:∀q∈a.toList,lt (b[0]'hb).1 q.1=true
 last:∀q∈b.toList,lt q.1 (a[a.size-1]'(by lia)).1=true
def OkM(lt:Value->Value->Bool)(a b:Array Keyed)(n:Nat)(x:Option (Array Keyed))(o:Array Keyed)(i j:Nat): Prop:=match x with
 | some r=>Rm lt a b r
 | none=>MI lt a.toList b.toList o.toList i j/\i+1<a.size/\j<b.size/\n<=i+j
theorem q2w(x:Array Keyed)(i:Nat): (x.extract i x.size).toList=x.toList.drop i:=by
 rw [g0b];show(x.toList.drop i).take (x.size-i)=_;exact pd (by simp)
theorem fiR{o:Array Keyed}{i j:Nat}(m:MI lt a.toList b.toList o.toList i j)(sa:a.toList.Pairwise (le lt))(hj:j=b.size): Rm lt a b (fiL a b o i j):=by
 have:=m.fin sa (by simp;lia);unfold Rm fiL;subst hj;have e:(o++a.extract i a.size++b.extract b.size b.size).toList=o.toList++a.toList.drop i:=by
  rw [p8,p8,q2w,q2w];simp
 rw [e];exact this
theorem laR{o:Array Keyed}{i j:Nat}(H:Mh G lt a b)(C:Cmp prog w A s κ G lt)(m:MI lt a.toList b.toList o.toList i j)(hi:i+1=a.size): Rm lt a b (laL a b o i j):=by
 have e1:a.toList.drop i=[a[i]'(by lia)]:=by
  rw [pb (by simp;lia)];simp;lia
 have:=m.last H.sa H.sb (fun q hq p hp=>by
  rw [e1] at hp;rw [mw.mp hp];have h1:=H.last q (g3n hq);have e2:a[a.size-1]'(by have:=H.ha;lia)=a[i]'(by lia):=by congr 1;lia
  rw [e2] at h1;exact C.asy _ _ h1)
 unfold Rm laL;have e:(o++b.extract j b.size++a.extract i a.size).toList=o.toList++b.toList.drop j++a.toList.drop i:=by
  rw [p8,p8,q2w,q2w]
 rw [e];exact this
theorem qgb(C:Cmp prog w A s κ G lt){x y z:Keyed}(h:le lt x y)(k:le lt y z): le lt x z:=C.tra _ _ _ h k
theorem q4p(C:Cmp prog w A s κ G lt){l:List Keyed}(sl:l.Pairwise (le lt)){i:Nat}(hi:i<l.length){x:Keyed}(h:le lt x l[i]): ∀q∈l.drop i,le lt x q:=by
 intro q hq;rw [pb hi] at hq;rcases me.mp hq with rfl|hq
 ·exact h
 ·exact qgb C h (q7f sl hi q hq)
theorem q6k{l:List Keyed}(C:Cmp prog w A s κ G lt)(hr:∀x:Keyed,lt x.1 x.1=false)(sl:l.Pairwise (le lt)){i j:Nat}(hij:i<=j)(hj:j<l.length): le lt (l[i]'(by lia)) l[j]:=by
 rcases g60 i j with h|h
 ·exact g2e.mp sl i j (by lia) hj h
 ·have:i=j:=by lia
  subst this;exact hr _
theorem Cmp.irr(C:Cmp prog w A s κ G lt)(x:Value): lt x x=false:=by
 cases e:lt x x
 ·rfl
 ·have:=C.asy _ _ e;rw [e] at this;cases this
theorem ql1(C:Cmp prog w A s κ G lt)(H:Mh G lt a b){st:SortSt}{g n c d:Nat}{o:Array Keyed}{i j:Nat}(hk:kindOf st = κ)(h:OkM lt a b n none o i j):
  wpS (model prog w) A E s (loI a b g (none,o,i,j,c,d)) (fun r st'=>st'=st/\match r with
   | .done u=>OkM lt a b (n+1) u.1 u.2.1 u.2.2.1 u.2.2.2.1
   | .yield u=>u.1=none/\OkM lt a b (n+1) none u.2.1 u.2.2.1 u.2.2.2.1) st:=by
 obtain⟨m,hi,hj,hn⟩:=h;unfold loI;dsimp only;refine gq (z6 hj (gq (z6 (by lia) (gq (q2j (C:=C) hk (H.gb _ (by simp)) (H.ga _ (by simp)) ?_)))));dsimp only;cases e:lt (b[j]).1 (a[i]).1
 ·simp only [gf,p0]
  refine gq (z6 (by lia) ?_);have m2:MI lt a.toList b.toList (o.push a[i]).toList (i+1) j:=by
   have:=m.step H.sa (by simp;lia) (q4p C H.sb (by simp;lia) (i:=j) (x:=a.toList[i]'(by simp;lia)) (by simpa [le] using e))
   simpa using this
  split
  ·rename_i e2
   exact md ⟨rfl,laR H C m2 (by simpa using e2)⟩
  ·rename_i e2
   have e2':i+1+1≠a.size:=by simpa using e2
   split
   ·exact md ⟨rfl,m2,by first|lia|(dsimp only;lia),hj,by first|lia|(dsimp only;lia)⟩
   ·exact md ⟨rfl,rfl,m2,by first|lia|(dsimp only;lia),hj,by first|lia|(dsimp only;lia)⟩
 ·simp only [ny]
  refine gq (z6 hj ?_);have m2:MI lt a.toList b.toList (o.push b[j]).toList i (j+1):=by
   have:=m.swap.step H.sb (by simp;lia) (q4p C H.sa (by simp;lia) (i:=i) (x:=b.toList[j]'(by simp;lia)) (by have:=C.asy _ _ e;simpa [le] using this))
   simpa using this.swap
  split
  ·rename_i e2
   exact md ⟨rfl,fiR m2 H.sa (by simpa using e2)⟩
  ·rename_i e2
   have e2':j+1≠b.size:=by simpa using e2
   split
   ·exact md ⟨rfl,m2,by first|lia|(dsimp only;lia),by first|lia|(dsimp only;lia),by first|lia|(dsimp only;lia)⟩
   ·exact md ⟨rfl,rfl,m2,by first|lia|(dsimp only;lia),by first|lia|(dsimp only;lia),by first|lia|(dsimp only;lia)⟩
abbrev QG(lt:Value->Value->Bool)(a b:Array Keyed)(n:Nat)(st:SortSt): ForInStep TG->SortSt->Prop:=fun r st'=>Eg st st'/\match r with
   | .done u=>OkM lt a b n u.1 u.2.1 u.2.2.1 u.2.2.2.1
   | .yield u=>u.1=none/\OkM lt a b n none u.2.1 u.2.2.1 u.2.2.2.1
theorem qdd(C:Cmp prog w A s κ G lt)(H:Mh G lt a b){st:SortSt}{n g c d:Nat}{o:Array Keyed}{i j:Nat}(m:MI lt a.toList b.toList o.toList i j)(hi:i+1<a.size)(hj:j<b.size)(hn:n<=i+j)
  (hq:∀q∈b.toList.drop j,le lt a[i] q):wpS (model prog w) A E s (loD a b o i j g c d) (QG lt a b n st) st:=by
 unfold loD;refine gq (z6 (by lia) ?_);have m2:MI lt a.toList b.toList (o.push a[i]).toList (i+1) j:=by
  have:=m.step H.sa (by simp;lia) (by simpa using hq)
  simpa using this
 split
 ·rename_i e2
  exact md ⟨Eg.rfl' _,laR H C m2 (by simpa using e2)⟩
 ·rename_i e2
  have e2':i+1+1≠a.size:=by simpa using e2
  split
  ·exact md ⟨Eg.rfl' _,m2,by first|lia|(dsimp only;lia),hj,by first|lia|(dsimp only;lia)⟩
  ·exact md ⟨Eg.rfl' _,rfl,m2,by first|lia|(dsimp only;lia),hj,by first|lia|(dsimp only;lia)⟩
theorem qde(C:Cmp prog w A s κ G lt)(H:Mh G lt a b){st:SortSt}{n g c d:Nat}{o:Array Keyed}{i j:Nat}(hk:kindOf st = κ)(m:MI lt a.toList b.toList o.toList i j)(hi:i+1<a.size)(hj:j<b.size)(hn:n<=i+j)
  (hq:∀q∈a.toList.drop i,le lt b[j] q):wpS (model prog w) A E s (loC a b o i j g c d) (QG lt a b n st) st:=by
 unfold loC;refine gq (z6 hj ?_);have m2:MI lt a.toList b.toList (o.push b[j]).toList i (j+1):=by
  have:=m.swap.step H.sb (by simp;lia) (by simpa using hq)
  simpa using this.swap
 split
 ·rename_i e2
  exact md ⟨Eg.rfl' _,fiR m2 H.sa (by simpa using e2)⟩
 ·rename_i e2
  have e2':j+1≠b.size:=by simpa using e2
  refine gq (z6 (by lia) (gq (q13 C hk (H.ga _ (by simp)) H.gb (by lia) (by lia) (fun x y hxy hy h1=>?_) fun k hk1 k1 k2=>?_)))
  ·simp only [far1,ny] at h1 ⊢
   have hle:=q6k C (fun x=>C.irr _) H.sb (i:=j+1+x) (j:=j+1+y) (by lia) (by simp;lia);cases e3:lt (b[j+1+x]'(by lia)).1 (a[i]).1
   ·have:=C.tra _ _ _ e3 (by simpa [le] using hle)
    rw [this] at h1;cases h1
   ·rfl
  ·dsimp only
   have k1':∀x,(hx:x<k)->(hb:j+1+x<b.size)->lt (b[j+1+x]).1 (a[i]).1=true:=fun x hx hb=>by
    have:=k1 x hx (by lia);simpa [far1] using this
   have k2':∀q∈b.toList.drop (j+1+k),le lt a[i] q:=by
    intro q hq';obtain⟨y,hy,rfl⟩:=tu.mp hq';simp only [ui,ng] at hy;have:=k2 (k+y) (by lia) (by lia);simp only [far1,ny] at this;simp only [List.getElem_drop,g3o,le];rw [<- this]
    congr 3;lia
   split
   ·have m3:MI lt a.toList b.toList (o.push b[j]++b.extract (j+1) (j+1+k)).toList i (j+1+k):=by
     have:=m2.swap.steps H.sb k (by simp;lia) (fun x hx hl=>q4p C H.sa (i:=i) (by simp;lia) (by
      have:=C.asy _ _ (k1' x hx (by simpa using hl))
      simpa [le] using this))
     have e4:(o.push b[j]++b.extract (j+1) (j+1+k)).toList=(o.push b[j]).toList++(b.toList.drop (j+1)).take k:=by
      rw [p8,g0b];simp [List.extract]
     rw [e4];exact this.swap
    split
    ·rename_i e5
     exact md ⟨Eg.rfl' _,fiR m3 H.sa (by simpa using e5)⟩
    ·rename_i e5
     have e5':j+1+k≠b.size:=by simpa using e5
     exact qdd C H m3 hi (by lia) (by lia) k2'
   ·rename_i e5
    have:k=0:=by lia
    subst this;exact qdd C H m2 hi (by lia) (by lia) k2'
theorem ql2(C:Cmp prog w A s κ G lt)(H:Mh G lt a b){st:SortSt}{n g c d:Nat}{o:Array Keyed}{i j:Nat}(hk:kindOf st = κ)(h:OkM lt a b n none o i j):
  wpS (model prog w) A E s (loB a b o i j g c d) (QG lt a b n st) st:=by
 obtain⟨m,hi,hj,hn⟩:=h;unfold loB;refine gq (q2v fun st' eg=>?_);have hk':kindOf st' = κ :=eg.1.trans hk;have up:∀r st'',QG lt a b n st' r st''->QG lt a b n st r st'':=fun r st'' q=>⟨eg.trans q.1,q.2⟩
 refine gq (z6 hj (gq (q13 C hk' (H.gb _ (by simp)) H.ga (by lia) (by lia) (fun x y hxy hy h1=>?_) fun k hk1 k1 k2=>?_)))
 ·simp only [far1,gf,p0,g1w] at h1 ⊢
  have hle:=q6k C (fun x=>C.irr _) H.sa (i:=i+x) (j:=i+y) (by lia) (by simp;lia);exact C.tra _ _ _ (by simpa [le] using hle) h1
 ·dsimp only
  have k1':∀x,(hx:x<k)->(hb:i+x<a.size)->lt (b[j]).1 (a[i+x]).1=false:=fun x hx hb=>by
   have:=k1 x hx (by lia);simpa [far1] using this
  have hlt:i+k<a.size:=by
   rcases g60 (i+k) a.size with h1|h1
   ·exact h1
   ·have h2:=k1' (a.size-1-i) (by lia) (by lia)
    have h3:=H.last b[j] (by simp);have e2:a[i+(a.size-1-i)]'(by lia)=a[a.size-1]'(by lia):=by congr 1;lia
    rw [e2,h3] at h2;cases h2
  have k2':∀q∈a.toList.drop (i+k),le lt b[j] q:=by
   intro q hq';obtain⟨y,hy,rfl⟩:=tu.mp hq';simp only [ui,ng] at hy;have:=k2 (k+y) (by lia) (by lia);simp only [far1,gf,p0,g2m] at this;have:=C.asy _ _ this;simp only [List.getElem_drop,g3o,le];rw [<- this]
   congr 3;lia
  split
  ·have m3:MI lt a.toList b.toList (o++a.extract i (i+k)).toList (i+k) j:=by
    have:=m.steps H.sa k (by simp;lia) (fun x hx hl=>q4p C H.sb (i:=j) (by simp;lia) (by
     have:=k1' x hx (by simpa using hl)
     simpa [le] using this))
    have e4:(o++a.extract i (i+k)).toList=o.toList++(a.toList.drop i).take k:=by
     rw [p8,g0b];simp [List.extract]
    rw [e4];exact this
   split
   ·rename_i e5
    exact md (up _ _ ⟨Eg.rfl' _,laR H C m3 (by simpa using e5)⟩)
   ·rename_i e5
    have e5':i+k+1≠a.size:=by simpa using e5
    split
    ·rename_i e6
     have e6':i+k=a.size:=by simpa using e6
     lia
    ·exact tw (qde C H hk' m3 (by lia) hj (by lia) k2') up
  ·rename_i e5
   have:k=0:=by lia
   subst this;exact tw (qde C H hk' m hi hj (by lia) k2') up
theorem ql3(C:Cmp prog w A s κ G lt)(H:Mh G lt a b){st:SortSt}{n:Nat}{t:TO}(ht:t.1=none)(hk:kindOf st = κ)(h:OkM lt a b n none t.2.1 t.2.2.1 t.2.2.2.1):
  wpS (model prog w) A E s (loO a b t) (fun r st'=>Eg st st'/\match r with
   | .done u=>(∃x,u.1=some x)/\OkM lt a b (n+1) u.1 u.2.1 u.2.2.1 u.2.2.2.1
   | .yield u=>u.1=none/\OkM lt a b (n+1) none u.2.1 u.2.2.1 u.2.2.2.1) st:=by
 unfold loO;refine gq (tw (uj (I:=fun x u st'=>st'=st/\u.1=none/\OkM lt a b (n+x) none u.2.1 u.2.2.1 u.2.2.2.1)
  (Q:=fun u st'=>st'=st/\OkM lt a b (n+1) u.1 u.2.1 u.2.2.1 u.2.2.2.1) ?_ ?_ ⟨rfl,rfl,h⟩) ?_)
 ·rintro x ⟨u1,o,i,j,c,d⟩ st' _ hx ⟨rfl,rfl,h'⟩
  refine tw (ql1 C H hk h') ?_
  rintro r st'' ⟨rfl,hr⟩
  cases r with
  | done u=>
   refine⟨rfl,?_⟩;dsimp only at hr ⊢;unfold OkM at hr ⊢
   split at hr
   ·exact hr
   ·exact⟨hr.1,hr.2.1,hr.2.2.1,by lia⟩
  | yield u=>exact⟨rfl,hr.1,hr.2.1,hr.2.2.1,hr.2.2.2.1,by have:=hr.2.2.2.2;lia⟩
 ·rintro u st' ⟨rfl,hu,m,h1,h2,h3⟩
  rw [hu];exact⟨rfl,m,h1,h2,by lia⟩
 ·rintro⟨u1,o,i,j,c,d⟩ st' ⟨rfl,hu⟩
  cases u1 with
  | some r=>exact md ⟨Eg.rfl' _,⟨r,rfl⟩,hu⟩
  | none=>
   dsimp only at hu ⊢;refine gq (wpS_lift (g00 ⟨rfl,?_⟩));refine gq (tw (uj (I:=fun x v st''=>Eg st' st''/\v.1=none/\OkM lt a b (n+1) none v.2.1 v.2.2.1 v.2.2.2.1)
    (Q:=fun v st''=>Eg st' st''/\OkM lt a b (n+1) v.1 v.2.1 v.2.2.1 v.2.2.2.1) ?_ ?_ ⟨Eg.rfl' _,rfl,hu⟩) ?_)
   ·rintro x ⟨v1,o,i,j,g,c,d⟩ st'' _ hx ⟨eg,rfl,h'⟩
    unfold loG;dsimp only at h' ⊢;have key:∀g',wpS (model prog w) A E s (loB a b o i j g' c d) (fun r st3=>match r with
      | .done v=>Eg st' st3/\OkM lt a b (n+1) v.1 v.2.1 v.2.2.1 v.2.2.2.1
      | .yield v=>Eg st' st3/\v.1=none/\OkM lt a b (n+1) none v.2.1 v.2.2.1 v.2.2.2.1) st'':=by
     intro g';refine tw (ql2 C H (eg.1.trans hk) h') ?_
     rintro r st3 ⟨eg3,hr⟩
     cases r with
     | done v=>exact⟨eg.trans eg3,hr⟩
     | yield v=>exact⟨eg.trans eg3,hr⟩
    split
    ·exact tw (key _) fun r st3 hr=>by cases r <;> exact hr
    ·exact tw (key _) fun r st3 hr=>by cases r <;> exact hr
   ·rintro v st'' ⟨eg,hv,h'⟩
    rw [hv];exact⟨eg,h'⟩
   ·rintro⟨v1,o,i,j,g,c,d⟩ st'' ⟨eg,hv⟩
    cases v1 with
    | some r=>exact md ⟨eg,⟨r,rfl⟩,hv⟩
    | none=>
     dsimp only at hv ⊢;exact gq (q2v fun st3 eg3=>md ⟨eg.trans eg3,rfl,hv⟩)
theorem ql4(C:Cmp prog w A s κ G lt)(H:Mh G lt a b){st:SortSt}{Q:Array Keyed->SortSt->Prop}(hk:kindOf st = κ)(h:∀r st',Eg st st'->Rm lt a b r->Q r st'):
  wpS (model prog w) A E s (qeg a b) Q st:=by
 rw [ql0];refine gq (wpS_lift (g00 ⟨rfl,?_⟩));have hb:=H.hb;have ha:=H.ha;refine gq (z6 (by lia) ?_);have m:MI lt a.toList b.toList (#[b[0]]:Array Keyed).toList 0 1:=by
  refine⟨?_,?_,?_,?_⟩
  ·have e:b.toList.take 1=[b[0]]:=by
    rw [show(1:Nat)=0+1 from rfl,p9 (by simp;lia)];simp
   rw [e];simp
  ·simp
  ·intro p hp q hq
   have:p=b[0]:=by simpa using hp
   subst this;exact C.asy _ _ (H.first q (by simpa using hq))
  ·intro p hp q hq
   have:p=b[0]:=by simpa using hp
   subst this;have:=q7f H.sb (ia:=0) (by simp;lia) q hq
   simpa using this
 split
 ·rename_i e
  exact md (h _ _ (Eg.rfl' _) (fiR m H.sa (by simpa using e)))
 ·rename_i e
  have e':1≠b.size:=by simpa using e
  split
  ·rename_i e2
   exact md (h _ _ (Eg.rfl' _) (laR H C m (by simpa using e2)))
  ·rename_i e2
   have e2':1≠a.size:=by simpa using e2
   refine gq (g2u ?_);refine gq (tw (uj (I:=fun x u st'=>Eg st st'/\u.1=none/\OkM lt a b x none u.2.1 u.2.2.1 u.2.2.2.1)
    (Q:=fun u st'=>Eg st st'/\∃r,u.1=some r/\Rm lt a b r) ?_ ?_ ⟨Eg.rfl' _,rfl,m,by first|lia|(dsimp only;lia),by first|lia|(dsimp only;lia),by first|lia|(dsimp only;lia)⟩) ?_)
   ·rintro x t st' _ hx ⟨eg,ht,h'⟩
    refine tw (ql3 C H ht (eg.1.trans hk) h') ?_
    rintro r st'' ⟨eg2,hr⟩
    cases r with
    | done u=>
     obtain⟨⟨r,hr1⟩,hr2⟩:=hr;rw [hr1] at hr2;exact⟨eg.trans eg2,r,hr1,hr2⟩
    | yield u=>exact⟨eg.trans eg2,hr.1,hr.2⟩
   ·rintro u st' ⟨eg,hu,_,h1,h2,h3⟩
    lia
   ·rintro⟨u1,u2⟩ st' ⟨eg,r,hr,hR⟩
    cases hr;exact md (h _ _ eg hR)
end
structure MJ(lt:Value->Value->Bool)(la lb o:List Keyed)(ia ib:Nat): Prop where
 perm:o.Perm (la.drop ia++lb.drop ib)
 ord:o.Pairwise (fun p q=>le lt q p)
 ua:∀p∈o,∀q∈la.take ia,le lt q p
 ub:∀p∈o,∀q∈lb.take ib,le lt q p
section
variable{lt:Value->Value->Bool}{la lb o:List Keyed}{ia ib:Nat}
theorem MJ.swap(h:MJ lt la lb o ia ib): MJ lt lb la o ib ia:=⟨h.perm.trans u0,h.ord,h.ub,h.ua⟩
theorem q7g(sa:la.Pairwise (le lt))(h:ia<la.length): ∀q∈la.take ia,le lt q la[ia]:=by
 have s2:=g2o (i:=ia+1) sa;rw [p9 h] at s2;intro q hq;exact(nj.mp s2).2.2 q hq _ (mw.mpr rfl)
theorem MJ.step(m:MJ lt la lb o (ia+1) ib)(sa:la.Pairwise (le lt))(h:ia<la.length)(hq:∀q∈lb.take ib,le lt q la[ia]): MJ lt la lb (o++[la[ia]]) ia ib:=by
 have e:=pb h;have e2:=p9 h;refine⟨?_,?_,?_,?_⟩
 ·rw [e]
  refine(m.perm.append_right _).trans ?_;refine u0.trans ?_;exact g40 _
 ·refine nj.mpr ⟨m.ord,g1m _ _,fun p hp q hq=>?_⟩
  rw [mw.mp hq];exact m.ua p hp _ (by rw [e2];exact n8 _ (mw.mpr rfl))
 ·intro p hp q hq'
  rcases nh.mp hp with hp|hp
  ·exact m.ua p hp q (by rw [e2];exact g23 _ hq')
  ·rw [mw.mp hp]
   exact q7g sa h q hq'
 ·intro p hp q hq'
  rcases nh.mp hp with hp|hp
  ·exact m.ub p hp q hq'
  ·rw [mw.mp hp]
   exact hq q hq'
theorem MJ.steps(m:MJ lt la lb o ia ib)(sa:la.Pairwise (le lt))(hia:ia<=la.length): ∀(k:Nat),k<=ia->(∀i,(h1:ia-k<=i)->(h2:i<ia)->∀q∈lb.take ib,le lt q (la[i]'(by lia))) ->
  MJ lt la lb (o++((la.drop (ia-k)).take k).reverse) (ia-k) ib
 | 0,_,_=>by simpa using m
 | k+1,hk,hq=>by
  have m':=MJ.steps m sa hia k (by lia) (fun i h1 h2=>hq i (by lia) h2);have e0:ia-k=ia-(k+1)+1:=by lia
  rw [e0] at m';have m2:=m'.step sa (by lia) (hq (ia-(k+1)) (by lia) (by lia));have e:((la.drop (ia-(k+1))).take (k+1)).reverse=((la.drop (ia-(k+1)+1)).take k).reverse++[la[ia-(k+1)]]:=by
   rw [pb (by lia),List.take_succ_cons,List.reverse_cons]
  rw [e, <- mm];exact m2
theorem qdf{o:List Keyed}(h:o.Pairwise (fun p q=>le lt q p)): o.reverse.Pairwise (le lt):=List.pairwise_reverse.mpr h
theorem MJ.fin(m:MJ lt la lb o ia ib)(sb:lb.Pairwise (le lt))(ha:ia=0): (lb.take ib++o.reverse).Perm (la++lb)/\(lb.take ib++o.reverse).Pairwise (le lt):=by
 subst ha;refine⟨?_,nj.mpr ⟨g2o sb,qdf m.ord,fun q hq p hp=>m.ub p (List.mem_reverse.mp hp) q hq⟩⟩;have:=m.perm;rw [g3y] at this;refine(uk _ ((List.reverse_perm _).trans this)).trans ?_;refine u0.trans ?_;rw [mm];refine uk _ ?_;exact u0.trans (by rw [nk])
theorem MJ.last(m:MJ lt la lb o ia ib)(sa:la.Pairwise (le lt))(sb:lb.Pairwise (le lt))(hl:∀q∈lb.take ib,∀p∈la.take ia,le lt q p):
  (lb.take ib++la.take ia++o.reverse).Perm (la++lb)/\(lb.take ib++la.take ia++o.reverse).Pairwise (le lt):=by
 refine⟨?_,nj.mpr ⟨nj.mpr ⟨g2o sb,g2o sa,hl⟩,qdf m.ord,fun q hq p hp=>?_⟩⟩
 ·refine(uk _ ((List.reverse_perm _).trans m.perm)).trans ?_
  rw [mm, <- mm (la.take ia),nk];refine(uk _ u0).trans ?_;rw [<- mm,nk];exact u0
 ·have hp':=List.mem_reverse.mp hp
  rcases nh.mp hq with hq|hq
  ·exact m.ub p hp' q hq
  ·exact m.ua p hp' q hq
end
abbrev qeh:Array Keyed->Array Keyed->StateT SortSt Sem (Array Keyed):=sortPriv% PySem.Builtin.mergeHi
abbrev TJI:=Option (Array Keyed)×Nat×Nat×Array Keyed×Nat×Nat
abbrev TJG:=Option (Array Keyed)×Nat×Nat×Array Keyed×Nat×Nat×Nat
abbrev TJO:=Option (Array Keyed)×Nat×Nat×Array Keyed×Nat
section
variable(a b:Array Keyed)
def fiH(o:Array Keyed)(i j:Nat): Array Keyed:=a.extract 0 i++b.extract 0 j++o.reverse
def laH(o:Array Keyed)(i j:Nat): Array Keyed:=b.extract 0 j++a.extract 0 i++o.reverse
noncomputable def hiI(g:Nat)(t:TJI): StateT SortSt Sem (ForInStep TJI):=do
 match <- lt' (<- elem' b (t.2.2.1-1)) (<- elem' a (t.2.1-1)) with
 | some wi=>
  if wi=true then
   let x <- elem' a (t.2.1-1)
   if(t.2.1-1==0)=true then pure (.done (some (fiH a b (t.2.2.2.1.push x) (t.2.1-1) t.2.2.1),t.2.1-1,t.2.2.1,t.2.2.2.1.push x,t.2.2.2.2.1+1,0))
   else if t.2.2.2.2.1+1>=g then pure (.done (none,t.2.1-1,t.2.2.1,t.2.2.2.1.push x,t.2.2.2.2.1+1,0))
   else pure (.yield (none,t.2.1-1,t.2.2.1,t.2.2.2.1.push x,t.2.2.2.2.1+1,0))
  else
   let x <- elem' b (t.2.2.1-1)
   if(t.2.2.1-1==1)=true then pure (.done (some (laH a b (t.2.2.2.1.push x) t.2.1 (t.2.2.1-1)),t.2.1,t.2.2.1-1,t.2.2.2.1.push x,0,t.2.2.2.2.2+1))
   else if t.2.2.2.2.2+1>=g then pure (.done (none,t.2.1,t.2.2.1-1,t.2.2.2.1.push x,0,t.2.2.2.2.2+1))
   else pure (.yield (none,t.2.1,t.2.2.1-1,t.2.2.2.1.push x,0,t.2.2.2.2.2+1))
 | _=>pure (.done (some (fiH a b t.2.2.2.1 t.2.1 t.2.2.1),t.2.1,t.2.2.1,t.2.2.2.1,t.2.2.2.2.1,t.2.2.2.2.2))
noncomputable def hiD(i j:Nat)(o:Array Keyed)(g c d:Nat): StateT SortSt Sem (ForInStep TJG):=do
 let x <- elem' a (i-1)
 if(i-1==0)=true then pure (.done (some (fiH a b (o.push x) (i-1) j),i-1,j,o.push x,g,c,d))
 else if(decide (c<7)&&decide (d<7))=true then pure (.done (none,i-1,j,o.push x,g,c,d))
 else pure (.yield (none,i-1,j,o.push x,g,c,d))
noncomputable def hiC(i j:Nat)(o:Array Keyed)(g c d:Nat): StateT SortSt Sem (ForInStep TJG):=do
 let x <- elem' b (j-1)
 if(j-1==1)=true then pure (.done (some (laH a b (o.push x) i (j-1)),i,j-1,o.push x,g,c,d))
 else do
  match <- q0p true (<- elem' a (i-1)) b 0 (j-1) (j-1-1) with
  | some z=>
   if j-1-z>0 then
    if(z==1)=true then pure (.done (some (laH a b (o.push x++(b.extract z (j-1)).reverse) i z),i,z,o.push x++(b.extract z (j-1)).reverse,g,c,j-1-z))
    else if(z==0)=true then pure (.done (some (fiH a b (o.push x++(b.extract z (j-1)).reverse) i z),i,z,o.push x++(b.extract z (j-1)).reverse,g,c,j-1-z))
    else hiD a b i z (o.push x++(b.extract z (j-1)).reverse) g c (j-1-z)
   else hiD a b i (j-1) (o.push x) g c (j-1-z)
  | _=>pure (.done (some (fiH a b (o.push x) i (j-1)),i,j-1,o.push x,g,c,d))
noncomputable def hiB(i j:Nat)(o:Array Keyed)(g c d:Nat): StateT SortSt Sem (ForInStep TJG):=do
 q0w g
 match <- q0p false (<- elem' b (j-1)) a 0 i (i-1) with
 | some z=>
  if i-z>0 then
   if(z==0)=true then pure (.done (some (fiH a b (o++(a.extract z i).reverse) z j),z,j,o++(a.extract z i).reverse,g,i-z,d))
   else hiC a b z j (o++(a.extract z i).reverse) g (i-z) d
  else hiC a b i j o g (i-z) d
 | _=>pure (.done (some (fiH a b o i j),i,j,o,g,c,d))
noncomputable def hiG(t:TJG): StateT SortSt Sem (ForInStep TJG):=
 if t.2.2.2.2.1>1 then hiB a b t.2.1 t.2.2.1 t.2.2.2.1 (t.2.2.2.2.1-1) t.2.2.2.2.2.1 t.2.2.2.2.2.2 else hiB a b t.2.1 t.2.2.1 t.2.2.2.1 t.2.2.2.2.1 t.2.2.2.2.2.1 t.2.2.2.2.2.2
noncomputable def hiO(t:TJO): StateT SortSt Sem (ForInStep TJO):=do
 let u <- forIn [0:a.size+b.size] ((none,t.2.1,t.2.2.1,t.2.2.2.1,0,0):TJI) fun _=>hiI a b t.2.2.2.2
 match u.1 with
 | some r=>pure (.done (some r,u.2.1,u.2.2.1,u.2.2.2.1,t.2.2.2.2))
 | none=>do
  rule "list.sort.gallop"
  let v <- forIn [0:a.size+b.size] ((none,u.2.1,u.2.2.1,u.2.2.2.1,t.2.2.2.2+1,u.2.2.2.2.1,u.2.2.2.2.2):TJG) fun _=>hiG a b
  match v.1 with
  | some r=>pure (.done (some r,v.2.1,v.2.2.1,v.2.2.2.1,v.2.2.2.2.1))
  | none=>do
   q0w (v.2.2.2.2.1+1)
   pure (.yield (none,v.2.1,v.2.2.1,v.2.2.2.1,v.2.2.2.2.1+1))
end
theorem qip(a b:Array Keyed): qeh a b=(do
 rule "list.sort.merge-hi"
 let all:=a.size+b.size
 let fi (o:Array Keyed) (i j:Nat):=a.extract 0 i++b.extract 0 j++o.reverse
 let la (o:Array Keyed) (i j:Nat):=b.extract 0 j++a.extract 0 i++o.reverse
 let mut i:=a.size-1
 let mut j:=b.size
 let mut o:Array Keyed:= #[<- elem' a i]
 if i==0 then return fi o i j
 if j==1 then return la o i j
 let mut g:=gallopOf (<- get)
 for _ in [0:all] do
  let mut c:=0
  let mut d:=0
  for _ in [0:all] do
   let some wi <- lt' (<- elem' b (j-1)) (<- elem' a (i-1))|return fi o i j
   if wi then
    i:=i-1;o:=o.push (<- elem' a i);c:=c+1;d:=0
    if i==0 then return fi o i j
    if c>=g then break
   else
    j:=j-1;o:=o.push (<- elem' b j);d:=d+1;c:=0
    if j==1 then return la o i j
    if d>=g then break
  rule "list.sort.gallop"
  g:=g+1
  for _ in [0:all] do
   if g>1 then g:=g-1
   q0w g
   let some z <- q0p false (<- elem' b (j-1)) a 0 i (i-1)|return fi o i j
   let k:=i-z
   c:=k
   if k>0 then
    o:=o++(a.extract z i).reverse;i:=z
    if i==0 then return fi o i j
   j:=j-1;o:=o.push (<- elem' b j)
   if j==1 then return la o i j
   let some z <- q0p true (<- elem' a (i-1)) b 0 j (j-1)|return fi o i j
   let k:=j-z
   d:=k
   if k>0 then
    o:=o++(b.extract z j).reverse;j:=z
    if j==1 then return la o i j
    if j==0 then return fi o i j
   i:=i-1;o:=o.push (<- elem' a i)
   if i==0 then return fi o i j
   if c<7&&d<7 then break
  g:=g+1
  q0w g
 unsupported "internal:list.sort.merge-bound"):=rfl
theorem ql5 (a b:Array Keyed):qeh a b=(do
 rule "list.sort.merge-hi"
 let x <- elem' a (a.size-1)
 if(a.size-1==0)=true then return fiH a b #[x] (a.size-1) b.size
 if(b.size==1)=true then return laH a b #[x] (a.size-1) b.size
 let z <- get
 let t <- forIn [0:a.size+b.size] ((none,a.size-1,b.size, #[x],gallopOf z):TJO) fun _=>hiO a b
 match t.1 with
 | some r=>pure r
 | none=>unsupported "internal:list.sort.merge-bound"):=by
 rw [qip];dsimp only;refine bc fun _=>bc fun x=>um rfl (fun _=>rfl) fun _=>um rfl (fun _=>rfl) fun _=>bc fun z=>bc2 (fc fun _ t=>?_) fun t=>?_
 ·unfold hiO
  refine bc2 (fc fun _ u=>?_) fun u=>?_
  ·rfl
  ·cases e:u.1 with
   | some r=>rfl
   | none=>
    refine bc fun _=>bc2 (fc fun _ v=>?_) fun v=>?_
    ·unfold hiG
     refine um rfl (fun _=>?_) (fun _=>?_)
     all_goals
      unfold hiB;refine bc fun _=>bc fun y=>bc fun k=>?_;cases k with
      | none=>rfl
      | some k=>
       dsimp only;refine um rfl (fun _=>um rfl (fun _=>rfl) fun _=>?_) (fun _=>?_)
       all_goals
        unfold hiC;refine bc fun y=>um rfl (fun _=>rfl) fun _=>bc fun y=>bc fun k=>?_;cases k with
        | none=>rfl
        | some k=>rfl
    ·cases e:v.1 <;> rfl
 ·cases e:t.1 <;> rfl
section
variable{prog:Program}{w:World}{A:Around}{E:Value->Shared->Prop}{s:Shared}{κ : SortKind}{G:Value->Prop}{lt:Value->Value->Bool}{a b:Array Keyed}
def OkH(lt:Value->Value->Bool)(a b:Array Keyed)(n:Nat)(x:Option (Array Keyed))(i j:Nat)(o:Array Keyed): Prop:=match x with
 | some r=>Rm lt a b r
 | none=>MJ lt a.toList b.toList o.toList i j/\1<=i/\2<=j/\i<=a.size/\j<=b.size/\i+j+n<=a.size+b.size
theorem q2x(x:Array Keyed)(i:Nat): (x.extract 0 i).toList=x.toList.take i:=by
 rw [g0b];show(x.toList.drop 0).take (i-0)=_;simp
theorem qdg(x:Array Keyed)(i j:Nat): ((x.extract i j).reverse).toList=((x.toList.drop i).take (j-i)).reverse:=by
 rw [g3p,g0b]
theorem fhR{o:Array Keyed}{i j:Nat}(m:MJ lt a.toList b.toList o.toList i j)(sb:b.toList.Pairwise (le lt))(hi:i=0): Rm lt a b (fiH a b o i j):=by
 have:=m.fin sb hi;subst hi;unfold Rm fiH;have e:(a.extract 0 0++b.extract 0 j++o.reverse).toList=b.toList.take j++o.toList.reverse:=by
  rw [p8,p8,q2x,q2x,g3p]
  rfl
 rw [e];exact this
theorem lhR{o:Array Keyed}{i j:Nat}(H:Mh G lt a b)(C:Cmp prog w A s κ G lt)(m:MJ lt a.toList b.toList o.toList i j)(hj:j=1): Rm lt a b (laH a b o i j):=by
 have hb:=H.hb;have e1:b.toList.take 1=[b[0]]:=by
  rw [show(1:Nat)=0+1 from rfl,p9 (by simp;lia)];simp
 subst hj;have:=m.last H.sa H.sb (fun q hq p hp=>by
  rw [e1] at hq;rw [mw.mp hq];exact C.asy _ _ (H.first p (g0c hp)))
 unfold Rm laH;have e:(b.extract 0 1++a.extract 0 i++o.reverse).toList=b.toList.take 1++a.toList.take i++o.toList.reverse:=by
  rw [p8,p8,q2x,q2x,g3p]
 rw [e];exact this
theorem ql6(C:Cmp prog w A s κ G lt){l:List Keyed}(sl:l.Pairwise (le lt)){i:Nat}(hi:i<l.length){x:Keyed}(h:le lt l[i] x): ∀q∈l.take (i+1),le lt q x:=by
 intro q hq;rw [p9 hi] at hq;rcases nh.mp hq with hq|hq
 ·exact qgb C (q7g sl hi q hq) h
 ·rw [mw.mp hq];exact h
theorem MJ.stepA(H:Mh G lt a b){o:Array Keyed}{i j:Nat}(m:MJ lt a.toList b.toList o.toList i j)(h1:1<=i)(h2:i<=a.size)(hq:∀q∈b.toList.take j,le lt q (a[i-1]'(by lia))):
  MJ lt a.toList b.toList (o.push (a[i-1]'(by lia))).toList (i-1) j:=by
 obtain⟨i,rfl⟩:∃i',i=i'+1:=⟨i-1,by lia⟩
 have:=m.step H.sa (by simp;lia) (by simpa using hq)
 simpa using this
theorem MJ.stepB(H:Mh G lt a b){o:Array Keyed}{i j:Nat}(m:MJ lt a.toList b.toList o.toList i j)(h1:1<=j)(h2:j<=b.size)(hq:∀q∈a.toList.take i,le lt q (b[j-1]'(by lia))):
  MJ lt a.toList b.toList (o.push (b[j-1]'(by lia))).toList i (j-1):=by
 obtain⟨j,rfl⟩:∃j',j=j'+1:=⟨j-1,by lia⟩
 have:=m.swap.step H.sb (by simp;lia) (by simpa using hq)
 simpa using this.swap
theorem q6l(C:Cmp prog w A s κ G lt){l:Array Keyed}(sl:l.toList.Pairwise (le lt)){i:Nat}(h1:1<=i)(hi:i<=l.size){x:Keyed}(h:le lt (l[i-1]'(by lia)) x): ∀q∈l.toList.take i,le lt q x:=by
 obtain⟨i,rfl⟩:∃i',i=i'+1:=⟨i-1,by lia⟩
 exact ql6 C sl (by simp;lia) (by simpa using h)
theorem ql7(C:Cmp prog w A s κ G lt)(H:Mh G lt a b){st:SortSt}{g n c d:Nat}{o:Array Keyed}{i j:Nat}(hk:kindOf st = κ)(h:OkH lt a b n none i j o):
  wpS (model prog w) A E s (hiI a b g (none,i,j,o,c,d)) (fun r st'=>st'=st/\match r with
   | .done u=>OkH lt a b (n+1) u.1 u.2.1 u.2.2.1 u.2.2.2.1
   | .yield u=>u.1=none/\OkH lt a b (n+1) none u.2.1 u.2.2.1 u.2.2.2.1) st:=by
 obtain⟨m,h1,h2,h3,h4,h5⟩:=h;unfold hiI;dsimp only;refine gq (z6 (by lia) (gq (z6 (by lia) (gq (q2j (C:=C) hk (H.gb _ (by simp)) (H.ga _ (by simp)) ?_)))));dsimp only;cases e:lt (b[j-1]).1 (a[i-1]).1
 ·simp only [gf,p0]
  refine gq (z6 (by lia) ?_);have m2:=m.stepB H (by lia) h4 (q6l C H.sa h1 h3 e)
  split
  ·rename_i e2
   exact md ⟨rfl,lhR H C m2 (by simpa using e2)⟩
  ·rename_i e2
   have e2':j-1≠1:=by simpa using e2
   split
   ·exact md ⟨rfl,m2,h1,by first|lia|(dsimp only;lia),h3,by first|lia|(dsimp only;lia),by first|lia|(dsimp only;lia)⟩
   ·exact md ⟨rfl,rfl,m2,h1,by first|lia|(dsimp only;lia),h3,by first|lia|(dsimp only;lia),by first|lia|(dsimp only;lia)⟩
 ·simp only [ny]
  refine gq (z6 (by lia) ?_);have m2:=m.stepA H h1 h3 (q6l C H.sb (by lia) h4 (C.asy _ _ e))
  split
  ·rename_i e2
   exact md ⟨rfl,fhR m2 H.sb (by simpa using e2)⟩
  ·rename_i e2
   have e2':i-1≠0:=by simpa using e2
   split
   ·exact md ⟨rfl,m2,by first|lia|(dsimp only;lia),h2,by first|lia|(dsimp only;lia),h4,by first|lia|(dsimp only;lia)⟩
   ·exact md ⟨rfl,rfl,m2,by first|lia|(dsimp only;lia),h2,by first|lia|(dsimp only;lia),h4,by first|lia|(dsimp only;lia)⟩
abbrev QH(lt:Value->Value->Bool)(a b:Array Keyed)(n:Nat)(st:SortSt): ForInStep TJG->SortSt->Prop:=fun r st'=>Eg st st'/\match r with
   | .done u=>OkH lt a b n u.1 u.2.1 u.2.2.1 u.2.2.2.1
   | .yield u=>u.1=none/\OkH lt a b n none u.2.1 u.2.2.1 u.2.2.2.1
theorem qdh(C:Cmp prog w A s κ G lt)(H:Mh G lt a b){st:SortSt}{n g c d:Nat}{o:Array Keyed}{i j:Nat}(m:MJ lt a.toList b.toList o.toList i j)(h1:1<=i)(h2:2<=j)(h3:i<=a.size)(h4:j<=b.size)(h5:i+j+n<=a.size+b.size)
  (hq:∀q∈b.toList.take j,le lt q (a[i-1]'(by lia))):wpS (model prog w) A E s (hiD a b i j o g c d) (QH lt a b n st) st:=by
 unfold hiD;refine gq (z6 (by lia) ?_);have m2:=m.stepA H h1 h3 hq
 split
 ·rename_i e2
  exact md ⟨Eg.rfl' _,fhR m2 H.sb (by simpa using e2)⟩
 ·rename_i e2
  have e2':i-1≠0:=by simpa using e2
  split
  ·exact md ⟨Eg.rfl' _,m2,by first|lia|(dsimp only;lia),h2,by first|lia|(dsimp only;lia),h4,by first|lia|(dsimp only;lia)⟩
  ·exact md ⟨Eg.rfl' _,rfl,m2,by first|lia|(dsimp only;lia),h2,by first|lia|(dsimp only;lia),h4,by first|lia|(dsimp only;lia)⟩
theorem MJ.stepsA(H:Mh G lt a b){o:Array Keyed}{i j z:Nat}(m:MJ lt a.toList b.toList o.toList i j)(hz:z<=i)(h3:i<=a.size)(hq:∀x,(h1:z<=x)->(h2:x<i)->∀q∈b.toList.take j,le lt q (a[x]'(by lia))):
  MJ lt a.toList b.toList (o++(a.extract z i).reverse).toList z j:=by
 have:=m.steps H.sa (by simpa using h3) (i-z) (by lia) (fun x x1 x2=>by simpa using hq x (by lia) x2);rw [show i-(i-z)=z by lia] at this;rw [p8,qdg];exact this
theorem MJ.stepsB(H:Mh G lt a b){o:Array Keyed}{i j z:Nat}(m:MJ lt a.toList b.toList o.toList i j)(hz:z<=j)(h3:j<=b.size)(hq:∀x,(h1:z<=x)->(h2:x<j)->∀q∈a.toList.take i,le lt q (b[x]'(by lia))):
  MJ lt a.toList b.toList (o++(b.extract z j).reverse).toList i z:=by
 have:=m.swap.steps H.sb (by simpa using h3) (j-z) (by lia) (fun x x1 x2=>by simpa using hq x (by lia) x2);rw [show j-(j-z)=z by lia] at this;rw [p8,qdg];exact this.swap
theorem qdi(C:Cmp prog w A s κ G lt)(H:Mh G lt a b){st:SortSt}{n g c d:Nat}{o:Array Keyed}{i j:Nat}(hk:kindOf st = κ)(m:MJ lt a.toList b.toList o.toList i j)(h1:1<=i)(h2:2<=j)(h3:i<=a.size)(h4:j<=b.size)(h5:i+j+n<=a.size+b.size)
  (hq:∀q∈a.toList.take i,le lt q (b[j-1]'(by lia))):wpS (model prog w) A E s (hiC a b i j o g c d) (QH lt a b n st) st:=by
 unfold hiC;refine gq (z6 (by lia) ?_);have m2:=m.stepB H (by lia) h4 hq
 split
 ·rename_i e2
  exact md ⟨Eg.rfl' _,lhR H C m2 (by simpa using e2)⟩
 ·rename_i e2
  have e2':j-1≠1:=by simpa using e2
  refine gq (z6 (by lia) (gq (q13 C hk (H.ga _ (by simp)) H.gb (by lia) (by lia) (fun x y hxy hy k1=>?_) fun z hz k1 k2=>?_)))
  ·simp only [far1,ny] at k1 ⊢
   have hle:le lt (b[0+x]'(by lia)) (b[0+y]'(by lia)):=q6k C (fun x=>C.irr _) H.sb (i:=0+x) (j:=0+y) (by lia) (by simp;lia);cases e3:lt (b[0+x]'(by lia)).1 (a[i-1]).1
   ·have:=C.tra _ _ _ e3 hle
    rw [this] at k1;cases k1
   ·rfl
  ·dsimp only
   have k1':∀x,(hx:x<z)->lt (b[x]'(by lia)).1 (a[i-1]).1=true:=fun x hx=>by
    have:=k1 x hx (by lia);simpa [far1] using this
   have k2':∀x,(hx:z<=x)->(hx2:x<j-1)->lt (b[x]'(by lia)).1 (a[i-1]).1=false:=fun x hx hx2=>by
    have:=k2 x hx hx2;simpa [far1] using this
   have hz0:1<=z:=by
    rcases g60 0 z with h|h
    ·exact h
    ·have:=k2' 0 (by lia) (by lia)
     rw [H.first _ (by simp)] at this;cases this
   have k3:∀q∈b.toList.take z,le lt q (a[i-1]):=by
    intro q hq';obtain⟨y,hy,rfl⟩:=tu.mp hq';simp only [ni,ng] at hy;have:=C.asy _ _ (k1' y (by lia))
    simpa [le] using this
   split
   ·have m3:=m2.stepsB H (z:=z) (by lia) (by lia) (fun x x1 x2=>q6l C H.sa h1 h3 (k2' x x1 x2))
    split
    ·rename_i e5
     exact md ⟨Eg.rfl' _,lhR H C m3 (by simpa using e5)⟩
    ·rename_i e5
     have e5':z≠1:=by simpa using e5
     split
     ·rename_i e6
      have e6':z=0:=by simpa using e6
      lia
     ·exact qdh C H m3 h1 (by lia) h3 (by lia) (by lia) k3
   ·have:z=j-1:=by lia
    subst this;exact qdh C H m2 h1 (by lia) h3 (by lia) (by lia) k3
theorem ql8(C:Cmp prog w A s κ G lt)(H:Mh G lt a b){st:SortSt}{n g c d:Nat}{o:Array Keyed}{i j:Nat}(hk:kindOf st = κ)(h:OkH lt a b n none i j o):
  wpS (model prog w) A E s (hiB a b i j o g c d) (QH lt a b n st) st:=by
 obtain⟨m,h1,h2,h3,h4,h5⟩:=h;unfold hiB;refine gq (q2v fun st' eg=>?_);have hk':kindOf st' = κ :=eg.1.trans hk;have up:∀r st'',QH lt a b n st' r st''->QH lt a b n st r st'':=fun r st'' q=>⟨eg.trans q.1,q.2⟩
 refine gq (z6 (by lia) (gq (q13 C hk' (H.gb _ (by simp)) H.ga (by lia) (by lia) (fun x y hxy hy k1=>?_) fun z hz k1 k2=>?_)))
 ·simp only [far1,gf,p0,g1w] at k1 ⊢
  have hle:=q6k C (fun x=>C.irr _) H.sa (i:=0+x) (j:=0+y) (by lia) (by simp;lia);exact C.tra _ _ _ (by simpa [le] using hle) k1
 ·dsimp only
  have k1':∀x,(hx:x<z)->lt (b[j-1]).1 (a[x]'(by lia)).1=false:=fun x hx=>by
   have:=k1 x hx (by lia);simpa [far1] using this
  have k2':∀x,(hx:z<=x)->(hx2:x<i)->lt (b[j-1]).1 (a[x]'(by lia)).1=true:=fun x hx hx2=>by
   have:=k2 x hx hx2;simpa [far1] using this
  have k3:∀q∈a.toList.take z,le lt q (b[j-1]):=by
   intro q hq';obtain⟨y,hy,rfl⟩:=tu.mp hq';simp only [ni,ng] at hy;have:=k1' y (by lia)
   simpa [le] using this
  split
  ·have m3:=m.stepsA H (z:=z) (by lia) h3 (fun x x1 x2=>q6l C H.sb (by lia) h4 (C.asy _ _ (k2' x x1 x2)))
   split
   ·rename_i e5
    exact md (up _ _ ⟨Eg.rfl' _,fhR m3 H.sb (by simpa using e5)⟩)
   ·rename_i e5
    have e5':z≠0:=by simpa using e5
    exact tw (qdi C H hk' m3 (by lia) h2 (by lia) h4 (by lia) k3) up
  ·have:z=i:=by lia
   subst this;exact tw (qdi C H hk' m h1 h2 h3 h4 h5 k3) up
theorem ql9(C:Cmp prog w A s κ G lt)(H:Mh G lt a b){st:SortSt}{n:Nat}{t:TJO}(ht:t.1=none)(hk:kindOf st = κ)(h:OkH lt a b n none t.2.1 t.2.2.1 t.2.2.2.1):
  wpS (model prog w) A E s (hiO a b t) (fun r st'=>Eg st st'/\match r with
   | .done u=>(∃x,u.1=some x)/\OkH lt a b (n+1) u.1 u.2.1 u.2.2.1 u.2.2.2.1
   | .yield u=>u.1=none/\OkH lt a b (n+1) none u.2.1 u.2.2.1 u.2.2.2.1) st:=by
 unfold hiO;refine gq (tw (uj (I:=fun x u st'=>st'=st/\u.1=none/\OkH lt a b (n+x) none u.2.1 u.2.2.1 u.2.2.2.1)
  (Q:=fun u st'=>st'=st/\OkH lt a b (n+1) u.1 u.2.1 u.2.2.1 u.2.2.2.1) ?_ ?_ ⟨rfl,rfl,h⟩) ?_)
 ·rintro x ⟨u1,i,j,o,c,d⟩ st' _ hx ⟨rfl,rfl,h'⟩
  refine tw (ql7 C H hk h') ?_
  rintro r st'' ⟨rfl,hr⟩
  cases r with
  | done u=>
   refine⟨rfl,?_⟩;dsimp only at hr ⊢;unfold OkH at hr ⊢
   split at hr
   ·exact hr
   ·exact⟨hr.1,hr.2.1,hr.2.2.1,hr.2.2.2.1,hr.2.2.2.2.1,by lia⟩
  | yield u=>exact⟨rfl,hr.1,hr.2.1,hr.2.2.1,hr.2.2.2.1,hr.2.2.2.2.1,hr.2.2.2.2.2.1,by have:=hr.2.2.2.2.2.2;lia⟩
 ·rintro u st' ⟨rfl,hu,m,h1,h2,h3,h4,h5⟩
  rw [hu];exact⟨rfl,m,h1,h2,h3,h4,by lia⟩
 ·rintro⟨u1,i,j,o,c,d⟩ st' ⟨rfl,hu⟩
  cases u1 with
  | some r=>exact md ⟨Eg.rfl' _,⟨r,rfl⟩,hu⟩
  | none=>
   dsimp only at hu ⊢;refine gq (wpS_lift (g00 ⟨rfl,?_⟩));refine gq (tw (uj (I:=fun x v st''=>Eg st' st''/\v.1=none/\OkH lt a b (n+1) none v.2.1 v.2.2.1 v.2.2.2.1)
    (Q:=fun v st''=>Eg st' st''/\OkH lt a b (n+1) v.1 v.2.1 v.2.2.1 v.2.2.2.1) ?_ ?_ ⟨Eg.rfl' _,rfl,hu⟩) ?_)
   ·rintro x ⟨v1,i,j,o,g,c,d⟩ st'' _ hx ⟨eg,rfl,h'⟩
    unfold hiG;dsimp only at h' ⊢;have key:∀g',wpS (model prog w) A E s (hiB a b i j o g' c d) (fun r st3=>match r with
      | .done v=>Eg st' st3/\OkH lt a b (n+1) v.1 v.2.1 v.2.2.1 v.2.2.2.1
      | .yield v=>Eg st' st3/\v.1=none/\OkH lt a b (n+1) none v.2.1 v.2.2.1 v.2.2.2.1) st'':=by
     intro g';refine tw (ql8 C H (eg.1.trans hk) h') ?_
     rintro r st3 ⟨eg3,hr⟩
     cases r with
     | done v=>exact⟨eg.trans eg3,hr⟩
     | yield v=>exact⟨eg.trans eg3,hr⟩
    split
    ·exact tw (key _) fun r st3 hr=>by cases r <;> exact hr
    ·exact tw (key _) fun r st3 hr=>by cases r <;> exact hr
   ·rintro v st'' ⟨eg,hv,h'⟩
    rw [hv];exact⟨eg,h'⟩
   ·rintro⟨v1,i,j,o,g,c,d⟩ st'' ⟨eg,hv⟩
    cases v1 with
    | some r=>exact md ⟨eg,⟨r,rfl⟩,hv⟩
    | none=>
     dsimp only at hv ⊢;exact gq (q2v fun st3 eg3=>md ⟨eg.trans eg3,rfl,hv⟩)
theorem qla(C:Cmp prog w A s κ G lt)(H:Mh G lt a b){st:SortSt}{Q:Array Keyed->SortSt->Prop}(hk:kindOf st = κ)(h:∀r st',Eg st st'->Rm lt a b r->Q r st'):
  wpS (model prog w) A E s (qeh a b) Q st:=by
 rw [ql5];refine gq (wpS_lift (g00 ⟨rfl,?_⟩));have hb:=H.hb;have ha:=H.ha;refine gq (z6 (by lia) ?_);have m:MJ lt a.toList b.toList (#[a[a.size-1]]:Array Keyed).toList (a.size-1) b.size:=by
  refine⟨?_,?_,?_,?_⟩
  ·rw [pb (by simp;lia),g5o (by simp;lia),g5o (by simp)]
   simp
  ·simp
  ·intro p hp q hq
   have:p=a[a.size-1]:=by simpa using hp
   subst this;have:=q7g H.sa (ia:=a.size-1) (by simp;lia) q hq
   simpa using this
  ·intro p hp q hq
   have:p=a[a.size-1]:=by simpa using hp
   subst this;exact C.asy _ _ (H.last q (g0c hq))
 split
 ·rename_i e
  exact md (h _ _ (Eg.rfl' _) (fhR m H.sb (by simpa using e)))
 ·rename_i e
  have e':a.size-1≠0:=by simpa using e
  split
  ·rename_i e2
   exact md (h _ _ (Eg.rfl' _) (lhR H C m (by simpa using e2)))
  ·rename_i e2
   have e2':b.size≠1:=by simpa using e2
   refine gq (g2u ?_);refine gq (tw (uj (I:=fun x u st'=>Eg st st'/\u.1=none/\OkH lt a b x none u.2.1 u.2.2.1 u.2.2.2.1)
    (Q:=fun u st'=>Eg st st'/\∃r,u.1=some r/\Rm lt a b r) ?_ ?_ ⟨Eg.rfl' _,rfl,m,by first|lia|(dsimp only;lia),by first|lia|(dsimp only;lia),by first|lia|(dsimp only;lia),by first|lia|(dsimp only;lia),by first|lia|(dsimp only;lia)⟩) ?_)
   ·rintro x t st' _ hx ⟨eg,ht,h'⟩
    refine tw (ql9 C H ht (eg.1.trans hk) h') ?_
    rintro r st'' ⟨eg2,hr⟩
    cases r with
    | done u=>
     obtain⟨⟨r,hr1⟩,hr2⟩:=hr;rw [hr1] at hr2;exact⟨eg.trans eg2,r,hr1,hr2⟩
    | yield u=>exact⟨eg.trans eg2,hr.1,hr.2⟩
   ·rintro u st' ⟨eg,hu,_,h1,h2,h3,h4,h5⟩
    lia
   ·rintro⟨u1,u2⟩ st' ⟨eg,r,hr,hR⟩
    cases hr;exact md (h _ _ eg hR)
end
def Kz(xs:Array Keyed)(i:Nat): Value:=kz xs[i]?
theorem kj{xs ys:Array Keyed}{i j:Nat}(h:xs[i]? = ys[j]?): Kz xs i=Kz ys j:=by unfold Kz;rw [h]
theorem jd{xs:Array Keyed}{i:Nat}(h:i<xs.size): Kz xs i=xs[i].1:=by unfold Kz;rw [g1e xs i h];rfl
def Asc(lt:Value->Value->Bool)(xs:Array Keyed)(lo hi:Nat): Prop:=∀i j,lo<=i->i<=j->j<hi->lt (Kz xs j) (Kz xs i)=false
def Des(lt:Value->Value->Bool)(xs:Array Keyed)(lo hi:Nat): Prop:=∀i j,lo<=i->i<=j->j<hi->lt (Kz xs i) (Kz xs j)=false
def Eqv(lt:Value->Value->Bool)(x y:Value): Prop:=lt x y=false/\lt y x=false
structure Tr(lo hi:Nat)(st st':SortSt): Prop where
 kind:kindOf st'=kindOf st
 pend:pendingOf st'=pendingOf st
 fail:failedOf st'=failedOf st
 perm:(arrOf st').Perm (arrOf st)
 out:∀k,(k<lo\/hi<=k)->(arrOf st')[k]? = (arrOf st)[k]?
theorem Tr.rfl'(lo hi:Nat)(st:SortSt): Tr lo hi st st:=⟨rfl,rfl,rfl,.refl _,fun _ _=>rfl⟩
theorem Tr.trans{lo hi:Nat}{a b c:SortSt}(h:Tr lo hi a b)(k:Tr lo hi b c): Tr lo hi a c:=⟨k.kind.trans h.kind,k.pend.trans h.pend,k.fail.trans h.fail,k.perm.trans h.perm,fun i hi=>(k.out i hi).trans (h.out i hi)⟩
theorem Tr.size{lo hi:Nat}{a b:SortSt}(h:Tr lo hi a b): (arrOf b).size=(arrOf a).size:=h.perm.size_eq
def Gs(G:Value->Prop)(st:SortSt): Prop:=∀p∈(arrOf st).toList,G p.1
theorem Tr.gs{G:Value->Prop}{lo hi:Nat}{a b:SortSt}(h:Tr lo hi a b)(g:Gs G a): Gs G b:=fun p hp=>g p ((g0k.mp h.perm).mem_iff.mp hp)
theorem Tr.mir{lo hi i j:Nat}{st:SortSt}(h1:lo<=i)(h2:j<=hi)(h3:j<=(arrOf st).size): Tr lo hi st (setArr st (mirror (arrOf st) i j ((j-i) / 2))):=
 ⟨rfl,rfl,rfl,mirror_perm _ _ _ _,fun k hk=>by show(mirror (arrOf st) i j ((j-i) / 2))[k]? = _;rw [getElem?_mirror_all h3,mf (by lia)]⟩
theorem qab{xs:Array Keyed}{i j:Nat}(hj:j<=xs.size)(k:Nat): Kz (mirror xs i j ((j-i) / 2)) k=if i<=k/\k<j then Kz xs (i+j-1-k) else Kz xs k:=by
 have e:=getElem?_mirror_all (i:=i) hj k
 split
 ·rename_i h;rw [mi h] at e;exact kj e
 ·rename_i h;rw [mf h] at e;exact kj e
abbrev ASt:=Option (Option Nat)×Nat
abbrev DSt:=Option (Option Nat)×Nat×Nat
noncomputable def asL(lo b nr:Nat): StateT SortSt Sem ASt:=
 forIn [b:nr] ((none,b):ASt) fun _ t=>do
  match <- ltAt' (lo+t.2) (lo+t.2-1) with
  | some sm=>if sm=true then pure (.done (none,t.2)) else pure (.yield (none,t.2+1))
  | _=>pure (.done (some none,t.2))
noncomputable def ta3(lo n nr:Nat): StateT SortSt Sem (Option Nat):=do
 reverseSlice' lo (lo+n)
 let t <- asL lo n nr
 match t.1 with
 | some r=>pure r
 | none=>pure (some t.2)
noncomputable def deL(lo n nr:Nat): StateT SortSt Sem DSt:=
 forIn [n:nr] ((none,n,0):DSt) fun _ t=>do
  match <- ltAt' (lo+t.2.1) (lo+t.2.1-1) with
  | some sm=>
   if sm=true then
    if t.2.2>0 then do
     reverseSlice' (lo+t.2.1-(t.2.2+1)) (lo+t.2.1)
     pure (.yield (none,t.2.1+1,0))
    else pure (.yield (none,t.2.1+1,0))
   else do
    match <- ltAt' (lo+t.2.1-1) (lo+t.2.1) with
    | some la=>if la=true then pure (.done (none,t.2.1,t.2.2)) else pure (.yield (none,t.2.1+1,t.2.2+1))
    | _=>pure (.done (some none,t.2.1,t.2.2))
  | _=>pure (.done (some none,t.2.1,t.2.2))
noncomputable def deP(lo n nr:Nat): StateT SortSt Sem (Option Nat):=do
 rule "list.sort.descending-run"
 let t <- deL lo (n+1) nr
 match t.1 with
 | some r=>pure r
 | none=>
  if t.2.2>0 then do
   reverseSlice' (lo+t.2.1-(t.2.2+1)) (lo+t.2.1)
   ta3 lo t.2.1 nr
  else ta3 lo t.2.1 nr
theorem qnw(lo nr:Nat): countRun' lo nr=(do
  let t <- asL lo 1 nr
  match t.1 with
  | some r=>pure r
  | none=>
   if(t.2==nr)=true then pure (some t.2)
   else if t.2>1 then do
    match <- ltAt' lo (lo+t.2-1) with
    | some ro=>if ro=true then pure (some t.2) else do
      reverseSlice' lo (lo+t.2)
      deP lo t.2 nr
    | _=>pure none
   else deP lo t.2 nr):=by
 rw [countRun'_eq];dsimp only;refine bc2 rfl fun t=>?_;obtain⟨r,n⟩:=t;cases r with
 | some r=>rfl
 | none=>
  dsimp only;refine um rfl (fun _=>rfl) fun _=>um rfl (fun _=>bc fun x=>?_) fun _=>?_
  ·cases x with
   | none=>rfl
   | some ro=>
    dsimp only;refine um rfl (fun _=>rfl) fun _=>bc fun _=>?_;unfold deP;refine bc fun _=>bc2 rfl fun t=>?_;obtain⟨r2,n2,q2⟩:=t;cases r2 with
    | some r2=>rfl
    | none=>
     dsimp only;refine um rfl (fun _=>bc fun _=>?_) fun _=>?_
     ·unfold ta3
      refine bc fun _=>bc2 rfl fun t=>?_;obtain⟨r3,n3⟩:=t;cases r3 <;> rfl
     ·unfold ta3
      refine bc fun _=>bc2 rfl fun t=>?_;obtain⟨r3,n3⟩:=t;cases r3 <;> rfl
  ·unfold deP
   refine bc fun _=>bc2 rfl fun t=>?_;obtain⟨r2,n2,q2⟩:=t;cases r2 with
   | some r2=>rfl
   | none=>
    dsimp only;refine um rfl (fun _=>bc fun _=>?_) fun _=>?_
    ·unfold ta3
     refine bc fun _=>bc2 rfl fun t=>?_;obtain⟨r3,n3⟩:=t;cases r3 <;> rfl
    ·unfold ta3
     refine bc fun _=>bc2 rfl fun t=>?_;obtain⟨r3,n3⟩:=t;cases r3 <;> rfl
section
variable{prog:Program}{w:World}{A:Around}{E:Value->Shared->Prop}{s:Shared}{κ : SortKind}{G:Value->Prop}{lt:Value->Value->Bool}
theorem Eqv.symm{x y:Value}(h:Eqv lt x y): Eqv lt y x:=⟨h.2,h.1⟩
theorem Eqv.trans(C:Cmp prog w A s κ G lt){x y z:Value}(h:Eqv lt x y)(k:Eqv lt y z): Eqv lt x z:=⟨C.tra z y x k.1 h.1,C.tra x y z h.2 k.2⟩
theorem qac(C:Cmp prog w A s κ G lt){x x' y y':Value}(hx:Eqv lt x x')(hy:Eqv lt y y')(h:lt y' x'=false): lt y x=false:=
 C.tra x x' y hx.2 (C.tra x' y' y h hy.1)
theorem wpS_ltK{st:SortSt}(C:Cmp prog w A s κ G lt){i j:Nat}{Q:Option Bool->SortSt->Prop}(hk:kindOf st = κ)(g:Gs G st)(hi:i<(arrOf st).size)(hj:j<(arrOf st).size)
  (h:Q (some (lt (Kz (arrOf st) i) (Kz (arrOf st) j))) st):wpS (model prog w) A E s (ltAt' i j) Q st:=by
 rw [ltAt'_eq];refine gq (g2u ?_);show wpS _ _ _ _ (do let x <- elem' (arrOf st) i;let y <- elem' (arrOf st) j;lt' x y) Q st;rw [jd hi,jd hj] at h;exact gq (z6 hi (gq (z6 hj (q2j (C:=C) hk (g _ (by simp)) (g _ (by simp)) h))))
theorem q4q{st:SortSt}{i j:Nat}{Q:Unit->SortSt->Prop}(h:Q () (setArr st (mirror (arrOf st) i j ((j-i) / 2)))): wpS (model prog w) A E s (reverseSlice' i j) Q st:=by
 rw [reverseSlice'_eq];exact g3m h
theorem qiq(C:Cmp prog w A s κ G lt){xs:Array Keyed}{lo x:Nat}(h:Asc lt xs lo (lo+x))(h1:1<=x)(hl:lt (Kz xs (lo+x)) (Kz xs (lo+x-1))=false): Asc lt xs lo (lo+(x+1)):=by
 intro i j h2 h3 h4
 by_cases hj:j<lo+x
 ·exact h i j h2 h3 hj
 ·have:j=lo+x:=by lia
  subst this
  by_cases hi:i=lo+x
  ·subst hi;exact C.irr _
  ·exact C.tra _ _ _ (h i (lo+x-1) h2 (by lia) (by lia)) hl
theorem q2y(C:Cmp prog w A s κ G lt){xs:Array Keyed}{lo x:Nat}(h:Des lt xs lo (lo+x))(h1:1<=x)(hl:lt (Kz xs (lo+x-1)) (Kz xs (lo+x))=false): Des lt xs lo (lo+(x+1)):=by
 intro i j h2 h3 h4
 by_cases hj:j<lo+x
 ·exact h i j h2 h3 hj
 ·have:j=lo+x:=by lia
  subst this
  by_cases hi:i=lo+x
  ·subst hi;exact C.irr _
  ·exact C.tra _ _ _ hl (h i (lo+x-1) h2 (by lia) (by lia))
theorem qdj(C:Cmp prog w A s κ G lt){st:SortSt}{lo b nr:Nat}{Q:ASt->SortSt->Prop}(hk:kindOf st = κ)(g:Gs G st)(hz:lo+nr<=(arrOf st).size)(h1:1<=b)(h2:b<=nr)(hs:Asc lt (arrOf st) lo (lo+b))
  (h:∀n,b<=n->n<=nr->Asc lt (arrOf st) lo (lo+n)->(n=nr\/lt (Kz (arrOf st) (lo+n)) (Kz (arrOf st) (lo+n-1))=true)->Q (none,n) st):wpS (model prog w) A E s (asL lo b nr) Q st:=by
 unfold asL;refine uj (I:=fun x c st'=>st'=st/\c=(none,x)/\Asc lt (arrOf st) lo (lo+x)) ?_ ?_ ⟨rfl,rfl,hs⟩
 ·rintro x c st' hx1 hx2 ⟨rfl,rfl,hs'⟩
  dsimp only;refine gq (wpS_ltK C hk g (by lia) (by lia) ?_);dsimp only;cases e:lt (Kz (arrOf st') (lo+x)) (Kz (arrOf st') (lo+x-1))
  ·simp only [gf,p0]
   exact md ⟨rfl,rfl,qiq C hs' (by lia) e⟩
  ·simp only [ny]
   exact md (h x hx1 (by lia) hs' (.inr e))
 ·rintro c st' ⟨rfl,rfl,hs'⟩
  rw [show max b nr=nr by lia] at hs' ⊢;exact h nr h2 (gu _) hs' (.inl rfl)
theorem qdk(C:Cmp prog w A s κ G lt){st:SortSt}{lo n nr:Nat}{Q:Option Nat->SortSt->Prop}(hk:kindOf st = κ)(g:Gs G st)(hz:lo+nr<=(arrOf st).size)(h1:1<=n)(h2:n<=nr)(hs:Des lt (arrOf st) lo (lo+n))
  (h:∀m st',Tr lo (lo+nr) st st'->1<=m->m<=nr->Asc lt (arrOf st') lo (lo+m)->Q (some m) st'):wpS (model prog w) A E s (ta3 lo n nr) Q st:=by
 unfold ta3;have hz':lo+n<=(arrOf st).size:=by lia
 refine gq (q4q ?_);have tr:Tr lo (lo+nr) st (setArr st (mirror (arrOf st) lo (lo+n) ((lo+n-lo) / 2))):=Tr.mir (gu _) (by lia) hz';refine gq (qdj C (tr.kind.trans hk) (tr.gs g) (by rw [tr.size];exact hz) h1 h2 ?_ fun m m1 m2 m3 _=>md (h m _ tr (by lia) m2 m3));intro i j i1 i2 i3;show lt (Kz (mirror (arrOf st) lo (lo+n) ((lo+n-lo) / 2)) j) (Kz (mirror (arrOf st) lo (lo+n) ((lo+n-lo) / 2)) i)=false;rw [qab hz',qab hz',mi (by lia),mi (by lia)];exact hs _ _ (by lia) (by lia) (by lia)
theorem q7h(C:Cmp prog w A s κ G lt){xs:Array Keyed}{i j:Nat}(hj:j<=xs.size)(he:∀k,i<=k->k<j->Eqv lt (Kz xs k) (Kz xs (j-1)))(k:Nat): Eqv lt (Kz (mirror xs i j ((j-i) / 2)) k) (Kz xs k):=by
 rw [qab hj]
 split
 ·exact Eqv.trans C (he _ (by lia) (by lia)) (he k (by lia) (by lia)).symm
 ·exact⟨C.irr _,C.irr _⟩
theorem qlb(C:Cmp prog w A s κ G lt){st:SortSt}{lo n nr:Nat}{Q:DSt->SortSt->Prop}(hk:kindOf st = κ)(g:Gs G st)(hz:lo+nr<=(arrOf st).size)(h1:1<=n)(h2:n<=nr)(hs:Des lt (arrOf st) lo (lo+n))
  (h:∀m q st',Tr lo (lo+nr) st st'->n<=m->m<=nr->Des lt (arrOf st') lo (lo+m)->q+1<=m->(∀i,lo+m-(q+1)<=i->i<lo+m->Eqv lt (Kz (arrOf st') i) (Kz (arrOf st') (lo+m-1)))->Q (none,m,q) st') :
  wpS (model prog w) A E s (deL lo n nr) Q st:=by
 unfold deL;refine uj (I:=fun x c st'=>∃q,c=(none,x,q)/\Tr lo (lo+nr) st st'/\Des lt (arrOf st') lo (lo+x)/\q+1<=x /\
   (∀i,lo+x-(q+1)<=i->i<lo+x->Eqv lt (Kz (arrOf st') i) (Kz (arrOf st') (lo+x-1)))) ?_ ?_
  ⟨0,rfl,Tr.rfl' _ _ _,hs,by lia,fun i i1 i2=>by rw [show i=lo+n-1 by lia];exact⟨C.irr _,C.irr _⟩⟩
 ·rintro x c st' hx1 hx2 ⟨q,rfl,tr,ds,hq,he⟩
  dsimp only;have hz':lo+x<=(arrOf st').size:=by rw [tr.size];lia
  have hk':=tr.kind.trans hk;have g':=tr.gs g;refine gq (wpS_ltK C hk' g' (by rw [tr.size];lia) (by rw [tr.size];lia) ?_);dsimp only;cases e:lt (Kz (arrOf st') (lo+x)) (Kz (arrOf st') (lo+x-1))
  ·simp only [gf,p0]
   refine gq (wpS_ltK C hk' g' (by rw [tr.size];lia) (by rw [tr.size];lia) ?_);dsimp only;cases e2:lt (Kz (arrOf st') (lo+x-1)) (Kz (arrOf st') (lo+x))
   ·simp only [gf,p0]
    refine md ⟨q+1,rfl,tr,q2y C ds (by lia) e2,by lia,fun i i1 i2=>?_⟩;rw [show lo+(x+1)-1=lo+x by lia]
    by_cases hi:i=lo+x
    ·subst hi;exact⟨C.irr _,C.irr _⟩
    ·exact Eqv.trans C (he i (by lia) (by lia)) ⟨e2,e⟩
   ·simp only [ny]
    exact md (h x q st' tr hx1 (by lia) ds hq he)
  ·simp only [ny]
   have step:∀st'',Tr lo (lo+nr) st st''->(∀k,Eqv lt (Kz (arrOf st'') k) (Kz (arrOf st') k))->∃q',((none,x+1,0):DSt)=(none,x+1,q')/\Tr lo (lo+nr) st st''/\Des lt (arrOf st'') lo (lo+(x+1))/\q'+1<=x+1 /\
     (∀i,lo+(x+1)-(q'+1)<=i->i<lo+(x+1)->Eqv lt (Kz (arrOf st'') i) (Kz (arrOf st'') (lo+(x+1)-1))):=by
    intro st'' tr2 hev;refine⟨0,rfl,tr2,?_,by lia,fun i i1 i2=>by rw [show i=lo+(x+1)-1 by lia];exact⟨C.irr _,C.irr _⟩⟩;have dm:=q2y C ds (by lia) (C.asy _ _ e);intro i j i1 i2 i3;exact qac C (hev j) (hev i) (dm i j i1 i2 i3)
   split
   ·refine gq (q4q (md (step _ (tr.trans (Tr.mir (by lia) (by lia) hz')) (q7h C hz' ?_))))
    exact he
   ·exact md (step _ tr fun k=>⟨C.irr _,C.irr _⟩)
 ·rintro c st' ⟨q,rfl,tr,ds,hq,he⟩
  rw [show max n nr=nr by lia] at ds hq he ⊢;exact h nr q st' tr h2 (gu _) ds hq he
theorem qdl(C:Cmp prog w A s κ G lt){st:SortSt}{lo n nr:Nat}{Q:Option Nat->SortSt->Prop}(hk:kindOf st = κ)(g:Gs G st)(hz:lo+nr<=(arrOf st).size)(h2:n+1<=nr)(hs:Des lt (arrOf st) lo (lo+(n+1)))
  (h:∀m st',Tr lo (lo+nr) st st'->1<=m->m<=nr->Asc lt (arrOf st') lo (lo+m)->Q (some m) st'):wpS (model prog w) A E s (deP lo n nr) Q st:=by
 unfold deP;refine gq (wpS_lift (g00 ⟨rfl,?_⟩));refine gq (qlb C hk g hz (by lia) h2 hs fun m q st' tr m1 m2 ds hq he=>?_);dsimp only;have hz':lo+m<=(arrOf st').size:=by rw [tr.size];lia
 split
 ·have tr2:Tr lo (lo+nr) st' (setArr st' (mirror (arrOf st') (lo+m-(q+1)) (lo+m) ((lo+m-(lo+m-(q+1))) / 2))):=Tr.mir (by lia) (by lia) hz'
  refine gq (q4q (qdk C (tr2.kind.trans (tr.kind.trans hk)) (tr2.gs (tr.gs g)) (by rw [tr2.size,tr.size];exact hz) (by lia) m2 ?_ fun k st'' tr3=>h k st'' (tr.trans (tr2.trans tr3))));intro i j i1 i2 i3;have ev:=q7h C hz' he;exact qac C (ev j) (ev i) (ds i j i1 i2 i3)
 ·exact qdk C (tr.kind.trans hk) (tr.gs g) (by rw [tr.size];exact hz) (by lia) m2 ds fun k st'' tr3=>h k st'' (tr.trans tr3)
theorem qlc(C:Cmp prog w A s κ G lt){st:SortSt}{lo nr:Nat}{Q:Option Nat->SortSt->Prop}(hk:kindOf st = κ)(g:Gs G st)(hz:lo+nr<=(arrOf st).size)(h1:1<=nr)
  (h:∀m st',Tr lo (lo+nr) st st'->1<=m->m<=nr->Asc lt (arrOf st') lo (lo+m)->Q (some m) st'):wpS (model prog w) A E s (countRun' lo nr) Q st:=by
 rw [qnw];refine gq (qdj C hk g hz (gu _) h1 (fun i j i1 i2 i3=>by rw [show i=j by lia];exact C.irr _) fun n n1 n2 as hor=>?_);dsimp only
 split
 ·exact md (h n st (Tr.rfl' _ _ _) n1 n2 as)
 ·rename_i hne
  have hne':n≠nr:=by simpa using hne
  have hl:=hor.resolve_left hne'
  split
  ·refine gq (wpS_ltK C hk g (by lia) (by lia) ?_)
   dsimp only;cases e:lt (Kz (arrOf st) lo) (Kz (arrOf st) (lo+n-1))
   ·simp only [gf,p0]
    have hz':lo+n<=(arrOf st).size:=by lia
    have tr:Tr lo (lo+nr) st (setArr st (mirror (arrOf st) lo (lo+n) ((lo+n-lo) / 2))):=Tr.mir (gu _) (by lia) hz';have all:∀k,lo<=k->k<lo+n->Eqv lt (Kz (arrOf st) k) (Kz (arrOf st) (lo+n-1)):=fun k k1 k2=>
     ⟨C.tra _ _ _ (as k (lo+n-1) k1 (by lia) (by lia) |> fun z=>by exact C.tra _ _ _ e (as lo k (gu _) k1 k2)) (C.irr _),as k (lo+n-1) k1 (by lia) (by lia)⟩
    refine gq (q4q (qdl C (tr.kind.trans hk) (tr.gs g) (by rw [tr.size];exact hz) (by lia) ?_ fun m st' tr2=>h m st' (tr.trans tr2)));have ev:=q7h C hz' all;have ds:Des lt (arrOf st) lo (lo+(n+1)):=by
     refine q2y C (fun i j i1 i2 i3=>?_) (by lia) (C.asy _ _ hl);exact(Eqv.trans C (all i i1 (by lia)) (all j (by lia) i3).symm).1
    intro i j i1 i2 i3;exact qac C (ev j) (ev i) (ds i j i1 i2 i3)
   ·simp only [ny]
    exact md (h n st (Tr.rfl' _ _ _) n1 n2 as)
  ·have:n=1:=by lia
   subst this;refine qdl C hk g hz (by lia) ?_ h;exact q2y C (fun i j i1 i2 i3=>by rw [show i=j by lia];exact C.irr _) (gu _) (C.asy _ _ hl)
end
theorem qgc{xs:Array Keyed}{src d:Nat}(hs:src<xs.size)(hd:d<=src)(k:Nat): Kz (bubble xs src d) k=if k=src-d then Kz xs src else if src-d<k/\k<=src then Kz xs (k-1) else Kz xs k:=by
 have e:=getElem?_bubble hs d hd k
 split
 ·rename_i h;rw [mi h] at e;exact kj e
 ·rename_i h;rw [mf h] at e
  split
  ·rename_i h2;rw [mi h2] at e;exact kj e
  ·rename_i h2;rw [mf h2] at e;exact kj e
theorem Tr.bub{lo hi src d:Nat}{st:SortSt}(h1:lo<=src-d)(h2:src<hi)(h3:src<(arrOf st).size)(hd:d<=src): Tr lo hi st (setArr st (bubble (arrOf st) src d)):=
 ⟨rfl,rfl,rfl,bubble_perm _ _ _,fun k hk=>by show(bubble (arrOf st) src d)[k]? = _;rw [getElem?_bubble h3 d hd,mf (by lia),mf (by lia)]⟩
section
variable{prog:Program}{w:World}{A:Around}{E:Value->Shared->Prop}{s:Shared}{κ : SortKind}{G:Value->Prop}{lt:Value->Value->Bool}
theorem qld(C:Cmp prog w A s κ G lt){st:SortSt}{lo n ok:Nat}{Q:Bool->SortSt->Prop}(hk:kindOf st = κ)(g:Gs G st)(hz:lo+n<=(arrOf st).size)(hok:ok<=n)(hs:Asc lt (arrOf st) lo (lo+ok))
  (h:∀st',Tr lo (lo+n) st st'->Asc lt (arrOf st') lo (lo+n)->Q true st'):wpS (model prog w) A E s (binarySort' lo n ok) Q st:=by
 rw [binarySort'_eq];refine gq (tw (uj (I:=fun k c st'=>c=(none,())/\Tr lo (lo+n) st st'/\Asc lt (arrOf st') lo (lo+min k n))
  (Q:=fun c st'=>c=(none,())/\Tr lo (lo+n) st st'/\Asc lt (arrOf st') lo (lo+n)) ?_ ?_ ?_) ?_)
 ·rintro k c st' hk1 hk2 ⟨rfl,tr,as⟩
  rw [show min k n=k by lia] at as;have hk':=tr.kind.trans hk;have g':=tr.gs g;have hz':lo+n<=(arrOf st').size:=by rw [tr.size];exact hz
  refine gq (tw (uj (I:=fun x c st''=>st''=st'/\∃l r,c=(none,l,r)/\l<=r/\r<=k/\r-l<=k-x /\
    (∀i,i<l->lt (Kz (arrOf st') (lo+k)) (Kz (arrOf st') (lo+i))=false)/\(∀i,r<=i->i<k->lt (Kz (arrOf st') (lo+k)) (Kz (arrOf st') (lo+i))=true))
   (Q:=fun c st''=>st''=st'/\∃l r,c=(none,l,r)/\l<=k /\
    (∀i,i<l->lt (Kz (arrOf st') (lo+k)) (Kz (arrOf st') (lo+i))=false)/\(∀i,l<=i->i<k->lt (Kz (arrOf st') (lo+k)) (Kz (arrOf st') (lo+i))=true)) ?_ ?_ ?_) ?_)
  ·rintro x c st'' _ hx ⟨rfl,l,r,rfl,h1,h2,h3,h4,h5⟩
   dsimp only
   by_cases hge:l>=r
   ·rw [mi hge]
    have:l=r:=by lia
    subst this;exact md ⟨rfl,l,l,rfl,h2,h4,h5⟩
   ·rw [mf hge]
    refine gq (wpS_ltK C hk' g' (by lia) (by lia) ?_);dsimp only;cases e:lt (Kz (arrOf st'') (lo+k)) (Kz (arrOf st'') (lo+(l+r) / 2))
    ·simp only [gf,p0]
     refine md ⟨rfl,(l+r) / 2+1,r,rfl,by lia,by lia,by lia,fun i i1=>?_,h5⟩;exact C.tra _ _ _ (as (lo+i) (lo+(l+r) / 2) (by lia) (by lia) (by lia)) e
    ·simp only [ny]
     refine md ⟨rfl,l,(l+r) / 2,rfl,by lia,by lia,by lia,h4,fun i i1 i2=>?_⟩;cases e2:lt (Kz (arrOf st'') (lo+k)) (Kz (arrOf st'') (lo+i))
     ·have:=C.tra _ _ _ (as (lo+(l+r) / 2) (lo+i) (by lia) (by lia) (by lia)) e2
      rw [this] at e;cases e
     ·rfl
  ·rintro c st'' ⟨rfl,l,r,rfl,h1,h2,h3,h4,h5⟩
   have:l=r:=by lia
   subst this;exact⟨rfl,l,l,rfl,h2,h4,h5⟩
  ·exact⟨rfl,0,k,rfl,by lia,by lia,by lia,fun i hi=>by lia,fun i i1 i2=>by lia⟩
  ·rintro c st'' ⟨rfl,l,r,rfl,h2,h4,h5⟩
   show wpS _ _ _ _ (do moveDown' (lo+k) (lo+l);pure (ForInStep.yield (none,()))) _ _;rw [moveDown'_eq];have hks:lo+k<(arrOf st'').size:=by lia
   refine gq (g3m (md ⟨rfl,tr.trans (Tr.bub (by lia) (by lia) hks (by lia)),?_⟩));rw [show min (k+1) n=k+1 by lia];intro i j i1 i2 i3;show lt (Kz (bubble (arrOf st'') (lo+k) (lo+k-(lo+l))) j) (Kz (bubble (arrOf st'') (lo+k) (lo+k-(lo+l))) i)=false;rw [qgc hks (by lia),qgc hks (by lia),show lo+k-(lo+k-(lo+l))=lo+l by lia];have q4:∀i,lo<=i->i<lo+l->lt (Kz (arrOf st'') (lo+k)) (Kz (arrOf st'') i)=false:=fun i a b=>by
    have:=h4 (i-lo) (by lia);rwa [show lo+(i-lo)=i by lia] at this
   have q5:∀i,lo+l<=i->i<lo+k->lt (Kz (arrOf st'') i) (Kz (arrOf st'') (lo+k))=false:=fun i a b=>by
    have:=C.asy _ _ (h5 (i-lo) (by lia) (by lia));rwa [show lo+(i-lo)=i by lia] at this
   repeat' split
   all_goals first
    | (exfalso;lia)
    | exact C.irr _
    | exact q4 _ (by lia) (by lia)
    | exact q5 _ (by lia) (by lia)
    | exact as _ _ (by lia) (by lia) (by lia)
 ·rintro c st' ⟨hc,tr,as⟩
  rw [show min (max (max ok 1) n) n=n by lia] at as;exact⟨hc,tr,as⟩
 ·refine⟨rfl,Tr.rfl' _ _ _,fun i j i1 i2 i3=>?_⟩
  by_cases h1:ok=0
  ·rw [show i=j by lia];exact C.irr _
  ·exact hs i j i1 i2 (by lia)
 ·rintro c st' ⟨rfl,tr,as⟩
  exact md (h st' tr as)
end
theorem qle(i:Nat): mergeAt' i=(do
 let s <- get
 let(some (l,n,p),some (r,m,_)):=((pendingOf s)[i]?,(pendingOf s)[i+1]?)|unsupported "internal:list.sort.pending"
 set (setPending s (((pendingOf s).setIfInBounds i (l,n+m,p)).eraseIdxIfInBounds (i+1)))
 let some k <- q0p false (<- elem' (arrOf s) r) (arrOf s) l n 0|return false
 let(l,n):=(l+k,n-k)
 if n==0 then return true
 let some m <- q0p true (<- elem' (arrOf s) (l+n-1)) (arrOf s) r m (m-1)|return false
 if m==0 then return true
 let x:=(arrOf s).extract l r
 let y:=(arrOf s).extract r (r+m)
 let z <- if n<=m then qeg x y else qeh x y
 modify fun s=>setArr s (z.toList.zipIdx.foldl (fun a (p,j)=>a.setIfInBounds (l+j) p) (arrOf s))
 return (failedOf (<- get)).isNone):=rfl
theorem qad{o:Nat}: ∀(l:List Keyed) (j:Nat) (xs:Array Keyed) (T Y R:List Keyed),xs.toList=T++Y++R->T.length=o+j->Y.length=l.length ->
  ((l.zipIdx j).foldl (fun a (p,j)=>a.setIfInBounds (o+j) p) xs).toList=T++l++R
 | [],j,xs,T,Y,R,h,h1,h2=>by
  have:Y=[]:=g1l.mp h2;subst this;exact h
 | p :: l,j,xs,T,y :: Y,R,h,h1,h2=>by
  rw [g57,g5i];have e:(xs.setIfInBounds (o+j) p).toList=(T++[p])++Y++R:=by
   rw [g4j,h, <- h1];simp
  rw [qad l (j+1) _ (T++[p]) Y R e (by simp;lia) (by simpa using h2)];simp
section
variable{prog:Program}{w:World}{A:Around}{E:Value->Shared->Prop}{s:Shared}{κ : SortKind}{G:Value->Prop}{lt:Value->Value->Bool}
theorem q14(C:Cmp prog w A s κ G lt){xs:Array Keyed}{T X R:List Keyed}{lo hi:Nat}(h:xs.toList=T++X++R)(h1:lo=T.length)(h2:hi=lo+X.length): Asc lt xs lo hi↔X.Pairwise (le lt):=by
 have hz:xs.size=T.length+X.length+R.length:=by rw [<- ng,h];simp;lia
 have at_:∀i,(hi:i<X.length)->Kz xs (lo+i)=(X[i]).1:=by
  intro i hi;have hl:lo+i<xs.size:=by lia
  rw [jd hl, <- g3o]
  congr 1
  simp only [h];rw [g59 (by simp;lia),g4v (by lia)]
  congr 1;lia
 constructor
 ·intro as
  rw [g2e];intro i j hi hj hij;have:=as (lo+i) (lo+j) (by lia) (by lia) (by lia);rw [at_ i hi,at_ j hj] at this;exact this
 ·intro pw i j i1 i2 i3
  have e1:=at_ (i-lo) (by lia);have e2:=at_ (j-lo) (by lia);rw [show lo+(i-lo)=i by lia] at e1;rw [show lo+(j-lo)=j by lia] at e2;rw [e1,e2];exact q6k C (fun x=>C.irr _) pw (by lia) (by lia)
theorem cut(l:List Keyed)(a b:Nat)(h1:a<=b)(h2:b<=l.length): l=l.take a++(l.drop a).take (b-a)++l.drop b:=by
 rw [mm];have e:(l.drop a).take (b-a)++l.drop b=l.drop a:=by
  have:=nk (b-a) (l.drop a);rw [g41,show a+(b-a)=b by lia] at this;exact this
 rw [e,nk]
structure Aft(i l n m p:Nat)(st st':SortSt)(lt:Value->Value->Bool): Prop where
 kind:kindOf st'=kindOf st
 fail:failedOf st'=failedOf st
 pend:pendingOf st'=((pendingOf st).setIfInBounds i (l,n+m,p)).eraseIdxIfInBounds (i+1)
 perm:(arrOf st').Perm (arrOf st)
 out:∀k,(k<l\/l+n+m<=k)->Kz (arrOf st') k=Kz (arrOf st) k
 asc:Asc lt (arrOf st') l (l+n+m)
theorem qlf(C:Cmp prog w A s κ G lt){st:SortSt}{i l n m p p':Nat}{Q:Bool->SortSt->Prop}(hk:kindOf st = κ)(hf:failedOf st=none)(g:Gs G st)
  (e1:(pendingOf st)[i]? = some (l,n,p)) (e2:(pendingOf st)[i+1]? = some (l+n,m,p')) (h1:1<=n) (h2:1<=m) (hz:l+n+m<=(arrOf st).size)
  (a1:Asc lt (arrOf st) l (l+n)) (a2:Asc lt (arrOf st) (l+n) (l+n+m)) (h:∀st',Aft i l n m p st st' lt->Q true st'):wpS (model prog w) A E s (mergeAt' i) Q st:=by
 rw [qle];refine gq (g2u ?_);rw [e1,e2];dsimp only;obtain⟨st1,hst1⟩:∃st1,st1=setPending st (((pendingOf st).setIfInBounds i (l,n+m,p)).eraseIdxIfInBounds (i+1)):=⟨_,rfl⟩
 rw [<- hst1];have hset:∀ {R:PUnit->SortSt->Prop},R ⟨⟩ st1->wpS (model prog w) A E s (set st1:StateT SortSt Sem PUnit) R st:=by
  intro R hR;unfold wpS;rw [StateT.run_set];exact g9 ⟨rfl,hR⟩
 refine gq (hset ?_);have k1:kindOf st1 = κ :=by rw [hst1];exact hk
 have f1:failedOf st1=none:=by rw [hst1];exact hf
 have r1:arrOf st1=arrOf st:=by rw [hst1]
 have p1:pendingOf st1=((pendingOf st).setIfInBounds i (l,n+m,p)).eraseIdxIfInBounds (i+1):=by rw [hst1]
 have ge:∀j,(hj:j<(arrOf st).size)->G ((arrOf st)[j]).1:=fun j hj=>g _ (by simp);have kle:∀i j,(hi:i<(arrOf st).size)->(hj:j<(arrOf st).size)->Kz (arrOf st) i=((arrOf st)[i]).1/\Kz (arrOf st) j=((arrOf st)[j]).1:=fun i j hi hj=>⟨jd hi,jd hj⟩
 refine gq (z6 (by lia) (gq (q13 C k1 (ge _ (by lia)) g (by lia) (by lia) (fun x y hxy hy q1=>?_) fun k hk1 g1 g2=>?_)))
 ·simp only [far1,gf,p0,g1w] at q1 ⊢
  have:=a1 (l+x) (l+y) (by lia) (by lia) (by lia);rw [jd (by lia),jd (by lia)] at this;exact C.tra _ _ _ this q1
 dsimp only;have g1':∀x,l<=x->x<l+k->lt (Kz (arrOf st) (l+n)) (Kz (arrOf st) x)=false:=by
  intro x x1 x2;have:=g1 (x-l) (by lia) (by lia);simp only [far1,gf,p0,g1w] at this;rw [jd (by lia),jd (by lia)];rw [<- this];congr 3;lia
 have g2':∀x,l+k<=x->x<l+n->lt (Kz (arrOf st) (l+n)) (Kz (arrOf st) x)=true:=by
  intro x x1 x2;have:=g2 (x-l) (by lia) (by lia);simp only [far1,gf,p0,g2m] at this;rw [jd (by lia),jd (by lia)];rw [<- this];congr 3;lia
 by_cases hkn:k=n
 ·rw [mi (by first|(simp;done)|(simp;lia))]
  refine md (h st1 ⟨k1.trans hk.symm,f1.trans hf.symm,p1,by rw [r1],fun _ _=>by rw [r1],?_⟩);rw [r1];intro x y x1 x2 x3
  by_cases hy:y<l+n
  ·exact a1 x y x1 x2 hy
  ·by_cases hx:x<l+n
   ·exact C.tra _ _ _ (g1' x x1 (by lia)) (a2 (l+n) y (by lia) (by lia) (by lia))
   ·exact a2 x y (by lia) x2 x3
 rw [mf (by simp;lia)];have hlast:l+k+(n-k)-1=l+n-1:=by lia
 refine gq (z6 (by lia) (gq (q13 C k1 (ge _ (by lia)) g (by lia) (by lia) (fun x y hxy hy q1=>?_) fun j hj1 j1 j2=>?_)))
 ·simp only [far1,ny] at q1 ⊢
  have:=a2 (l+n+x) (l+n+y) (by lia) (by lia) (by lia);rw [jd (by lia),jd (by lia)] at this;cases e3:lt ((arrOf st)[l+n+x]'(by lia)).1 ((arrOf st)[l+k+(n-k)-1]'(by lia)).1
  ·rw [C.tra _ _ _ e3 this] at q1;cases q1
  ·rfl
 dsimp only;have j1':∀x,l+n<=x->x<l+n+j->lt (Kz (arrOf st) x) (Kz (arrOf st) (l+n-1))=true:=by
  intro x x1 x2;have:=j1 (x-(l+n)) (by lia) (by lia);simp only [far1,ny] at this;rw [jd (by lia),jd (by lia)];rw [<- this];congr 3 <;> lia
 have j2':∀x,l+n+j<=x->x<l+n+m->lt (Kz (arrOf st) x) (Kz (arrOf st) (l+n-1))=false:=by
  intro x x1 x2;have:=j2 (x-(l+n)) (by lia) (by lia);simp only [far1,ny] at this;rw [jd (by lia),jd (by lia)];rw [<- this];congr 3 <;> lia
 by_cases hj0:j=0
 ·rw [mi (by first|(simp;done)|(simp;lia))]
  refine md (h st1 ⟨k1.trans hk.symm,f1.trans hf.symm,p1,by rw [r1],fun _ _=>by rw [r1],?_⟩);rw [r1];intro x y x1 x2 x3
  by_cases hy:y<l+n
  ·exact a1 x y x1 x2 hy
  ·by_cases hx:x<l+n
   ·exact C.tra _ _ _ (a1 x (l+n-1) x1 (by lia) (by lia)) (j2' y (by lia) (by lia))
   ·exact a2 x y (by lia) x2 x3
 rw [mf (by simp;lia)];obtain⟨a,ha⟩:∃a,a=(arrOf st).extract (l+k) (l+n):=⟨_,rfl⟩
 obtain⟨b,hb⟩:∃b,b=(arrOf st).extract (l+n) (l+n+j):=⟨_,rfl⟩
 rw [<- ha, <- hb];obtain⟨L,hL⟩:∃L,L=(arrOf st).toList:=⟨_,rfl⟩
 have hLz:L.length=(arrOf st).size:=by rw [hL];simp
 have la:a.toList=(L.drop (l+k)).take (l+n-(l+k)):=by rw [ha,hL,g0b]
 have lb:b.toList=(L.drop (l+n)).take (l+n+j-(l+n)):=by rw [hb,hL,g0b]
 have sza:a.size=n-k:=by rw [<- ng,la];simp;lia
 have szb:b.size=j:=by rw [<- ng,lb];simp;lia
 have ga:∀q∈a.toList,G q.1:=fun q hq=>g q (by rw [la] at hq;rw [<- hL];exact g3n (g0c hq));have gb:∀q∈b.toList,G q.1:=fun q hq=>g q (by rw [lb] at hq;rw [<- hL];exact g3n (g0c hq));have memA:∀q∈a.toList,∃x,l+k<=x/\x<l+n/\q.1=Kz (arrOf st) x:=by
  intro q hq;rw [la] at hq;obtain⟨y,hy,rfl⟩:=tu.mp hq;simp only [ni,ui] at hy;refine⟨l+k+y,by lia,by lia,?_⟩;rw [jd (by lia)];simp [hL]
 have memB:∀q∈b.toList,∃x,l+n<=x/\x<l+n+j/\q.1=Kz (arrOf st) x:=by
  intro q hq;rw [lb] at hq;obtain⟨y,hy,rfl⟩:=tu.mp hq;simp only [ni,ui] at hy;refine⟨l+n+y,by lia,by lia,?_⟩;rw [jd (by lia)];simp [hL]
 have sA:a.toList.Pairwise (le lt):=by
  rw [la];refine(q14 C (xs:=arrOf st) (lo:=l+k) (hi:=l+n) (T:=L.take (l+k)) (R:=L.drop (l+n)) (by rw [<- hL];exact cut L (l+k) (l+n) (by lia) (by lia)) (by simp;lia) (by simp;lia)).mp ?_;exact fun x y x1 x2 x3=>a1 x y (by lia) x2 x3
 have sB:b.toList.Pairwise (le lt):=by
  rw [lb];refine(q14 C (xs:=arrOf st) (lo:=l+n) (hi:=l+n+j) (T:=L.take (l+n)) (R:=L.drop (l+n+j)) (by rw [<- hL];exact cut L (l+n) (l+n+j) (by lia) (by lia)) (by simp;lia) (by simp;lia)).mp ?_;exact fun x y x1 x2 x3=>a2 x y (by lia) x2 (by lia)
 have H:Mh G lt a b:=by
  refine⟨ga,gb,sA,sB,by lia,by lia,fun q hq=>?_,fun q hq=>?_⟩
  ·obtain⟨x,x1,x2,e⟩:=memA q hq
   have e0:(b[0]'(by lia)).1=Kz (arrOf st) (l+n):=by
    rw [jd (by lia)];simp [hb]
   rw [e,e0];exact g2' x x1 x2
  ·obtain⟨x,x1,x2,e⟩:=memB q hq
   have e0:(a[a.size-1]'(by lia)).1=Kz (arrOf st) (l+n-1):=by
    rw [jd (by lia)];simp only [ha,Array.getElem_extract]
    congr 2
    simp;lia
   rw [e,e0];exact j1' x x1 x2
 have fin:∀z st2,Eg st1 st2->Rm lt a b z->wpS (model prog w) A E s (do
   modify fun s=>setArr s (z.toList.zipIdx.foldl (fun a (p,j)=>a.setIfInBounds (l+k+j) p) (arrOf s))
   return (failedOf (<- get)).isNone) Q st2:=by
  intro z st2 eg rm;refine gq (g3m (gq (g2u ?_)));obtain⟨Z,hZ⟩:∃Z,Z=z.toList.zipIdx.foldl (fun a (p,j)=>a.setIfInBounds (l+k+j) p) (arrOf st2):=⟨_,rfl⟩
  rw [<- hZ];show wpS (model prog w) A E s (pure (failedOf st2).isNone) Q (setArr st2 Z);rw [show(failedOf st2).isNone=true by rw [eg.2.2.2,f1];rfl];have r2:arrOf st2=arrOf st:=eg.2.1.trans r1;have zlen:z.toList.length=n-k+j:=by rw [rm.1.length_eq,pz,ng,ng,sza,szb]
  have zsz:z.size=n-k+j:=by rw [<- ng];exact zlen
  obtain⟨T,hT⟩:∃T,T=L.take l:=⟨_,rfl⟩
  obtain⟨P,hP⟩:∃P,P=(L.drop l).take k:=⟨_,rfl⟩
  obtain⟨S,hS⟩:∃S,S=(L.drop (l+n+j)).take (m-j):=⟨_,rfl⟩
  obtain⟨R,hR⟩:∃R,R=L.drop (l+n+m):=⟨_,rfl⟩
  have lenT:T.length=l:=by rw [hT];simp;lia
  have lenP:P.length=k:=by rw [hP];simp;lia
  have lenS:S.length=m-j:=by rw [hS];simp;lia
  have c1:L=T++P++a.toList++b.toList++S++R:=by
   have d1:=cut L l (l+k) (by lia) (by lia);have d2:L.drop (l+k)=a.toList++L.drop (l+n):=by
    have:=nk (l+n-(l+k)) (L.drop (l+k));rw [g41,show l+k+(l+n-(l+k))=l+n by lia, <- la] at this;exact this.symm
   have d3:L.drop (l+n)=b.toList++L.drop (l+n+j):=by
    have:=nk (l+n+j-(l+n)) (L.drop (l+n));rw [g41,show l+n+(l+n+j-(l+n))=l+n+j by lia, <- lb] at this;exact this.symm
   have d4:L.drop (l+n+j)=S++R:=by
    have:=nk (m-j) (L.drop (l+n+j));rw [g41,show l+n+j+(m-j)=l+n+m by lia, <- hS, <- hR] at this;exact this.symm
   rw [d2,d3,d4,show l+k-l=k by lia, <- hT, <- hP] at d1;rw [d1];simp only [mm]
  have c2:Z.toList=T++P++z.toList++S++R:=by
   have:=qad (o:=l+k) z.toList 0 (arrOf st2) (T++P) (a.toList++b.toList) (S++R) (by rw [r2, <- hL,c1];simp only [mm]) (by simp;lia) (by simp;lia);rw [<- hZ] at this;rw [this];simp only [mm]
  have perm:Z.Perm (arrOf st):=by
   refine g0k.mpr ?_;rw [c2, <- hL,c1];have:=rm.1;have q1:(T++P++z.toList++S++R).Perm (T++P++(a.toList++b.toList)++S++R):=((uk _ this).append_right _).append_right _;rw [<- mm (T++P)] at q1;exact q1
  have zs:Z.size=(arrOf st).size:=perm.size_eq;have kout:∀x,(x<l\/l+n+m<=x)->Kz Z x=Kz (arrOf st) x:=by
   intro x hx;refine kj ?_;rw [<- g03, <- g03,c2, <- hL,c1];rcases hx with hx|hx
   ·simp only [mm]
    rw [t7 (by lia),t7 (by lia)]
   ·rw [uc (by simp;lia),uc (by simp;lia)]
    congr 1
    simp;lia
  have sP:∀q∈P,∃x,l<=x/\x<l+k/\q.1=Kz (arrOf st) x:=by
   intro q hq;rw [hP] at hq;obtain⟨y,hy,rfl⟩:=tu.mp hq;simp only [ni,ui] at hy;refine⟨l+y,by lia,by lia,?_⟩;rw [jd (by lia)];simp [hL]
  have sS:∀q∈S,∃x,l+n+j<=x/\x<l+n+m/\q.1=Kz (arrOf st) x:=by
   intro q hq;rw [hS] at hq;obtain⟨y,hy,rfl⟩:=tu.mp hq;simp only [ni,ui] at hy;refine⟨l+n+j+y,by lia,by lia,?_⟩;rw [jd (by lia)];simp [hL]
  have asc:Asc lt Z l (l+n+m):=by
   refine(q14 C (T:=T) (X:=P++z.toList++S) (R:=R) (by rw [c2];simp only [mm]) lenT.symm (by simp;lia)).mpr ?_;have pP:P.Pairwise (le lt):=by
    refine(q14 C (xs:=arrOf st) (lo:=l) (hi:=l+k) (T:=T) (R:=a.toList++b.toList++S++R) (by rw [<- hL,c1];simp only [mm]) lenT.symm (by lia)).mp ?_;exact fun x y x1 x2 x3=>a1 x y x1 x2 (by lia)
   have pS:S.Pairwise (le lt):=by
    refine(q14 C (xs:=arrOf st) (lo:=l+n+j) (hi:=l+n+m) (T:=T++P++a.toList++b.toList) (R:=R) (by rw [<- hL,c1]) (by simp;lia) (by lia)).mp ?_;exact fun x y x1 x2 x3=>a2 x y (by lia) x2 x3
   refine nj.mpr ⟨nj.mpr ⟨pP,rm.2,fun q hq r hr=>?_⟩,pS,fun q hq r hr=>?_⟩
   ·obtain⟨x,x1,x2,ex⟩:=sP q hq
    unfold le;rcases nh.mp (rm.1.mem_iff.mp hr) with hr|hr
    ·obtain⟨y,y1,y2,ey⟩:=memA r hr
     rw [ex,ey];exact a1 x y x1 (by lia) y2
    ·obtain⟨y,y1,y2,ey⟩:=memB r hr
     rw [ex,ey];exact C.tra _ _ _ (g1' x x1 x2) (a2 (l+n) y (by lia) y1 (by lia))
   ·obtain⟨y,y1,y2,ey⟩:=sS r hr
    unfold le;have fromA:∀x,l<=x->x<l+n->lt (Kz (arrOf st) y) (Kz (arrOf st) x)=false:=fun x x1 x2=>C.tra _ _ _ (a1 x (l+n-1) x1 (by lia) (by lia)) (j2' y y1 y2);rcases nh.mp hq with hq|hq
    ·obtain⟨x,x1,x2,ex⟩:=sP q hq
     rw [ex,ey];exact fromA x x1 (by lia)
    ·rcases nh.mp (rm.1.mem_iff.mp hq) with hq|hq
     ·obtain⟨x,x1,x2,ex⟩:=memA q hq
      rw [ex,ey];exact fromA x (by lia) x2
     ·obtain⟨x,x1,x2,ex⟩:=memB q hq
      rw [ex,ey];exact a2 x y x1 (by lia) y2
  exact md (h _ ⟨(eg.1.trans k1).trans hk.symm,(eg.2.2.2.trans f1).trans hf.symm,eg.2.2.1.trans p1,perm,kout,asc⟩)
 by_cases hc:n-k<=j
 ·rw [mi hc]
  exact gq (ql4 C H k1 fun z st2 eg rm=>fin z st2 eg rm)
 ·rw [mf hc]
  exact gq (qla C H k1 fun z st2 eg rm=>fin z st2 eg rm)
end
abbrev Pd:=Nat×Nat×Nat
def Rn(lt:Value->Value->Bool)(xs:Array Keyed): Nat->List Pd->Nat->Prop
 | b,[],e=>b=e
 | b,q :: r,e=>q.1=b/\1<=q.2.1/\Asc lt xs b (b+q.2.1)/\Rn lt xs (b+q.2.1) r e
section
variable{lt:Value->Value->Bool}
theorem Rn.len{xs:Array Keyed}: ∀ {l:List Pd} {b e:Nat},Rn lt xs b l e->b+l.length<=e
 | [],b,e,h=>by have:b=e:=h;simp;lia
 | q :: r,b,e,h=>by have:=Rn.len h.2.2.2;have:=h.2.1;simp;lia
theorem Asc.same{xs ys:Array Keyed}{lo hi:Nat}(h:Asc lt xs lo hi)(hs:∀k,lo<=k->k<hi->Kz ys k=Kz xs k): Asc lt ys lo hi:=by
 intro i j i1 i2 i3;rw [hs i i1 (by lia),hs j (by lia) i3];exact h i j i1 i2 i3
theorem Rn.same{xs ys:Array Keyed}: ∀ {l:List Pd} {b e:Nat},Rn lt xs b l e->(∀k,b<=k->k<e->Kz ys k=Kz xs k)->Rn lt ys b l e
 | [],b,e,h,_=>h
 | q :: r,b,e,h,hs=>by
  have:=h.2.2.2.len;exact⟨h.1,h.2.1,h.2.2.1.same fun k k1 k2=>hs k k1 (by lia),h.2.2.2.same fun k k1 k2=>hs k (by lia) k2⟩
theorem Rn.push{xs:Array Keyed}: ∀ {l:List Pd} {b e n p:Nat},Rn lt xs b l e->1<=n->Asc lt xs e (e+n)->Rn lt xs b (l++[(e,n,p)]) (e+n)
 | [],b,e,n,p,h,hn,as=>by have:b=e:=h;subst this;exact⟨rfl,hn,as,rfl⟩
 | q :: r,b,e,n,p,h,hn,as=>⟨h.1,h.2.1,h.2.2.1,h.2.2.2.push hn as⟩
theorem Rn.modif{xs:Array Keyed}(f:Pd->Pd)(hf:∀q,(f q).1=q.1/\(f q).2.1=q.2.1): ∀ {l:List Pd} {i b e:Nat},Rn lt xs b l e->Rn lt xs b (l.modify i f) e
 | [],i,b,e,h=>by simpa using h
 | q :: r,0,b,e,h=>by
  rw [List.modify_zero_cons];unfold Rn at h ⊢;rw [(hf q).1,(hf q).2];exact h
 | q :: r,i+1,b,e,h=>by
  rw [List.modify_succ_cons];exact⟨h.1,h.2.1,h.2.2.1,h.2.2.2.modif f hf⟩
theorem Rn.two{xs:Array Keyed}: ∀ {l:List Pd} {i b e:Nat} {l0 n p r m p':Nat},Rn lt xs b l e->l[i]? = some (l0,n,p)->l[i+1]? = some (r,m,p') ->
  r=l0+n/\1<=n/\1<=m/\b<=l0/\l0+n+m<=e/\Asc lt xs l0 (l0+n)/\Asc lt xs (l0+n) (l0+n+m) /\
  ∀ys:Array Keyed,(∀k,(k<l0\/l0+n+m<=k)->Kz ys k=Kz xs k)->Asc lt ys l0 (l0+n+m)->Rn lt ys b ((l.set i (l0,n+m,p)).eraseIdx (i+1)) e
 | [],i,b,e,l0,n,p,r,m,p',h,e1,e2=>by simp at e1
 | [q],0,b,e,l0,n,p,r,m,p',h,e1,e2=>by simp at e2
 | q :: q2 :: r',0,b,e,l0,n,p,r,m,p',h,e1,e2=>by
  simp at e1 e2;subst e1;subst e2;obtain⟨h1,h2,h3,h4,h5,h6,h7⟩:=h;dsimp only at h1 h2 h3 h4 h5 h6 h7;subst h1;have hl:=h7.len;refine⟨h4,h2,h5,gu _,by lia,h3,h6,fun ys hs as=>?_⟩;rw [List.set_cons_zero,g2w,List.eraseIdx_cons_zero];refine⟨rfl,by show 1<=n+m;lia,by show Asc lt ys l0 (l0+(n+m));rw [<- Nat.add_assoc];exact as,?_⟩;show Rn lt ys (l0+(n+m)) r' e;rw [<- Nat.add_assoc];exact h7.same fun k k1 k2=>hs k (.inr k1)
 | q :: l,i+1,b,e,l0,n,p,r,m,p',h,e1,e2=>by
  rw [g2x] at e1 e2;obtain⟨h1,h2,h3,h4⟩:=h;obtain⟨a1,a2,a3,a4,a5,a6,a7,a8⟩:=Rn.two h4 e1 e2;refine⟨a1,a2,a3,by lia,a5,a6,a7,fun ys hs as=>?_⟩;rw [List.set_cons_succ,g2w];exact⟨h1,h2,h3.same fun k k1 k2=>hs k (.inl (by lia)),a8 ys hs as⟩
end
abbrev OU:=Option Unit×Unit
abbrev ON:=Option Unit×Nat
noncomputable def srM(sz pw:Nat): StateT SortSt Sem OU:=
 forIn [0:sz] ((none,()):OU) fun _ _=>do
  let z <- get
  match if(pendingOf z).size>1 then(pendingOf z)[(pendingOf z).size-2]? else none with
  | some (_,_,ol)=>
   if ol<=pw then pure (.done (none,())) else do
    let y <- mergeAt' ((pendingOf z).size-2)
    if(!y)=true then pure (.done (some (),())) else pure (.yield (none,()))
  | _=>pure (.done (none,()))
noncomputable def srP(lo n:Nat): StateT SortSt Sem (ForInStep ON):=do
 modify fun z=>setPending z ((pendingOf z).push (lo,n,0))
 pure (.yield (none,lo+n))
noncomputable def srK(sz lo n:Nat): StateT SortSt Sem (ForInStep ON):=do
 let z <- get
 match(pendingOf z).back? with
 | some (s1,n1,_)=>do
  let t <- srM sz (power' sz (2*s1+n1) (2*s1+n1+n1+n) sz)
  match t.1 with
  | some r=>pure (.done (some r,lo))
  | none=>do
   modify fun z=>setPending z ((pendingOf z).modify ((pendingOf z).size-1) fun x=>(x.1,x.2.1,power' sz (2*s1+n1) (2*s1+n1+n1+n) sz))
   srP lo n
 | _=>srP lo n
noncomputable def srL(sz:Nat)(t:ON): StateT SortSt Sem (ForInStep ON):=
 if t.2>=sz then pure (.done (none,t.2))
 else do
  match <- countRun' t.2 (sz-t.2) with
  | some fo=>
   if fo<minRun' sz sz 0 then do
    rule "list.sort.binary-insertion"
    let y <- binarySort' t.2 (min (sz-t.2) (minRun' sz sz 0)) fo
    if(!y)=true then pure (.done (some (),t.2)) else srK sz t.2 (min (sz-t.2) (minRun' sz sz 0))
   else srK sz t.2 fo
  | _=>pure (.done (some (),t.2))
def srI(z:SortSt): Nat:=if Option.any (fun x=>decide (x<(pendingOf z)[(pendingOf z).size-2+1]?.elim 0 fun x=>x.2.1)) (if(pendingOf z).size-2>0 then Option.map (fun x=>x.2.1) (pendingOf z)[(pendingOf z).size-2-1]? else none)=true then(pendingOf z).size-2-1 else(pendingOf z).size-2
noncomputable def srE(sz:Nat): StateT SortSt Sem OU:=
 forIn [0:sz] ((none,()):OU) fun _ _=>do
  let z <- get
  if(pendingOf z).size<=1 then pure (.done (none,())) else do
   let y <- mergeAt' (srI z)
   if(!y)=true then pure (.done (some (),())) else pure (.yield (none,()))
theorem qlg:sortRuns'=(do
  let z <- get
  let t <- forIn [0:(arrOf z).size] ((none,0):ON) fun _=>srL (arrOf z).size
  match t.1 with
  | some r=>pure r
  | none=>do
   let u <- srE (arrOf z).size
   match u.1 with
   | some r=>pure r
   | none=>pure ()):=by
 rw [sortRuns'_eq];dsimp only;refine bc fun z=>bc2 (fc fun _ t=>?_) fun t=>?_
 ·unfold srL
  refine um rfl (fun _=>rfl) fun _=>bc fun x=>?_;have kk:∀n (m:StateT SortSt Sem (ForInStep ON)),m=srK (arrOf z).size t.2 n->m=srK (arrOf z).size t.2 n:=fun _ _ h=>h;cases x with
  | none=>rfl
  | some fo=>
   dsimp only;refine um rfl (fun _=>bc fun _=>bc fun y=>um rfl (fun _=>rfl) fun _=>?_) fun _=>?_
   all_goals
    unfold srK;refine bc fun z2=>?_;cases(pendingOf z2).back? with
    | none=>rfl
    | some q=>
     obtain⟨s1,n1,p1⟩:=q;dsimp only;refine bc2 rfl fun t2=>?_;obtain⟨r2,u2⟩:=t2;cases r2 <;> rfl
 ·obtain⟨r,n⟩:=t
  cases r with
  | some r=>rfl
  | none=>
   dsimp only;refine bc2 rfl fun u=>?_;obtain⟨r2,u2⟩:=u;cases r2 <;> rfl
section
variable{prog:Program}{w:World}{A:Around}{E:Value->Shared->Prop}{s:Shared}{κ : SortKind}{G:Value->Prop}{lt:Value->Value->Bool}{a₀:Array Keyed}
structure SI(κ : SortKind)(lt:Value->Value->Bool)(a₀:Array Keyed)(lo:Nat)(st:SortSt): Prop where
 kind:kindOf st = κ
 fail:failedOf st=none
 perm:(arrOf st).Perm a₀
 runs:Rn lt (arrOf st) 0 (pendingOf st).toList lo
theorem SI.gs{lo:Nat}{st:SortSt}(h:SI κ lt a₀ lo st)(g:∀p∈a₀.toList,G p.1): Gs G st:=fun p hp=>g p ((g0k.mp h.perm).mem_iff.mp hp)
theorem SI.size{lo:Nat}{st:SortSt}(h:SI κ lt a₀ lo st): (arrOf st).size=a₀.size:=h.perm.size_eq
theorem SI.merge(C:Cmp prog w A s κ G lt)(g:∀p∈a₀.toList,G p.1){lo i:Nat}{st:SortSt}{Q:Bool->SortSt->Prop}(h:SI κ lt a₀ lo st)(hlo:lo<=a₀.size)(hi:i+1<(pendingOf st).size)
  (hq:∀st',SI κ lt a₀ lo st'->(pendingOf st').size+1=(pendingOf st).size->(∀k,lo<=k->Kz (arrOf st') k=Kz (arrOf st) k)->Q true st'):wpS (model prog w) A E s (mergeAt' i) Q st:=by
 obtain⟨l,n,p,e1⟩:∃l n p,(pendingOf st)[i]=(l,n,p):=⟨_,_,_,rfl⟩
 obtain⟨r,m,p',e2⟩:∃r m p',(pendingOf st)[i+1]=(r,m,p'):=⟨_,_,_,rfl⟩
 have f1:(pendingOf st)[i]? = some (l,n,p):=by rw [g1e _ i (by lia),e1]
 have f2:(pendingOf st)[i+1]? = some (r,m,p'):=by rw [g1e _ (i+1) hi,e2]
 obtain⟨a1,a2,a3,a4,a5,a6,a7,a8⟩:=Rn.two h.runs (by rw [g03];exact f1) (by rw [g03];exact f2);subst a1;have hz:=h.size;refine qlf C h.kind h.fail (h.gs g) f1 f2 a2 a3 (by lia) a6 a7 fun st' af=>?_;have ep:(pendingOf st').toList=((pendingOf st).toList.set i (l,n+m,p)).eraseIdx (i+1):=by
  rw [af.pend,Array.toList_eraseIdxIfInBounds,g4j]
 refine hq st' ⟨af.kind.trans h.kind,af.fail.trans h.fail,af.perm.trans h.perm,?_⟩ ?_ (fun k hk=>af.out k (.inr (by lia)))
 ·rw [ep]
  exact a8 _ af.out af.asc
 ·rw [<- ng,ep,List.length_eraseIdx,mi (by simpa using hi),t8,ng]
  lia
theorem qlh(C:Cmp prog w A s κ G lt)(g:∀p∈a₀.toList,G p.1){lo sz pw:Nat}{st:SortSt}{Q:OU->SortSt->Prop}(h:SI κ lt a₀ lo st)(hlo:lo<=a₀.size)
  (hq:∀st',SI κ lt a₀ lo st'->(∀k,lo<=k->Kz (arrOf st') k=Kz (arrOf st) k)->Q (none,()) st'):wpS (model prog w) A E s (srM sz pw) Q st:=by
 unfold srM;refine uj (I:=fun _ c st'=>c=(none,())/\SI κ lt a₀ lo st'/\∀k,lo<=k->Kz (arrOf st') k=Kz (arrOf st) k) ?_ ?_ ⟨rfl,h,fun _ _=>rfl⟩
 ·rintro x c st' _ _ ⟨rfl,hs,hf⟩
  refine gq (g2u ?_)
  split
  ·rename_i q1 q2 ol eq
   by_cases hsz:(pendingOf st').size>1
   ·split
    ·exact md (hq st' hs hf)
    ·refine gq (hs.merge C g hlo (by lia) fun st2 hs2 _ hf2=>?_)
     simp only [g0j,gf,p0];exact md ⟨rfl,hs2,fun k hk=>(hf2 k hk).trans (hf k hk)⟩
   ·rw [mf hsz] at eq;cases eq
  ·exact md (hq st' hs hf)
 ·rintro c st' ⟨rfl,hs,hf⟩
  exact hq st' hs hf
theorem qdm{lo n:Nat}{st:SortSt}{Q:ForInStep ON->SortSt->Prop}(h:SI κ lt a₀ lo st)(hn:1<=n)(as:Asc lt (arrOf st) lo (lo+n))
  (hq:∀st',SI κ lt a₀ (lo+n) st'->Q (.yield (none,lo+n)) st'):wpS (model prog w) A E s (srP lo n) Q st:=by
 unfold srP;refine gq (g3m (md (hq _ ⟨h.kind,h.fail,h.perm,?_⟩)));show Rn lt (arrOf st) 0 ((pendingOf st).push (lo,n,0)).toList (lo+n);rw [Array.toList_push];exact h.runs.push hn as
theorem qdn(C:Cmp prog w A s κ G lt)(g:∀p∈a₀.toList,G p.1){lo n sz:Nat}{st:SortSt}{Q:ForInStep ON->SortSt->Prop}(h:SI κ lt a₀ lo st)(hlo:lo+n<=a₀.size)(hn:1<=n)(as:Asc lt (arrOf st) lo (lo+n))
  (hq:∀st',SI κ lt a₀ (lo+n) st'->Q (.yield (none,lo+n)) st'):wpS (model prog w) A E s (srK sz lo n) Q st:=by
 unfold srK;refine gq (g2u ?_)
 split
 ·refine gq (qlh C g h (by lia) fun st' hs hf=>?_)
  dsimp only;refine gq (g3m ?_);refine qdm (a₀:=a₀) (κ := κ) ⟨hs.kind,hs.fail,hs.perm,?_⟩ hn (as.same fun k k1 k2=>hf k k1) hq;show Rn lt (arrOf st') 0 ((pendingOf st').modify ((pendingOf st').size-1) _).toList lo;rw [Array.toList_modify];refine Rn.modif _ ?_ hs.runs;exact fun q=>⟨rfl,rfl⟩
 ·exact qdm h hn as hq
theorem SI.tr{lo hi:Nat}{st st':SortSt}(h:SI κ lt a₀ lo st)(t:Tr lo hi st st'): SI κ lt a₀ lo st':=
 ⟨t.kind.trans h.kind,t.fail.trans h.fail,t.perm.trans h.perm,by rw [t.pend];exact h.runs.same fun k k1 k2=>kj (t.out k (.inl k2))⟩
theorem qae(C:Cmp prog w A s κ G lt)(g:∀p∈a₀.toList,G p.1){st:SortSt}{Q:Unit->SortSt->Prop}(hk:kindOf st = κ)(hf:failedOf st=none)(ha:arrOf st=a₀)(hp:pendingOf st = #[])
  (hq:∀st',failedOf st'=none->(arrOf st').Perm a₀->(arrOf st').toList.Pairwise (le lt)->Q () st'):wpS (model prog w) A E s sortRuns' Q st:=by
 have h0:SI κ lt a₀ 0 st:=⟨hk,hf,by rw [ha],by rw [hp];rfl⟩
 rw [qlg];refine gq (g2u ?_);rw [ha];refine gq (tw (uj (I:=fun x c st'=>∃lo,c=(none,lo)/\min x a₀.size<=lo/\lo<=a₀.size/\SI κ lt a₀ lo st')
  (Q:=fun c st'=>∃lo,c=(none,lo)/\lo=a₀.size/\SI κ lt a₀ lo st') ?_ ?_ ⟨0,rfl,by lia,by lia,h0⟩) ?_)
 ·rintro x c st' _ hx ⟨lo,rfl,h1,h2,hs⟩
  unfold srL;dsimp only
  split
  ·exact md ⟨lo,rfl,by lia,hs⟩
  ·have hz:=hs.size
   refine gq (qlc C hs.kind (hs.gs g) (by lia) (by lia) fun m st2 tr m1 m2 as=>?_);have hs2:=hs.tr tr;have hz2:=hs2.size;dsimp only
   split
   ·refine gq (wpS_lift (g00 ⟨rfl,?_⟩))
    refine gq (qld C hs2.kind (hs2.gs g) (by lia) (by lia) as fun st3 tr3 as3=>?_);simp only [g0j,gf,p0];exact qdn C g (hs2.tr tr3) (by lia) (by lia) as3 fun st4 hs4=>⟨_,rfl,by lia,by lia,hs4⟩
   ·exact qdn C g hs2 (by lia) m1 as fun st4 hs4=>⟨_,rfl,by lia,by lia,hs4⟩
 ·rintro c st' ⟨lo,rfl,h1,h2,hs⟩
  exact⟨lo,rfl,by lia,hs⟩
 ·rintro c st' ⟨lo,rfl,rfl,hs⟩
  dsimp only;have fin:∀st2,SI κ lt a₀ a₀.size st2->(pendingOf st2).size<=1->Q () st2:=by
   intro st2 hs2 hp2;refine hq st2 hs2.fail hs2.perm ?_;have r:=hs2.runs;have hz:=hs2.size;have as:Asc lt (arrOf st2) 0 a₀.size:=by
    match e:(pendingOf st2).toList,r with
    | [],r=>
     have:0=a₀.size:=r;intro i j i1 i2 i3;lia
    | [q],r=>
     obtain⟨r1,r2,r3,r4⟩:=r;have:0+q.2.1=a₀.size:=r4;rw [<- this];exact r3
    | q :: q2 :: l,r=>
     have:=ug List.length e;simp at this;lia
   exact(q14 C (T:=[]) (X:=(arrOf st2).toList) (R:=[]) (by simp) rfl (by simp;lia)).mp as
  unfold srE;refine gq (tw (uj (I:=fun x c st2=>c=(none,())/\SI κ lt a₀ a₀.size st2/\((pendingOf st2).size<=1\/(pendingOf st2).size+x<=a₀.size))
   (Q:=fun c st2=>c=(none,())/\SI κ lt a₀ a₀.size st2/\(pendingOf st2).size<=1) ?_ ?_ ⟨rfl,hs,.inr (by have:=hs.runs.len;simp at this;lia)⟩) ?_)
  ·rintro x c st2 _ hx ⟨rfl,hs2,hp2⟩
   refine gq (g2u ?_)
   split
   ·rename_i h1
    exact md ⟨rfl,hs2,h1⟩
   ·rename_i h1
    have hI:srI st2+1<(pendingOf st2).size:=by
     unfold srI;generalize (if(pendingOf st2).size-2>0 then Option.map (fun x:Pd=>x.2.1) (pendingOf st2)[(pendingOf st2).size-2-1]? else none)=zz
     split <;> lia
    refine gq (hs2.merge C g (gu _) hI fun st3 hs3 hp3 _=>?_);simp only [g0j,gf,p0];exact md ⟨rfl,hs3,.inr (by lia)⟩
  ·rintro c st2 ⟨rfl,hs2,hp2⟩
   exact⟨rfl,hs2,by lia⟩
  ·rintro c st2 ⟨rfl,hs2,hp2⟩
   exact md (fin st2 hs2 hp2)
end
end Srt
namespace Srt
open PySem PySem.SeqAt PySem.AutoSeq1 PySem.MeetsSeq PySem.MeetsSeq2 PySem.MeetsSeq3 PySem.SeqRoads2
def LtAt(A:Around)(s:Shared)(y x:Value)(b:Bool): Prop:=∀(prog:Program) (w:World) (E:Value->Shared->Prop) (Q:Value->Shared->Prop),Q (.bool b) s->wpAny (model prog w) A (richCompare .Lt y x) Q E s
inductive LexAt(A:Around)(s:Shared)(f:Bool): List (Value×Value)->Bool->Prop
 | nil:LexAt A s f [] f
 | eq {x y r b}:EqAt A s x y true->LexAt A s f r b->LexAt A s f ((x,y) :: r) b
 | ne {x y r b}:EqAt A s x y false->LtAt A s x y b->LexAt A s f ((x,y) :: r) b
theorem qnx(l b:Addr)(is js:Array Value)(n n2:Nat)(dd dd2:Option Addr)(sl sl2:Array (Option Value)):
  Meets (Builtin.«tuple.__lt__» ⟨[.ref l,.ref b],[]⟩)
   (fun A R s=>s.heap.get? l=some {cls:=.type "tuple",dict:=dd,data:=.seq is n,slots:=sl}/\s.heap.get? b=some {cls:=.type "tuple",dict:=dd2,data:=.seq js n2,slots:=sl2} /\
    ∃c,LexAt A.in1 s (decide (is.size<js.size)) (is.toList.zip js.toList) c/\R (.ok (.ret (.bool c))) s):=
 .of_wp fun prog w A R s h=>by
  obtain⟨hp,g,d,tk,os⟩:=s;obtain⟨hl,hb,c,hc,h⟩:=h;have f2:=g1d
  wp_walk using g5e hl,g5e hb,wpAny_forIn_list _ (fun rest b s'=>b.1=none/\s'=⟨hp,g,d,tk,os⟩/\LexAt A.in1 ⟨hp,g,d,tk,os⟩ (decide (is.size<js.size)) rest c) _
  case turn=>
   rintro⟨y,x⟩ rest b s' ⟨hb',rfl,hx⟩
   cases hx with
   | eq e r=>
    refine g0 (e prog w _ _ ?_)
    wp_walk
    exact⟨rfl,rfl,r⟩
   | ne e k=>
    refine g0 (e prog w _ _ ?_);have k':∀ {E:Value->Shared->Prop} {Q:Value->Shared->Prop},Q (.bool c) ⟨hp,g,d,tk,os⟩->wpAny (model prog w) A.in1 (richCompare .Lt y x) Q E ⟨hp,g,d,tk,os⟩:=fun h=>k prog w _ _ h
    wp_walk using k'
    exact⟨_,rfl,h⟩
  case fin=>
   rintro⟨b1,b2⟩ s' ⟨hb',rfl,hx⟩
   simp only at hb';subst hb';cases hx
   wp_walk
   exact⟨_,rfl,by simpa [Builtin.Tuple.tupleCompareSizes] using h⟩
  case h=>
   exact⟨rfl,rfl,hc⟩
theorem LtAt.tuples{A:Around}{s:Shared}{l b:Addr}{is js:Array Value}{c:Bool}(hl:s.heap.IsTuple l is)(hb:s.heap.IsTuple b js)(hu:A.units<cLine)
  (he:LexAt A.in1 s (decide (is.size<js.size)) (is.toList.zip js.toList) c):LtAt A s (.ref l) (.ref b) c:=fun prog w E Q h=>by
 obtain⟨⟨cls,dd,data,sl⟩,ho,hc,n,hd⟩:=id hl;obtain⟨⟨cls2,dd2,data2,sl2⟩,ho2,hc2,n2,hd2⟩:=id hb;simp only at hc hd hc2 hd2;subst hc hd hc2 hd2;exact richCompare_meets_room (op:=.Lt) ⟨_,ho,rfl⟩ ⟨_,ho2,rfl⟩ F.slot_tuple_lt F.entry_tuple_lt (F.args_tuple_lt_2 _ _) (qnx l b is js n n2 dd dd2 sl sl2)
  ⟨ho,ho2,c,he,show Value.bool c≠Value.notImplemented/\Q (.bool c) s from⟨(fun x=>nomatch x),h⟩⟩ hu
end Srt
namespace Srt
open PySem PyProof.Rows
def ji(h:Heap)(a:Addr)(vs:List Value): Heap:=((h.update a (Obj.mapSeq fun _=> #[])).push (seqObj "tuple" vs.toArray 0)).push (seqObj "list" #[] 0)
section
variable{prog:Program}{w:World}{A:Around}{E:Value->Shared->Prop}{s:Shared}{κ : SortKind}{G:Value->Prop}{lt:Value->Value->Bool}
theorem qgd{a:Addr}{vs:List Value}{n:Nat}{P:PySem.Fin->Shared->Prop}(ho:s.heap.get? a=some (seqObj "list" vs.toArray n))(hz:vs.length<=sizeLine)
  (hkind:2<=vs.length->∀Q:SortKind->Shared->Prop,Q κ {s with heap:=ji s.heap a vs}->wpAny (model prog w) A (keyKind' vs.toArray) Q E {s with heap:=ji s.heap a vs})
  (C:2<=vs.length->Cmp prog w A {s with heap:=ji s.heap a vs} κ G lt) (g:∀v∈vs,G v)
  (h:∀out:List Value,out.Perm vs->out.Pairwise (fun x y=>lt y x=false)->P (.done (.ret .none)) {s with heap:=sortedHeap s.heap a vs out.toArray}) :
  wpAny (model prog w) A (Builtin.«list.sort» ⟨[.ref a],[]⟩) P E s:=by
 rw [list_sort_plain];have ha:a<s.heap.objs.size:=gw ho;refine g0 (g3q ho rfl ?_);refine g0 (g19 ho rfl ?_ (by simpa using hz) (by simp));obtain⟨e1,ho1⟩:∃e1,(s.heap.update a (Obj.mapSeq fun _=> #[])).get? a=some (seqObj "list" #[] e1):=⟨_,g0r ho (fun _=> #[])⟩
 refine g0 (g44 ho1 rfl ?_);refine g0 (wpAny_newTuple ?_);refine g0 (g39 ?_);refine nz ?_;have ho6:(ji s.heap a vs).get? a=some (seqObj "list" #[] e1):=by
  unfold ji;rw [pq _ _ _ (by rw [g01,p6];exact m9 (g0u ha)),pq _ _ _ (by rw [p6];exact m9 ha)];exact ho1
 show wpAny (model prog w) A _ P E {s with heap:=ji s.heap a vs};dsimp only;have hsz:vs.toArray.size=vs.length:=by simp
 by_cases h2:vs.toArray.size<2
 ·rw [mi h2,mi h2]
  refine g0 (g9 ?_);rw [StateT.run_pure];refine g0 (g9 ?_);dsimp only;refine g0 (g44 ho6 rfl ?_);have ez:(Array.map (fun x:Keyed=>x.2) (vs.toArray.zip vs.toArray))=vs.toArray:=by
   apply g5v;simp [g5a]
  refine g0 (g19 ho6 rfl ?_ (by simp) (by show(Array.map (fun x:Keyed=>x.2) (vs.toArray.zip vs.toArray)).size<=_;rw [ez,hsz];lia));simp only [g31,gf,p0];refine g9 ?_;show P _ {s with heap:=sortedHeap s.heap a vs (Array.map (fun x:Keyed=>x.2) (vs.toArray.zip vs.toArray))};rw [ez];refine h vs (.refl _) ?_
  match vs,hsz,h2 with
  | [],_,_=>exact .nil
  | [_],_,_=>exact g1m _ _
  | _ :: _ :: _,_,h2=>simp at h2;lia
 ·rw [mf h2,mf h2]
  have h2':2<=vs.length:=by lia
  refine g0 (hkind h2' _ ?_);have gp:∀p∈(vs.toArray.zip vs.toArray).toList,G p.1:=fun p hp=>by
   have:p∈vs.zip vs:=by simpa using hp
   exact g _ (mem_zip_self this).2
  refine g0 (tm (qae (a₀:=vs.toArray.zip vs.toArray) (st:=SortSt.mk' κ (vs.toArray.zip vs.toArray) #[] 7 none)
   (Q:=fun _ st'=>failedOf st'=none/\(arrOf st').Perm (vs.toArray.zip vs.toArray)/\(arrOf st').toList.Pairwise (le lt)) (C h2') gp rfl rfl rfl rfl fun st' a1 a2 a3=>⟨a1,a2,a3⟩) ?_ fun _ _ e=>e)
  rintro⟨⟨⟩,st'⟩ s' ⟨rfl,hf,hp,hs⟩
  dsimp only;have hl:(arrOf st').toList.Perm (vs.zip vs):=by
   have:=g0k.mp hp
   simpa using this
  have e2:(arrOf st').map (·.2)=((arrOf st').toList.map (·.1)).toArray:=by
   apply g5v;rw [Array.toList_map];exact g2a fun p hp'=>((mem_zip_self (hl.mem_iff.mp hp')).1).symm
  have hp2:((arrOf st').toList.map (·.1)).Perm vs:=by
   have:=hl.map (·.1);rwa [List.map_fst_zip (gu _)] at this
  refine g0 (g44 ho6 rfl ?_);refine g0 (g19 ho6 rfl ?_ (by simp) (by show(Array.map (fun x:Keyed=>x.2) (arrOf st')).size<=_;rw [e2,gj,hp2.length_eq];lia));rw [hf];simp only [g31,gf,p0];refine g9 ?_;show P _ {s with heap:=sortedHeap s.heap a vs ((arrOf st').map (·.2))};rw [e2];exact h _ hp2 (uo.mpr hs)
def srtH(h:Heap)(vs:List Value): Heap:=((h.push (seqObj "list" #[] 0)).update h.objs.size (Obj.mapSeq (· ++ vs.toArray))).push (seqObj "list" vs.toArray 0)
end
section
variable{prog:Program}{w:World}{A:Around}{E:Value->Shared->Prop}{s:Shared}
theorem qaf{kS:Addr}{f:Value}{vs:List Value}{J:List Value->Shared->Prop}{body:Value->PUnit->Sem (ForInStep PUnit)}(hz:vs.length<=sizeLine)
  (hb:∀x ks (s:Shared) (C:Value->Shared->Prop),ks.length<vs.length->wpAny (model prog w) A (call f [x]) (fun k s'=>(∃e,s'.heap.get? kS=some (seqObj "list" (List.toArray ks) e))/\C k {s' with heap:=s'.heap.update kS (Obj.mapSeq (·.push k))}) (fun _ _=>False) s ->
   wpAny (model prog w) A (body x ⟨⟩) (fun r s'=>r=.yield ⟨⟩/\∃k,C k s') E s)
  (hstep:∀l v r,vs=l++v :: r->∀ks s',ks.length=l.length->J ks s'->wpAny (model prog w) A (call f [v]) (fun k s''=>(∃e,s''.heap.get? kS=some (seqObj "list" (List.toArray ks) e))/\J (ks++[k]) {s'' with heap:=s''.heap.update kS (Obj.mapSeq (·.push k))}) (fun _ _=>False) s') :
  ∀(r l ks:List Value) (s:Shared),vs=l++r->ks.length=l.length->J ks s->wpAny (model prog w) A (forIn r PUnit.unit body) (fun _ s'=>∃ks,ks.length=vs.length/\J ks s') E s
 | [],l,ks,s,h1,h2,h3=>by
  rw [g2s];exact g9 ⟨ks,by rw [h2,h1];simp,h3⟩
 | x :: r,l,ks,s,h1,h2,h3=>by
  rw [g1p];refine g0 (tm (hb x ks s (fun k s'=>J (ks++[k]) s') (by rw [h1,h2];simp) (hstep l x r h1 ks s h2 h3)) (fun q s' hq=>?_) fun _ _ x=>x);obtain⟨rfl,k,hk⟩:=hq;show wpAny (model prog w) A (forIn r PUnit.unit body) _ E s';exact qaf hz hb hstep r (l++[x]) (ks++[k]) s' (by rw [h1];simp) (by simp [h2]) hk
theorem qir{a:Addr}{f:Value}{vs:List Value}{n:Nat}{P:PySem.Fin->Shared->Prop}(ho:s.heap.get? a=some (seqObj "list" vs.toArray n))(hz:vs.length<=sizeLine)(J:List Value->Shared->Prop)
  (h0:J [] {s with heap:=ji s.heap a vs})
  (hstep:∀l v r,vs=l++v :: r->∀ks s',ks.length=l.length->J ks s'->wpAny (model prog w) A (call f [v]) (fun k s''=>(∃e,s''.heap.get? (s.heap.objs.size+1)=some (seqObj "list" (List.toArray ks) e))/\J (ks++[k]) {s'' with heap:=s''.heap.update (s.heap.objs.size+1) (Obj.mapSeq (·.push k))}) (fun _ _=>False) s')
  (hfin:∀ks s',ks.length=vs.length->J ks s'->(∃e,s'.heap.get? (s.heap.objs.size+1)=some (seqObj "list" (List.toArray ks) e))/\s'.heap.get? a=(ji s.heap a vs).get? a /\
   ∃ κ G lt,(2<=vs.length->∀(E:Value->Shared->Prop) (Q:SortKind->Shared->Prop),Q κ s'->wpAny (model prog w) A (keyKind' ks.toArray) Q E s')/\(2<=vs.length->Cmp prog w A s' κ G lt)/\(∀k∈ks,G k) /\
    ∀T:List (Value×Value),T.Perm (ks.zip vs)->T.Pairwise (le lt)->P (.done (.ret .none)) {s' with heap:=(s'.heap.update (s.heap.objs.size+1) (Obj.mapSeq fun _=> #[])).update a (Obj.mapSeq fun _=>(T.map (·.2)).toArray)}) :
  wpAny (model prog w) A (ksk_tree a f false) P E s:=by
 have ha:a<s.heap.objs.size:=gw ho;obtain⟨e1,ho1⟩:∃e1,(s.heap.update a (Obj.mapSeq fun _=>(#[]:Array Value))).get? a=some (seqObj "list" #[] e1):=⟨_,g0r ho fun _=> #[]⟩
 have hkS:((s.heap.update a (Obj.mapSeq fun _=>(#[]:Array Value))).push (seqObj "tuple" vs.toArray 0)).objs.size=s.heap.objs.size+1:=by rw [g01,p6]
 have ho6:(ji s.heap a vs).get? a=some (seqObj "list" #[] e1):=by
  unfold ji;rw [pq _ _ _ (by rw [g01,p6];exact m9 (g0u ha)),pq _ _ _ (by rw [p6];exact m9 ha)];exact ho1
 have hsz:vs.toArray.size=vs.length:=by simp
 unfold ksk_tree;refine g0 (g3q ho rfl ?_);refine g0 (g19 ho rfl ?_ (by simpa using hz) (uy _));refine g0 (g44 ho1 rfl ?_);refine g0 (wpAny_newTuple ?_ (by simpa using hz));refine g0 (g39 ?_ (uy _));refine nz ?_;rw [hkS];show wpAny (model prog w) A (ksk_rest a f false vs.toArray e1 (.ref (s.heap.objs.size+1))) P E {s with heap:=ji s.heap a vs};unfold ksk_rest;refine g0 (g00 ?_);rw [List.forIn_toArray];refine g0 (tm (qaf (vs:=vs) (J:=J) hz (fun x ks s' C hl hx=>?_) hstep vs [] [] _ rfl rfl h0) (fun _ s' hd=>?_) fun _ _ x=>x)
 ·refine g0 (g0i (tm hx (fun k s'' hk=>?_) fun _ _ hF=>hF.elim))
  obtain⟨⟨e,he⟩,hc⟩:=hk;dsimp only;refine g0 (g19 he rfl ?_ (by rw [gj];lia) (ml (Nat.le_of_eq (Array.size_push ..)) (by rw [gj];lia)));exact g9 ⟨rfl,k,hc⟩
 ·obtain⟨ks,hl,hJ⟩:=hd
  obtain⟨⟨e,he⟩,hA, κ,G,lt,hkind,C,g,fin⟩:=hfin ks s' hl hJ;rw [ho6] at hA;refine g0 (g3q he rfl ?_);unfold ksk_end;dsimp only;rw [mf (by simp)];have hks:a≠s.heap.objs.size+1:=m9 (g0u ha);have tail:∀st':SortSt,failedOf st'=none->(arrOf st').toList.Perm (ks.zip vs)->(arrOf st').toList.Pairwise (le lt)->wpAny (model prog w) A (ksk_tail a false e1 (.ref (s.heap.objs.size+1)) st') P E s':=by
   intro st' hf hp hs;unfold ksk_tail;dsimp only;have eo:(arrOf st').map (·.2)=((arrOf st').toList.map (·.2)).toArray:=by
    apply g5v;rw [Array.toList_map]
   rw [eo];have hlen:((arrOf st').toList.map (·.2)).length=vs.length:=by rw [mj,hp.length_eq,g2f,hl,g56]
   refine g0 (g19 he rfl ?_ (by rw [gj,hl];exact hz) (uy _));refine g0 (g5m ?_);have hA2:(s'.heap.update (s.heap.objs.size+1) (Obj.mapSeq fun _=> #[])).get? a=some (seqObj "list" #[] e1):=by
    rw [u9 _ _ _ _ hks];exact hA
   refine g0 (g44 hA2 rfl ?_);refine g0 (g19 hA2 rfl ?_ (uy _) (by simp only [gf,p0];rw [gj,hlen];lia));rw [hf];simp only [g31,gf,p0];exact g9 (fin _ hp hs)
  have ez:(ks.toArray.zip vs.toArray).toList=ks.zip vs:=by simp
  by_cases h2:vs.toArray.size<2
  ·rw [mi h2,mi h2]
   refine g0 (g9 ?_);rw [StateT.run_pure];refine g0 (g9 ?_);dsimp only;refine tail _ rfl ?_ ?_
   ·show(ks.toArray.zip vs.toArray).toList.Perm _
    rw [ez]
   ·show(ks.toArray.zip vs.toArray).toList.Pairwise _
    rw [ez];have:(ks.zip vs).length<2:=by rw [g2f,hl,g56];lia
    match ks.zip vs,this with
    | [],_=>exact .nil
    | [_],_=>exact g1m _ _
    | _ :: _ :: _,h=>simp at h;lia
  ·rw [mf h2,mf h2]
   have h2':2<=vs.length:=by lia
   refine g0 (hkind h2' _ _ ?_);have gp:∀p∈(ks.toArray.zip vs.toArray).toList,G p.1:=fun p hp=>by
    rw [ez] at hp;exact g _ (g2d hp).1
   refine g0 (tm (qae (a₀:=ks.toArray.zip vs.toArray) (st:=SortSt.mk' κ (ks.toArray.zip vs.toArray) #[] 7 none)
    (Q:=fun _ st'=>failedOf st'=none/\(arrOf st').Perm (ks.toArray.zip vs.toArray)/\(arrOf st').toList.Pairwise (le lt)) (C h2') gp rfl rfl rfl rfl fun st' a1 a2 a3=>⟨a1,a2,a3⟩) ?_ fun _ _ e=>e)
   rintro⟨⟨⟩,st'⟩ s'' ⟨rfl,hf,hp,hs⟩
   dsimp only;refine tail st' hf ?_ hs;rw [<- ez];exact g0k.mp hp
theorem qc3{l fa:Addr}{vs:List Value}{Q:Value->Shared->Prop}(hl:s.heap.IsList l vs.toArray)(hz:vs.length<=sizeLine)(J:List Value->Shared->Prop)
  (h0:J [] {s with heap:=ji (srtH s.heap vs) (s.heap.objs.size+1) vs})
  (hstep:∀l v r,vs=l++v :: r->∀ks s',ks.length=l.length->J ks s'->wpAny (model prog w) A.in1.in1 (call (.ref fa) [v]) (fun k s''=>(∃e,s''.heap.get? (s.heap.objs.size+3)=some (seqObj "list" (List.toArray ks) e))/\J (ks++[k]) {s'' with heap:=s''.heap.update (s.heap.objs.size+3) (Obj.mapSeq (·.push k))}) (fun _ _=>False) s')
  (hfin:∀ks s',ks.length=vs.length->J ks s'->(∃e,s'.heap.get? (s.heap.objs.size+3)=some (seqObj "list" (List.toArray ks) e))/\s'.heap.get? (s.heap.objs.size+1)=(ji (srtH s.heap vs) (s.heap.objs.size+1) vs).get? (s.heap.objs.size+1) /\
   ∃ κ G lt,(2<=vs.length->∀(E:Value->Shared->Prop) (Q:SortKind->Shared->Prop),Q κ s'->wpAny (model prog w) A.in1.in1 (keyKind' ks.toArray) Q E s')/\(2<=vs.length->Cmp prog w A.in1.in1 s' κ G lt)/\(∀k∈ks,G k) /\
    ∀T:List (Value×Value),T.Perm (ks.zip vs)->T.Pairwise (le lt)->Q (.ref (s.heap.objs.size+1)) {s' with heap:=(s'.heap.update (s.heap.objs.size+3) (Obj.mapSeq fun _=> #[])).update (s.heap.objs.size+1) (Obj.mapSeq fun _=>(T.map (·.2)).toArray)}) :
  wpAny (model prog w) A (call (.builtin "sorted") [.ref l] [(Str.ofString "key",.ref fa)]) Q E s:=by
 refine call_function_entry_kw kind_sorted plain_sorted entry_sorted (ksk_s1 _ _) ?_;unfold Builtin.«sorted»;refine g0 (m:=checkCount "sorted" 1 1 _) (g9 ?_);refine g0 (collect_list hl ?_ hz);refine g0 (g39 ?_ (by simpa using hz));have hsz:((s.heap.push (seqObj "list" #[] 0)).update s.heap.objs.size (Obj.mapSeq (· ++ vs.toArray))).objs.size=s.heap.objs.size+1:=by
  rw [p6,g01]
 have hsz2:(srtH s.heap vs).objs.size=s.heap.objs.size+2:=by unfold srtH;rw [g01,hsz]
 have hoL:(srtH s.heap vs).get? (s.heap.objs.size+1)=some (seqObj "list" vs.toArray 0):=by
  unfold srtH;rw [<- hsz];exact gr _ rfl
 show wpAny _ _ _ _ _ {s with heap:=srtH s.heap vs};rw [hsz];refine g0 (nz (wpAny_call_entry_kw slot_list_sort ⟨_,hoL,rfl⟩ entry_list_sort ?_ (ksk_l1 _ _)));show wpAny (model prog w) A.in1.in1 (Builtin.«list.sort» ⟨[.ref (s.heap.objs.size+1)],[(Str.ofString "key",.ref fa)]⟩) _ _ _;rw [ksk_t1];refine qir (s:={s with heap:=srtH s.heap vs}) hoL hz J h0 ?_ ?_
 ·show ∀l v r,vs=l++v :: r->∀ks s',ks.length=l.length->J ks s'->wpAny (model prog w) A.in1.in1 (call (.ref fa) [v]) (fun k s''=>(∃e,s''.heap.get? ((srtH s.heap vs).objs.size+1)=some (seqObj "list" (List.toArray ks) e))/\J (ks++[k]) {s'' with heap:=s''.heap.update ((srtH s.heap vs).objs.size+1) (Obj.mapSeq (·.push k))}) (fun _ _=>False) s'
  rw [hsz2];exact hstep
 ·intro ks s' h1 h2
  show(∃e,s'.heap.get? ((srtH s.heap vs).objs.size+1)=some (seqObj "list" (List.toArray ks) e))/\s'.heap.get? (s.heap.objs.size+1)=(ji (srtH s.heap vs) (s.heap.objs.size+1) vs).get? (s.heap.objs.size+1)/\_;obtain⟨b1,b2, κ,G,lt,b3,b4,b5,b6⟩:=hfin ks s' h1 h2;rw [hsz2];exact⟨b1,b2, κ,G,lt,b3,b4,b5,fun T t1 t2=>⟨_,rfl,g9 ⟨_,rfl,b6 T t1 t2⟩⟩⟩
end
end Srt
namespace DL
open PySem PySem.Spec PyProof.Rows L2 Srt
variable[Lam]
theorem qge:∀n,(∀d e:D,sizeOf d<n->shD d e=true->okE d e=true/\eqD d e=(!ltT d e && !ltT e d))/\(∀ds es:List D,sizeOf ds<n->shL ds es=true->ye ds es=true/\eqL ds es=(!k7 ds es && !k7 es ds)):=by
 intro n
 induction n with
 | zero=>exact⟨fun d e h=>absurd h (ph _),fun d e h=>absurd h (ph _)⟩
 | succ n ih=>
  refine⟨fun d e hn h=>?_,fun ds es hn h=>?_⟩
  ·cases d <;> cases e <;> simp only [shD] at h <;> first|(cases h;done)|skip
   ·refine⟨by simp [okE,flat,flD],?_⟩
    rw [ju,ju];simp only [eqD,eqF];rename_i i j
    by_cases e1:i=j
    ·subst e1;simp
    ·have:(i==j)=false:=by simpa using e1
     rw [this]
     by_cases e2:i<j
     ·simp [e2]
     ·have e3:j<i:=by lia
      simp [e3]
   ·rw [yu,yu]
    simp only [okE,eqD];exact ih.2 _ _ (by simp at hn;lia) h
  ·cases ds with
   | nil=>cases es <;> simp [ye,eqL,q1i,yh]
   | cons d ds=>
    cases es with
    | nil=>simp [ye,eqL,q1i,yh]
    | cons e es=>
     simp only [shL,m6] at h;obtain⟨a1,a2⟩:=ih.1 d e (by simp at hn;lia) h.1;obtain⟨b1,b2⟩:=ih.2 ds es (by simp at hn;lia) h.2;refine⟨by simp only [ye,a1,b1,g3a],?_⟩;rw [ky,ky];simp only [eqL,a2,b2];cases e1:ltT d e <;> cases e2:ltT e d <;> simp
theorem qoy{d e:D}(h:shD d e=true): okE d e=true:=((qge (sizeOf d+1)).1 d e (uz _) h).1
theorem qk0{d e:D}(h:shD d e=true): eqD d e=(!ltT d e && !ltT e d):=((qge (sizeOf d+1)).1 d e (uz _) h).2
section
variable{X:Cx}{pins:List (Addr×Obj)}{σ : St}{F H:Hp}{s:Shared}
theorem q7i{A:Around}(I:Inv X pins σ H s)(fh:Same F H)(f:Bool): ∀ {ds es:List D} {xs ys:List V} {us vs:List Value},(∀d∈ds,∀e x y u v,shD d e=true->A.units+yf d<cLine->Rep X.K F d x->Rep X.K F e y->RelV x u->RelV y v->LtAt A s u v (ltT d e)) ->
  shL ds es=true->A.units+vp ds<cLine->RepL X.K F ds xs->RepL X.K F es ys->Vals xs us->Vals ys vs->f=decide (ds.length<es.length)->LexAt A s f (us.zip vs) (k7 ds es)
 | [],es,xs,ys,us,vs,_,_,_,k1,k2,w1,w2,hf=>by
  cases k1.nil_inv;cases w1;cases es with
  | nil=>rw [q1i];simp only [List.zip_nil_left];rw [show false=f by rw [hf];simp];exact .nil
  | cons e es=>rw [yh];simp only [List.zip_nil_left];rw [show true=f by rw [hf];simp];exact .nil
 | d :: ds,[],xs,ys,us,vs,_,_,_,k1,k2,w1,w2,hf=>by
  cases k2.nil_inv;cases w2;rw [q1i];simp only [List.zip_nil_right];rw [show false=f by rw [hf];simp];exact .nil
 | d :: ds,e :: es,xs,ys,us,vs,ih,hs,hu,k1,k2,w1,w2,hf=>by
  obtain⟨x,r,rfl,a1,a2⟩:=k1.cons_inv;obtain⟨y,r',rfl,b1,b2⟩:=k2.cons_inv;cases w1 with
  | cons p1 p2=>
   cases w2 with
   | cons p3 p4=>
    simp only [shL,m6] at hs;simp only [vp] at hu;rw [List.zip_cons_cons];have he:=qa0 I fh A (qoy hs.1) (by lia) a1 b1 p1 p3;have hl:=ih d m4 e x y _ _ hs.1 (by lia) a1 b1 p1 p3;rw [qk0 hs.1] at he;rw [ky];cases e1:ltT d e
    ·cases e2:ltT e d
     ·rw [e1,e2] at he
      simp only [g3b,g1z,g5x];exact .eq he (q7i I fh f (fun d' hd'=>ih d' (m5 _ hd')) hs.2 (by lia) a2 b2 p2 p4 (by rw [hf];simp))
     ·rw [e1,e2] at he
      rw [e1] at hl;exact .ne he hl
    ·rw [e1] at he hl
     exact .ne he hl
theorem qny(I:Inv X pins σ H s)(fh:Same F H): ∀ {d e:D} {x y:V} {u v:Value} (A:Around),shD d e=true->A.units+yf d<cLine->Rep X.K F d x->Rep X.K F e y->RelV x u->RelV y v->LtAt A s u v (ltT d e):=by
 suffices hh:∀n,(∀d e x y u v (A:Around),sizeOf d<n->shD d e=true->A.units+yf d<cLine->Rep X.K F d x->Rep X.K F e y->RelV x u->RelV y v->LtAt A s u v (ltT d e)) from
  fun {d e x y u v} A=>hh (sizeOf d+1) d e x y u v A (uz _)
 intro n
 induction n with
 | zero=>intro d e x y u v A h;exact absurd h (ph _)
 | succ n ih=>
  intro d e x y u v A hn hs hu r1 r2 q1 q2;cases d <;> cases e <;> simp only [shD] at hs <;> first|(cases hs;done)|skip
  ·cases rep_int.mp r1
   cases rep_int.mp r2;obtain⟨t,rfl⟩:=q1;obtain⟨t',rfl⟩:=q2;rw [ju];intro prog w E Q h;exact lt_int h
  ·rename_i ds es
   obtain⟨a,xs,rfl,k1,k2⟩:=rep_tup.mp r1;obtain⟨b,ys,rfl,k3,k4⟩:=rep_tup.mp r2;cases q1;cases q2;obtain⟨i1,v1,t1,_⟩:=I.tuple (qh fh k1);obtain⟨i2,v2,t2,_⟩:=I.tuple (qh fh k3);simp only [yf] at hu;rw [yu];refine LtAt.tuples (show s.heap.IsTuple a i1.toArray from t1) (show s.heap.IsTuple b i2.toArray from t2) (by lia) ?_;refine q7i I fh _ (fun d hd e x y u v s1 s2 s3 s4 s5 s6=>ih d e x y u v A.in1 ?_ s1 s2 s3 s4 s5 s6) hs (by show A.units+1+vp ds<cLine;lia) k2 k4 v1 v2 ?_
   ·have:=List.sizeOf_lt_of_mem hd
    simp at hn;lia
   ·rw [gj,gj, <- v1.length, <- v2.length, <- k2.length, <- k4.length]
theorem qis(I:Inv X pins σ H s)(fh:Same F H): ∀ {d e:D} {x:V},kD d=true->kD e=true->Rep X.K F d x->Rep X.K F e x->d=e:=by
 suffices hh:∀n,(∀d e x,sizeOf d<n->kD d=true->kD e=true->Rep X.K F d x->Rep X.K F e x->d=e) from fun {d e x}=>hh (sizeOf d+1) d e x (uz _)
 intro n
 induction n with
 | zero=>intro d e x h;exact absurd h (ph _)
 | succ n ih=>
  intro d e x hn kd ke r1 r2;cases d <;> simp only [kD] at kd <;> first|(cases kd;done)|skip
  all_goals (cases e <;> simp only [kD] at ke <;> first|(cases ke;done)|skip)
  ·cases rep_int.mp r1
   cases rep_int.mp r2
   rfl
  ·cases rep_int.mp r1
   obtain⟨_,_,z,_⟩:=rep_tup.mp r2;cases z
  ·obtain⟨_,_,z,_⟩:=rep_tup.mp r1
   cases rep_int.mp r2;cases z
  ·rename_i ds es
   obtain⟨a,xs,rfl,k1,k2⟩:=rep_tup.mp r1;obtain⟨b,ys,z,k3,k4⟩:=rep_tup.mp r2;cases z;cases I.tuple_inj (qh fh k1) (qh fh k3);have seq:∀(ds es:List D) (xs:List V),sizeOf ds<n->kDL ds=true->kDL es=true->RepL X.K F ds xs->RepL X.K F es xs->ds=es:=by
    intro ds
    induction ds with
    | nil=>
     intro es xs _ _ _ k1 k2;cases k1.nil_inv;cases es with
     | nil=>rfl
     | cons e es=>obtain⟨_,_,z,_⟩:=k2.cons_inv;cases z
    | cons d ds ihd=>
     intro es xs hs h1 h2 k1 k2;obtain⟨x,r,rfl,a1,a2⟩:=k1.cons_inv;cases es with
     | nil=>cases k2.nil_inv
     | cons e es=>
      obtain⟨x',r',z,b1,b2⟩:=k2.cons_inv;cases z;simp only [kDL,m6] at h1 h2;rw [ih d e x (by simp at hs;lia) h1.1 h2.1 a1 b1,ihd es r (by simp at hs;lia) h1.2 h2.2 a2 b2]
   rw [seq ds es xs (by simp at hn;lia) kd ke k2 k4]
theorem qgf{d e:D}{x y:V}{u:Value}{K:Frag}(kd:kD d=true)(ke:kD e=true)(r1:Rep K F d x)(r2:Rep K F e y)(q1:RelV x u)(q2:RelV y u): x=y:=by
 cases d <;> simp only [kD] at kd <;> first|(cases kd;done)|skip
 all_goals (cases e <;> simp only [kD] at ke <;> first|(cases ke;done)|skip)
 ·cases rep_int.mp r1
  cases rep_int.mp r2;obtain⟨t,rfl⟩:=q1;obtain⟨t',z⟩:=q2;cases z
  rfl
 ·cases rep_int.mp r1
  obtain⟨_,_,rfl,_⟩:=rep_tup.mp r2;obtain⟨t,rfl⟩:=q1;cases q2
 ·obtain⟨_,_,rfl,_⟩:=rep_tup.mp r1
  cases rep_int.mp r2;cases q1;obtain⟨t',z⟩:=q2;cases z
 ·obtain⟨_,_,rfl,_⟩:=rep_tup.mp r1
  obtain⟨_,_,rfl,_⟩:=rep_tup.mp r2;cases q1;cases q2
  rfl
def q1j(K:Frag)(F:Hp)(d:D)(u:Value): Prop:=kD d=true/\∃x,Rep K F d x/\RelV x u
open Classical in
noncomputable def keyOf(K:Frag)(F:Hp)(u:Value): D:=if h:∃d,q1j K F d u then Classical.choose h else .non
theorem q2z(I:Inv X pins σ H s)(fh:Same F H){d:D}{u:Value}(h:q1j X.K F d u): keyOf X.K F u=d:=by
 unfold keyOf;rw [dif_pos ⟨d,h⟩];obtain⟨k1,x,a1,a2⟩:=Classical.choose_spec (⟨d,h⟩:∃d,q1j X.K F d u);obtain⟨k2,y,b1,b2⟩:=h;obtain rfl:=qgf k1 k2 a1 b1 a2 b2;exact qis I fh k1 k2 a1 b1
theorem q8b{α β : Type}(f : α -> β){l:List β}{m:List β}(p:l.Perm m): ∀ {L:List α},m=L.map f->∃L':List α,L'.Perm L/\l=L'.map f:=by
 induction p with
 | nil=>intro L h;cases L with
  | nil=>exact⟨[],.refl _,rfl⟩
  | cons a L=>cases h
 | cons x p ih=>
  intro L h;cases L with
  | nil=>cases h
  | cons a L=>
   rw [gv] at h;injection h with h1 h2
   obtain⟨L',p',e⟩:=ih h2;exact⟨a :: L',p'.cons a,by rw [gv, <- e,h1]⟩
 | swap x y r=>
  intro L h
  match L,h with
  | [],h=>cases h
  | [a],h=>injection h with h1 h2;cases h2
  | a :: b :: L,h=>
   rw [gv,gv] at h;injection h with h1 h2
   injection h2 with h2 h3
   exact⟨b :: a :: L,.swap a b L,by rw [gv,gv, <- h1, <- h2, <- h3]⟩
 | trans p q ih1 ih2=>
  intro L h;obtain⟨L2,p2,e2⟩:=ih2 h;obtain⟨L1,p1,e1⟩:=ih1 e2;exact⟨L1,p1.trans p2,e1⟩
end
end DL
namespace DL
open PySem PySem.Spec PyProof.Rows L2 Srt PySem.W
variable[Lam]
def isI:D->Bool
 | .int _=>true
 | _=>false
def qk1:D->Bool
 | .tup (.int _ :: _)=>true
 | _=>false
def q0a(ks:List D): Bool:=ks.all kD&&(ks.all fun d=>ks.all fun e=>shD d e)&&(ks.all isI || (ks.all qk1&&ks.all fun d=>decide (yf d<=50)))
section
variable{X:Cx}{pins:List (Addr×Obj)}{σ : St}{F H:Hp}{s:Shared}
theorem qgg{prog:Program}{w:World}{A:Around}{f c:Bool}{Q:Bool->Shared->Prop}{l:List (Value×Value)}(h:LexAt A s f l c): ∀i,1<=i->Q c s->KatLex prog w A true f Q l i s:=by
 induction h with
 | nil=>intro i _ q;exact kat_nil q
 | eq e _ ih=>intro i hi q;exact kat_cons (e prog w _ _ (kat_yes (ih (i+1) (by lia) q)))
 | ne e k=>
  intro i hi q;refine kat_cons (e prog w _ _ (kat_no ?_));have:(true&&i==0)=false:=by simp;lia
  rw [this];exact kat_one _ _ (k prog w _ _ q)
theorem q6m{h:Heap}: ∀ {vs:List Value},(∀v∈vs,∃a o xs n i t,v=.ref a/\h.get? a=some o/\o.cls=.type "tuple" /\ o.data=.seq xs n/\xs[0]? = some (Value.int i t)) ->
  ∃fs:List Value,KatTups h vs fs/\fs.length=vs.length/\∀v∈fs,∃i t,v=Value.int i t
 | [],_=>⟨[],.nil,rfl,fun v hv=>by cases hv⟩
 | v :: vs,hh=>by
  obtain⟨a,o,xs,n,i,t,rfl,h1,h2,h3,h4⟩:=hh v m4;obtain⟨fs,k1,k2,k3⟩:=q6m fun v hv=>hh v (m5 _ hv);refine⟨.int i t :: fs,.cons h1 h2 h3 h4 k1,by simp [k2],fun v hv=>?_⟩;rcases me.mp hv with rfl|hv
  ·exact⟨i,t,rfl⟩
  ·exact k3 v hv
theorem qk2(I:Inv X pins σ H s)(fh:Same F H)(A:Around)(hu:A.units+60<cLine){us:List Value}{ks:List D}(st:∀u∈us,∃d∈ks,q1j X.K F d u)(ok:q0a ks=true):
  ∃ κ,(2<=us.length->∀(E:Value->Shared->Prop) (Q:SortKind->Shared->Prop),Q κ s->wpAny (model X.prog X.w) A (keyKind' us.toArray) Q E s) /\
   Cmp X.prog X.w A s κ (fun u=>u∈us) (fun u v=>ltT (keyOf X.K F u) (keyOf X.K F v)):=by
 unfold q0a at ok;rw [m6,m6,g0q,m6] at ok;obtain⟨⟨_,o2⟩,o3⟩:=ok;have sh:∀d∈ks,∀e∈ks,shD d e=true:=fun d hd e he=>n9.mp (n9.mp o2 d hd) e he;rcases o3 with o3|⟨o3,o4⟩
 ·have hin:∀u∈us,∃n t,u=Value.int n t/\keyOf X.K F u=.int n:=fun u hu=>by
   obtain⟨d,hd,hs⟩:=st u hu;have hk:=q2z I fh hs;have:=n9.mp o3 d hd;cases d <;> simp only [isI] at this <;> first|(cases this;done)|skip
   obtain⟨_,x,r,q⟩:=hs;cases rep_int.mp r;obtain⟨t,rfl⟩:=q;exact⟨_,t,rfl,hk⟩
  refine⟨oneType',fun h2 E Q q=>?_,⟨fun x y gx gy Q q=>?_,fun x y h=>qa8 h,fun x y z h k=>qa9 h k⟩⟩
  ·match us,h2,hin with
   | v₁ :: v₂ :: vs,_,hin=>
    rw [keyKind_ints (intsAre_map _ fun v hv=>let⟨n,t,e,_⟩:=hin v hv; ⟨n,t,e⟩)];exact g9 q
  ·obtain⟨n,t,rfl,e1⟩:=hin x gx
   obtain⟨m,t',rfl,e2⟩:=hin y gy;rw [e1,e2,ju] at q;exact kat_lt_int q
 ·have tups:∀u∈us,∃d∈ks,q1j X.K F d u/\keyOf X.K F u=d/\yf d<=50/\∃i ds,d=.tup (.int i :: ds):=fun u hu=>by
   obtain⟨d,hd,hs⟩:=st u hu;have hk:=q2z I fh hs;have:=n9.mp o3 d hd;have h4:=g0f (n9.mp o4 d hd);unfold qk1 at this
   split at this
   ·exact⟨_,hd,hs,hk,h4,_,_,rfl⟩
   ·cases this
  refine⟨tuples' true,fun h2 E Q q=>?_,⟨fun x y gx gy Q q=>?_,fun x y h=>qa8 h,fun x y z h k=>qa9 h k⟩⟩
  ·obtain⟨fs,k1,k2,k3⟩:=q6m (h:=s.heap) (vs:=us) fun v hv=>by
    obtain⟨d,_,⟨_,x,r,qx⟩,_,_,i,ds,rfl⟩:=tups v hv;obtain⟨a,xs,rfl,q1,q2⟩:=rep_tup.mp r;cases qx;obtain⟨x0,r0,rfl,z1,z2⟩:=q2.cons_inv;cases rep_int.mp z1;obtain⟨its,r1,⟨o,ho,hc,n,hd⟩,_⟩:=I.tuple (qh fh q1);cases r1 with
    | cons p1 p2=>
     obtain⟨t,rfl⟩:=p1;exact⟨a,o,_,n,i,t,rfl,ho,hc,hd,by simp⟩
   refine kat_kind (T:=.type "int") k1 (by lia) (fun v hv=>?_) (by rfl) q;obtain⟨i,t,rfl⟩:=k3 v hv;exact Looks.of_pure rfl
  ·obtain⟨d,hd,⟨_,x',r,qx⟩,e1,dp,i,ds,rfl⟩:=tups x gx
   obtain⟨e,he,⟨_,y',r',qy⟩,e2,dp',j,es,rfl⟩:=tups y gy;rw [e1,e2] at q;have hs:=sh _ hd _ he;obtain⟨a,xs,rfl,q1,q2⟩:=rep_tup.mp r;obtain⟨b,ys,rfl,q3,q4⟩:=rep_tup.mp r';cases qx;cases qy;obtain⟨x0,r0,rfl,z1,z2⟩:=q2.cons_inv;obtain⟨y0,w0,rfl,z3,z4⟩:=q4.cons_inv;have z1':=z1;have z3':=z3;cases rep_int.mp z1;cases rep_int.mp z3;obtain⟨its,r1,⟨o,ho,hc,n,hdt⟩,_⟩:=I.tuple (qh fh q1);obtain⟨its2,r2,⟨o2,ho2,hc2,n2,hdt2⟩,_⟩:=I.tuple (qh fh q3);have l1:=r1.length;have l2:=r2.length;have m1:=q2.length;have m2:=q4.length;cases r1 with
   | cons p1 p2=>
    cases r2 with
    | cons p3 p4=>
     have hp1:=p1;have hp3:=p3;obtain⟨t,rfl⟩:=p1;obtain⟨t',rfl⟩:=p3;simp only [shD,shL,m6] at hs;simp only [yf,vp] at dp;refine kat_lt ho hdt ho2 hdt2 ?_;rw [yu,ky] at q;have hE:=qa0 I fh A (d:=.int i) (e:=.int j) (by simp [okE,flat,flD]) (by simp only [yf];lia) z1' z3' hp1 hp3;rw [qk0 (by simp only [shD])] at hE;simp only [List.zip_cons_cons];have lex:=q7i I fh (A:=A) (decide (ds.length<es.length)) (fun d _ e x y u v s1 s2 s3 s4 s5 s6=>qny I fh A s1 s2 s3 s4 s5 s6) hs.2 (by lia) z2 z4 p2 p4 rfl;have ef:∀ {m1 m2:List Value},Paired RelV r0 m1->Paired RelV w0 m2->decide ((Value.int i t :: m1).toArray.size<(Value.int j t' :: m2).toArray.size)=decide (ds.length<es.length):=fun a3 a4=>by
      simp only [gj,t9];rw [<- g4e a3, <- g4e a4, <- z2.length, <- z4.length];simp
     rw [ef p2 p4];cases c1:ltT (.int i) (.int j)
     ·cases c2:ltT (.int j) (.int i)
      ·rw [c1,c2] at hE q
       simp only [g3b,g1z,g5x] at q;exact kat_cons (hE X.prog X.w _ _ (kat_yes (qgg lex 1 (gu _) q)))
      ·rw [c1,c2] at hE q
       refine kat_cons (hE X.prog X.w _ _ (kat_no ?_));have c1':decide (i<j)=false:=by rw [<- ju];exact c1
       refine oneLt_int ?_;rw [c1'];exact q
     ·rw [c1] at hE q
      refine kat_cons (hE X.prog X.w _ _ (kat_no ?_));have c1':decide (i<j)=true:=by rw [<- ju];exact c1
      refine oneLt_int ?_;rw [c1'];exact q
theorem qit{K:Frag}: ∀ {ds:List D} {ys:List V} {its:List Value},RepL K F ds ys->Vals ys its->∃T:List (V×Value×D),T.map (·.1)=ys/\T.map (·.2.1)=its/\T.map (·.2.2)=ds/\∀t∈T,Rep K F t.2.2 t.1/\RelV t.1 t.2.1
 | [],ys,its,k2,r1=>by
  cases k2.nil_inv;cases r1;exact⟨[],rfl,rfl,rfl,fun t ht=>by cases ht⟩
 | d :: ds,ys,its,k2,r1=>by
  obtain⟨x,r,rfl,a1,a2⟩:=k2.cons_inv;cases r1 with
  | cons b1 b2=>
   rename_i u' us';obtain⟨T,t1,t2,t3,t4⟩:=qit a2 b2;refine⟨(x,u',d) :: T,by simp [t1],by simp [t2],by simp [t3],fun t ht=>?_⟩;rcases me.mp ht with rfl|ht
   ·exact⟨a1,b1⟩
   ·exact t4 t ht
end
section
variable{X:Cx}{pins:List (Addr×Obj)}{σ : St}{F H:Hp}{s:Shared}
structure Late(X:Cx)(pins:List (Addr×Obj))(b:Addr): Prop where
 loc:b≠X.env.locals
 up:X.s₀.heap.objs.size<=b
 cel:∀x c,X.env.cells.lookup x=some c->c≠b
 pin:∀p∈X.pn++pins,p.1≠b
 frs:b∉frs X.stack
theorem qnz(I:Inv X pins σ H s){b:Addr}(hb:s.heap.objs.size<=b): Late X pins b where
 loc:=uh (gm I.lt hb)
 up:=ml I.sz hb
 cel:=fun x c e z=>by
  subst z;obtain⟨v,o,ho,_⟩:=I.cell x c e;exact absurd (gw ho) (g5w.mpr hb)
 pin:=fun p hp z=>by
  subst z;exact absurd (gw (I.pin p hp).1) (g5w.mpr hb)
 frs:=fun z=>(me.mp (I.stkSub b z)).elim (uh (gm I.lt hb)) (I.nofs hb)
theorem qag(I:Inv X pins σ H s){b:Addr}(l:Late X pins b){h':Heap}(k:∀c o,c≠b->s.heap.get? c=some o->h'.get? c=some o)(hn:H b=none): Inv X pins σ H {s with heap:=h'}:=
 I.turned (t':=s.toks) k hn l.loc (.inr l.up) l.cel l.pin
theorem qgh(I:Inv X pins σ H s){b:Addr}(l:Late X pins b){h':Heap}{o:HO}(k:∀c o,c≠b->s.heap.get? c=some o->h'.get? c=some o)(hn:H b=none)(new:ObjOk X.prog X.w (upd H b o) h' b o):
  Inv X pins σ (upd H b o) {s with heap:=h'}:=by
 have nb:∀c u,H c=some u->c≠b:=fun c u e z=>by rw [z,hn] at e;cases e
 refine I.step (t':=s.toks) (g':=s.gens) (d':=s.drawn) (ch:=[b]) (fun c hc=>?_) (fun c u _ _ hc e _=>k c u (fun z=>hc (by simp [z])) e) (fun c u _ _ hc e _=>⟨u.slots,k c u (fun z=>hc (by simp [z])) e⟩)
  (fun c u hc _ n=>by rw [qi (fun z=>hc (by simp [z]))];exact n) (fun c u hc e=>⟨u,k c u (fun z=>hc (by simp [z])) e⟩) (fun c xs e=>by rw [qi (nb c _ e)];exact e) (fun c _ _ e=>by rw [qi (nb c _ e)];exact e)
  (fun c ps e=>⟨#[],by rw [qi (nb c _ e),e];simp⟩) (fun m hm=>?_) (fun c u e=>?_) I.bare
 ·have e:c=b:=by simpa using hc
  subst e;exact⟨.inr l.up,l.loc,l.cel,l.pin⟩
 ·obtain⟨u,es,ep,ho,r⟩:=hm
  exact⟨u,es,ep,k _ u (mv l.loc) ho,r⟩
 ·by_cases hc:c=b
  ·subst hc;rw [ql] at e;cases e;exact new
  ·rw [qi hc] at e
   refine(I.hok c u e).stay (fun d v hd q=>k d v ?_ q) (fun d q=>by rw [qi (nb d _ q)];exact q) fun d xs q=>by rw [qi (nb d _ q)];exact q
   rcases hd with z|z
   ·rw [z];exact hc
   ·exact nb d _ z
def vg(op:List D->Option D): List D->Option (List D)
 | []=>some []
 | d :: ds=>(op [d]).bind fun k=>(vg op ds).map fun ks=>k :: ks
def q3z:List D->Bool
 | []=>true
 | k :: r=>(r.all fun e=>ltT k e || ltT e k)&&q3z r
def yi(op:List D->Option D): D->Option (List D)
 | .lst ds=>(vg op ds).bind fun ks=>if q0a ks&&q3z ks then some ((yt (ks.zip ds)).map Prod.snd) else none
 | _=>none
theorem q6n{op:List D->Option D}: ∀ {l:List D} {d k:D} {ks:List D},vg op l=some ks->op [d]=some k->vg op (l++[d])=some (ks++[k])
 | [],d,k,ks,h,e=>by
  cases h;simp [vg,e]
 | x :: l,d,k,ks,h,e=>by
  simp only [vg] at h;obtain⟨k1,h1,h2⟩:=gc.mp h;obtain⟨ks1,h3,h4⟩:=gz.mp h2;subst h4;simp only [g3d,vg,h1,ma,q6n h3 e,nv]
theorem q8c{op:List D->Option D}: ∀ {l ks:List D},vg op l=some ks->ks.length=l.length
 | [],ks,h=>by cases h;rfl
 | x :: l,ks,h=>by
  simp only [vg] at h;obtain⟨k1,h1,h2⟩:=gc.mp h;obtain⟨ks1,h3,h4⟩:=gz.mp h2;subst h4;simp [q8c h3]
theorem q8d{op:List D->Option D}: ∀ {l ks:List D} {d:D},vg op l=some ks->d∈l->∃k,op [d]=some k
 | x :: l,ks,d,h,hd=>by
  simp only [vg] at h;obtain⟨k1,h1,h2⟩:=gc.mp h;obtain⟨ks1,h3,h4⟩:=gz.mp h2;rcases me.mp hd with rfl|hd
  ·exact⟨k1,h1⟩
  ·exact q8d h3 hd
theorem qdo:∀ {ks:List D},q3z ks=true->∀ {i j:Nat} (hi:i<ks.length) (hj:j<ks.length),ltT ks[i] ks[j]=false->ltT ks[j] ks[i]=false->i=j
 | k :: r,h,0,0,_,_,_,_=>rfl
 | k :: r,h,0,j+1,hi,hj,a,b=>by
  simp only [q3z,m6] at h;have:=n9.mp h.1 (r[j]'(by simpa using hj)) (by simp);simp only [g5p,g1s] at a b;rw [a,b] at this;cases this
 | k :: r,h,i+1,0,hi,hj,a,b=>by
  simp only [q3z,m6] at h;have:=n9.mp h.1 (r[i]'(by simpa using hi)) (by simp);simp only [g5p,g1s] at a b;rw [a,b] at this;cases this
 | k :: r,h,i+1,j+1,hi,hj,a,b=>by
  simp only [q3z,m6] at h;simp only [g1s] at a b;rw [qdo h.2 (by simpa using hi) (by simpa using hj) a b]
theorem qah{α β γ δ : Type}: ∀ {a:List α} {b:List β} {c:List γ} {d:List δ},a.length=b.length->b.length=c.length->c.length=d.length ->
  ∃T:List (α × β × γ × δ),T.map (·.1)=a/\T.map (·.2.1)=b/\T.map (·.2.2.1)=c/\T.map (·.2.2.2)=d
 | [],[],[],[],_,_,_=>⟨[],rfl,rfl,rfl,rfl⟩
 | x :: a,y :: b,z :: c,w :: d,h1,h2,h3=>by
  obtain⟨T,t1,t2,t3,t4⟩:=qah (a:=a) (b:=b) (c:=c) (d:=d) (by simpa using h1) (by simpa using h2) (by simpa using h3);exact⟨(x,y,z,w) :: T,by simp [t1],by simp [t2],by simp [t3],by simp [t4]⟩
theorem qai{h:Heap}{a:Addr}{ks:List Value}{e:Nat}(ho:h.get? a=some (seqObj "list" ks.toArray e))(k:Value): ∃e',(h.update a (Obj.mapSeq (·.push k))).get? a=some (seqObj "list" (ks++[k]).toArray e'):=by
 have:=g0r ho (·.push k);have e2:(ks.toArray.push k)=(ks++[k]).toArray:=by simp
 rw [e2] at this;exact⟨_,this⟩
theorem q8e{k k':Nat}{fn l:Addr}{fd:FuncData}{ps:List Str}{sp:Sp}{op:List D->Option D}{ds es:List D}{Q:VK}(Fk:FnOk X.prog X.w X.K X.mg X.base CX0 k fn fd ps sp)
  (hsp:∀(F' H':Hp) (dv kd:D) (x:V) (Q':VK),Grow F H F' H'->Rep X.K F' dv x->op [dv]=some kd->(∀v F'' H'',Grow F' H' F'' H''->Rep X.K F'' kd v->Q' v H'')->sp [x] H' Q' E0) (hb:Binds X.K fd ps []) (hr:Room k' X.A) (hk:k+2<=k')
  (I:Inv X pins σ H s) (fh:Same F H) (rl:Rep X.K F (.lst ds) (.ref l)) (ho:yi op (.lst ds)=some es)
  (q:∀a ys F' H',Grow F H F' H'->F' a=none->H a=none->H' a=some (.lst ys)->RepL X.K F' es ys->Q (.ref a) H') :
  wpAny (model X.prog X.w) X.A (call (.builtin "sorted") [.ref l] [(Str.ofString "key",.ref fn)]) (EP X pins σ Q) X.xe s:=by
 unfold yi at ho;dsimp only at ho;obtain⟨dks,hks,ho⟩:=gc.mp ho
 split at ho
 ·rename_i hok
  rw [m6] at hok;cases ho;obtain⟨a,ys,z,k1,k2⟩:=rep_lst.mp rl;cases z;obtain⟨its,r1,p1,hz⟩:=I.list (fh.seq k1);have hlen:its.length<=sizeLine:=by rw [<- r1.length];exact hz
  have hlds:ds.length=its.length:=by rw [k2.length,r1.length]
  have hlks:=q8c hks;have L1:Late X pins (s.heap.objs.size+1):=qnz I (g29 _);have L3:Late X pins (s.heap.objs.size+3):=qnz I (g26 _ _);have rm:Room k X.A.in1.in1:=((hr.mono hk).in1).in1;have hu:X.A.in1.in1.units+60<cLine:=by have:=rm.units;lia
  have z1:((s.heap.push (seqObj "list" #[] 0)).update s.heap.objs.size (Obj.mapSeq (· ++ its.toArray))).objs.size=s.heap.objs.size+1:=by rw [p6,g01]
  have keep:∀b o,s.heap.get? b=some o->(ji (srtH s.heap its) (s.heap.objs.size+1) its).get? b=some o:=fun b o qb=>by
   have hlt:b<s.heap.objs.size:=gw qb;unfold ji srtH;have ne:∀k,b≠s.heap.objs.size+k:=fun k=>m9 (gm hlt (g26 _ _));rw [pq _ _ _ (by rw [g01,p6,g01,z1];exact ne 3),pq _ _ _ (by rw [p6,g01,z1];exact ne 2),u9 _ _ _ _ (ne 1),
    pq _ _ _ (by rw [z1];exact ne 1),u9 _ _ _ _ (show b≠s.heap.objs.size from ne 0),pq _ _ _ (show b≠s.heap.objs.size from ne 0)]
   exact qb
  have I6:Inv X pins σ H {s with heap:=ji (srtH s.heap its) (s.heap.objs.size+1) its}:=I.kept (t':=s.toks) keep;have hoL:(srtH s.heap its).get? (s.heap.objs.size+1)=some (seqObj "list" its.toArray 0):=by
   unfold srtH;rw [<- z1];exact gr _ rfl
  have zs:(srtH s.heap its).objs.size=s.heap.objs.size+2:=by unfold srtH;rw [g01,z1]
  obtain⟨e1,ho1⟩:∃e1,((srtH s.heap its).update (s.heap.objs.size+1) (Obj.mapSeq fun _=>(#[]:Array Value))).get? (s.heap.objs.size+1)=some (seqObj "list" #[] e1):=⟨_,g0r hoL fun _=> #[]⟩
  have hoA:(ji (srtH s.heap its) (s.heap.objs.size+1) its).get? (s.heap.objs.size+1)=some (seqObj "list" #[] e1):=by
   unfold ji;rw [pq _ _ _ (by rw [g01,p6,zs];exact m9 (by lia)),pq _ _ _ (by rw [p6,zs];exact m9 (by lia))];exact ho1
  have hoK:(ji (srtH s.heap its) (s.heap.objs.size+1) its).get? (s.heap.objs.size+3)=some (seqObj "list" ([]:List Value).toArray 0):=by
   unfold ji;have:s.heap.objs.size+3=(((srtH s.heap its).update (s.heap.objs.size+1) (Obj.mapSeq fun _=>(#[]:Array Value))).push (seqObj "tuple" its.toArray 0)).objs.size:=by rw [g01,p6,zs]
   rw [this];exact gr _ rfl
  have hn1:H (s.heap.objs.size+1)=none:=I.hok.fresh (g29 _);have hn3:H (s.heap.objs.size+3)=none:=I.hok.fresh (g26 _ _);refine qc3 p1.isList hlen (fun ks s'=>∃F' H' xks kds e,Inv X pins σ H' s'/\Grow F H F' H'/\RepL X.K F' kds xks/\Vals xks ks/\vg op (ds.take ks.length)=some kds /\
   s'.heap.get? (s.heap.objs.size+3)=some (seqObj "list" ks.toArray e)/\H' (s.heap.objs.size+3)=none/\s'.heap.get? (s.heap.objs.size+1)=some (seqObj "list" #[] e1)/\H' (s.heap.objs.size+1)=none)
   ⟨F,H,[],[],0,I6,.refl fh,.nil,.nil,rfl,hoK,hn3,hoA,hn1⟩ ?_ ?_
  ·rintro l0 v r0 hv ks s' hl ⟨F',H',xks,kds,e,I',g',rk,vk,hkd,hK,nK,hA,nA⟩
   -- the next item
   have hi:ks.length<ds.length:=by rw [hlds,hv,hl];simp
   have hvi:its[ks.length]? = some v:=by rw [hv,hl];simp
   obtain⟨dv,hdv⟩:∃dv,ds[ks.length]? = some dv:=⟨_,g1e ds _ hi⟩
   obtain⟨x,hx,rx⟩:=k2.get hdv;obtain⟨u,hu',ru⟩:=r1.get hx;rw [hvi] at hu';obtain rfl:v=u:=m8 hu';obtain⟨kd,hkd'⟩:=q8d hks (tq hdv);have hbs:BindsTo s' fd ⟨[v],[]⟩ (ps.zip ([v]++[])):=hb s' [v] I'.kIn (by
    have:=Fk.len [x] H' (fun v H''=>∃F'',Grow F' H' F'' H''/\Rep X.K F'' kd v) E0 (hsp F' H' dv kd x _ g' (rx.mono g'.ff) hkd' fun v F'' H'' g'' r''=>⟨F'',g'',r''⟩)
    simpa using this)
   refine g4t (g2g (Fk.run X.A.in1.in1 X.stack s' H' ⟨[v],[]⟩ [v] [x] (fun v H''=>∃F'',Grow F' H' F'' H''/\Rep X.K F'' kd v) E0 rm ⟨I'.ok.frames,I'.ok.mod,I'.bs,ml I'.ok.bsz I'.sz,I'.stack,I'.stkFree,I'.hok,I'.bare⟩ hbs (.cons ru .nil)
    (hsp F' H' dv kd x _ g' (rx.mono g'.ff) hkd' fun v F'' H'' g'' r''=>⟨F'',g'',r''⟩)) fun r s'' hq=>?_)
   cases r with
   | error er=>exact hq.elim
   | ok fl=>
    cases fl with
    | next=>exact False.elim hq
    | brk=>exact False.elim hq
    | cont=>exact False.elim hq
    | ret kv=>
     obtain⟨vv,H'',os,bare,un,hok',rv,F'',g'',rr⟩:=(show CE X.stack X.prog X.w H' s' _ kv s'' from hq)
     have hK2:=un.keep _ _ hK nK L3.frs (by simp);have hA2:=un.keep _ _ hA nA L1.frs (by simp);have nK2:=un.free _ _ hK nK (by simp);have nA2:=un.free _ _ hA nA (by simp);obtain⟨hh,gg,dd,tt,oo⟩:=s'';obtain rfl:oo=s'.os:=os;have I2:=I'.call (h':=hh) (g':=gg) (d':=dd) (t':=tt) (ch:=[]) un hok' bare (fun b z=>absurd z (by simp));obtain⟨e',hK3⟩:=qai hK2 kv;have I3:=qag I2 L3 (h':=hh.update (s.heap.objs.size+3) (Obj.mapSeq (·.push kv))) (fun c o hc e=>by rw [u9 _ _ _ _ hc];exact e) nK2;refine⟨⟨e,hK2⟩,F'',H'',xks++[vv],kds++[kd],e',I3,g'.trans g'',(rk.mono g''.ff).append (.cons rr .nil),vk.append (.cons rv .nil),?_,hK3,nK2,?_,nA2⟩
     ·rw [pz,g3f,p9 hi]
      refine q6n hkd ?_;have:ds[ks.length]=dv:=by rw [g1e ds _ hi] at hdv;exact m8 hdv
      rw [this];exact hkd'
     ·show(hh.update _ _).get? _=_
      rw [u9 _ _ _ _ (m9 (by lia))];exact hA2
  ·rintro ks s' hl ⟨F',H',xks,kds,e,I',g',rk,vk,hkd,hK,nK,hA,nA⟩
   rw [hl, <- hlds,g55,hks] at hkd;obtain rfl:dks=kds:=m8 hkd;refine⟨⟨e,hK⟩,by rw [hA,hoA],?_⟩;have hkl:ks.length=dks.length:=by rw [<- vk.length,rk.length]
   obtain⟨T,t1,t2,t3,t4⟩:=qit rk vk;have kdk:∀d∈dks,kD d=true:=by
    have:=hok.1;unfold q0a at this;rw [m6,m6] at this;exact n9.mp this.1.1
   have st:∀u∈ks,∃d∈dks,q1j X.K F' d u:=fun u hu=>by
    rw [<- t2] at hu;obtain⟨t,ht,rfl⟩:=mx.mp hu;have hm:t.2.2∈dks:=by rw [<- t3];exact g0x ht
    exact⟨t.2.2,hm,kdk _ hm,t.1,t4 t ht⟩
   obtain⟨κ,hkind,C⟩:=qk2 I' g'.fh X.A.in1.in1 hu st hok.1;refine⟨κ,_,_,fun h2=>hkind (by lia),fun _=>C,fun _ h=>h,fun Tz tp ts=>?_⟩
   -- all five rows together
   obtain⟨T,w1,w2,w3,w4⟩:=qah (a:=xks.zip ks) (b:=dks) (c:=its) (d:=ys.zip ds) (by rw [g2f,rk.length,vk.length];simp) (by rw [hlks,hlds]) (by rw [g2f,r1.length,hlds];simp);have uT:ks.zip its=T.map fun t=>(t.1.2,t.2.2.1):=by
    rw [<- w3, <- g5a (l₁:=xks) (l₂:=ks) (by rw [vk.length];exact gu _), <- w1];simp [g4k,mq,g4p]
   obtain⟨T',pT,eT⟩:=q8b (fun t:(V×Value)×D×Value×V×D=>(t.1.2,t.2.2.1)) tp uT;have rel:∀t∈T,Rep X.K F' t.2.1 t.1.1/\RelV t.1.1 t.1.2/\Rep X.K F' t.2.2.2.2 t.2.2.2.1/\RelV t.2.2.2.1 t.2.2.1/\t.2.1∈dks:=by
    intro t ht;obtain⟨i,hi,rfl⟩:=tu.mp ht;have e1':(xks.zip ks)[i]? = some T[i].1:=by rw [<- w1];simp [hi]
    have e2':dks[i]? = some T[i].2.1:=by rw [<- w2];simp [hi]
    have e3':its[i]? = some T[i].2.2.1:=by rw [<- w3];simp [hi]
    have e4':(ys.zip ds)[i]? = some T[i].2.2.2:=by rw [<- w4];simp [hi]
    rw [List.getElem?_zip_eq_some] at e1' e4';obtain⟨x,hx,rx⟩:=rk.get e2';rw [e1'.1] at hx;obtain rfl:=m8 hx;obtain⟨u,hu2,ru⟩:=vk.get e1'.1;rw [e1'.2] at hu2;obtain rfl:=m8 hu2;obtain⟨y,hy,ry⟩:=k2.get e4'.2;rw [e4'.1] at hy;obtain rfl:=m8 hy;obtain⟨w,hw,rw'⟩:=r1.get e4'.1;rw [e3'] at hw;obtain rfl:=m8 hw;exact⟨rx,ru,ry.mono g'.ff,rw',tq e2'⟩
   have rel':∀t∈T',_:=fun t ht=>rel t (pT.mem_iff.mp ht);have hkey:∀t∈T',keyOf X.K F' t.1.2=t.2.1:=fun t ht=>q2z I' g'.fh ⟨kdk _ (rel' t ht).2.2.2.2,_,(rel' t ht).1,(rel' t ht).2.1⟩;have eD:T'.map (fun t=>t.2.2.2.2)=(yt (dks.zip ds)).map Prod.snd:=by
    have ez:dks.zip ds=T.map fun t=>(t.2.1,t.2.2.2.2):=by
     rw [<- w2, <- g5a (l₁:=ys) (l₂:=ds) (by rw [<- k2.length];exact gu _), <- w4];simp [g4k,mq,g4p]
    have e1:T'.map (fun t=>(t.2.1,t.2.2.2.2))=yt (dks.zip ds):=by
     refine q5i ?_ ?_ ?_
     ·rw [ez];exact pT.map _
     ·rw [uo]
      rw [eT,uo] at ts;refine g1f (fun {x y} hx hy h=>?_) ts;have h':ltT (keyOf X.K F' y.1.2) (keyOf X.K F' x.1.2)=false:=h;rw [hkey x hx,hkey y hy] at h';exact h'
     ·intro x hx y hy h1 h2
      obtain⟨i,hi,rfl⟩:=tu.mp hx;obtain⟨j,hj,rfl⟩:=tu.mp hy;rw [g2f] at hi hj;simp only [List.getElem_zip] at h1 h2 ⊢;have:i=j:=qdo hok.2 (by lia) (by lia) h1 h2;subst this;rfl
    rw [<- e1,mq]
    rfl
   have hout:Tz.map (·.2)=T'.map fun t=>t.2.2.1:=by rw [eT,mq];rfl
   have vo:Vals (T'.map fun t=>t.2.2.2.1) (Tz.map (·.2)):=by
    rw [hout];clear eT eD pT hkey hout
    induction T' with
    | nil=>exact .nil
    | cons t T' ih=>exact .cons (rel' t m4).2.2.2.1 (ih fun t ht=>rel' t (m5 _ ht))
   have ro:RepL X.K F' (T'.map fun t=>t.2.2.2.2) (T'.map fun t=>t.2.2.2.1):=by
    clear eT eD pT hkey hout vo
    induction T' with
    | nil=>exact .nil
    | cons t T' ih=>exact .cons (rel' t m4).2.2.1 (ih fun t ht=>rel' t (m5 _ ht))
   have ll:(T'.map fun t=>t.2.2.2.1).length<=sizeLine:=by
    rw [mj,pT.length_eq];have:=ug List.length w3;rw [mj] at this;rw [this];exact hlen
   have I8:=qag I' L3 (h':=s'.heap.update (s.heap.objs.size+3) (Obj.mapSeq fun _=> #[])) (fun c o hc e=>by rw [u9 _ _ _ _ hc];exact e) nK;have hA8:(s'.heap.update (s.heap.objs.size+3) (Obj.mapSeq fun _=> #[])).get? (s.heap.objs.size+1)=some (seqObj "list" #[] e1):=by
    rw [u9 _ _ _ _ (m9 (by lia))];exact hA
   obtain⟨e9,hA9⟩:∃e9,((s'.heap.update (s.heap.objs.size+3) (Obj.mapSeq fun _=> #[])).update (s.heap.objs.size+1) (Obj.mapSeq fun _=>(Tz.map (·.2)).toArray)).get? (s.heap.objs.size+1)=some (seqObj "list" (Tz.map (·.2)).toArray e9):=⟨_,g0r hA8 fun _=>(Tz.map (·.2)).toArray⟩
   have I9:=qgh I8 L1 (o:=.lst (T'.map fun t=>t.2.2.2.1)) (h':=(s'.heap.update (s.heap.objs.size+3) (Obj.mapSeq fun _=> #[])).update (s.heap.objs.size+1) (Obj.mapSeq fun _=>(Tz.map (·.2)).toArray))
    (fun c o hc e=>by rw [u9 _ _ _ _ hc];exact e) nA ⟨ll,_,e9,vo,hA9⟩
   refine⟨.ref (s.heap.objs.size+1),_,I9,rfl,?_⟩;have gg:Grow F' H' F' (upd H' (s.heap.objs.size+1) (.lst (T'.map fun t=>t.2.2.2.1))):=Grow.own g'.fh nA;exact q _ _ F' _ (g'.trans gg) (g'.fh.free nA) hn1 ql (by rw [<- eD];exact ro)
 ·cases ho
def w6(op:List D->Option D): List D->Option (List D)
 | [d]=>yi op d
 | _=>none
theorem qiu{e:Expr}{p pg kp pos:Pos}{g:Str}{k k':Nat}{fn:Addr}{fd:FuncData}{ps:List Str}{op:List D->Option D}{fa:FA}(C:Cal X.prog X.w X.K X.mg X.base g k ps 1 op fn fd)(b:Binds X.K fd ps [])(hr:Room k' X.A)(hk:k+2<=k')
  (hgs:Gl X "sorted") (hms:X.mg "sorted" = none) (hgg:Gl X g) (ha:PA X [e] (tDA X.K fa)) (hdb:(g==("__debug__" : Str))=false:=by decide) (he:backTo pos (starEach [e] X.env)=(false,eval e X.env) :: backTo pos (starEach [] X.env):=by rfl)
  (hpl:(backTo pos (starEach [e] X.env)).any (·.1)=false:=by rfl):PE X (.Call (.Name "sorted" p) [e] [⟨some "key",.Name g pg,kp⟩] pos) (tL X.K (q09 (w6 op) fa)):=by
 intro pins s σ H Q I h;obtain⟨F0,H0,F, ρ,ds,r,hf,q⟩:=h;obtain⟨es,h1,h2⟩:=gc.mp hf;unfold w6 at h2
 split at h2
 ·rename_i d
  refine g1o (q15 I hgs hms boot_sorted ?_ (by decide) (by decide));refine callWith_kw (thn (ha pos pins s σ H (fun vs H1=>∃F1,Grow F H F1 H1/\RepL X.K F1 [d] vs) I ⟨F0,H0,F, ρ,[d],r,h1,fun vs F1 H1 g1 r1=>⟨F1,g1,r1⟩⟩) fun us s1 ⟨vs,H1,I1,rv,F1,g1,r1⟩=>?_) he hpl rfl rfl;refine kws_cons (qct I1 hgg C.mg (kws_nil ?_) hdb);obtain⟨x,rfl,rx⟩:=rep1 r1;obtain⟨u,rfl,ru⟩:=vals1 rv;cases d <;> simp only [yi] at h2 <;> first|(cases h2;done)|skip
  rename_i ds';obtain⟨a,ys,rfl,_⟩:=rep_lst.mp rx;cases ru;exact q8e C.ok (fun F' H' dv kd x Q' g' rx' hk' q'=>⟨F',[dv],kd,(r.sameT g1).grow g',.cons rx' .nil,rfl,hk',q'⟩) b hr hk I1 g1.fh rx (by simp only [yi];exact h2) fun a ys F2 H2 g2 k1 k2 k3 k4=>q a ys F2 H2 (g1.trans g2) k1 (g1.hh.free k2) k3 k4
 ·cases h2
end
end DL
namespace Srt
end Srt
namespace DL
open PySem PySem.Spec PyProof.Rows L2 Srt PySem.W
variable[Lam]
section
variable{X:Cx}{pins:List (Addr×Obj)}{σ : St}{F H:Hp}{s:Shared}
end
end DL
namespace DL
open PySem PySem.Spec PyProof.Rows L2
variable[Lam]
theorem qgi{P:Program}{w:World}{K:Frag}{mg:Str->Option Value}{base:Heap}{k ar:Nat}{f:Addr}{fd:FuncData}{ps:List Str}: FnOk P w K mg base CX0 k f fd ps (spD K ar fun _=>none):=
 FnOk.mk (fun vs H Q E z=>by
   obtain⟨F,ds,d,_,_,_,h,_⟩:=z;cases h)
  (fun A outer s H args us vs Q E _ _ _ _ z=>by
   obtain⟨F,ds,d,_,_,_,h,_⟩:=z;cases h)
end DL
namespace DL
open PySem PySem.Spec PyProof.Rows L2 Srt PySem.W
variable[Lam]
def q0x(mg:Str->Option Value)(base:Heap): Prop:=∃bm ob,mg "__builtins__" = some (.ref bm)/\bm≠builtinsNs/\base.get? bm=some ob/\ob.cls=.type "module" /\ ob.dict=some builtinsNs/\ob.data=.plain
def tabOf(o:Obj): Option Addr:=match o.data with
 | .fields vs=>(match(vs[11]? : Option Value) with
  | some (.ref P)=>some P
  | _=>none)
 | _=>none
omit [Lam] in
theorem qiv{K:Frag}{x:Str}{f c P:Addr}{oc:Value}{od:Option Addr}{fd:FuncData}{sl:Array (Option Value)}{o:Obj}(h1:nsIn K mainGlobals x=some (some (.ref f)))(h2:K.lookup f=some ⟨oc,od,.func fd,sl⟩)(h3:fd.code=.ref c)(h4:K.lookup c=some o)(h5:tabOf o=some P): tabIn K x=some (c,P):=by
 unfold tabIn;rw [h1];dsimp only;rw [h2];dsimp only;rw [h3];dsimp only;rw [h4];obtain⟨a,b,d,e⟩:=o;unfold tabOf at h5;dsimp only at h5;cases d <;> simp only at h5 ⊢ <;> first|(cases h5;done)|skip
 split at h5
 ·rename_i hv
  rw [hv];cases h5
  rfl
 ·cases h5
omit [Lam] in
theorem qc4{K:Frag}{c P:Addr}{o:Obj}(h1:K.lookup c=some o)(h2:codeHdIn [(c,o)] c P=true): codeHdIn K c P=true:=by
 have e:List.lookup c [(c,o)]=some o:=by simp [List.lookup]
 unfold codeHdIn at h2 ⊢;rw [h1];rw [e] at h2;exact h2
def qoz(K:Frag)(ar:Nat)(op:List D->Option D)(f c:Addr)(φ ψ : Heap->Prop): Sp:=fun vs H Q E=>H f=some (.ext φ)/\H c=some (.ext ψ)/\spD K ar op vs H Q E
theorem qo0{P:Program}{w:World}{K:Frag}{mg:Str->Option Value}{base:Heap}{k:Nat}{f c:Addr}{qual:Str}{params:Arguments}{body:Expr}{scope:Scope}{pm ct:Value}{N ps:List Str}{u:FE}{φ ψ : Heap->Prop}
  (hφ : ∀h, φ h->h.get? f=some (kla_obj "<lambda>" qual params body scope [] pm c ct)) (hψ : ∀h, ψ h->h.CodeRec (.ref c) qual) (S:FnScope N ps scope)
  (hb:∀(A:Around) (outer:List Env) (s:Shared) (H:Hp) (E:XK),Room k (A.deeper (envOfC qual scope s.heap.objs.size f (.ref c)))->PE (zj CX0 P w K mg base N qual scope f (.ref c) A outer s H E).nox body (tD K u)) :
  FnOk P w K mg base CX0 (k+1) f (kla_fn "<lambda>" qual params body scope [] pm (.ref c) ct) ps (qoz K ps.length (z5 N.length (zl u)) f c φ ψ):=by
 have hpl:ps.length<=N.length:=by have:=ug List.length S.pre;rw [ni] at this;omega
 refine⟨fun vs H Q E h=>?_,fun A outer s H args us vs Q E hr e0 hbd r ⟨h1,h2,hsp⟩=>?_⟩
 ·obtain⟨_,_,F,ds,d,_,rl,el,_⟩:=h
  rw [<- rl.length];exact el
 have hl:vs.length=ps.length:=by
  obtain⟨F,ds,d,_,rl,el,_⟩:=id hsp;rw [<- rl.length];exact el
 have lim:s.heap.NoLimit:=e0.mod.nolimit.keeps fun b o e=>(e0.bs b o e).1;have hkind:∀y∈ps.zip us,scope.names.lookup y.1=some .local\/(scope.names.lookup y.1=some .cell/\((cellsFrom (s.heap.objs.size+1) scope.names []).lookup y.1).isSome=true):=fun⟨n,v⟩ hy=>by
  rcases S.par n (g2d hy).1 with q|q
  ·exact .inl q
  ·exact .inr ⟨q,g35 _ _ _ (.inl q)⟩
 have ho:=hφ _ (e0.hok f _ h1).1;have hcd:=hψ _ (e0.hok c _ h2).1;refine kla_callFunE hr.depth ho rfl S.co S.gen rfl hcd (hbd _ _ _ _ ?_);refine wpAny_newFunctionEnv_cells S.kind hkind fun env he s1 x=>?_;subst he;refine⟨lim.keeps x.toInCall.keep,kla_codeExpr ?_⟩;have I:Inv (zj CX0 P w K mg base N qual scope f (.ref c) A outer s H E) [] (start N vs) H s1:=q83 S hr.hd e0 hl r x;have hD:tD K u (start N vs) H Q:=by
  obtain⟨F0,H0,F, ρ,fl, ρ',r',hf,q⟩:=qg0 (P:=P) (w:=w) hpl hsp;obtain⟨d,h3,h4⟩:=gz.mp hf;cases h4;exact⟨F0,H0,F, ρ,d,r',h3,fun v F' H' g' r''=>q v F' H' (r'.g.trans g') r''⟩
 refine tm ((hb A outer s H E (hr.deeper _)).nox [] s1 (start N vs) H Q I hD) (fun v s' hs=>?_) fun e s' hs=>hs;obtain⟨v',H',J,rv,q⟩:=hs;exact⟨v',H',J.os,J.bare,J.base,J.hok,rv,q⟩
theorem qei{pos pos':Pos}{c cv:Value}: ∀(l:List Value),TriplesOk l->codeAmong pos' (l++[rawInt pos.line,rawInt pos.col,c])=some cv->codeAmong pos' l=some cv\/cv=c:=fun l h e=>by
 fun_induction TriplesOk l with
 | case1=>
  simp only [g1q,codeAmong,rawInt] at e
  split at e
  ·exact .inr (m8 e).symm
  ·cases e
 | case2 a t b u x rest ih=>
  simp only [g3d,codeAmong] at e ⊢
  split at e
  ·rename_i hc;rw [mi hc];exact .inl e
  ·rename_i hc;rw [mf hc];exact ih h e
 | case3 l h1 h2=>exact h.elim
section
variable{X:Cx}{pins:List (Addr×Obj)}{σ : St}{F H:Hp}{s:Shared}
theorem qiw{c P:Addr}{q:Str}{params:Arguments}{body:Expr}{scope:Scope}{pos:Pos}{Q:Value->Shared->Prop}(hcode:X.env.code=.ref c)(hd:codeHdIn X.K c P=true)(hP:(P,q)∈Lam.tab)(hU:∀p∈Lam.tab,p.1=P->p.2=q)
  (hq:X.env.qual++"<lambda>" = q) (B:q0x X.mg X.base) (hdef:defaultsOf params X.env=([],[])) (hcl:closureFor scope X.env=pure []) (I:Inv X pins σ H s) (st:SameT F H)
  (h:∀f c' φ ψ ct pm s' H',Inv X pins σ H' s'->Grow F H F H'->H' f=some (.ext φ)->H' c'=some (.ext ψ)->(∀h, φ h->h.get? f=some (kla_obj "<lambda>" q params body scope [] pm c' ct))->(∀h, ψ h->h.CodeRec (.ref c') q)->Q (.ref f) s') :
  wpAny (model X.prog X.w) X.A (eval (.Lambda params body scope pos) X.env) Q X.xe s:=by
 refine kla_eval hdef ?_;rw [hq];obtain⟨ps,e,ht,k⟩:=st.t _ hP;have hPg:s.heap.get? P=some (tabObj ps):=I.hok P _ e;have C:CodeHd s.heap c P:=codeHd_of_K I.kIn hd;have hg:s.heap.Ns mainGlobals X.mg:=I.mod.glob.keeps I.bk;obtain⟨bm,ob,B1,B2,B3,B4,B5,B6⟩:=B;have hbo:=I.bk _ _ B3;have hbP:bm≠P:=fun z=>by
  have e1:=hbo;rw [z,hPg] at e1;have e2:=B4;rw [<- m8 e1] at e2;cases e2
 have hgP:mainGlobals≠P:=fun z=>by
  obtain⟨o,es,ep,e1,e2,_⟩:=hg;rw [z,hPg] at e1;rw [<- m8 e1] at e2;cases e2
 have hb:s.heap.BuiltinsAt X.mg P:=⟨bm,ob,B1,B2,fun z=>(by
  obtain⟨o,es,ep,e1,e2,_⟩:=hg;rw [<- z,hbo] at e1;rw [<- m8 e1,B6] at e2;cases e2),hbP,hbo,B4,B5,B6⟩
 cases hf:codeAmong pos ps.toList with
 | some cv=>
  obtain⟨c', ψ,rfl,e2,e3⟩:=k pos cv hf;refine kla_makeFunctionHit hcl I.ok.glob hg hcode C hPg ht hf hb fun ctv h' tk hk hsz=>?_;have I1:Inv X pins σ H {s with heap:=h',toks:=tk}:=I.kept (t':=tk) hk;have hn:H h'.objs.size=none:=I1.hok.fresh (gu _);have I2:=I1.laid (t':=tk) (a:=h'.objs.size) (o:=.ext fun g=>g.get? h'.objs.size=some (kla_obj "<lambda>" q params body scope [] ((X.mg "__name__").getD .none) c' ctv)) (h':=h'.push (kla_obj "<lambda>" q params body scope [] ((X.mg "__name__").getD .none) c' ctv))
   (fun b u z=>gd _ z) (gu _) ⟨gr _ rfl,⟨_,gr _ rfl⟩,fun h1 h2 z1 z2=>z2 _ z1⟩
  exact h _ c' _ ψ ctv _ _ _ I2 (Grow.own st.s hn) ql ((Kept.new hn).ext _ _ e2) (fun g z=>z) e3
 | none=>
  refine kla_makeFunction hcl I.ok.glob hg hcode C hPg ht hf hgP hb fun c' ctv h' tk hx hge hlt hrec htb=>?_;have hnc:H c'=none:=I.hok.fresh hge;have hcP:c'≠P:=fun z=>by rw [z,e] at hnc;cases hnc
  have nP:∀b o,H b=some o->(∀ps,o ≠ .tbl ps)->b≠P:=fun b o z n y=>by rw [y,e] at z;exact n _ (m8 z).symm
  have nP':∀b,H b=none->b≠P:=fun b z y=>by rw [y,e] at z;cases z
  have nc:∀b o,H b=some o->b≠c':=fun b o z y=>by rw [y,hnc] at z;cases z
  have ncs:∀b o,s.heap.get? b=some o->b≠c':=fun b o z y=>absurd (gw z) (by rw [y];exact g5w.mpr hge)
  let H1:Hp:=upd (upd H P (.tbl (ps ++ #[rawInt pos.line,rawInt pos.col,.ref c']))) c' (.ext fun g=>g.CodeRec (.ref c') q)
  have a1:∀b,b≠P->b≠c'->H1 b=H b:=fun b z1 z2=>by show upd (upd H P _) c' _ b=_;rw [qi z2,qi z1]
  have a2:H1 P=some (.tbl (ps ++ #[rawInt pos.line,rawInt pos.col,.ref c'])):=by show upd (upd H P _) c' _ P=_;rw [qi (mv hcP),ql]
  have a3:H1 c'=some (.ext fun g=>g.CodeRec (.ref c') q):=ql;have un:Un X.fs [] H H1 s.heap h':=⟨fun b o z n _ _=>hx b o (nP' b n) z,fun b o z n _ _=>⟨o.slots,hx b o (nP' b n) z⟩,fun b o z n _=>by rw [a1 b (nP' b n) (ncs b o z)];exact n,
   fun b o z _=>by
    by_cases y:b=P
    ·exact⟨_,by rw [y];exact htb⟩
    ·exact⟨o,hx b o y z⟩,fun b xs z=>by rw [a1 b (nP b _ z nofun) (nc b _ z)];exact z,fun b o' u z=>by rw [a1 b (nP b _ z nofun) (nc b _ z)];exact z,
   fun b ps' z=>by
    by_cases y:b=P
    ·subst y
     rw [e] at z;cases z;exact⟨_,a2⟩
    ·exact⟨#[],by rw [a1 b y (nc b _ z),z];simp⟩⟩
  have hok:HOk X.prog X.w H1 h':=fun b o z=>by
   by_cases y:b=P
   ·subst y
    rw [a2] at z;cases z;exact htb
   by_cases y2:b=c'
   ·subst y2
    rw [a3] at z;cases z;obtain⟨c2,oc,vs,t,e2,hoc,r⟩:=hrec;cases e2;exact⟨⟨_,oc,vs,t,rfl,hoc,r⟩,⟨_,hoc⟩,fun h1 h2 ⟨c3,o3,v3,t3,e3,h3,r3⟩ z2=>by cases e3;exact⟨_,o3,v3,t3,rfl,z2 _ h3,r3⟩⟩
   rw [a1 b y y2] at z;refine(I.hok b o z).stay (fun b' u hb' z'=>hx b' u ?_ z') (fun b' z'=>by rw [a1 b' (nP b' _ z' nofun) (nc b' _ z')];exact z') fun b' xs z'=>by rw [a1 b' (nP b' _ z' nofun) (nc b' _ z')];exact z'
   rcases hb' with z1|z1
   ·rw [z1];exact y
   ·exact nP b' _ z1 nofun
  have I1:Inv X pins σ H1 {s with heap:=h',toks:=tk}:=I.un (t':=tk) un hok;have hn:H1 h'.objs.size=none:=I1.hok.fresh (gu _);have I2:=I1.laid (t':=tk) (a:=h'.objs.size) (o:=.ext fun g=>g.get? h'.objs.size=some (kla_obj "<lambda>" q params body scope [] ((X.mg "__name__").getD .none) c' ctv)) (h':=h'.push (kla_obj "<lambda>" q params body scope [] ((X.mg "__name__").getD .none) c' ctv))
   (fun b u z=>gd _ z) (gu _) ⟨gr _ rfl,⟨_,gr _ rfl⟩,fun h1 h2 z1 z2=>z2 _ z1⟩
  have hfP:h'.objs.size≠P:=fun z=>by rw [z,a2] at hn;cases hn
  have kp:Kept H H1:=⟨fun b xs z=>by rw [a1 b (nP b _ z nofun) (nc b _ z)];exact z,fun b φ z=>by rw [a1 b (nP b _ z nofun) (nc b _ z)];exact z,fun {b} z=>by
    by_cases y:b=P
    ·subst y;rw [a2] at z;cases z
    by_cases y2:b=c'
    ·rw [y2];exact hnc
    rw [a1 b y y2] at z;exact z,fun t p hp=>by
    obtain⟨ps1,e1,t1,k1⟩:=t p hp
    by_cases y:p.1=P
    ·have e2:=hU p hp y
     rw [y,e] at e1;cases e1;rw [y];refine⟨_,a2,by simpa using TriplesOk_snoc pos.line pos.col (.ref c') ps.toList ht,fun pos' cv z=>?_⟩;rw [p8] at z;rcases qei ps.toList ht (by simpa using z) with z|z
     ·obtain⟨c2, φ,z1,z2,z3⟩:=k1 pos' cv z
      exact⟨c2, φ,z1,by rw [a1 c2 (nP _ _ z2 nofun) (nc _ _ z2)];exact z2,z3⟩
     ·exact⟨c',_,z,a3,fun g z=>by rw [e2];exact z⟩
    ·refine⟨ps1,by rw [a1 _ y (nc _ _ e1)];exact e1,t1,fun pos' cv z=>?_⟩
     obtain⟨c2, φ,z1,z2,z3⟩:=k1 pos' cv z;exact⟨c2, φ,z1,by rw [a1 c2 (nP _ _ z2 nofun) (nc _ _ z2)];exact z2,z3⟩,fun b φ z=>by rw [a1 b (nP b _ z nofun) (nc b _ z)];exact z⟩
  have g1:Grow F H F H1:=⟨.refl _,kp,fun b o z=>by
    have y:b≠P:=fun y=>by have:=st.f _ hP;rw [show b=P from y] at z;rw [z] at this;cases this
    rw [a1 b y (nc b _ (st.s b o z))];exact st.s b o z,fun _ z=>.inl z⟩
  exact h _ c' _ _ ctv _ _ _ I2 (g1.trans (Grow.own g1.fh hn)) ql ((Kept.new hn).ext _ _ a3) (fun g z=>z) fun g z=>z
end
section
variable{X:Cx}{pins:List (Addr×Obj)}{σ : St}{F H:Hp}{s:Shared}
theorem qix{e:Expr}{p kp pos lpos:Pos}{params:Arguments}{body:Expr}{scope:Scope}{k k':Nat}{c P:Addr}{q:Str}{N ps:List Str}{u:FE}{fa:FA}(hcode:X.env.code=.ref c)(hd:codeHdIn X.K c P=true)(hP:(P,q)∈Lam.tab)
  (hU:∀p∈Lam.tab,p.1=P->p.2=q) (B:q0x X.mg X.base) (hr:Room k' X.A) (hgs:Gl X "sorted") (hms:X.mg "sorted" = none) (ha:PA X [e] (tDA X.K fa)) (S:FnScope N ps scope)
  (hb:∀(f c':Addr) (A:Around) (outer:List Env) (s:Shared) (H:Hp) (E:XK),Room k (A.deeper (envOfC q scope s.heap.objs.size f (.ref c')))->PE (zj CX0 X.prog X.w X.K X.mg X.base N q scope f (.ref c') A outer s H E).nox body (tD X.K u))
  (hbd:∀(pm cdv ct:Value) (us:List Value),us.length=ps.length->bindArgs (kla_fn "<lambda>" q params body scope [] pm cdv ct) ⟨us,[]⟩=pure (ps.zip us)) (hk:k+3<=k') (h1:ps.length=1)
  (hq:X.env.qual++"<lambda>" = q:=by rfl) (hdef:defaultsOf params X.env=([],[]):=by rfl) (hcl:closureFor scope X.env=pure []:=by rfl) (he:backTo pos (starEach [e] X.env)=(false,eval e X.env) :: backTo pos (starEach [] X.env):=by rfl)
  (hpl:(backTo pos (starEach [e] X.env)).any (·.1)=false:=by rfl):PE X (.Call (.Name "sorted" p) [e] [⟨some "key",.Lambda params body scope lpos,kp⟩] pos) (tL X.K (q09 (w6 (z5 N.length (zl u))) fa)):=by
 intro pins s σ H Q I h;obtain⟨F0,H0,F, ρ,ds,r,hf,q'⟩:=h;obtain⟨es,h3,h2⟩:=gc.mp hf;unfold w6 at h2
 split at h2
 ·rename_i d
  refine g1o (q15 I hgs hms boot_sorted ?_ (by decide) (by decide));refine callWith_kw (thn (ha pos pins s σ H (fun vs H1=>∃F1,Grow F H F1 H1/\RepL X.K F1 [d] vs) I ⟨F0,H0,F, ρ,[d],r,h3,fun vs F1 H1 g1 r1=>⟨F1,g1,r1⟩⟩) fun us s1 ⟨vs,H1,I1,rv,F1,g1,r1⟩=>?_) he hpl rfl rfl;refine kws_cons (qiw hcode hd hP hU hq B hdef hcl I1 (r.sameT g1) fun f c' φ ψ ct pm s2 H2 I2 g2 hf' hc' hφ hψ =>kws_nil ?_);obtain⟨x,rfl,rx⟩:=rep1 r1;obtain⟨v,rfl,ru⟩:=vals1 rv;cases d <;> simp only [yi] at h2 <;> first|(cases h2;done)|skip
  rename_i ds';obtain⟨a,ys,rfl,_⟩:=rep_lst.mp rx;cases ru;exact q8e (qo0 hφ hψ S (hb f c')) (fun F' H' dv kd x Q' g' rx' hk' q''=>⟨g'.hh.ext _ _ hf',g'.hh.ext _ _ hc',F',[dv],kd,((r.sameT g1).grow g2).grow g',.cons rx' .nil,h1.symm,hk',q''⟩) (.all (hbd pm _ ct)) hr (by omega) I2 g2.fh (rx.mono g2.ff) (by simp only [yi];exact h2)
   fun a ys F3 H3 g3 k1 k2 k3 k4=>q' a ys F3 H3 (g1.trans (g2.trans g3)) k1 (g1.hh.free (g2.hh.free k2)) k3 k4
 ·cases h2
end
structure Fun3(K:Frag)(x qual:Str)(st:Stmt)(dV:Value)(f:Addr)(fd:FuncData)(c P:Addr): Prop where
 ex:∃(oc:Value) (od:Option Addr) (kV doc pm:Value) (an:Option Addr) (ct:Value) (osl:Array (Option Value)),
  fd=PySem.W.fnOf x qual (vz st) (qu st) (qc st) dV kV doc pm an (.ref c) ct/\K.lookup f=some ⟨oc,od,.func fd,osl⟩/\PySem.W.codeIn K (.ref c) qual=true
 hd:codeHdIn K c P=true
 kp:PySem.W.keepIn K (.ref f)=true
section
variable{P:Program}{w:World}{K:Frag}{mg:Str->Option Value}{base:Heap}{x qual:Str}{st:Stmt}{dV:Value}{f c T:Addr}{fd:FuncData}{N ps:List Str}
theorem Fun3.okn{k n ar k1:Nat}{u:FS}(F:Fun3 K x qual st dV f fd c T)(S:FnScope N ps (qc st))(hn:N.length=n)(ha:ps.length=ar)(hk:k+1=k1)
  (hb:∀(A:Around) (outer:List Env) (s:Shared) (H:Hp) (E:XK),Room k (A.deeper (envOfC qual (qc st) s.heap.objs.size f (.ref c)))->PSs (zj CX0 P w K mg base N qual (qc st) f (.ref c) A outer s H E).nox (qu st) (tDS K u)) :
  FnOk P w K mg base CX0 k1 f fd ps (spD K ar (z5 n u)):=by
 subst hn ha hk;obtain⟨oc,od,kV,doc,pm,an,ct,osl,rfl,lk,hcd⟩:=F.ex;exact qjx lk hcd S fun A outer s H E hr=>hb A outer s H E hr
theorem qli{oc:Value}{od an:Option Addr}{osl:Array (Option Value)}{kV doc pm ct:Value}(l:K.lookup f=some ⟨oc,od,.func (PySem.W.fnOf x qual (vz st) (qu st) (qc st) dV kV doc pm an (.ref c) ct),osl⟩)
  (cd:PySem.W.codeIn K (.ref c) qual=true) (hd:codeHdIn K c T=true) (k:PySem.W.keepIn K (.ref f)=true):Fun3 K x qual st dV f (PySem.W.fnOf x qual (vz st) (qu st) (qc st) dV kV doc pm an (.ref c) ct) c T:=⟨⟨oc,od,kV,doc,pm,an,ct,osl,rfl,l,cd⟩,hd,k⟩
theorem Fun3.bindsTo(F:Fun3 K x qual st dV f fd c T){P:FuncData->Prop}(h:∀(kV doc pm:Value) (an:Option Addr) (cdv ct:Value),P (PySem.W.fnOf x qual (vz st) (qu st) (qc st) dV kV doc pm an cdv ct)): P fd:=by
 obtain⟨oc,od,kV,doc,pm,an,ct,osl,rfl,lk,hcd⟩:=F.ex;exact h kV doc pm an _ ct
end
theorem qgj{P:Program}{w:World}{K:Frag}{mg mb:Str->Option Value}{k:Nat}{fa a:Addr}{fd:FuncData}{x:Str}{s₁:Shared}{vs:List Value}{ns:List Int}{tabs:List (Addr×Addr)}(hT:TabsAt tabs s₁.heap)(hL:∀p∈Lam.tab,p.1∈tabs.map (·.2))(hKT:∀p∈tabs,K.lookup p.2=none)
  (KX:K.In s₁.heap) (hns:s₁.heap.Ns mainGlobals mg) (hb:s₁.heap.Ns builtinsNs mb) (hbb:∀x:Str,x≠"__name__" -> mb x=bootBuiltins x) (hlim:s₁.heap.NoLimit) (hg:s₁.gens = #[])
  (ha:s₁.heap.get? a=some {cls:=.type "list",data:=.seq vs.toArray}) (hi:IntsAre vs ns) (hl:ns.length<=63) (hr:Room k callerA)
  (hB:q0x mg s₁.heap) (Fn:∀base:Heap,K.In base->base.Ns mainGlobals mg->q0x mg base->FnOk P w K mg base CX0 k fa fd [x] (q9c K)) (hbind:∀(s:Shared) (u:Value),BindsTo s fd ⟨[u],[]⟩ [(x,u)]) :
  codeAny (model P w) callerA (.call (.ref fa) ⟨[.ref a],[]⟩) (fun r s'=>r=.ok (.ret (.bool true))/\OldK s₁.heap s'.heap/\s'.os=s₁.os/\AllBare s'.gens) s₁:=by
 have rv:=q0f hi;have lenV:=hi.length;have aT:a∉tabs.map (·.2):=fun z=>by
  obtain⟨p,hp,e⟩:=mx.mp z;have e1:=(hT p hp).2;rw [e,ha] at e1;cases e1
 let G:Hp:=fun b=>if b=a/\K.lookup a=none then some (.frz {cls:=.type "list",data:=.seq vs.toArray} (.lst (ns.map V.int))) else none
 let H:Hp:=fun b=>if b∈tabs.map (·.2) then some (.tbl #[]) else G b
 have hG:∀b o,G b=some o->b=a/\K.lookup a=none/\o=.frz {cls:=.type "list",data:=.seq vs.toArray} (.lst (ns.map V.int)):=fun b o z=>by
  by_cases y:b=a/\K.lookup a=none
  ·exact⟨y.1,y.2,(m8 ((mi y).symm.trans z)).symm⟩
  ·have:=(mf y).symm.trans z;cases this
 have hH1:∀b,b∈tabs.map (·.2)->H b=some (.tbl #[]):=fun b z=>mi z;have hH2:∀b,b∉tabs.map (·.2)->H b=G b:=fun b z=>mf z;have tabAt:∀b,b∈tabs.map (·.2)->∃c,CodeHd s₁.heap c b/\s₁.heap.get? b=some (tabObj #[])/\K.lookup b=none:=fun b z=>by
  obtain⟨p,hp,rfl⟩:=mx.mp z;exact⟨p.1,(hT p hp).1,(hT p hp).2,hKT p hp⟩
 have gH:Same G H:=fun b o z=>by
  obtain⟨rfl,_,_⟩:=hG b o z;rw [hH2 _ aT];exact z
 have hok:HOk P w H s₁.heap:=fun b u z=>by
  by_cases y:b∈tabs.map (·.2)
  ·rw [hH1 b y] at z
   cases z;exact(tabAt b y).elim fun c z=>z.2.1
  ·rw [hH2 b y] at z
   obtain⟨rfl,_,rfl⟩:=hG b u z;exact⟨ha,by rw [mj];exact ml hl (by decide),vs,_,rv,ha⟩
 have base_of:∀ {b:Addr} {o:Obj},s₁.heap.get? b=some o->H b=none->(q21 s₁.heap H).get? b=some o:=fun e n=>qhn e n;have noA:∀ {b:Addr} {o:Obj} {es:Array DictEntry} {ep:Nat},s₁.heap.get? b=some o->o.data=.dict es ep->H b=none:=fun {b o es ep} e d=>by
  by_cases y:b∈tabs.map (·.2)
  ·obtain⟨c,_,e1,_⟩:=tabAt b y
   rw [e] at e1;rw [m8 e1] at d;cases d
  ·rw [hH2 b y]
   cases q:G b with
   | none=>rfl
   | some u=>
    obtain⟨rfl,_,_⟩:=hG b u q;rw [ha] at e;rw [<- m8 e] at d;cases d
 have nsK:∀ {b:Addr} {m:Str->Option Value},s₁.heap.Ns b m->(q21 s₁.heap H).Ns b m:=fun {b m} ⟨o,es,ep,e,d,r⟩=>⟨o,es,ep,base_of e (noA e d),d,r⟩
 have hKb:K.In (q21 s₁.heap H):=fun b o e=>base_of (KX b o e) (by
  by_cases y:b∈tabs.map (·.2)
  ·obtain⟨c,_,_,e1⟩:=tabAt b y
   rw [e1] at e;cases e
  ·rw [hH2 b y]
   cases q:G b with
   | none=>rfl
   | some u=>
    obtain⟨rfl,e1,_⟩:=hG b u q;rw [e1] at e;cases e)
 have hM:Mod K mg (q21 s₁.heap H):=⟨hKb,nsK hns,⟨mb,nsK hb,hbb⟩,let⟨mc,h1,h2⟩:=hlim; ⟨mc,nsK h1,h2⟩⟩
 have e0:Env0 P w K mg (q21 s₁.heap H) callerA [] s₁ H:=⟨rfl,hM,fun b o e=>qk6 e,Nat.le_of_eq (qf7 _ _),trivial,fun b hb=>absurd (show b∈([]:List Addr) from hb) (by simp),hok,.of_eq hg⟩
 have hS:SqL K G a (ns.map V.int):=by
  cases hk:K.lookup a with
  | some o=>
   have e:=KX a o hk;rw [ha] at e;cases e;exact .inr ⟨_,vs.toArray,_,hk,rfl,rfl,rfl,by rw [gj,lenV];exact ml hl (by decide),by simpa using rv⟩
  | none=>exact .inl (.inr ⟨{cls:=.type "list",data:=.seq vs.toArray},mi ⟨rfl,hk⟩⟩)
 have sT:SameT G H:=⟨gH,fun p hp=>⟨#[],hH1 _ (hL p hp),trivial,fun pos cv z=>by simp [codeAmong] at z⟩,fun p hp=>by
  cases q:G p.1 with
  | none=>rfl
  | some u=>
   obtain⟨e,_,_⟩:=hG _ u q;exact absurd (e ▸ hL p hp) aT⟩
 have hBb:q0x mg (q21 s₁.heap H):=by
  obtain⟨bm,ob,B1,B2,B3,B4,B5,B6⟩:=hB;refine⟨bm,ob,B1,B2,base_of B3 ?_,B4,B5,B6⟩
  by_cases y:bm∈tabs.map (·.2)
  ·obtain⟨c,_,e1,_⟩:=tabAt bm y
   rw [B3] at e1;rw [m8 e1] at B4;cases B4
  ·rw [hH2 bm y]
   cases q:G bm with
   | none=>rfl
   | some u=>
    obtain⟨rfl,_,_⟩:=hG bm u q;rw [ha] at B3;rw [<- m8 B3] at B6;cases B6
 refine g2g ((Fn _ hKb (nsK hns) hBb).run callerA [] s₁ H ⟨[.ref a],[]⟩ [.ref a] [.ref a] (fun v _=>v=.bl true) E0 hr e0 (hbind s₁ (.ref a)) (.cons rfl .nil) ⟨a,ns,G,rfl,sT,hS,hl,fun _=>rfl⟩) fun r s' h=>?_;cases r with
 | error e=>exact h.elim
 | ok fl=>
  cases fl with
  | next=>exact False.elim h
  | brk=>exact False.elim h
  | cont=>exact False.elim h
  | ret u=>
   obtain⟨v,H',os,bare,un,hok',r',q⟩:=h;have q':v=.bl true:=q;subst q';obtain rfl:u=Value.bool true:=r';have tab':∀b,b∈tabs.map (·.2)->∃more,s'.heap.get? b=some (tabObj (#[]++more)):=fun b y=>by
    obtain⟨more,e⟩:=un.tbls b #[] (hH1 b y);exact⟨more,hok' b _ e⟩
   have keep:∀b o,b∉tabs.map (·.2)->s₁.heap.get? b=some o->s'.heap.get? b=some o:=fun b o y e=>by
    cases q:H b with
    | none=>exact un.keep b o e q (by intro z;exact absurd (show b∈([]:List Addr) from z) (by simp)) (by simp)
    | some u=>
     have q2:=q;rw [hH2 b y] at q2;obtain⟨rfl,_,rfl⟩:=hG b u q2;obtain⟨e2,_⟩:=hok' _ _ (un.frzs _ _ _ q);rw [ha] at e;rw [<- m8 e];exact e2
   refine⟨rfl,⟨fun b o e=>?_,fun b o e=>?_⟩,os,bare⟩
   ·by_cases y:b∈tabs.map (·.2)
    ·obtain⟨c,C,e1,_⟩:=tabAt b y
     rw [e] at e1;obtain rfl:=m8 e1;obtain⟨more,e2⟩:=tab' b y;exact .inr (.inl ⟨(C.tab e).isCodeTable,rfl, #[],more,rfl,e2⟩)
    ·exact .inl (keep b o y e)
   ·by_cases y:b∈tabs.map (·.2)
    ·obtain⟨more,e2⟩:=tab' b y
     exact⟨_,e2⟩
    ·exact⟨o,keep b o y e⟩
omit [Lam] in
theorem qlj{l:PySem.W.OpenLaw}{k:Nat}{x:Str}{q:Program}{loose:List Str}{XP:(Str->Option Value)->Heap->Prop}{YP:World->Heap->Prop}{d:DefRec}{K:Params->Frag}(hn:l.most=some 63)(hdf:d.params.defaults=[])(hk:Room k callerA)
  (hY:∀(w:World) (h:Heap),YP w h->(K w.params).In h)
  (F:∀(w:World) (mg:Str->Option Value) (fa:Addr) (h:Heap),(K w.params).In h->h.Ns mainGlobals mg->mg d.name=some (.ref fa) ->
   ∃(L:Lam) (tabs:List (Addr×Addr)) (fd:FuncData),(∀p∈L.tab,p.1∈tabs.map (·.2))/\(∀p∈tabs,(K w.params).lookup p.2=none/\∃y:Str,((recsOf q).find? (fun e=>e.name==y)).isSome=true/\tabIn (K w.params) y=some p) /\
    (∀(s:Shared) (u:Value),BindsTo s fd ⟨[u],[]⟩ [(x,u)])/\∀base:Heap,(K w.params).In base->base.Ns mainGlobals mg->q0x mg base->FnOk l.prog w (K w.params) mg base CX0 k fa fd [x] (q9c (K w.params))) :
  PySem.W.WalkO q loose XP YP l.row.toRowW d [] (fun f vs=>PySem.call f vs):=by
 refine Att.attach_call hn hdf fun w s₀ s₁ mg mb fa o pm cd doc a vs ns G Y ho hd hcd hmg hobj hints hlen hg=>?_;have KX:=hY w _ Y;obtain⟨L,tabs,fd,hL,hT,hb,hF⟩:=F w mg fa _ KX G.T.g hmg;refine qgj (tabs:=tabs) (fun p hp=>?_) hL (fun p hp=>(hT p hp).1) KX G.T.g G.T.b G.T.builtins G.T.nolimit hg hobj hints hlen hk (let⟨bm,ob,b1,b2,b3,b4,b5,b6⟩:=G.T.bmain; ⟨bm,ob,b1,b2,b3,b4,b5,b6⟩) hF hb;obtain⟨_,y,e1,e2⟩:=hT p hp;obtain⟨d',e3⟩:=g0p.mp e1;exact tab_of G.T KX e3 e2
end DL
namespace Js
open PySem
theorem qej(A B:List Nat)(j:Nat)(hA:∀x∈A,x<j)(hB:∀x∈B,j<=x): ∀fuel lo hi,lo<=A.length->A.length<=hi->hi<=A.length+B.length->hi-lo<=fuel ->
  SetTable.below.go (A++B).toArray j fuel lo hi=A.length
 | 0,lo,hi,h1,h2,_,h3=>by unfold SetTable.below.go;lia
 | fuel+1,lo,hi,h1,h2,h4,h3=>by
  unfold SetTable.below.go
  by_cases c:lo<hi
  ·rw [mi c]
   show(if(A++B).toArray.getD ((lo+hi) / 2) j<j then _ else _)=_;have hm:(lo+hi) / 2<hi:=by lia
   have hm2:lo<=(lo+hi) / 2:=by lia
   by_cases d:(lo+hi) / 2<A.length
   ·have e:(A++B).toArray.getD ((lo+hi) / 2) j=A[(lo+hi) / 2]:=by
     simp [Array.getD,g59 d];lia
    rw [e,mi (hA _ (g5b d))];exact qej A B j hA hB fuel _ _ (by lia) h2 h4 (by lia)
   ·have hb:(lo+hi) / 2-A.length<B.length:=by lia
    have e:(A++B).toArray.getD ((lo+hi) / 2) j=B[(lo+hi) / 2-A.length]:=by
     have hlt:(lo+hi) / 2<A.length+B.length:=by lia
     simp [Array.getD,g4v (Nat.le_of_not_lt d),hlt]
    rw [e,mf (g5w.mpr (hB _ (g5b hb)))];exact qej A B j hA hB fuel _ _ h1 (by lia) (by lia) (by lia)
  ·rw [mf c];lia
theorem below_at{A B:List Nat}{j:Nat}(hA:∀x∈A,x<j)(hB:∀x∈B,j<=x): SetTable.below (A++B).toArray j=A.length:=by
 unfold SetTable.below;exact qej A B j hA hB _ 0 _ (uy _) (by simp) (by simp) (by simp)
theorem cut(j:Nat): ∀l:List Nat,l.Pairwise (· < ·)->∃A B,l=A++B/\(∀x∈A,x<j)/\(∀x∈B,j<=x)
 | [],_=>⟨[],[],rfl,by simp,by simp⟩
 | x :: l,h=>by
  by_cases c:x<j
  ·obtain⟨A,B,e,a,b⟩:=cut j l (g12.mp h).2
   exact⟨x :: A,B,by rw [e];rfl,by intro y hy;rcases me.mp hy with rfl|hy;exact c;exact a y hy,b⟩
  ·exact⟨[],x :: l,rfl,by simp,by
    intro y hy;rcases me.mp hy with rfl|hy
    ·lia
    ·have:=(g12.mp h).1 y hy;lia⟩
theorem q51{α : Type}(A B:List α)(x : α): SetTable.insertAt (A++B).toArray A.length x=(A++x :: B).toArray:=by
 unfold SetTable.insertAt;apply g5v;simp
theorem has_none(j:Nat): SetTable.has #[] j=false:=by unfold SetTable.has;simp
theorem qaj{t:SetTable}{l:List Nat}{j:Nat}(ep:t.place=l.toArray)(ed:t.dummies = #[])(hr:l.Pairwise (· < ·))(h:j∉l): t.slot j=.empty:=by
 obtain⟨A,B,rfl,hA,hB⟩:=cut j l hr;unfold SetTable.slot;rw [ep,ed,below_at hA hB,has_none];have:((A++B).toArray[A.length]? == some j)=false:=by
  cases B with
  | nil=>simp
  | cons b B=>
   have:b≠j:=fun e=>h (by simp [e]);simp [this]
 simp only [this];rfl
theorem qlk{t:SetTable}{l:List Nat}{j:Nat}(ep:t.place=l.toArray)(ed:t.dummies = #[])(hr:l.Pairwise (· < ·))(h:j∈l): ∃i,t.slot j=.live i:=by
 obtain⟨A,B,rfl,hA,hB⟩:=cut j l hr;unfold SetTable.slot;rw [ep,below_at hA hB];have:((A++B).toArray[A.length]? == some j)=true:=by
  rcases nh.mp h with h|h
  ·have:=hA j h;lia
  ·cases B with
   | nil=>simp at h
   | cons b B=>
    have hb:=hB b (m4 ..);have:b=j:=by
     rcases me.mp h with rfl|h
     ·rfl
     ·have:=(g12.mp (nj.mp hr).2.1).1 j h;lia
    simp [this]
 simp only [this, ↓reduceIte];exact⟨_,rfl⟩
def orb:Nat->Nat->Nat
 | 0,i=>i
 | d+1,i=>orb d ((i*5+1)%8)
theorem qll:∀i<8,∀j<8,∃d<8,orb d i=j:=by decide
theorem qpw{t:SetTable}(hm:t.mask=7){i pt:Nat}(hp:pt<32)(hi:i<8): t.advance {j:=i,more:=0,i:=i,perturb:=pt,dummy:=none} = {j:=(i*5+1)%8,more:=0,i:=(i*5+1)%8,perturb:=0,dummy:=none}:=by
 have e0:pt / 32=0:=by lia
 have e1:SetTable.runEnd 7 ((i*5+1)%8)=(i*5+1)%8:=by unfold SetTable.runEnd;rw [mf (by lia)]
 unfold SetTable.advance;rw [mf (by simp),hm];unfold SetTable.leap;simp only [e0,Nat.add_zero];show({j:=(i*5+1)%8,more:=SetTable.runEnd 7 ((i*5+1)%8)-(i*5+1)%8,i:=(i*5+1)%8,perturb:=0,dummy:=none}:SetTable.Probe)=_;rw [e1,Nat.sub_self]
theorem go7{t:SetTable}{l:List Nat}{h:Int}(ep:t.place=l.toArray)(ed:t.dummies = #[])(hr:l.Pairwise (· < ·))(hm:t.mask=7): ∀(k:Nat) (i pt:Nat),pt<32->i<8->(∃d<k,orb d i∉l) ->
  ∃j,SetTable.probe.go t (fun _=>h+1) h k {j:=i,more:=0,i:=i,perturb:=pt,dummy:=none}=some (.empty j none)/\j∉l/\j<8
 | 0,i,pt,_,_,⟨d,hd,_⟩=>by lia
 | k+1,i,pt,hp,hi,⟨d,hd,hn⟩=>by
  unfold SetTable.probe.go
  by_cases c:i∈l
  ·obtain⟨x,e⟩:=qlk ep ed hr c
   have hne:(h+1==h)=false:=by simp;lia
   simp only [e,hne,gf, ↓reduceIte];rw [qpw hm hp hi];refine go7 ep ed hr hm k _ 0 (by lia) (Nat.mod_lt _ (by lia)) ?_;cases d with
   | zero=>exact absurd c hn
   | succ d=>exact⟨d,by lia,hn⟩
  ·simp only [qaj ep ed hr c]
   exact⟨i,rfl,c,hi⟩
theorem q5j{α : Type}[DecidableEq α]: ∀ {a l:List α},a.Nodup->a ⊆ l->a.length<=l.length
 | [],_,_,_=>by simp
 | x :: a,l,hn,hs=>by
  have hx:x∈l:=hs (m4 ..);have h2:a ⊆ l.erase x:=fun y hy=>(List.mem_erase_of_ne (fun e:y=x=>(g0o.mp hn).1 (e ▸ hy))).mpr (hs (m5 _ hy));have:=q5j (g0o.mp hn).2 h2;rw [List.length_erase_of_mem hx] at this;have:0<l.length:=List.length_pos_of_mem hx;simp only [t9];lia
theorem qek:∀(l:List Nat),(∀j<8,j∈l)->8<=l.length:=by
 intro l h;have:(List.range 8) ⊆ l:=fun j hj=>h j (tx.mp hj);have h2:=q5j g1g this
 simpa using h2
theorem qp0{t:SetTable}{l:List Nat}{n:Nat}(ep:t.place=l.toArray)(ed:t.dummies = #[])(hr:l.Pairwise (· < ·))(hm:t.mask=7)(hl:l.length<8)(hn:n<12):
  ∃j,t.freeSlot (n:Int)=some (j,false)/\j∉l/\j<8:=by
 have hb:SetTable.bits (n:Int)=n:=by unfold SetTable.bits;lia
 have hi:n%8<8:=Nat.mod_lt _ (by lia);have hex:∃d<10*SetTable.turns t.mask,orb d (n%8)∉l:=by
  have:∃j,j<8/\j∉l:=g1b fun c=>by
   have:=qek l (fun j hj=>g1b fun d=>c ⟨j,hj,d⟩);lia
  obtain⟨j,hj,hnj⟩:=this;obtain⟨d,hd,e⟩:=qll _ hi j hj;refine⟨d,?_,by rw [e];exact hnj⟩;rw [hm];unfold SetTable.turns;lia
 have hst:t.probeStart (n:Int) = {j:=n%8,more:=0,i:=n%8,perturb:=n,dummy:=none}:=by
  unfold SetTable.probeStart;rw [hb,hm];have e1:SetTable.runEnd 7 (n%(7+1))=n%8:=by unfold SetTable.runEnd;rw [mf (by lia)]
  simp only [e1];simp
 obtain⟨j,e,h1,h2⟩:=go7 (h:=(n:Int)) ep ed hr hm (10*SetTable.turns t.mask) (n%8) n (by lia) hi hex;refine⟨j,?_,h1,h2⟩;unfold SetTable.freeSlot SetTable.probe;rw [hst,e]
 rfl
theorem qo1{t:SetTable}{l:List Nat}{n:Nat}(ep:t.place=l.toArray)(ed:t.dummies = #[])(hr:l.Pairwise (· < ·))(hm:15<=t.mask)(hn:n<12)(hnl:n∉l):
  t.freeSlot (n:Int)=some (n,false):=by
 have hb:SetTable.bits (n:Int)=n:=by unfold SetTable.bits;lia
 have hmod:n%(t.mask+1)=n:=Nat.mod_eq_of_lt (by lia);unfold SetTable.freeSlot SetTable.probe SetTable.probeStart;rw [hb];simp only [hmod];have:10*SetTable.turns t.mask=(10*SetTable.turns t.mask-1)+1:=by unfold SetTable.turns;lia
 rw [this];unfold SetTable.probe.go;simp only [qaj ep ed hr hnl]
 rfl
def el(p:Nat×Nat): Int×Value:=((p.1:Int),.int (p.1:Int) p.2)
structure Tb(t:SetTable)(ks:List (Nat×Nat)): Prop where
 dm:t.dummies = #[]
 pl:t.plain=true
 nd:(ks.map Prod.fst).Nodup
 lt:∀p∈ks,p.1<12
 sz:t.place.toList.length=ks.length
 rs:t.place.toList.Pairwise (· < ·)
 mz:(t.mask=7/\(∀p∈t.place.toList,p<8))\/((t.mask=15\/t.mask=31\/t.mask=63)/\t.place.toList=ks.map Prod.fst)
theorem Tb.n12{t:SetTable}{ks:List (Nat×Nat)}(T:Tb t ks): ks.length<=12:=by
 have:=q5j (l:=List.range 12) T.nd (fun x hx=>by
  obtain⟨p,hp,rfl⟩:=mx.mp hx;exact tx.mpr (T.lt p hp))
 simpa using this
theorem Tb.fits{t:SetTable}{ks:List (Nat×Nat)}(T:Tb t ks)(h:t.mask=7->ks.length<8): t.fits ks.length=true:=by
 have h1:t.place.size=ks.length:=by rw [<- T.sz];simp
 have h2:=T.n12;unfold SetTable.fits SetTable.fill;rw [T.dm,h1];have:ks.length<=t.mask:=by
  rcases T.mz with⟨e,_⟩|⟨e,_⟩
  ·have:=h e;lia
  ·lia
 simp [this]
theorem toArr(a:Array Nat): a=a.toList.toArray:=by simp
theorem qo2{A B:List Nat}{j:Nat}(h:(A++B).Pairwise (· < ·))(hA:∀x∈A,x<j)(hB:∀x∈B,j<=x)(hj:j∉A++B): (A++j :: B).Pairwise (· < ·):=by
 have hB':∀x∈B,j<x:=fun x hx=>by
  have:=hB x hx;have:x≠j:=fun e=>hj (by rw [<- e];exact n8 _ hx);lia
 obtain⟨a,b,c⟩:=nj.mp h;refine nj.mpr ⟨a,g12.mpr ⟨hB',b⟩,fun x hx y hy=>?_⟩;rcases me.mp hy with rfl|hy
 ·exact hA x hx
 ·exact c x hx y hy
theorem qiy:∀ {l:List Nat},l.Pairwise (· < ·)->l.Nodup:=fun h=>g32 (fun a=>m9 a) h
theorem lay{t:SetTable}{ks:List (Nat×Nat)}(T:Tb t ks){n k:Nat}(hn:n<12)(hnk:n∉ks.map Prod.fst)(h7:t.mask=7->ks.length<7):
  ∃t' ks',layNew t (ks.map el).toArray (n:Int) (.int (n:Int) k)=((ks'.map el).toArray,t',false,false)/\Tb t' ks'/\ks'.Perm ((n,k) :: ks)/\t'.mask=t.mask/\t'.led=t.led/\t'.finger=t.finger/\t'.moves=t.moves:=by
 have key:∃j,t.freeSlot (n:Int)=some (j,false)/\j∉t.place.toList/\((t.mask=7/\j<8)\/((t.mask=15\/t.mask=31\/t.mask=63)/\j=n)):=by
  rcases T.mz with⟨e,_⟩|⟨e,ep⟩
  ·obtain⟨j,h1,h2,h3⟩:=qp0 (n:=n) (toArr t.place) T.dm T.rs e (by rw [T.sz];have:=h7 e;lia) hn
   exact⟨j,h1,h2,.inl ⟨e,h3⟩⟩
  ·exact⟨n,qo1 (toArr t.place) T.dm T.rs (by lia) hn (by rw [ep];exact hnk),by rw [ep];exact hnk,.inr ⟨e,rfl⟩⟩
 obtain⟨j,hf,hj,hm⟩:=key;obtain⟨A,B,eAB,hA,hB⟩:=cut j _ T.rs;have hp:t.place=(A++B).toArray:=by rw [<- eAB]
 have hbel:SetTable.below t.place j=A.length:=by rw [hp];exact below_at hA hB
 have hlen:A.length<=ks.length:=by have:=T.sz;rw [eAB,pz] at this;lia
 let ks':=ks.take A.length++(n,k) :: ks.drop A.length
 let t':SetTable:={t with place:=(A++j :: B).toArray,dummies:= #[]}
 have hput:t.put j=(t',A.length):=by
  unfold SetTable.put;simp only [hbel,T.dm,has_none,gf, ↓reduceIte];rw [hp,q51]
 have hins:SetTable.insertAt (ks.map el).toArray A.length ((n:Int),Value.int (n:Int) k)=(ks'.map el).toArray:=by
  have e:ks.map el=(ks.take A.length).map el++(ks.drop A.length).map el:=by rw [<- uf,nk]
  have el1:((ks.take A.length).map el).length=A.length:=by simp [hlen]
  have:=q51 ((ks.take A.length).map el) ((ks.drop A.length).map el) ((n:Int),Value.int (n:Int) k);rw [el1] at this;rw [e,this];simp [ks',el]
 have hperm:ks'.Perm ((n,k) :: ks):=by
  have:=@List.perm_middle _ (n,k) (ks.take A.length) (ks.drop A.length);rwa [nk] at this
 have hrs:(A++j :: B).Pairwise (· < ·):=qo2 (by rw [<- eAB];exact T.rs) hA hB (by rw [<- eAB];exact hj);have T':Tb t' ks':=by
  refine⟨rfl,T.pl,?_,?_,?_,by simpa [t'] using hrs,?_⟩
  ·refine((hperm.map Prod.fst).nodup_iff).mpr ?_
   exact g0o.mpr ⟨hnk,T.nd⟩
  ·intro p hp
   rcases me.mp (hperm.mem_iff.mp hp) with rfl|h
   ·exact hn
   ·exact T.lt p h
  ·rw [hperm.length_eq]
   have:=T.sz;rw [eAB] at this;simp only [pz] at this;simp [t'];lia
  ·rcases hm with⟨e,hj8⟩|⟨e,rfl⟩
   ·refine .inl ⟨e,fun p hp=>?_⟩
    have hp':p∈A++j :: B:=by simpa [t'] using hp
    rcases T.mz with⟨_,hq⟩|⟨e',_⟩
    ·rw [eAB] at hq
     rcases nh.mp hp' with h|h
     ·exact hq p (g23 _ h)
     ·rcases me.mp h with rfl|h
      ·exact hj8
      ·exact hq p (n8 _ h)
    ·lia
   ·refine .inr ⟨e,?_⟩
    rcases T.mz with⟨e',_⟩|⟨_,ep⟩
    ·lia
    ·have e1:A=(ks.map Prod.fst).take A.length:=by rw [<- ep,eAB];simp
     have e2:B=(ks.map Prod.fst).drop A.length:=by rw [<- ep,eAB];simp
     show(A++j :: B).toArray.toList=ks'.map Prod.fst;simp only [ks',uf,gv,g5y,g5z];rw [<- e1, <- e2]
 have h7':t'.mask=7->ks'.length<8:=fun e=>by rw [hperm.length_eq];have:=h7 e;simp;lia
 have hfit:t'.fits (ks'.map el).toArray.size=true:=by
  have:=T'.fits h7'
  simpa using this
 refine⟨t',ks',?_,T',hperm,rfl,rfl,rfl,rfl⟩;unfold layNew;simp only [hf,hput,hins];unfold SetTable.orStandIn;rw [mi hfit,hfit]
 rfl
theorem qiz{mask:Nat}{owner:Array (Option Nat)}{i pt f:Nat}(h:owner.getD i (some 0)=none): SetTable.layClean.free mask owner (f+1) i pt=some i:=by
 unfold SetTable.layClean.free;have hr:SetTable.runEnd mask i+1-i=(SetTable.runEnd mask i-i)+1:=by
  unfold SetTable.runEnd;split <;> lia
 rw [hr,g1r];have:(List.find? (fun k=>(owner.getD (i+k) (some 0)).isNone) (0 :: List.map Nat.succ (List.range (SetTable.runEnd mask i-i))))=some 0:=by
  rw [List.find?_cons];simp only [Nat.add_zero,h,Option.isNone_none]
 rw [this];rfl
def Own(mask:Nat)(hs:List Nat)(c:Nat)(owner:Array (Option Nat)): Prop:=owner.size=mask+1/\∀j,j<=mask->∀k,owner[j]? = some (some k)↔(k<c/\hs[k]? = some j)
theorem qak(mask:Nat)(hm:15<=mask)(hs:List Nat)(hnd:hs.Nodup)(hlt:∀x∈hs,x<12): ∀(r:List Nat) (c:Nat) (owner:Array (Option Nat)),hs.drop c=r->c<=hs.length->Own mask hs c owner ->
  ∃ ow,(r.map (Int.ofNat)).foldl (fun acc h=>do
    let(owner,k) <- acc
    let j <- SetTable.layClean.free mask owner (SetTable.turns mask) (SetTable.bits h%(mask+1)) (SetTable.bits h)
    pure (owner.setIfInBounds j (some k),k+1)) (some (owner,c))=some (ow,hs.length)/\Own mask hs hs.length ow
 | [],c,owner,hd,hc,ho=>by
  have:c=hs.length:=by have:=ug List.length hd;simp at this;lia
  subst this;exact⟨owner,rfl,ho⟩
 | x :: r,c,owner,hd,hc,ho=>by
  have hcl:c<hs.length:=by have:=ug List.length hd;simp at this;lia
  have hx:hs[c]? = some x:=by
   have:=ug (fun l=>l[0]?) hd
   simpa using this
  have hxm:x∈hs:=tq hx;have hx12:=hlt x hxm;have hb:SetTable.bits (Int.ofNat x)=x:=by unfold SetTable.bits;simp;lia
  have hmod:x%(mask+1)=x:=Nat.mod_eq_of_lt (by lia);have hnone:owner.getD x (some 0)=none:=by
   have hlt':x<owner.size:=by rw [ho.1];lia
   simp only [Array.getD,hlt', ↓reduceDIte,Array.getInternal_eq_getElem];cases e:owner[x] with
   | none=>rfl
   | some k=>
    have:owner[x]? = some (some k):=by rw [g4w hlt',e]
    obtain⟨h1,h2⟩:=(ho.2 x (by lia) k).mp this;have hkl:k<hs.length:=by lia
    rw [mr hkl] at h2;rw [mr hcl] at hx;have:=(g51 hnd).mp ((m8 h2).trans (m8 hx).symm);lia
  have hfree:SetTable.layClean.free mask owner (SetTable.turns mask) (SetTable.bits (Int.ofNat x)%(mask+1)) (SetTable.bits (Int.ofNat x))=some x:=by
   rw [hb,hmod];have:SetTable.turns mask=(mask+14)+1:=by unfold SetTable.turns;lia
   rw [this];exact qiz hnone
  rw [gv,g5i];have hstep:(do
    let(owner,k) <- some (owner,c)
    let j <- SetTable.layClean.free mask owner (SetTable.turns mask) (SetTable.bits (Int.ofNat x)%(mask+1)) (SetTable.bits (Int.ofNat x))
    pure (owner.setIfInBounds j (some k),k+1):Option (Array (Option Nat)×Nat))=some (owner.setIfInBounds x (some c),c+1):=by
   show(SetTable.layClean.free mask owner (SetTable.turns mask) (SetTable.bits (Int.ofNat x)%(mask+1)) (SetTable.bits (Int.ofNat x))).bind _=_;rw [hfree];rfl
  refine qak mask hm hs hnd hlt r (c+1) (owner.setIfInBounds x (some c)) ?_ hcl ⟨by simp [ho.1],fun j hj k=>?_⟩ |> fun⟨ow,a,b⟩=>⟨ow,?_,b⟩
  ·rw [<- List.tail_drop,hd];rfl
  ·rw [Array.getElem?_setIfInBounds]
   have hxs:x<owner.size:=by rw [ho.1];lia
   by_cases e:x=j
   ·subst e
    rw [mi rfl,mi hxs]
    constructor
    ·intro h;have:c=k:=by simpa using h
     subst this;exact⟨by lia,hx⟩
    ·rintro⟨h1,h2⟩
     have hkl:k<hs.length:=by lia
     rw [mr hkl] at h2;rw [mr hcl] at hx;have:=(g51 hnd).mp ((m8 h2).trans (m8 hx).symm);rw [this]
   ·rw [mf e,ho.2 j hj k]
    constructor
    ·rintro⟨h1,h2⟩;exact⟨by lia,h2⟩
    ·rintro⟨h1,h2⟩
     refine⟨?_,h2⟩;have:k≠c:=fun e2=>by subst e2;rw [hx] at h2;exact e (m8 h2)
     lia
  ·rw [<- a];exact ug (fun z=>List.foldl _ z _) hstep
theorem qal{mask:Nat}(hm:15<=mask){hs:List Nat}(hnd:hs.Nodup)(hlt:∀x∈hs,x<12): ∃ow,SetTable.layClean mask (hs.map Int.ofNat).toArray=some ow/\Own mask hs hs.length ow:=by
 obtain⟨ow,a,b⟩:=qak mask hm hs hnd hlt hs 0 (Array.replicate (mask+1) none) rfl (uy _) ⟨by simp,fun j hj k=>by simp [Array.getElem?_replicate]⟩;refine⟨ow,?_,b⟩;unfold SetTable.layClean;rw [List.foldl_toArray',a]
 ·rfl
 ·simp
theorem qj0{mask:Nat}{hs:List Nat}(hnd:hs.Nodup)(hlt:∀x∈hs,x<=mask){ow:Array (Option Nat)}(ho:Own mask hs hs.length ow):
  let live:=(List.range (mask+1)).filterMap fun j=>(ow.getD j none).map (j, ·)
  (live.map Prod.fst).Pairwise (· < ·)/\(∀p∈live,hs[p.2]? = some p.1)/\(live.map Prod.snd).Perm (List.range hs.length):=by
 intro live;have hmem:∀p:Nat×Nat,p∈live↔hs[p.2]? = some p.1:=by
  intro p;obtain⟨j,k⟩:=p;simp only [live,g45,tx,gz];have hg:∀j,j<=mask->(ow.getD j none=some k↔hs[k]? = some j):=fun j hj=>by
   have hlt':j<ow.size:=by rw [ho.1];lia
   have:ow.getD j none=some k↔ow[j]? = some (some k):=by
    simp [Array.getD,hlt']
   rw [this,ho.2 j hj k];exact⟨fun h=>h.2,fun h=>⟨(my.mp h).1,h⟩⟩
  constructor
  ·rintro⟨j',hj',k',e,e2⟩
   injection e2 with e3 e4
   subst e3;subst e4;exact(hg _ (by lia)).mp e
  ·intro h
   have hj:=hlt j (tq h);exact⟨j,by lia,k,(hg j hj).mpr h,rfl⟩
 have hf:live.map Prod.fst=(List.range (mask+1)).filter (fun j=>(ow.getD j none).isSome):=by
  simp only [live];generalize List.range (mask+1)=l
  induction l with
  | nil=>rfl
  | cons a l ih=>
   rw [g0v,g0y];cases e:ow.getD a none with
   | none=>simpa using ih
   | some k=>simpa using ih
 have hpw:(live.map Prod.fst).Pairwise (· < ·):=by
  rw [hf];exact g0s _ g37
 refine⟨hpw,fun p hp=>(hmem p).mp hp,?_⟩;have hn2:(live.map Prod.snd).Nodup:=by
  have h1:=qiy hpw;refine uo.mpr ?_;have h1':=uo.mp h1;refine g1f ?_ h1';intro p q hp hq hne e;have a:=(hmem p).mp hp;have b:=(hmem q).mp hq;rw [e,b] at a;exact hne (m8 a).symm
 refine(g4l hn2 g1g).mpr fun k=>?_;rw [tx,mx]
 constructor
 ·rintro⟨p,hp,rfl⟩
  exact(my.mp ((hmem p).mp hp)).1
 ·intro hk
  exact⟨(hs[k],k),(hmem _).mpr (mr hk),rfl⟩
theorem range_all{α : Type}: ∀l:List α,(List.range l.length).filterMap (l[·]?)=l
 | []=>rfl
 | a :: l=>by
  rw [t9,g1r,g0v];simp only [g2y,g2j];have:((fun x=>(a :: l)[x]?) ∘ Nat.succ)=(l[·]?):=by funext i;simp
  rw [this,range_all l]
theorem q5k{mask f m:Nat}{led:Bool}(hm:mask=15\/mask=31\/mask=63){ks:List (Nat×Nat)}(hnd:(ks.map Prod.fst).Nodup)(hlt:∀p∈ks,p.1<12):
  ∃t order ks',SetTable.laid mask f m led true ((ks.map el).toArray.map (·.1))=some (t,order)/\order.filterMap ((ks.map el).toArray[·]?)=(ks'.map el).toArray/\ks'.Perm ks/\Tb t ks'/\t.mask=mask/\t.led=led /\
   coversAll order ks.length=true:=by
 have hlt':∀x∈ks.map Prod.fst,x<12:=fun x hx=>by obtain⟨p,hp,rfl⟩:=mx.mp hx;exact hlt p hp
 obtain⟨ow,a,b⟩:=qal (mask:=mask) (by lia) hnd hlt';obtain⟨h1,h2,h3⟩:=qj0 hnd (fun x hx=>by have:=hlt' x hx;lia) b;generalize hlv:((List.range (mask+1)).filterMap fun j=>(ow.getD j none).map (j, ·))=live at h1 h2 h3;have ehs:(ks.map el).toArray.map (·.1)=((ks.map Prod.fst).map Int.ofNat).toArray:=by
  simp [el,g4p]
 have h3':(live.map Prod.snd).Perm (List.range ks.length):=by simpa using h3
 let ks':=live.filterMap (fun p=>ks[p.2]?)
 have hk2:∀p∈live,∃q,ks[p.2]? = some q/\q.1=p.1:=fun p hp=>by
  have:=h2 p hp;rw [mn,gz] at this;exact this
 have hfst:ks'.map Prod.fst=live.map Prod.fst:=by
  simp only [ks'];clear h3 h3' h1 hlv h2
  induction live with
  | nil=>rfl
  | cons p l ih=>
   obtain⟨q,e,e2⟩:=hk2 p (m4 ..);rw [g0v,e,gv,gv,e2,ih (fun r hr=>hk2 r (m5 _ hr))]
 have hperm:ks'.Perm ks:=by
  have e1:ks'=(live.map Prod.snd).filterMap (ks[·]?):=by rw [g2j];rfl
  rw [e1];refine(List.Perm.filterMap _ h3').trans ?_;rw [range_all]
 refine⟨{mask:=mask,place:=(live.map (·.1)).toArray,dummies:= #[],finger:=f,led:=led,moves:=m,plain:=true},(live.map (·.2)).toArray,ks',?_,?_,hperm,?_,rfl,rfl,?_⟩
 ·unfold SetTable.laid
  rw [ehs,a];simp only [Option.bind_eq_bind,ma,hlv]
  rfl
 ·rw [List.filterMap_toArray]
  congr 1
  rw [g2j];have e3:((fun x=>(ks.map el).toArray[x]?) ∘ fun x:Nat×Nat=>x.2)=fun p=>(ks[p.2]?).map el:=by
   funext p;simp
  rw [e3];simp only [ks'];rw [List.map_filterMap]
 ·refine⟨rfl,rfl,?_,?_,?_,?_,.inr ⟨hm,?_⟩⟩
  ·exact((hperm.map Prod.fst).nodup_iff).mpr hnd
  ·exact fun p hp=>hlt p (hperm.mem_iff.mp hp)
  ·have:=ug List.length hfst
   simpa using this.symm
  ·simpa using h1
  ·simpa using hfst.symm
 ·unfold coversAll
  rw [List.isPerm_iff]
  simpa using h3'
theorem q6o{α : Type}: ∀(l:List α) {i:Nat} (hi:i<l.length),([l[i]]++l.eraseIdx i).Perm l
 | [],i,hi=>by simp at hi
 | a :: l,0,hi=>by simp
 | a :: l,i+1,hi=>by
  have:=q6o l (i:=i) (by simpa using hi);simp only [g1s,g2w,g3d,g1q] at this ⊢;exact(List.Perm.swap _ _ _).trans (List.Perm.cons _ this)
theorem q8f{α : Type}(nx:Nat->Nat): ∀(f k:Nat) (l:List α) (out:Array α),l.length<=f->((pickOrder.go nx f k l out).toList).Perm (out.toList++l)
 | 0,k,l,out,h=>by
  have:l=[]:=by cases l <;> simp_all
  subst this;simp [pickOrder.go]
 | f+1,k,[],out,h=>by simp [pickOrder.go]
 | f+1,k,a :: l,out,h=>by
  have hi:nx k%(a :: l).length<(a :: l).length:=Nat.mod_lt _ (by simp);unfold pickOrder.go;rw [mr hi];refine(q8f nx f (k+1) _ _ (by rw [List.length_eraseIdx];simp only [hi,ny];simp at h ⊢;lia)).trans ?_;rw [Array.toList_push,mm];exact uk _ (q6o _ hi)
theorem q2k{α : Type}(nx:Nat->Nat)(xs:Array α): ((pickOrder nx xs).toList).Perm xs.toList:=by
 unfold pickOrder;have:=q8f nx xs.size 0 xs.toList #[] (by simp)
 simpa using this
theorem q23{n:Nat}(h:8<=n)(h2:n<64): (SetTable.sizeAbove n=16/\n<16)\/(SetTable.sizeAbove n=32/\16<=n/\n<32)\/(SetTable.sizeAbove n=64/\32<=n):=by
 have:∀n<64,8<=n->((SetTable.sizeAbove n=16/\n<16)\/(SetTable.sizeAbove n=32/\16<=n/\n<32)\/(SetTable.sizeAbove n=64/\32<=n)):=by decide +kernel
 exact this n h2 h
abbrev byT(w:World): Bool:=w.params.followText "set-order"
structure SI(w:World)(h:Heap)(a:Addr)(t:SetTable)(ks:List (Nat×Nat)): Prop where
 ob:∃o ep,h.get? a=some o/\o.ExactSet/\o.data=.set (ks.map el).toArray ep t
 tb:Tb t ks
 ld:t.led = !byT w
section
variable{prog:Program}{w:World}{A:Around}{E:Value->Shared->Prop}{s:Shared}{a:Addr}{t:SetTable}{ks:List (Nat×Nat)}
theorem q30{n:Nat}(h:n<12): (intKind prog w).hash (n:Int)=(n:Int):=by
 have:∀n<12,hashInt ((n:Nat):Int)=((n:Nat):Int):=by decide
 exact this n h
theorem elems(hl:∀p∈ks,p.1<12): ElemsOf (intKind prog w) (ks.map el):=by
 intro e he;obtain⟨p,hp,rfl⟩:=mx.mp he;exact⟨⟨(p.1:Int),g3r _ _ _ _,(q30 (hl p hp)).symm⟩,rfl⟩
theorem q31(T:Tb t ks)(h7:t.mask=7->ks.length<8): t.fits (ks.map el).toArray.size=true:=by
 have:=T.fits h7;simpa using this
theorem qlm{n:Nat}(h:n∈ks.map Prod.fst): ∃j,List.findIdx? (fun e=>(intKind prog w).is (n:Int) e.2) (ks.map el)=some j:=by
 obtain⟨p,hp,rfl⟩:=mx.mp h;cases e:List.findIdx? (fun e=>(intKind prog w).is (p.1:Int) e.2) (ks.map el) with
 | some j=>exact⟨j,rfl⟩
 | none=>
  have:=g4x.mp e (el p) (g0x hp);have h2:(intKind prog w).is (p.1:Int) (el p).2=true:=g3r _ _ _ _;rw [h2] at this;exact absurd this (by decide)
theorem qj1{n:Nat}(h:n∉ks.map Prod.fst): List.findIdx? (fun e=>(intKind prog w).is (n:Int) e.2) (ks.map el)=none:=by
 refine g4x.mpr fun e he=>?_;obtain⟨p,hp,rfl⟩:=mx.mp he;cases e:(intKind prog w).is (n:Int) (el p).2 with
 | false=>rfl
 | true=>
  have:=(intKind prog w).inj (el p).2 _ _ e (g3r _ _ (p.1:Int) p.2);have:n=p.1:=by lia
  exact absurd (g0x hp) (this ▸ h)
def Step(t:SetTable)(ks:List (Nat×Nat))(p:Nat×Nat)(t':SetTable)(ks':List (Nat×Nat)): Prop:=
 Tb t' ks'/\t'.led=t.led/\if p.1∈ks.map Prod.fst then ks'=ks/\t'=t else
  ks'.Perm (p :: ks)/\t'.mask=(if(ks.length+1)*5>=t.mask*3 then SetTable.sizeAbove ((ks.length+1)*4)-1 else t.mask)
theorem qln{h:Heap}{o:Obj}{es es':Array (Int×Value)}{ep:Nat}{t t':SetTable}(ho:h.get? a=some o)(hd:o.data=.set es ep t):
  (h.update a (Obj.putSet es' t')).get? a=some {o with data:=.set es' (ep+1) t'}:=by
 have:=g0m (Obj.putSet es' t') ho (by rw [putSet_of es' t' hd];rfl);rw [putSet_of es' t' hd] at this;exact this
theorem SI.put{h:Heap}{t':SetTable}{ks':List (Nat×Nat)}(S:SI w h a t ks)(T':Tb t' ks')(hl:t'.led=t.led): SI w (h.update a (Obj.putSet (ks'.map el).toArray t')) a t' ks':=by
 obtain⟨o,ep,ho,hx,hd⟩:=S.ob;exact⟨⟨_,_,qln ho hd,hx,rfl⟩,T',by rw [hl];exact S.ld⟩
theorem size_le(T:Tb t ks): (ks.map el).toArray.size<=sizeLine:=by
 have:=T.n12;rw [g28];simp;lia
theorem qgk{n k:Nat}{Q:Bool->Shared->Prop}(S:SI w s.heap a t ks)(hn:n<12)(h7:t.mask=7->ks.length<7)
  (h:∀h' t' ks',Heap.SameBut a s.heap h'->SI w h' a t' ks'->Step t ks (n,k) t' ks'->Q (!(decide (n∈ks.map Prod.fst))) {s with heap:=h'}) :
  wpAny (model prog w) A (setAddHashed a (.int (n:Int) k) (n:Int)) Q E s:=by
 obtain⟨o,ep,ho,hx,hd⟩:=id S.ob;have T:=S.tb;have hf:t.fits (ks.map el).toArray.size=true:=q31 T (fun e=>by have:=h7 e;lia);have hel:ElemsOf (intKind prog w) (ks.map el).toArray.toList:=by simpa using elems T.lt
 have hn12:=T.n12;unfold setAddHashed setAddHashedIn;refine nz (g0 (g33 ho hd hf ?_));dsimp only;rw [byScan_of (knd:=intKind prog w) rfl (by unfold scanBound;simp;lia) hel];simp only [↓reduceIte];unfold setAddByScan;refine g0 ?_;refine g0 (g00 ?_);have hsc:=@wpAny_setScan_of prog w Int _ (intKind prog w) A E s a o (ks.map el).toArray ep t (.int (n:Int) k) (n:Int) true;rw [q30 hn] at hsc;refine g0 (hsc (g3r _ _ _ _) ho hd hf hel ?_)
 by_cases hm:n∈ks.map Prod.fst
 ·obtain⟨j,hj⟩:=qlm (prog:=prog) (w:=w) hm
  have hj':List.findIdx? (fun e=>(intKind prog w).is (n:Int) e.2) (ks.map el).toArray.toList=some j:=by simpa using hj
  rw [hj'];dsimp only;refine g9 (g9 ?_);have e:s = {s with heap:=s.heap}:=by cases s;rfl
  have:=h s.heap t ks (g1u a s.heap) S ⟨T,rfl,by rw [mi hm];exact⟨rfl,rfl⟩⟩;rw [p7 hm] at this;rw [e];exact this
 ·have hj':List.findIdx? (fun e=>(intKind prog w).is (n:Int) e.2) (ks.map el).toArray.toList=none:=by simpa using qj1 (prog:=prog) (w:=w) hm
  rw [hj'];dsimp only;obtain⟨t1,ks1,hL,T1,p1,m1,l1,f1,v1⟩:=lay T (k:=k) hn hm h7;rw [hL];dsimp only;have hgw:∀(b:Bool) {s₁:Shared} {Q':Unit->Shared->Prop},Q' () s₁->wpAny (model prog w) A (match b with|true=>rule "set.scan.the-table-gave-way" | false=>pure ()) Q' E s₁:=
   fun b s₁ Q' hq=>by cases b <;> first|exact g9 hq|exact g00 hq
  refine g0 (hgw false ?_);rw [T1.pl];simp only [↓reduceIte];rw [hashByValue_scannable 8 rfl];refine g0 (g9 ?_);simp only [plainKind, ↓reduceIte];have S1:SI w (s.heap.update a (Obj.putSet (ks1.map el).toArray t1)) a t1 ks1:=S.put T1 l1;have hsb1:=u6 s.heap a (Obj.putSet (ks1.map el).toArray t1);have hlen:ks1.length=ks.length+1:=by rw [p1.length_eq];rfl
  have htf:t1.tooFull=decide ((ks.length+1)*5>=t.mask*3):=by
   unfold SetTable.tooFull SetTable.fill;have:t1.place.size=ks.length+1:=by rw [<- hlen, <- T1.sz];simp
   rw [T1.dm,this,m1];simp
  refine g0 (g1x ho hd ?_ (size_le T1))
  by_cases hfull:(ks.length+1)*5>=t.mask*3
  ·rw [htf,p7 hfull]
   simp only [g1z,g4m, ↓reduceIte];have hn1:=T1.n12;have hg:SetTable.grown (ks1.map el).toArray.size=(ks.length+1)*4:=by
    unfold SetTable.grown;simp only [gj,mj,hlen];rw [mf (by lia)]
   have hsa:SetTable.sizeAbove ((ks.length+1)*4)-1=15\/SetTable.sizeAbove ((ks.length+1)*4)-1=31\/SetTable.sizeAbove ((ks.length+1)*4)-1=63:=by
    have hm7:7<=t.mask:=by rcases T.mz with⟨e,_⟩|⟨e,_⟩ <;> lia
    rcases q23 (n:=(ks.length+1)*4) (by lia) (by lia) with h|h|h <;> lia
   obtain⟨t2,ord,ks2,e2,f2,p2,T2,m2,l2,c2⟩:=q5k (f:=t1.finger) (m:=t1.movedTo (SetTable.sizeAbove ((ks.length+1)*4)-1)) (led:=t1.led) hsa T1.nd T1.lt;have hrl:t1.relaid ((ks1.map el).toArray.map (·.1)) (SetTable.grown (ks1.map el).toArray.size)=some (t2,ord):=by
    unfold SetTable.relaid;rw [hg,T1.pl];exact e2
   have hlen2:ks2.length=ks1.length:=p2.length_eq;have hra:relayAll t1 (ks1.map el).toArray (SetTable.grown (ks1.map el).toArray.size)=((ks2.map el).toArray,t2,false):=by
    unfold relayAll;rw [hrl];dsimp only;rw [f2];have hc:coversAll ord (ks1.map el).toArray.size=true:=by simpa using c2
    have hft:t2.fits (ks2.map el).toArray.size=true:=q31 T2 (fun e=>by lia);rw [hc,hft];rfl
   rw [hra];dsimp only;refine g0 (hgw false ?_);obtain⟨o1,ep1,ho1,hx1,hd1⟩:=id S1.ob;refine g0 (g1x ho1 hd1 ?_ (size_le T2));refine g9 ?_;dsimp only;refine g9 ?_;have:=h _ t2 ks2 (hsb1.trans (u6 _ a _)) (S1.put T2 l2) ⟨T2,l2.trans l1,by
    rw [mf hm,mi hfull];exact⟨p2.trans p1,m2⟩⟩
   rw [nu hm] at this;exact this
  ·rw [htf,nu hfull]
   simp only [g1z,g5x,gf, ↓reduceIte];refine g9 ?_;have:=h _ t1 ks1 hsb1 S1 ⟨T1,l1,by rw [mf hm,mf hfull];exact⟨p1,m1⟩⟩;rw [nu hm] at this;exact g9 this
end
theorem q5l{α β : Type}[DecidableEq α]{f : α -> β}: ∀ {l:List β} {ks:List α},l.Perm (ks.map f)->∃ls:List α,ls.Perm ks/\l=ls.map f
 | [],ks,h=>by
  have:ks=[]:=by simpa using h.symm
  exact⟨[],by rw [this],rfl⟩
 | x :: l,ks,h=>by
  have hx:x∈ks.map f:=h.mem_iff.mp (m4 ..);obtain⟨p,hp,rfl⟩:=mx.mp hx;have h1:=List.perm_cons_erase hp;have h2:(f p :: l).Perm (f p :: (ks.erase p).map f):=h.trans (h1.map f);obtain⟨ls,a,e⟩:=q5l (List.Perm.cons_inv h2);exact⟨p :: ls,(List.Perm.cons _ a).trans h1.symm,by rw [e];rfl⟩
section
variable{prog:Program}{w:World}{A:Around}{E:Value->Shared->Prop}{s:Shared}{a b:Addr}{t u:SetTable}{ks ls:List (Nat×Nat)}
theorem SI.state{Q:(Array (Int×Value)×Nat×SetTable)->Shared->Prop}(S:SI w s.heap a t ks)(h7:t.mask=7->ks.length<8)
  (h:∀ep,(∃o,s.heap.get? a=some o/\o.ExactSet/\o.data=.set (ks.map el).toArray ep t)->Q ((ks.map el).toArray,ep,t) s):wpAny (model prog w) A (setState a) Q E s:=by
 obtain⟨o,ep,ho,hx,hd⟩:=S.ob;exact g33 ho hd (q31 S.tb h7) (h ep ⟨o,ho,hx,hd⟩)
theorem SI.keep{h h':Heap}(S:SI w h a t ks)(e:∀o,h.get? a=some o->h'.get? a=some o): SI w h' a t ks:=by
 obtain⟨o,ep,ho,r⟩:=S.ob;exact⟨⟨o,ep,e o ho,r⟩,S.tb,S.ld⟩
theorem q6p{es:Array (Int×Value)}{t':SetTable}{ord:Array Nat}{es':Array (Int×Value)}{α : Type}{F:Array (Int×Value)×SetTable->Sem α}{Q : α -> Shared->Prop}(e:ord.filterMap (es[·]?)=es')(hs:es'.size=es.size)
  (h:wpAny (model prog w) A (F (es',t')) Q E s) :
  wpAny (model prog w) A ((do
   let some (t,order):=some (t',ord)|unsupported "internal:set-table-without-room"
   let es':=order.filterMap (es[·]?)
   if es'.size != es.size then unsupported "internal:set-table-lost-an-element"
   pure (es',t):Sem (Array (Int×Value)×SetTable)) >>= F) Q E s:=by
 refine g0 ?_;dsimp only;rw [e];have:(es'.size != es.size)=false:=by simp [hs]
 rw [this];simp only [gf, ↓reduceIte];exact g9 h
theorem qj2{wanted:Nat}{Q:Unit->Shared->Prop}(S:SI w s.heap a t ks)(h7:t.mask=7->ks.length<8)(hw:8<=wanted)(hw2:wanted<64)
  (h:∀h' t' ks',Heap.SameBut a s.heap h'->SI w h' a t' ks'->t'.mask=SetTable.sizeAbove wanted-1->ks'.Perm ks->Q () {s with heap:=h'}) :
  wpAny (model prog w) A (setRelay a wanted) Q E s:=by
 unfold setRelay;refine g0 (S.state h7 fun ep ⟨o,ho,hx,hd⟩=>?_);dsimp only;have hc:=q23 hw hw2;have hsz:¬(SetTable.sizeAbove wanted>sizeLine):=by rw [g28];lia
 rw [mf hsz];obtain⟨t2,ord,ks2,e2,f2,p2,T2,m2,l2,c2⟩:=q5k (f:=t.finger) (m:=t.movedTo (SetTable.sizeAbove wanted-1)) (led:=t.led) (mask:=SetTable.sizeAbove wanted-1) (by lia) S.tb.nd S.tb.lt;have hrl:t.relaid ((ks.map el).toArray.map (·.1)) wanted=some (t2,ord):=by
  unfold SetTable.relaid;rw [S.tb.pl];exact e2
 rw [hrl];refine q6p f2 (by simp [p2.length_eq]) ?_;dsimp only;refine g1x ho hd ?_ (size_le T2);exact h _ t2 ks2 (u6 _ a _) (S.put T2 l2) m2 p2
theorem wp_walk{Q:Array (Int×Value)->Shared->Prop}(S:SI w s.heap a t ks)(h7:t.mask=7->ks.length<8)
  (h:∀ls:List (Nat×Nat),ls.Perm ks->Q (ls.map el).toArray s):wpAny (model prog w) A (setWalk a) Q E s:=by
 unfold setWalk;refine g0 (S.state h7 fun ep _=>?_);dsimp only;unfold setsByText;refine g0 (g0 (ud (g9 ?_)))
 by_cases hb:byT w=true
 ·refine pj (fun _=>?_) (fun c=>absurd hb c)
  refine g0 (ud (g9 ?_));have hp:=q2k ((⟨(model prog w).prog,(model prog w).w.params⟩:Setting).params.setOrder a ep) (ks.map el).toArray;generalize pickOrder ((⟨(model prog w).prog,(model prog w).w.params⟩:Setting).params.setOrder a ep) (ks.map el).toArray=xs at hp;have hp':xs.toList.Perm (ks.map el):=by simpa using hp
  obtain⟨ls,hl,e⟩:=q5l hp';have:=h ls hl;rw [<- e] at this;exact this
 ·refine pj (fun c=>absurd c hb) (fun _=>?_)
  refine pj (fun c=>?_) (fun _=>?_)
  ·have c':(!t.plain&&decide ((ks.map el).toArray.size>1))=true:=c
   rw [S.tb.pl] at c';simp at c'
  ·have hld:t.led=true:=by rw [S.ld];simpa using hb
   show wpAny _ _ ((do if !t.led&&(ks.map el).toArray.size>1 then unsupported "set:maker-not-led" : Sem Unit) >>= fun _=>pure (ks.map el).toArray) _ _ _;rw [hld];simp only [g0j,g3x,gf, ↓reduceIte];exact g0 (g9 (g9 (h ks (g40 _))))
end
section
variable{prog:Program}{w:World}{A:Around}{E:Value->Shared->Prop}{s:Shared}{a b:Addr}{t u:SetTable}{ks ls:List (Nat×Nat)}
theorem qgl{os:List Addr}{f:Option Addr}{Q:Array (Int×Value)->Shared->Prop}(S:SI w s.heap a t ks)(h7:t.mask=7->ks.length<8)
  (h:∀ls:List (Nat×Nat),ls.Perm ks->Q (ls.map el).toArray s):wpAny (model prog w) A (setWalkUnseen a os f) Q E s:=by
 unfold setWalkUnseen;refine g0 (S.state h7 fun ep _=>?_);dsimp only;refine g0 ?_;unfold setsByText;refine g0 (ud (g9 ?_));dsimp only;refine pj (fun _=>?_) (fun c=>?_)
 ·exact wp_walk S h7 h
 ·refine absurd ?_ c
  have:t.led = !(model prog w).w.params.followText "set-order" :=S.ld;rw [this,S.tb.pl];cases(model prog w).w.params.followText "set-order" <;> simp
theorem qdp{ep:Nat}{ob:Obj}{each:Sem Unit}(hab:a≠b)(hob:∀ {s':Shared} {Q:(Array (Int×Value)×Nat×SetTable)->Shared->Prop},s'.heap.get? b=some ob->Q ((ls.map el).toArray,ep,u) s'->wpAny (model prog w) A (setState b) Q E s')
  (hea:∀ {s':Shared} {Q:Unit->Shared->Prop},s'.heap.get? b=some ob->Q () s'->wpAny (model prog w) A each Q E s') :
  ∀(r:List (Nat×Nat)) (s:Shared) (t:SetTable) (ks:List (Nat×Nat)) (Q:Unit->Shared->Prop),(∀p∈r,p.1<12)->SI w s.heap a t ks->(ks.length+r.length)*5<t.mask*3->s.heap.get? b=some ob ->
  (∀h' t' ks',Heap.SameBut a s.heap h'->SI w h' a t' ks'->t'.mask=t.mask->(∀n,n∈ks'.map Prod.fst↔n∈ks.map Prod.fst\/n∈r.map Prod.fst)->ks'.length<=ks.length+r.length->Q () {s with heap:=h'}) ->
  wpAny (model prog w) A (forIn (r.map el) PUnit.unit fun(x:Int×Value) (_:PUnit)=>do
   let _ <- holding [x.2] (setAddHashed a x.2 x.1)
   each
   if(<- setState b).2.1 != ep then unsupported "set.changed-during-merge"
   pure (ForInStep.yield PUnit.unit)) Q E s
 | [],s,t,ks,Q,hr,S,hm,hb,h=>by
  simp only [g10,g2s];refine g9 ?_;have:=h s.heap t ks (g1u _ _) S rfl (fun n=>by simp) (by simp);exact this
 | p :: r,s,t,ks,Q,hr,S,hm,hb,h=>by
  simp only [gv,g1p];have hp:=hr p (m4 ..);have hml:(ks.length+1+r.length)*5<t.mask*3:=by simp only [t9] at hm;lia
  refine g0 ?_;refine g0 (nz (qgk (n:=p.1) (k:=p.2) S hp (fun e=>by lia) fun h' t' ks' hsb S' st=>?_));have hb':h'.get? b=some ob:=by rw [hsb.2 b (fun e=>hab e.symm)];exact hb
  obtain⟨T',l',c⟩:=st;have hlen:ks'.length<=ks.length+1/\t'.mask=t.mask/\(∀n,n∈ks'.map Prod.fst↔n∈ks.map Prod.fst\/n=p.1):=by
   split at c
   ·rename_i hin
    obtain⟨rfl,rfl⟩:=c;exact⟨by lia,rfl,fun n=>⟨.inl,fun h=>h.elim id (fun e=>e ▸ hin)⟩⟩
   ·obtain⟨c1,c2⟩:=c
    rw [mf (by lia)] at c2;refine⟨by rw [c1.length_eq];simp,c2,fun n=>?_⟩;rw [(c1.map Prod.fst).mem_iff,gv,me];exact Or.comm
  refine g0 (hea (s':={s with heap:=h'}) hb' ?_);refine g0 (hob (s':={s with heap:=h'}) hb' ?_);dsimp only;rw [mf (by simp)];refine g9 ?_;refine qdp hab hob hea r {s with heap:=h'} t' ks' Q (fun q hq=>hr q (m5 _ hq)) S' (by rw [hlen.2.1];lia) hb' fun h2 t2 ks2 sb2 S2 m2 i2 l2=>?_;refine h h2 t2 ks2 (hsb.trans sb2) S2 (m2.trans hlen.2.1) (fun n=>?_) (by simp only [t9];lia);rw [i2 n,hlen.2.2 n,gv,me,or_assoc]
theorem qlo{m:Nat}{Q:Unit->Shared->Prop}(S:SI w s.heap a t ks)(h7:t.mask=7->ks.length<8)(hm:m<=12)
  (h:∀h' t' ks',Heap.SameBut a s.heap h'->SI w h' a t' ks'->ks'.Perm ks->(ks.length+m)*5<t'.mask*3 ->
   ((ks.length+m)*5<t.mask*3/\t'.mask=t.mask\/t'.mask=SetTable.sizeAbove ((ks.length+m)*2)-1/\t.mask*3<=(ks.length+m)*5)->Q () {s with heap:=h'}) :
  wpAny (model prog w) A (setRoomFor a m) Q E s:=by
 unfold setRoomFor;refine g0 (S.state h7 fun ep _=>?_);dsimp only;have hsz:t.place.size=ks.length:=by rw [<- S.tb.sz];simp
 have hfl:t.fill=ks.length:=by unfold SetTable.fill;rw [S.tb.dm,hsz];simp
 have hn:=S.tb.n12;unfold SetTable.roomFor;rw [hfl,hsz];have hmk:=S.tb.mz
 by_cases c:(ks.length+m)*5>=t.mask*3
 ·rw [mi c]
  dsimp only;refine qj2 S h7 (by rcases hmk with⟨e,_⟩|⟨e,_⟩ <;> lia) (by lia) fun h' t' ks' sb S' m' p'=>?_;have hc:=q23 (n:=(ks.length+m)*2) (by rcases hmk with⟨e,_⟩|⟨e,_⟩ <;> lia) (by lia);exact h h' t' ks' sb S' p' (by lia) (.inr ⟨m',c⟩)
 ·rw [mf c]
  dsimp only;refine g9 ?_;exact h s.heap t ks (g1u _ _) S (g40 _) (by lia) (.inl ⟨by lia,rfl⟩)
theorem qam{each:Sem Unit}{Q:Unit->Shared->Prop}(hab:a≠b)(S:SI w s.heap a t ks)(hbm:ks=[]->t.mask=7)(h7:t.mask=7->ks.length<8)(U:SI w s.heap b u ls)(hu:ls.length<5->u.mask=7)(hu7:u.mask=7->ls.length<8)
  (hea:∀ {s':Shared} {Q:Unit->Shared->Prop},s'.heap.get? b=s.heap.get? b->Q () s'->wpAny (model prog w) A each Q E s')
  (h:∀h' t' ks',Heap.SameBut a s.heap h'->SI w h' a t' ks'->(t'.mask=7->ks'.length<8)->(∀n,n∈ks'.map Prod.fst↔n∈ks.map Prod.fst\/n∈ls.map Prod.fst)->(ks=[]->ks'=[]->t'.mask=7)->Q () {s with heap:=h'}) :
  wpAny (model prog w) A (setMerge a b each) Q E s:=by
 unfold setMerge;have hne:(a==b)=false:=by simpa using hab
 rw [hne];simp only [gf, ↓reduceIte];have hn:=S.tb.n12;have hnu:=U.tb.n12;refine g0 (U.state hu7 fun ep ⟨o,ho,hx,hd⟩=>?_);dsimp only
 by_cases he:ls=[]
 ·subst he
  have:((([]:List (Nat×Nat)).map el).toArray).isEmpty=true:=rfl;rw [mi this];refine g9 ?_;exact h s.heap t ks (g1u _ _) S h7 (fun n=>by simp) (fun e _=>hbm e)
 ·have:((ls.map el).toArray).isEmpty=false:=by cases ls <;> simp_all
  rw [this];simp only [gf, ↓reduceIte];have hsz:((ls.map el).toArray).size=ls.length:=by simp
  rw [hsz];refine g0 (qlo S h7 hnu fun h1 t1 ks1 sb1 S1 p1 r1 q1=>?_);have U1:SI w h1 b u ls:=U.keep fun o e=>by rw [sb1.2 b (fun e=>hab e.symm)];exact e
  have ho1:h1.get? b=some o:=by rw [sb1.2 b (fun e=>hab e.symm)];exact ho
  have hl1:ks1.length=ks.length:=p1.length_eq;have hpos:0<ls.length:=List.length_pos_iff.mpr he;refine g0 (SI.state (s:={s with heap:=h1}) S1 (fun e=>by lia) fun ep1 ⟨o1,ho1',hx1,hd1⟩=>?_);dsimp only;have hfl:t1.fill=ks.length:=by unfold SetTable.fill;rw [S1.tb.dm, <- hl1, <- S1.tb.sz];simp
  unfold SetTable.road;rw [hfl,U.tb.dm]
  by_cases hk:ks=[]
  ·subst hk
   have hk1:ks1=[]:=by simpa using hl1
   subst hk1;simp only [List.length_nil,g31,gf, ↓reduceIte];have hld:(t1.led&&u.led) = !byT w:=by rw [S1.ld,U.ld];simp
   have hpl:(t1.plain&&u.plain)=true:=by rw [S1.tb.pl,U.tb.pl];rfl
   by_cases hmk:t1.mask=u.mask
   ·have hc:((t1.mask==u.mask)&&(#[]:Array Nat).isEmpty)=true:=by simp [hmk]
    rw [hc];simp only [↓reduceIte];refine g1x (s:={s with heap:=h1}) ho1' hd1 ?_ (size_le U.tb);rw [hld,hpl];have T':Tb {u with dummies:= #[],finger:=t1.finger,led:= !byT w,moves:=t1.moves,plain:=true} ls:=⟨rfl,rfl,U.tb.nd,U.tb.lt,U.tb.sz,U.tb.rs,U.tb.mz⟩
    refine h _ _ ls (sb1.trans (u6 _ a _)) (S1.put T' (by rw [S1.ld])) hu7 (fun n=>by simp) (fun _ e=>absurd e he)
   ·have hc:((t1.mask==u.mask)&&(#[]:Array Nat).isEmpty)=false:=by simp [hmk]
    rw [hc];simp only [gf, ↓reduceIte];have ht7:=hbm rfl;have hm1:t1.mask=15\/t1.mask=31\/t1.mask=63:=by
     rcases S1.tb.mz with⟨e,_⟩|⟨e,_⟩
     ·exfalso
      have:ls.length<5:=by rw [e] at r1;simp at r1;lia
      exact hmk (e.trans (hu this).symm)
     ·exact e
    obtain⟨t2,ord,ks2,e2,f2,p2,T2,m2,l2,c2⟩:=q5k (f:=t1.finger) (m:=t1.moves) (led:=t1.led&&u.led) (mask:=t1.mask) hm1 U.tb.nd U.tb.lt;rw [hpl,e2];refine q6p f2 (by simp [p2.length_eq]) ?_;dsimp only;refine g1x (s:={s with heap:=h1}) ho1' hd1 ?_ (size_le T2);refine h _ t2 ks2 (sb1.trans (u6 _ a _)) (S1.put T2 (by rw [l2,hld,S1.ld])) (fun e=>by lia) (fun n=>?_) (fun _ e=>?_)
    ·rw [(p2.map Prod.fst).mem_iff];simp
    ·rw [e] at p2;exact absurd (by simpa using p2.symm) he
  ·have hfn:(ks.length != 0)=true:=by simp [hk]
   rw [hfn];simp only [↓reduceIte];refine g0 (qgl (s:={s with heap:=h1}) U1 hu7 fun xs px=>?_);rw [<- Array.forIn_toList];have hxl:xs.length=ls.length:=px.length_eq;have key:=qdp (prog:=prog) (w:=w) (A:=A) (E:=E) (ls:=ls) (u:=u) (ep:=ep) (ob:=o) (each:=each) hab (fun {s'} {Q'} e q=>g33 e hd (q31 U.tb hu7) q) (fun {s'} {Q'} e q=>hea (by rw [e,ho]) q)
    xs {s with heap:=h1} t1 ks1 (fun _ s'=>wpAny (model prog w) A (pure ()) Q E s') (fun p hp=>U.tb.lt p (px.mem_iff.mp hp)) S1 (by rw [hl1,hxl];exact r1) ho1 (fun h2 t2 ks2 sb2 S2 m2 i2 l2=>?_)
   ·exact g0 key
   ·refine g9 ?_
    refine h h2 t2 ks2 (sb1.trans sb2) S2 (fun e=>by lia) (fun n=>?_) (fun e=>absurd e hk);rw [i2 n,(p1.map Prod.fst).mem_iff,(px.map Prod.fst).mem_iff]
end
theorem qan:entryFor table "set.__or__" = some Builtin.«frozenset.__or__» :=
 entryFor_alias (id':="frozenset.__or__") (by kernel_rfl) rfl (by decide +kernel) (by kernel_rfl)
theorem qdq:isSubtype (.type "set") (.type "set")=pure true:=by rw [g20];kernel_rfl
section
variable{prog:Program}{w:World}{A:Around}{E:Value->Shared->Prop}{s:Shared}{a b:Addr}{t u:SetTable}{ks ls:List (Nat×Nat)}
theorem SI.typeIs(S:SI w s.heap a t ks): s.TypeIs (.ref a) "set" :=let⟨o,_,ho,hc,_⟩:=S.ob; ⟨o,ho,hc.1⟩
def xw(w:World): Obj:={cls:=.type "set",dict:=none,data:=.set #[] 0 (.fresh 0 0 (!byT w))}
theorem qj3{led:Bool}: Tb (.fresh 0 0 led) []:=⟨rfl,rfl,by simp,by simp,by simp [SetTable.fresh],by simp [SetTable.fresh],.inl ⟨rfl,by simp [SetTable.fresh]⟩⟩
theorem qao{h:Heap}(ho:h.get? a=some (xw w)): SI w h a (.fresh 0 0 (!byT w)) []:=⟨⟨_,0,ho,⟨rfl,rfl,rfl⟩,rfl⟩,qj3,rfl⟩
theorem qgm{Q:Value->Shared->Prop}(h:Q (.ref s.heap.objs.size) {s with heap:=s.heap.push (xw w)}): wpAny (model prog w) A (newSet (.type "set")) Q E s:=by
 unfold newSet setsByText;refine g0 (g0 (ud (g9 ?_)));dsimp only;simp only [newObj];exact g0 (wpAny_alloc (g9 h))
theorem qap(S:SI w s.heap a t ks){Q:Bool->Shared->Prop}(h:Q true s): wpAny (model prog w) A (Builtin.Frozenset.isAnySet (.ref a)) Q E s:=by
 unfold Builtin.Frozenset.isAnySet;show wpAny _ _ (isInstance (.ref a) (.type "set") >>= fun b=>_) _ _ _;refine g0 (g24 S.typeIs qdq ?_);exact g9 h
theorem qp1{Q:Value->Shared->Prop}(hab:a≠b)(S:SI w s.heap a t ks)(hs:ks.length<5->t.mask=7)(hs7:t.mask=7->ks.length<8)(U:SI w s.heap b u ls)(hu:ls.length<5->u.mask=7)(hu7:u.mask=7->ls.length<8)
  (h:∀h' t' ks',(∀c o,c<s.heap.objs.size->s.heap.get? c=some o->h'.get? c=some o)->SI w h' s.heap.objs.size t' ks'->(t'.mask=7->ks'.length<8)->(∀n,n∈ks'.map Prod.fst↔n∈ks.map Prod.fst\/n∈ls.map Prod.fst)->Q (.ref s.heap.objs.size) {s with heap:=h'}) :
  wpAny (model prog w) A (binaryOp .BitOr (.ref a) (.ref b)) Q E s:=by
 refine wpAny_binaryOp_same S.typeIs U.typeIs F.fills_set_or F.slot_set_or (p5 F.slot_set_or S.typeIs qan ?_ (F.args_set_or_2 _ _));have hla:a<s.heap.objs.size:=let⟨o,_,ho,_⟩:=S.ob;gw ho
 have hlb:b<s.heap.objs.size:=let⟨o,_,ho,_⟩:=U.ob;gw ho
 show wpAny _ _ ((Builtin.Frozenset.slot1 "__or__" ⟨[.ref a,.ref b],[]⟩) >>= _) _ _ _;refine g0 (g9 ?_);dsimp only;refine g0 ?_;show wpAny _ _ (Builtin.Frozenset.isAnySet (.ref a) >>= _) _ _ _;refine g0 (qap S ?_);refine qap U ?_;simp only [g0j,gf, ↓reduceIte];refine g0 (g9 ?_);refine g0 ?_;show wpAny _ _ (Builtin.Frozenset.copyOf a >>= _) _ _ _;refine g0 ?_;unfold Builtin.Frozenset.copyOf Builtin.Frozenset.baseOf;refine g0 (g0 (g24 S.typeIs qdq (g9 ?_)));simp only [↓reduceIte];refine g0 (qgm ?_);refine g0 (g9 ?_);have hget:(s.heap.push (xw w)).get? s.heap.objs.size=some (xw w):=gr _ rfl;have old:∀c o,s.heap.get? c=some o->(s.heap.push (xw w)).get? c=some o:=fun c o e=>gd _ e;refine g0 (qam (s:={s with heap:=s.heap.push (xw w)}) (uh hla) (qao hget) (fun _=>rfl) (fun _=>by simp) (S.keep (old a)) hs hs7 (fun _ q=>g9 q) fun h1 t1 ks1 sb1 S1 z1 i1 g1=>?_);refine g9 ?_;have old1:∀c o,c<s.heap.objs.size->s.heap.get? c=some o->h1.get? c=some o:=fun c o hc e=>by
  rw [sb1.2 c (m9 hc)];exact old c o e
 have hbne:((Value.ref b) != (Value.ref a))=true:=by simp [mv hab]
 rw [mi hbne];have U1:SI w h1 b u ls:=U.keep fun o e=>old1 b o hlb e;refine g0 (g9 ?_);refine g0 (nz ?_);unfold Builtin.Frozenset.updateFrom;refine g0 (qap (s:={s with heap:=h1}) U1 ?_);simp only [↓reduceIte];refine g0 (g9 ?_);unfold Builtin.Frozenset.merge;obtain⟨ob,ep,hob,hxb,hdb⟩:=id U1.ob;refine g0 (wpAny_setEpoch_of (s:={s with heap:=h1}) hob hdb (q31 U.tb hu7) ?_);refine qam (s:={s with heap:=h1}) (uh hlb) S1 (fun e=>g1 rfl e) z1 U1 hu hu7 (fun {s'} {Q'} e q=>?_) fun h2 t2 ks2 sb2 S2 z2 i2 g2=>?_
 ·unfold Builtin.Frozenset.unchanged
  have e':s'.heap.get? b=some ob:=e.trans hob;refine g0 (wpAny_setEpoch_of e' hdb (q31 U.tb hu7) ?_);rw [mf (by simp)];exact g9 q
 ·refine g9 (g9 ⟨_,rfl,by simp,?_⟩)
  refine h h2 t2 ks2 (fun c o hc e=>?_) S2 z2 (fun n=>?_)
  ·rw [sb2.2 c (m9 hc)];exact old1 c o hc e
  ·rw [i2 n,i1 n];simp
end
def MR(t:SetTable)(ks:List (Nat×Nat)): Prop:=(ks.length<5->t.mask=7)/\(5<=ks.length->t.mask=31)
theorem MR.step{t t':SetTable}{ks ks':List (Nat×Nat)}{p:Nat×Nat}(m:MR t ks)(st:Step t ks p t' ks'): MR t' ks':=by
 obtain⟨T',l',c⟩:=st
 split at c
 ·obtain⟨rfl,rfl⟩:=c;exact m
 ·obtain⟨c1,c2⟩:=c
  have hl:ks'.length=ks.length+1:=by rw [c1.length_eq];rfl
  have h12:=T'.n12
  by_cases h5:ks.length<4
  ·rw [m.1 (by lia),mf (by lia)] at c2
   exact⟨fun _=>c2,fun h=>by lia⟩
  ·by_cases h6:ks.length=4
   ·rw [m.1 (by lia),h6] at c2
    have:t'.mask=31:=by rw [c2];decide
    exact⟨fun h=>by lia,fun _=>this⟩
   ·rw [m.2 (by lia),mf (by lia)] at c2
    exact⟨fun h=>by lia,fun _=>c2⟩
theorem Step.mem{t t':SetTable}{ks ks':List (Nat×Nat)}{p:Nat×Nat}(st:Step t ks p t' ks')(n:Nat): n∈ks'.map Prod.fst↔n∈ks.map Prod.fst\/n=p.1:=by
 obtain⟨T',l',c⟩:=st
 split at c
 ·rename_i hin
  obtain⟨rfl,rfl⟩:=c;exact⟨.inl,fun h=>h.elim id (fun e=>e ▸ hin)⟩
 ·rw [(c.1.map Prod.fst).mem_iff,gv,me]
  exact Or.comm
def iv(p:Nat×Nat): Value:=.int (p.1:Int) p.2
section
variable{prog:Program}{w:World}{A:Around}{R:Result->Shared->Prop}{I:Addr}{fp wr:List Addr}{G:Array GenState->Array GenState->Prop}{P:Nat->Value->Prop}{St:Nat->Shared->Prop}
theorem qj4(qs:List (Nat×Nat))(hq:∀p∈qs,p.1<12)(W:WalksS prog w A.in1 I fp wr G qs.length P St)(S:Addr)(hSf:S∉fp)
  (hval:∀i v,P i v->∃p,qs[i]? = some p/\v=iv p) :
  ∀(k i:Nat) (s:Shared) (t:SetTable) (ks:List (Nat×Nat)),qs.length-i=k->i<=qs.length->St i s ->
   SI w s.heap S t ks->MR t ks->(∀n,n∈ks.map Prod.fst↔n∈(qs.take i).map Prod.fst) ->
   (∀s' t' ks',Moved (S :: wr) G s s'->SI w s'.heap S t' ks'->MR t' ks'->(∀n,n∈ks'.map Prod.fst↔n∈qs.map Prod.fst)->R (.ok (.ret .none)) s') ->
   codeAny (model prog w) A (.builtin "set.update.loop" ⟨[.ref S,.ref I],[]⟩) R s:=by
 have hSw:S∉wr:=fun h=>hSf (W.sub _ h);have hsub:∀b∈wr,b∈S :: wr:=fun b hb=>m5 _ hb;intro k
 induction k with
 | zero=>
  intro i s t ks hk hi hst hS hM hmem hR;have hin:i=qs.length:=by lia
  subst hin;refine g06 g2p ?_;rw [ux g13 _];show wpAny _ A.in1 (pyNext (.ref I) >>= _) _ _ s;refine g0 (W.done s _ _ hst fun s' hm=>?_);show wpAny _ A.in1 (ret Value.none) _ _ s';exact g9 (hR s' t ks (hm.mono hsub) (hS.keep fun o e=>hm.heap S _ hSw e) hM (by simpa using hmem))
 | succ k ih=>
  intro i s t ks hk hi hst hS hM hmem hR;have hlt:i<qs.length:=by lia
  refine g06 g2p ?_;rw [ux g13 _];show wpAny _ A.in1 (pyNext (.ref I) >>= _) _ _ s;refine g0 (W.item i s _ _ hlt hst fun v s' hP hst' hm=>?_);obtain⟨p,hp,rfl⟩:=hval i v hP;have hp12:=hq p (tq hp);have hS':SI w s'.heap S t ks:=hS.keep fun o e=>hm.heap S _ hSw e;show wpAny _ A.in1 (holding [iv p] (setAdd S (iv p)) >>= _) _ _ s';refine g0 (nz ?_);unfold setAdd;refine nz ?_;refine g0 ((intKind prog w).pyHash (k:=(p.1:Int)) (g3r _ _ _ _) ?_);rw [q30 hp12];refine qgk (s:={s' with toks:=s'.toks+1}) hS' hp12 (fun e=>g1b fun c=>by have:=hM.2 (by lia);lia) fun h' t' ks' hsb S2 st=>?_;refine g9 ⟨g1n g13 _,ih (i+1) _ t' ks' (by lia) hlt (W.frame _ s' _ _ hst' (g29 _) fun b hb o e=>?_) S2 (hM.step st) (fun n=>?_) fun s'' t'' ks'' hm'' hS'' hM'' hi''=>?_⟩
  ·rw [hsb.2 b (fun h:b=S=>hSf (by rw [<- h];exact hb))];exact e
  ·rw [st.mem n,hmem n]
   have:qs.take (i+1)=qs.take i++[p]:=by
    rw [g42,hp];rfl
   rw [this,uf,nh];simp
  ·refine hR s'' t'' ks'' (Moved.trans W.gtrans ((hm.mono hsub).then_heap (g29 _) fun b o hb e=>?_) hm'') hS'' hM'' hi''
   rw [hsb.2 b (fun h:b=S=>hb (by rw [h];exact m4))];exact e
end
theorem sub_tuple_set:isSubtype (.type "tuple") (.type "set")=pure false:=by rw [g20];kernel_rfl
theorem sub_tuple_frozenset:isSubtype (.type "tuple") (.type "frozenset")=pure false:=by rw [g20];kernel_rfl
section
variable{prog:Program}{w:World}{A:Around}{E:Value->Shared->Prop}{s:Shared}
theorem qgn(a:Value){Q₁:Value->Shared->Prop}(h:Q₁ (.ref s.heap.objs.size) {s with heap:=s.heap.push (xw w)}):
  codeAny (model prog w) A (.call (.builtin "set.__new__") ⟨[.type "set",a],[]⟩) (wants Q₁ E) s:=by
 refine codeAny_of_tree ?_;show wpAny _ A.in1 (do checkBuiltinCall "set.__new__" ⟨[.type "set",a],[]⟩;again (.builtin "set.__new__" ⟨[.type "set",a],[]⟩)) _ _ s;refine g0 (g5l (F.newCall_set_1 a) (g9 ⟨g1n F.plain_set_new _,g06 F.entry_set_new ?_⟩));rw [ux F.plain_set_new _];unfold Builtin.«set.__new__» Builtin.Frozenset.newClass;have hsub:=sub_set_self;obtain⟨hp,g,d,tk,os⟩:=s;dsimp only
 wp_walk
 refine ud (g9 ?_);dsimp only;simp only [newObj];refine g0 (wpAny_alloc (g9 ?_));exact g9 h
set_option maxHeartbeats 3200000 in
theorem q7j{l:Addr}(qs:List (Nat×Nat))(hq:∀p∈qs,p.1<12){Q:Value->Shared->Prop}
  (hh:A.handled=none) (hl:s.heap.IsTuple l (qs.map iv).toArray)
  (h:∀(h':Heap) (tk:Nat) t ks,SI w h' s.heap.objs.size t ks->MR t ks->(∀n,n∈ks.map Prod.fst↔n∈qs.map Prod.fst)->s.toks<=tk ->
   (∀b o,b<s.heap.objs.size->s.heap.get? b=some o->h'.get? b=some o)->Q (.ref s.heap.objs.size) {s with heap:=h',toks:=tk}) :
  wpAny (model prog w) A (call (.type "set") [.ref l]) Q E s:=by
 obtain⟨c,tl,hmro⟩:=g1h.mro;have hmade:=g1h.made;have hsub:=g1h.sub;refine g4t (codeAny_of_tree ?_);show wpAny _ _ (callAny (.type "set") _) _ _ _;refine g9 ⟨Code.quiet_builtin _ (by decide +kernel),g06 F.entry_type_call ?_⟩;rw [Around.under_plain (weight_type_call_type "set" [.ref l] []) rfl];have h1:=g1h.notType;have h2:=g1h.canCreate;have hct:=F.typeCall_set_1 (.ref l)
 repeat (any_goals (first|assumption|wp_step))
 refine g2g (qgn (.ref l) (E:=E) (Q₁:=fun obj s₁=>obj=.ref s.heap.objs.size/\s₁ = {s with heap:=s.heap.push (xw w)}) ⟨rfl,rfl⟩) fun r s₁ hr=>?_;cases r with
 | error e=>exact hr
 | ok fl=>
  cases fl with
  | ret obj=>
   obtain⟨rfl,rfl⟩:=hr;have hS:(s.heap.push (xw w)).get? s.heap.objs.size=some (xw w):=gr _ rfl;have hT:Shared.TypeIs {s with heap:=s.heap.push (xw w)} (.ref s.heap.objs.size) "set" :=⟨_,hS,rfl⟩
   have hli:=g1h.init.lookup;have hbi:=g1h.init.bind (.ref s.heap.objs.size)
   repeat (any_goals (first|assumption|wp_step))
   refine g2g (g3i (R:=wants (fun r s₂=>r=.none/\∃h' tk t ks,s₂ = {s with heap:=h',toks:=tk}/\SI w h' s.heap.objs.size t ks/\MR t ks/\(∀n,n∈ks.map Prod.fst↔n∈qs.map Prod.fst)/\s.toks<=tk /\
     (∀b o,b<s.heap.objs.size->s.heap.get? b=some o->h'.get? b=some o)) E) g1h.init.plain F.entry_set_init (check_set_init_1 hT ?_)) fun r₂ s₂ hr₂=>?_
   ·have hl1:(s.heap.push (xw w)).IsTuple l (qs.map iv).toArray:=hl.push _
    obtain⟨ol,hol,hcl,hdl⟩:=id hl1;have hsls:=sub_tuple_set;have hslf:=sub_tuple_frozenset;have hne:(Value.type "tuple" == Value.type "dict")=false:=by decide
    have hTl:Shared.TypeIs {s with heap:=s.heap.push (xw w)} (.ref l) "tuple" :=⟨_,hol,hcl⟩
    unfold Builtin.«set.__init__» noKeywords Builtin.Frozenset.updateFrom;generalize hPI:pyIter=PI
    wp_walk
    subst hPI;refine g49 hl1 ?_;refine g0 (wpAny_runValue ?_);have hlS:l<s.heap.objs.size:=let⟨_,h0,_⟩:=hl;gw h0
    have hh3:A.in1.in1.in1.handled=none:=by simp [hh]
    have hneI:l≠(s.heap.push (xw w)).objs.size:=by
     rw [ue];exact m9 (g0u hlS)
    have hSf:s.heap.objs.size∉[(s.heap.push (xw w)).objs.size,l]:=by
     rw [ue];simp only [me,mw,g09,g2l,g5r];exact⟨m9 (uz _),uh hlS⟩
    have hval:∀(i:Nat) (v:Value),(qs.map iv).toArray[i]? = some v->∃p,qs[i]? = some p/\v=iv p:=fun i v hv=>by
     simp only [List.getElem?_toArray,mn,gz] at hv;obtain⟨p,e1,e2⟩:=hv;exact⟨p,e1,e2.symm⟩
    have W:=(Walks.tuple (prog:=prog) (w:=w) hh3 (s.heap.push (xw w)).objs.size l hneI (qs.map iv).toArray).toS;have hsz:(qs.map iv).toArray.size=qs.length:=by simp
    rw [hsz] at W;refine qj4 qs hq W s.heap.objs.size hSf hval (qs.length-0) 0 _ (.fresh 0 0 (!byT w)) [] (by lia) (uy _)
     ⟨⟨_,gr _ rfl,rfl,rfl⟩,(hl1.push _)⟩ (qao (gd _ hS)) ⟨fun _=>rfl,fun h=>by simp at h⟩ (fun n=>by simp) fun s' t' ks' hm hS' hM' hi'=>?_
    obtain⟨h',g',d',tk',os'⟩:=s';have eg:g'=s.gens:=hm.gens;have ed:d'=s.drawn:=hm.drawn;have eo:os'=s.os:=hm.os;have etk:s.toks<=tk':=hm.toks;subst eg;subst ed;subst eo;show wpAny _ _ _ _ _ _;refine g9 ?_;show wpAny _ _ (ret Value.none) _ _ _;refine g9 ⟨rfl,h',tk',t',ks',rfl,hS',hM',hi',etk,fun b o hb e=>?_⟩;have hb1:b≠s.heap.objs.size:=m9 hb;have hb2:b≠(s.heap.push (xw w)).objs.size:=by
     rw [ue];exact m9 (g0u hb)
    exact hm.heap b o (by simp only [me,mw,g09,g2l,g5r];exact⟨hb1,hb2⟩) (gd _ (gd _ e))
   ·cases r₂ with
    | error e=>exact hr₂
    | ok fl₂=>
     cases fl₂ with
     | ret r=>
      obtain⟨rfl,h',tk,t,ks,rfl,hS',hM',hi',htk',hk'⟩:=hr₂
      repeat (any_goals (first|assumption|wp_step))
      exact h _ _ _ _ hS' hM' hi' htk' hk'
     | _=>exact hr₂.elim
  | _=>exact hr.elim
end
theorem qaq:Manifest.owners.lookup (String.ofList ['r','o','t','a','r','e','t','i','_','t','e','s'].reverse)=some Manifest.sig_set_iterator:=by kernel_rfl
theorem slot_si_next:Slot "set_iterator" "__next__" "set_iterator.__next__" :=
 .of (owner:="set_iterator") (n:="__next__") (by rw [g3s,g21];kernel_rfl) (by decide +kernel) (by decide +kernel) (by decide +kernel)
  (by first|exact .inl (by decide +kernel)|exact .inr (by decide +kernel)) (by rw [g20];kernel_rfl)
theorem q3k:entryFor table "set_iterator.__next__" = some Builtin.«set_iterator.__next__» :=entryFor_of_tree (by kernel_rfl)
theorem q40(a:Value): argsOk "set_iterator.__next__" ⟨[a],[]⟩:=by
 unfold argsOk;rw [signature?_of (id:="set_iterator.__next__") (n:=['_','_','t','x','e','n','_','_']) (o:=['r','o','t','a','r','e','t','i','_','t','e','s']) (by kernel_rfl) qaq];kernel_rfl
theorem q41:Slot "set_iterator" "__iter__" "set_iterator.__iter__" :=
 .of (owner:="set_iterator") (n:="__iter__") (by rw [g3s,g21];kernel_rfl) (by decide +kernel) (by decide +kernel) (by decide +kernel)
  (by first|exact .inl (by decide +kernel)|exact .inr (by decide +kernel)) (by rw [g20];kernel_rfl)
theorem q93:entryFor table "set_iterator.__iter__" = some Builtin.«dict_keyiterator.__iter__» :=
 entryFor_alias (id':="dict_keyiterator.__iter__") (by kernel_rfl) rfl (by decide +kernel) (by kernel_rfl)
theorem qar(a:Value): argsOk "set_iterator.__iter__" ⟨[a],[]⟩:=by
 unfold argsOk;rw [signature?_of (id:="set_iterator.__iter__") (n:=['_','_','r','e','t','i','_','_']) (o:=['r','o','t','a','r','e','t','i','_','t','e','s']) (by kernel_rfl) qaq];kernel_rfl
theorem q7k:entryFor table "set.__iter__" = some Builtin.«frozenset.__iter__» :=
 entryFor_alias (id':="frozenset.__iter__") (by kernel_rfl) rfl (by decide +kernel) (by kernel_rfl)
def SIt(h:Heap)(it a:Addr)(slot i n ep:Nat): Prop:=∃o,h.get? it=some o/\o.cls=.type "set_iterator" /\ o.data=.fields #[.int slot 0,.int i 0,.ref a,.int n 0,.int ep 0]
def Row(w:World)(a:Addr)(ep:Nat)(ks vals:List (Nat×Nat)): Prop:=
 (byT w=true->(vals.map el).toArray=pickOrder (w.params.setOrder a ep) (ks.map el).toArray)/\(byT w=false->vals=ks)
theorem qo3(w:World)(a:Addr)(ep:Nat)(ks:List (Nat×Nat)): ∃vals,Row w a ep ks vals/\vals.Perm ks:=by
 cases hb:byT w
 ·exact⟨ks,⟨by simp [hb],fun _=>rfl⟩,g40 _⟩
 ·have hp:=q2k (w.params.setOrder a ep) (ks.map el).toArray
  generalize hx:pickOrder (w.params.setOrder a ep) (ks.map el).toArray=xs at hp;have hp':xs.toList.Perm (ks.map el):=by simpa using hp
  obtain⟨ls,hl,e⟩:=q5l hp';refine⟨ls,⟨fun _=>?_,by simp [hb]⟩,hl⟩;rw [hx, <- e]
def SAt(w:World)(h:Heap)(a:Addr)(t:SetTable)(ks:List (Nat×Nat))(ep:Nat): Prop:=
 (∃o,h.get? a=some o/\o.ExactSet/\o.data=.set (ks.map el).toArray ep t)/\Tb t ks/\t.led=(!byT w)/\(t.mask=7->ks.length<8)
def Far(w:World)(t:SetTable)(slot i:Nat): Prop:=byT w=false->(∀x∈t.place.toList.take i,x<slot)/\(∀x∈t.place.toList.drop i,slot<=x)
section
variable{prog:Program}{w:World}{A:Around}{E:Value->Shared->Prop}{s:Shared}{a it:Addr}{t:SetTable}{ks vals:List (Nat×Nat)}{ep slot i:Nat}
theorem SAt.typeIs(S:SAt w s.heap a t ks ep): s.TypeIs (.ref a) "set" :=let⟨⟨o,ho,hc,_⟩,_⟩:=S; ⟨o,ho,hc.1⟩
theorem SIt.typeIs{n:Nat}(S:SIt s.heap it a slot i n ep): s.TypeIs (.ref it) "set_iterator" :=let⟨o,ho,hc,_⟩:=S; ⟨o,ho,hc⟩
theorem SAt.state{Q:(Array (Int×Value)×Nat×SetTable)->Shared->Prop}(S:SAt w s.heap a t ks ep)(h:Q ((ks.map el).toArray,ep,t) s): wpAny (model prog w) A (setState a) Q E s:=by
 obtain⟨⟨o,ho,hc,hd⟩,T,l,h7⟩:=S;exact g33 ho hd (q31 T h7) h
theorem SAt.keep{h h':Heap}(S:SAt w h a t ks ep)(e:∀o,h.get? a=some o->h'.get? a=some o): SAt w h' a t ks ep:=by
 obtain⟨⟨o,ho,r⟩,q⟩:=S;exact⟨⟨o,e o ho,r⟩,q⟩
theorem qj5{Q:Value->Shared->Prop}(S:SAt w s.heap a t ks ep)(h:Q (.ref s.heap.objs.size) {s with heap:=s.heap.push {cls:=.type "set_iterator",data:=.fields #[.int 0 0,.int 0 0,.ref a,.int ks.length 0,.int ep 0]} }):
  wpAny (model prog w) A (pyIter (.ref a)) Q E s:=by
 refine g4q S.typeIs F.slot_set_iter (p5 F.slot_set_iter S.typeIs q7k ?_ (F.args_set_iter_1 _));unfold Builtin.«frozenset.__iter__»;refine g0 (m:=Builtin.Frozenset.slot0 "__iter__" _) (g9 ?_);refine g0 ?_;unfold Builtin.Frozenset.sizeOf setEntries;refine g0 (g0 (S.state (g9 (g9 ?_))));refine g0 ?_;unfold setDrawn setsByText;refine g0 (S.state ?_);dsimp only;refine g0 (g0 (ud (g9 (g9 ?_))));refine pj (fun c=>?_) (fun _=>?_)
 ·have c':(!byT w&&(!t.plain&&decide ((ks.map el).toArray.size>1)))=true:=c
  rw [S.2.1.pl] at c';simp at c'
 refine g0 (g9 ?_);refine g0 ?_;unfold setEpoch;refine g0 (S.state (g9 ?_));have hsz:(ks.map el).toArray.size=ks.length:=by simp
 rw [hsz];refine g0 (td (g9 ⟨_,rfl,"set_iterator",_,⟨_,gr _ rfl,rfl⟩,slot_si_next.lookup,?_⟩));exact h
theorem q6q{h:Heap}{o:Obj}{vs:Array Value}{x:Value}{j:Nat}(ho:h.get? it=some o)(hd:o.data=.fields vs):
  ∃o',(h.update it (Obj.mapFields (·.setIfInBounds j x))).get? it=some o'/\o'.cls=o.cls/\o'.data=.fields (vs.setIfInBounds j x):=
 ⟨_,g0m _ ho (Obj.isFreed_of_fields (g2k hd _)),Obj.cls_mapFields ..,g2k hd _⟩
theorem next_item{Q:Option Value->Shared->Prop}{p:Nat×Nat}(I:SIt s.heap it a slot i ks.length ep)(S:SAt w s.heap a t ks ep)(R:Row w a ep ks vals)(F:Far w t slot i)(hp:vals[i]? = some p)
  (h:∀h' slot',SIt h' it a slot' (i+1) ks.length ep->Far w t slot' (i+1)->Heap.SameBut it s.heap h'->Q (some (.int (p.1:Int) p.2)) {s with heap:=h'}) :
  wpAny (model prog w) A (pyNext (.ref it)) Q E s:=by
 obtain⟨o,ho,hc,hd⟩:=id I;unfold pyNext;refine g0 (g0i (t6 (name:=Str.ofString "__next__") I.typeIs slot_si_next
  (p5 slot_si_next I.typeIs q3k ?_ (q40 _))))
 unfold Builtin.«set_iterator.__next__»;refine g0 (m:=slotArgs "__next__" 0 _) (g9 ?_);dsimp only;refine g0 (g43 ho hd ?_);dsimp only;unfold setEntries;refine g0 (g0 (S.state (g9 ?_)));have hsz:(((ks.map el).toArray.size:Int) != (ks.length:Int))=false:=by simp
 dsimp only;rw [hsz];simp only [gf, ↓reduceIte,nt];have key:∃slot',Far w t slot' (i+1)/\∀ {Q':Option (Value×Nat)->Shared->Prop} {E':Value->Shared->Prop},Q' (some (.int (p.1:Int) p.2,slot')) s->wpAny (model prog w) A.in1 (setNext a slot i ep) Q' E' s:=by
  cases hb:byT w
  ·have hv:vals=ks:=R.2 hb
   rw [hv] at hp;obtain⟨f1,f2⟩:=F hb;have hpl:t.place=(t.place.toList.take i++t.place.toList.drop i).toArray:=by simp
   have hi:i<ks.length:=(my.mp hp).1;have hi':i<t.place.toList.length:=by rw [S.2.1.sz];exact hi
   have hbel:SetTable.below t.place slot=i:=by
    rw [hpl,below_at f1 f2];simp at hi' ⊢;lia
   have hpj:t.place[i]? = some (t.place.toList[i]):=by rw [<- g03];exact mr hi'
   have hei:(ks.map el).toArray[i]? = some (el p):=by simp [hp]
   have hdr:t.place.toList.drop i=t.place.toList[i] :: t.place.toList.drop (i+1):=pb hi';have htk:t.place.toList.take (i+1)=t.place.toList.take i++[t.place.toList[i]]:=by
    rw [g42,mr hi'];rfl
   have hrs:=S.2.1.rs;rw [<- nk i t.place.toList,hdr] at hrs;obtain⟨r1,r2,r3⟩:=nj.mp hrs;refine⟨t.place.toList[i]+1,fun _=>⟨fun x hx=>?_,fun x hx=>?_⟩,fun {Q'} {E'} q=>?_⟩
   ·rw [htk] at hx
    rcases nh.mp hx with h|h
    ·have:=r3 x h _ (m4 ..);lia
    ·have:=mw.mp h;lia
   ·have:=(g12.mp r2).1 x hx;lia
   ·unfold setNext setsByText
    refine g0 (S.state ?_);dsimp only;refine g0 (g0 (ud (g9 ?_)));refine pj (fun c=>?_) (fun _=>?_)
    ·have c':byT w=true:=c
     rw [hb] at c';exact absurd c' (by decide)
    refine pj (fun c=>?_) (fun _=>?_)
    ·have c':(!t.plain&&decide ((ks.map el).toArray.size>1))=true:=c
     rw [S.2.1.pl] at c';simp at c'
    have hld:t.led=true:=by rw [S.2.2.1,hb];rfl
    show wpAny _ _ ((do if !t.led && !(ks.map el).toArray.isEmpty then unsupported "set:maker-not-led" : Sem Unit) >>= fun _=>_) _ _ _;rw [hld];simp only [g0j,g3x,gf, ↓reduceIte];refine g0 (g9 (g9 ?_));rw [hbel,hei,hpj];exact q
  ·have hv:=R.1 hb
   refine⟨slot,fun c=>?_,fun {Q'} {E'} q=>?_⟩
   ·rw [hb] at c;exact absurd c (by decide)
   ·unfold setNext setsByText
    refine g0 (S.state ?_);dsimp only;refine g0 (g0 (ud (g9 ?_)));refine pj (fun _=>?_) (fun c=>absurd hb c);rw [mf (by simp)];refine g0 ?_;unfold setWalk setsByText;refine g0 (S.state ?_);dsimp only;refine g0 (g0 (ud (g9 ?_)));refine pj (fun _=>?_) (fun c=>absurd hb c);refine g0 (ud (g9 (g9 ?_)));have:(pickOrder (w.params.setOrder a ep) (ks.map el).toArray)[i]? = some (el p):=by rw [<- hv];simp [hp]
    show Q' (((pickOrder (w.params.setOrder a ep) (ks.map el).toArray)[i]?).map fun e=>(e.2,slot)) s;rw [this];exact q
 obtain⟨slot',F',kn⟩:=key;refine g0 (kn ?_);dsimp only;refine g0 (g2t ho hd (by simp) ?_);obtain⟨o1,ho1,hc1,hd1⟩:=q6q (x:=rawInt slot') (j:=0) ho hd;refine g0 (g2t (s:={s with heap:=s.heap.update it (Obj.mapFields (·.setIfInBounds 0 (rawInt slot')))}) ho1 hd1 (by simp) (g9 ⟨_,rfl,g9 (h _ slot' ?_ F' ((u6 ..).trans (u6 ..)))⟩));obtain⟨o2,ho2,hc2,hd2⟩:=q6q (x:=rawInt (i+1)) (j:=1) ho1 hd1;exact⟨o2,ho2,hc2.trans (hc1.trans hc),by rw [hd2];simp [rawInt]⟩
theorem next_end{Q:Option Value->Shared->Prop}(hh:A.handled=none)(hi:i=ks.length)(I:SIt s.heap it a slot i ks.length ep)(S:SAt w s.heap a t ks ep)(R:Row w a ep ks vals)(hvl:vals.length=ks.length)(F:Far w t slot i)
  (h:∀h',Heap.ExtBut it s.heap h'->Q none {s with heap:=h'}) :
  wpAny (model prog w) A (pyNext (.ref it)) Q E s:=by
 obtain⟨o,ho,hc,hd⟩:=id I;unfold pyNext;refine g0 (g0i (t6 (name:=Str.ofString "__next__") I.typeIs slot_si_next
  (p5 slot_si_next I.typeIs q3k ?_ (q40 _))))
 unfold Builtin.«set_iterator.__next__»;refine g0 (m:=slotArgs "__next__" 0 _) (g9 ?_);dsimp only;refine g0 (g43 ho hd ?_);dsimp only;unfold setEntries;refine g0 (g0 (S.state (g9 ?_)));have hsz:(((ks.map el).toArray.size:Int) != (ks.length:Int))=false:=by simp
 dsimp only;rw [hsz];simp only [gf, ↓reduceIte,nt];have key:∀ {Q':Option (Value×Nat)->Shared->Prop} {E':Value->Shared->Prop},Q' none s->wpAny (model prog w) A.in1 (setNext a slot i ep) Q' E' s:=by
  intro Q' E' q;unfold setNext setsByText;refine g0 (S.state ?_);dsimp only;refine g0 (g0 (ud (g9 ?_)));cases hb:byT w
  ·refine pj (fun c=>?_) (fun _=>?_)
   ·have c':byT w=true:=c
    rw [hb] at c';exact absurd c' (by decide)
   refine pj (fun c=>?_) (fun _=>?_)
   ·have c':(!t.plain&&decide ((ks.map el).toArray.size>1))=true:=c
    rw [S.2.1.pl] at c';simp at c'
   have hld:t.led=true:=by rw [S.2.2.1,hb];rfl
   show wpAny _ _ ((do if !t.led && !(ks.map el).toArray.isEmpty then unsupported "set:maker-not-led" : Sem Unit) >>= fun _=>_) _ _ _;rw [hld];simp only [g0j,g3x,gf, ↓reduceIte];refine g0 (g9 (g9 ?_));obtain⟨f1,f2⟩:=F hb;have hpl:t.place=(t.place.toList.take i++t.place.toList.drop i).toArray:=by simp
   have hbel:SetTable.below t.place slot=i:=by
    rw [hpl,below_at f1 f2];have:=S.2.1.sz;simp at this ⊢;lia
   have hei:(ks.map el).toArray[i]? = none:=by simp [hi]
   rw [hbel,hei];exact q
  ·refine pj (fun _=>?_) (fun c=>absurd hb c)
   rw [mf (by simp)];refine g0 ?_;unfold setWalk setsByText;refine g0 (S.state ?_);dsimp only;refine g0 (g0 (ud (g9 ?_)));refine pj (fun _=>?_) (fun c=>absurd hb c);refine g0 (ud (g9 (g9 ?_)));have:(pickOrder (w.params.setOrder a ep) (ks.map el).toArray)[i]? = none:=by rw [<- R.1 hb];simp [hi,hvl]
   show Q' (((pickOrder (w.params.setOrder a ep) (ks.map el).toArray)[i]?).map fun e=>(e.2,slot)) s;rw [this];exact q
 refine g0 (key ?_);dsimp only;refine g0 (g2t ho hd (by simp) ?_);show wpAny _ _ (newExc (.type "StopIteration") [] >>= _) _ _ _;refine g0 ?_;simp only [newExc,newTuple];refine g0 (td ?_ (by size_fits));refine g0 (m:=firstArgMember _ _) (g5l (a:=Value.none) (by first|rfl|(simp only [firstArgMember];rfl)) ?_);refine td ?_ (by size_fits);simp only [raiseNew];refine g0 (g4h ?_)
 first|rw [show A.in1.handled=none from hh]|rw [hh]
 refine g0 (g9 (wpAny_throw ?_));refine g0 (g24 (T:="StopIteration") (b:=true) ⟨_,gr _ rfl,rfl⟩ isSubtype_stop ?_);exact g9 (h _ (((u6 ..).extBut.push _).push _))
theorem qgo(hh:A.handled=none)(hne:a≠it)(R:Row w a ep ks vals)(hvl:vals.length=ks.length):
  Walks prog w A it [it,a] [it] ks.length (fun i v=>∃p,vals[i]? = some p/\v=.int (p.1:Int) p.2) (fun i h=>∃slot,SIt h it a slot i ks.length ep/\SAt w h a t ks ep/\Far w t slot i) where
 sub:=fun b hb=>by simp at hb;simp [hb]
 frame:=fun i h h' st hk=>by
  obtain⟨slot,⟨o,ho,r⟩,S,F⟩:=st;exact⟨slot,⟨o,hk it (by simp) o ho,r⟩,S.keep (fun o e=>hk a (by simp) o e),F⟩
 item:=fun i s Q E hi st hQ=>by
  obtain⟨slot,I,S,F⟩:=st;have hi':i<vals.length:=by lia
  refine next_item I S R F (mr hi') fun h' slot' I' F' sb=>?_;exact hQ _ h' s.toks ⟨_,mr hi',rfl⟩ ⟨slot',I',S.keep (fun o e=>sb.extBut a o hne e),F'⟩ fun b o hb e=>sb.extBut b o (fun h=>hb (by simp [h])) e
 done:=fun s Q E st hQ=>by
  obtain⟨slot,I,S,F⟩:=st;exact next_end hh rfl I S R hvl F fun h' he=>hQ h' s.toks fun b o hb e=>he b o (fun h=>hb (by simp [h])) e
 self:=fun i s Q E st hQ=>by
  obtain⟨slot,I,S,F⟩:=st;refine g4q I.typeIs q41 (p5 q41 I.typeIs q93 ?_ (qar _));show wpAny _ _ (ret (.ref it)) _ _ s;exact g9 ⟨_,rfl,"set_iterator",_,I.typeIs,slot_si_next.lookup,hQ⟩
end
end Js
namespace Js
open PySem PyProof.Rows
section
variable{prog:Program}{w:World}{A:Around}{E:Value->Shared->Prop}{s:Shared}{a:Addr}{t:SetTable}{ks vals:List (Nat×Nat)}{ep:Nat}
theorem qj6{Q:Bool->Shared->Prop}(hT:s.TypeIs (.ref a) "set")(h:Q false s): wpAny (model prog w) A (Builtin.List.listLengthHint (.ref a)) Q E s:=by
 unfold Builtin.List.listLengthHint;refine g0 (wpAny_specialOf hT F.slot_set_len.lookup ?_);generalize hid:("set.__len__" : String)=id0;dsimp only;rw [show splitId id0=some ("set","__len__") from by subst hid;decide +kernel];subst hid;dsimp only;refine g0 (g24 (T:="set") (b:=true) hT (by rw [g20];kernel_rfl) ?_);refine pj (fun hab=>absurd hab (by decide)) (fun _=>?_);refine pj (fun _=>?_) (fun hab=>absurd (by decide +kernel) hab);refine g0 (g1c hT ?_);exact g9 h
def iv'(p:Nat×Nat): Value:=.int (p.1:Int) p.2
theorem qj7{vals:List (Nat×Nat)}{n:Nat}{acc:Array Value}(hn:vals.length=n)(h:ItemsOf (fun i v=>∃p,vals[i]? = some p/\v=.int (p.1:Int) p.2) acc n): acc.toList=vals.map iv':=by
 apply List.ext_getElem?;intro i
 by_cases hi:i<n
 ·have h1:i<acc.size:=by rw [h.1];exact hi
  have e:acc[i]? = some acc[i]:=g4w h1;obtain⟨p,hp,hv⟩:=h.2 i _ e;rw [g03,e,mn,hp,hv];rfl
 ·rw [g03,Array.getElem?_eq_none (by rw [h.1];omega),mn,g5t (by omega)];rfl
theorem qc5{Q:List Value->Shared->Prop}(hh:A.handled=none)(S:SAt w s.heap a t ks ep)
  (h:∀(s':Shared) (vals:List (Nat×Nat)),vals.Perm ks->(∀b o,b<s.heap.objs.size->s.heap.get? b=some o->s'.heap.get? b=some o)->s.heap.objs.size<=s'.heap.objs.size->s'.gens=s.gens->s'.drawn=s.drawn->s'.os=s.os->s.toks<=s'.toks->Q (vals.map iv') s') :
  wpAny (model prog w) A (collect (.ref a)) Q E s:=by
 have hla:a<s.heap.objs.size:=let⟨⟨o,ho,_⟩,_⟩:=S;gw ho
 unfold collect;refine g0 (wpAny_runValue (g06 F.entry_proto_collect ?_));rw [ux F.plain_proto_collect _];show wpAny _ A.in1 (newList [] >>= fun l=>again (.builtin "list.__iadd__" ⟨[l,.ref a],[]⟩)) _ _ s;refine g0 (td ?_);refine g9 ⟨g1n g34 _,g06 F.entry_list_iadd ?_⟩;rw [ux g34 _]
 let lo:Obj:={cls:=.type "list",data:=.seq ([]:List Value).toArray}
 have S1:SAt w (s.heap.push lo) a t ks ep:=S.keep fun o e=>gd _ e;show wpAny _ A.in1 (Builtin.List.listExtendWith (.ref s.heap.objs.size) (.ref a) (.ref s.heap.objs.size)) _ _ _;unfold Builtin.List.listExtendWith;refine g0 (g1c S1.typeIs ?_);have h1:Builtin.List.listSameRef (.ref s.heap.objs.size) (.ref a)=false:=by simp [Builtin.List.listSameRef];exact uh hla
 have h2:(Value.type "set" == Value.type "list")=false:=by decide
 have h3:(Value.type "set" == Value.type "tuple")=false:=by decide
 simp only [h1,h2,h3,Bool.or_false,gf,p0]
 let io:Obj:={cls:=.type "set_iterator",data:=.fields #[.int 0 0,.int 0 0,.ref a,.int ks.length 0,.int ep 0]}
 refine g0 (qj5 (s:={s with heap:=s.heap.push lo}) S1 ?_);have hsz1:(s.heap.push lo).objs.size=s.heap.objs.size+1:=ue ..;have S2:SAt w ((s.heap.push lo).push io) a t ks ep:=S1.keep fun o e=>gd _ e;refine g0 (nz (qj6 (s:={s with heap:=(s.heap.push lo).push io}) S2.typeIs ?_));refine pj (fun _=>?_) (fun hab=>absurd (by decide +kernel) hab);refine g0 (g00 ?_);have hL1:((s.heap.push lo).push io).get? s.heap.objs.size=some lo:=gd _ (gr _ rfl);refine g0 ?_;show wpAny _ A.in1 (updateSeq s.heap.objs.size (·.push .none) >>= fun _=>updateSeq s.heap.objs.size (·.pop)) _ _ _;refine g0 (wpAny_updateSeq (s:={s with heap:=(s.heap.push lo).push io}) hL1 rfl ?_);have hL2:=g0m (Obj.mapSeq (·.push Value.none)) hL1 rfl;refine wpAny_updateSeq hL2 rfl ?_;have hL3:=g0m (Obj.mapSeq (·.pop)) hL2 rfl
 let h3':=(((s.heap.push lo).push io).update s.heap.objs.size (Obj.mapSeq (·.push Value.none))).update s.heap.objs.size (Obj.mapSeq (·.pop))
 have oth:∀b o,b≠s.heap.objs.size->((s.heap.push lo).push io).get? b=some o->h3'.get? b=some o:=
  fun b o hb e=>(g0z _ _ (mv hb)).trans ((g0z _ _ (mv hb)).trans e)
 obtain⟨vals,hR,hvp⟩:=qo3 w a ep ks;have hvl:vals.length=ks.length:=hvp.length_eq;have W:=(qgo (prog:=prog) (w:=w) (A:=A.in1) (it:=(s.heap.push lo).objs.size) (t:=t) (vals:=vals) (by simpa using hh) (by rw [hsz1];exact m9 (g0u hla)) hR hvl).toS;have hIt:SIt h3' (s.heap.push lo).objs.size a 0 0 ks.length ep:=⟨io,oth _ _ (by rw [hsz1];exact Nat.succ_ne_self _) (gr _ rfl),rfl,rfl⟩
 have hn12:=S.2.1.n12;refine g9 ⟨g1n F.plain_extend_loop _,codeAny_extend_loopS W (by rw [g28];omega) s.heap.objs.size (by rw [hsz1];simp only [me,g09,g2l,g5r];exact⟨m9 (uz _),uh hla⟩) _ ks.length 0 _ _ _ rfl (uy _)
  ⟨0,hIt,S2.keep fun o e=>oth a o (m9 hla) e,fun _=>⟨by simp,by simp⟩⟩ hL3 (ItemsOf.nil _) fun s' acc' c' hm hS' hacc=>?_⟩
 show wpAny _ A (load s.heap.objs.size >>= _) _ _ s';refine g0 (wpAny_load hS' ?_);refine g9 ?_;rw [qj7 hvl hacc];refine h s' vals hvp (fun b o hb e=>hm.heap b o (by rw [hsz1];simp only [me,g09,g2l,g5r];exact⟨m9 hb,m9 (g0u hb)⟩) (oth b o (m9 hb) (gd _ (gd _ e)))) (g50 (gw hS')) hm.gens hm.drawn hm.os hm.toks
theorem qel{Q:Value->Shared->Prop}(hh:A.handled=none)(S:SAt w s.heap a t ks ep)
  (h:∀(h':Heap) (tk:Nat) (c:Addr) (out:List Value) (ns':List Int) (e:Nat),IntsAre out ns'->ns'.Perm (ks.map fun p=>(p.1:Int))->ns'.Pairwise (· <= ·)->(∀b o,b<s.heap.objs.size->s.heap.get? b=some o->h'.get? b=some o) ->
   s.heap.objs.size<=c->h'.get? c=some (seqObj "list" out.toArray e)->s.toks<=tk->Q (.ref c) {s with heap:=h',toks:=tk}) :
  wpAny (model prog w) A (call (.builtin "sorted") [.ref a]) Q E s:=by
 refine Calls.call_function_entry kind_sorted plain_sorted entry_sorted (args_sorted1 _) ?_;unfold Builtin.«sorted»;refine g0 (m:=checkCount "sorted" 1 1 _) (g9 ?_);have hn12:=S.2.1.n12;refine g0 (qc5 (A:=A.in1) (by simpa using hh) S fun s1 vals hp hk hz hg hd ho ht=>?_);have hvl:vals.length=ks.length:=hp.length_eq;refine g0 (g39 ?_);have hoL:(s1.heap.push (seqObj "list" (vals.map iv').toArray 0)).get? s1.heap.objs.size=some (seqObj "list" (vals.map iv').toArray 0):=gr _ rfl;have hI:IntsAre (vals.map iv') (vals.map fun p=>(p.1:Int)):=by
  clear hoL hvl hp
  induction vals with
  | nil=>exact .nil
  | cons p l ih=>exact .cons _ _ ih
 refine g0 (nz (p5 slot_list_sort ⟨_,hoL,rfl⟩ entry_list_sort (list_sort_tree (s:={s1 with heap:=s1.heap.push (seqObj "list" (vals.map iv').toArray 0)}) hoL hI (by simp;omega) fun out ns' a1 a2 a3=>⟨_,rfl,?_⟩) (args_list_sort _)));refine g9 ⟨_,rfl,?_⟩;obtain⟨h1,g1,d1,t1,o1⟩:=s1;dsimp only at hk hz hg hd ho ht hoL;subst hg;subst hd;subst ho;have hz1:(h1.push (seqObj "list" (vals.map iv').toArray 0)).objs.size=h1.objs.size+1:=ue ..;have e1:=g0r hoL (fun _=> #[]);have e2:=gd (seqObj "tuple" (vals.map iv').toArray 0) e1;have e3:=gd (seqObj "list" #[] 0) e2;have e4:=g0r e3 (fun _=>out);refine h (sortedHeap (h1.push (seqObj "list" (vals.map iv').toArray 0)) h1.objs.size (vals.map iv') out) t1 h1.objs.size out.toList ns' _ a1 (a2.trans (hp.map _)) a3 (fun b ob hb e=>?_) hz (by unfold sortedHeap;simpa using e4) ht;have nb:b≠h1.objs.size:=m9 (gm hb hz);unfold sortedHeap;refine(g0z _ _ (mv nb)).trans ?_;refine gd _ (gd _ ?_);refine(g0z _ _ (mv nb)).trans ?_;exact gd _ (hk b ob hb e)
end
end Js
namespace DL
open PySem PySem.Spec PyProof.Rows L2
variable[Lam]
def q24:List D->Option (List Nat)
 | []=>some []
 | .int i :: r=>if 0<=i/\i<12 then(q24 r).map (i.toNat :: ·) else none
 | _ :: _=>none
def qem:D->D->Option (List D)
 | .tup ds,.tup es=>(q24 ds).bind fun a=>(q24 es).bind fun b=>some (((List.range 12).filter fun n=>decide (n∈a\/n∈b)).map fun n=>D.int (n:Nat))
 | _,_=>none
def qen(f g:FE): FA:=fun ρ =>(f ρ).bind fun x=>(g ρ).bind fun y=>qem x y
def q32(w:World)(a:Addr)(ns:List Nat): HO:=.ext fun h=>∃t ks,Js.SI w h a t ks/\Js.MR t ks/\∀n,n∈ks.map Prod.fst↔n∈ns
def qeo(w:World)(a:Addr)(ns:List Nat): HO:=.ext fun h=>∃t ks,Js.SI w h a t ks/\(t.mask=7->ks.length<8)/\∀n,n∈ks.map Prod.fst↔n∈ns
def qpx(K:Frag)(w:World): List V->Hp->VK->Prop:=fun xs H Q=>∃F ds ns,Same F H/\RepL K F [.tup ds] xs/\q24 ds=some ns/\∀a,H a=none->Q (.ref a) (upd H a (q32 w a ns))
def rOr(w:World): R2:=fun x y H Q=>∃a b ns ms,x=.ref a/\y=.ref b/\a≠b/\H a=some (q32 w a ns)/\H b=some (q32 w b ms)/\∀c,H c=none->Q (.ref c) (upd H c (qeo w c (ns++ms)))
def qp2(w:World): List V->Hp->VK->Prop:=fun xs H Q=>∃a ns,xs=[.ref a]/\H a=some (qeo w a ns)/\∀c,H c=none->Q (.ref c) (upd H c (.lst (((List.range 12).filter fun n=>decide (n∈ns)).map fun n=>V.int (n:Nat))))
omit [Lam] in
theorem q8g{K:Frag}{F:Hp}: ∀ {ds:List D} {ys:List V} {its:List Value} {ns:List Nat},q24 ds=some ns->RepL K F ds ys->Vals ys its->∃qs:List (Nat×Nat),its=qs.map Js.iv/\(∀p∈qs,p.1<12)/\qs.map Prod.fst=ns
 | [],ys,its,ns,h,k,r=>by
  cases h;cases k.nil_inv;cases r;exact⟨[],rfl,by simp,rfl⟩
 | .int i :: ds,ys,its,ns,h,k,r=>by
  unfold q24 at h
  split at h
  ·rename_i hi
   obtain⟨ms,h1,rfl⟩:=gz.mp h;obtain⟨x,ys',rfl,a1,a2⟩:=k.cons_inv;cases rep_int.mp a1;cases r with
   | cons b1 b2=>
    obtain⟨qs,e1,e2,e3⟩:=q8g h1 a2 b2;obtain⟨tk,rfl⟩:=b1;refine⟨(i.toNat,tk) :: qs,?_,?_,by simp [e3]⟩
    ·rw [e1,gv]
     congr 1
     show _=Value.int ((i.toNat:Nat):Int) tk;rw [g1k hi.1]
    ·intro p hp
     rcases me.mp hp with rfl|hp
     ·show i.toNat<12
      lia
     ·exact e2 p hp
  ·cases h
 | .non :: _,_,_,_,h,_,_=>by cases h
 | .bl _ :: _,_,_,_,h,_,_=>by cases h
 | .str _ :: _,_,_,_,h,_,_=>by cases h
 | .tup _ :: _,_,_,_,h,_,_=>by cases h
 | .lst _ :: _,_,_,_,h,_,_=>by cases h
 | .dct _ _ :: _,_,_,_,h,_,_=>by cases h
 | .dtt _ _ :: _,_,_,_,h,_,_=>by cases h
 | .obj _ :: _,_,_,_,h,_,_=>by cases h
 | .exc _ :: _,_,_,_,h,_,_=>by cases h
section
variable{X:Cx}
theorem qgp(hc:X.calm=true): xm X (.type "set") (qpx X.K X.w):=fun pins s σ H xs us Q I rv ⟨F,ds,ns,fh,rl,hn,q⟩=>by
 obtain⟨x,rfl,rx⟩:=rep1 rl;obtain⟨a,ys,rfl,k1,k2⟩:=rep_tup.mp rx;obtain⟨u,rfl,ru⟩:=vals1 rv;cases ru;obtain⟨its,r1,p1,hz⟩:=I.tuple (qh fh k1);obtain⟨qs,rfl,hq,rfl⟩:=q8g hn k2 r1;refine Js.q7j qs hq (I.ok.hd hc) p1 fun h' tk t ks S M m ht old=>?_;have hnn:H s.heap.objs.size=none:=I.hok.fresh (gu _);obtain⟨o,ep,ho,hx,hd⟩:=id S.ob;refine⟨.ref _,_,I.laid (t':=tk) (a:=s.heap.objs.size) (o:=q32 X.w s.heap.objs.size (qs.map Prod.fst)) (fun b ob qb=>old b ob (gw qb) qb) (gu _) ⟨⟨t,ks,S,M,m⟩,⟨o,ho⟩,fun h1 h2 ⟨t,ks,S,M,m⟩ e=>⟨t,ks,S.keep e,M,m⟩⟩,rfl,q _ hnn⟩
theorem qo4:OpR X (binaryOp .BitOr) (rOr X.w):=fun pins s σ H x y v u Q I rx ry ⟨a,b,ns,ms,e1,e2,hab,ha,hb,q⟩=>by
 subst e1;subst e2;cases rx;cases ry;obtain⟨⟨t,ks,S,M,m⟩,_,_⟩:=I.hok a _ ha;obtain⟨⟨t',ks',S',M',m'⟩,_,_⟩:=I.hok b _ hb;have m7:∀ {t:SetTable} {ks:List (Nat×Nat)},Js.MR t ks->t.mask=7->ks.length<8:=fun M e=>g1b fun c=>by
  have:=M.2 (by lia);lia
 refine Js.qp1 hab S M.1 (m7 M) S' M'.1 (m7 M') fun h2 t2 ks2 old S2 h72 m2=>?_;have hnn:H s.heap.objs.size=none:=I.hok.fresh (gu _);obtain⟨o,ep,ho,hx,hd⟩:=id S2.ob;refine⟨.ref _,_,I.laid (t':=s.toks) (a:=s.heap.objs.size) (o:=qeo X.w s.heap.objs.size (ns++ms)) (fun c ob qb=>old c ob (gw qb) qb) (gu _) ⟨⟨t2,ks2,S2,h72,fun n=>?_⟩,⟨o,ho⟩,fun h1 h2 ⟨t,ks,S,M,m⟩ e=>⟨t,ks,S.keep e,M,m⟩⟩,rfl,q _ hnn⟩;rw [m2 n,m n,m' n,nh]
theorem qlp(hc:X.calm=true): xm X (.builtin "sorted") (qp2 X.w):=fun pins s σ H xs us Q I rv ⟨a,ns,e1,ha,q⟩=>by
 subst e1;obtain⟨u,rfl,ru⟩:=vals1 rv;cases ru;obtain⟨⟨t,ks,S,h7,m⟩,_,_⟩:=I.hok a _ ha;obtain⟨o,ep,ho,hx,hd⟩:=id S.ob;refine Js.qel (I.ok.hd hc) ⟨⟨o,ho,hx,hd⟩,S.tb,S.ld,h7⟩ fun h' tk c out ns' e hI hp hs old hc' hget ht=>?_;have hnn:H c=none:=I.hok.fresh hc';have hL:ns'=((List.range 12).filter fun n=>decide (n∈ns)).map fun n:Nat=>(n:Int):=by
  refine q3w (hp.trans ?_) hs ?_
  ·have:(ks.map Prod.fst).Perm ((List.range 12).filter fun n=>decide (n∈ns)):=by
    refine(g4l S.tb.nd (g0s _ g1g)).mpr fun n=>?_;rw [g04,tx,g2q, <- m n];refine⟨fun h=>⟨?_,h⟩,fun h=>h.2⟩;obtain⟨p,hp,rfl⟩:=mx.mp h;exact S.tb.lt p hp
   have h2:=this.map fun n:Nat=>(n:Int)
   rw [mq] at h2;exact h2
  ·rw [uo]
   refine g32 (fun {a b} h=>?_) (g0s _ (g37 (n:=12)));lia
 subst hL;have vo:=q0f hI;rw [mq] at vo;refine⟨.ref c,_,I.laid (t':=tk) (a:=c) (o:=.lst (((List.range 12).filter fun n=>decide (n∈ns)).map fun n=>V.int (n:Nat))) (fun b ob qb=>old b ob (gw qb) qb) hc' ⟨?_,out,e,vo,hget⟩,rfl,q _ hnn⟩;rw [mj];exact ml (g14 _ _) (ja (by simp;decide))
theorem qlq{a b:Expr}{f g:FE}{p p1 p2 q1 q2 q3 pos:Pos}(hc:X.calm=true)(hgs:Gl X "sorted")(hms:X.mg "sorted" = none)(hgt:Gl X "set")(hmt:X.mg "set" = none)(ha:PE X a (tD X.K f))(hb:PE X b (tD X.K g))
  (s1:starEach [a] X.env=(false,eval a X.env) :: starEach [] X.env:=by rfl) (s2:starEach [b] X.env=(false,eval b X.env) :: starEach [] X.env:=by rfl)
  (s3:starEach [.BinOp (.Call (.Name "set" p1) [a] [] q1) .BitOr (.Call (.Name "set" p2) [b] [] q2) q3] X.env=(false,eval (.BinOp (.Call (.Name "set" p1) [a] [] q1) .BitOr (.Call (.Name "set" p2) [b] [] q2) q3) X.env) :: starEach [] X.env:=by rfl)
  (h1:∀pos,(backTo pos (starEach [] X.env)).any (·.1)=false:=by intro _;rfl) :
  PE X (.Call (.Name "sorted" p) [.BinOp (.Call (.Name "set" p1) [a] [] q1) .BitOr (.Call (.Name "set" p2) [b] [] q2) q3] [] pos) (tL X.K (qen f g)):=by
 refine zt (q2r (qlp hc) hgs hms boot_sorted (q01 (qju qo4 (q3q (qgp hc) hgt hmt (T:="set") (by rfl) (q01 ha q2c s1) (he:=s1) (hpl:=h1 _)) (q3q (qgp hc) hgt hmt (T:="set") (by rfl) (q01 hb q2c s2) (he:=s2) (hpl:=h1 _))) q2c s3) (he:=s3) (hpl:=h1 _)) fun σ H Q ⟨F0,H0,F, ρ,ds,r,hf,q⟩=>?_;obtain⟨x,hx,hf⟩:=gc.mp hf;obtain⟨y,hy,hj⟩:=gc.mp hf;unfold qem at hj
 split at hj
 ·rename_i xs ys
  obtain⟨ns,hn,hj⟩:=gc.mp hj;obtain⟨ms,hm,hj⟩:=gc.mp hj;cases hj;refine⟨F0,H0,F, ρ,.tup xs,r,hx,fun v F1 H1 g1 r1=>?_⟩;refine⟨F1,xs,ns,g1.fh,.cons r1 .nil,hn,fun c1 hc1=>?_⟩;have g2:Grow F1 H1 F1 (upd H1 c1 (q32 X.w c1 ns)):=Grow.own g1.fh hc1;refine⟨F0,H0,F1, ρ,.tup ys,r.grow (g1.trans g2),hy,fun u F3 H3 g3 r3=>?_⟩;refine⟨F3,ys,ms,g3.fh,.cons r3 .nil,hm,fun c2 hc2=>?_⟩;have g4:Grow F3 H3 F3 (upd H3 c2 (q32 X.w c2 ms)):=Grow.own g3.fh hc2;have e1:H3 c1=some (q32 X.w c1 ns):=g3.hh.ext _ _ ql;have hne:c1≠c2:=j9 e1 hc2;refine⟨c1,c2,ns,ms,rfl,rfl,hne,by rw [qi hne];exact e1,ql,fun c3 hc3=>?_⟩;have g5:Grow F3 (upd H3 c2 (q32 X.w c2 ms)) F3 (upd (upd H3 c2 (q32 X.w c2 ms)) c3 (qeo X.w c3 (ns++ms))):=Grow.own g4.fh hc3;refine⟨c3,ns++ms,rfl,ql,fun c4 hc4=>?_⟩;have g6:=Grow.own (o:=.lst (((List.range 12).filter fun n=>decide (n∈ns++ms)).map fun n=>V.int (n:Nat))) g5.fh hc4;have gg:=g1.trans (g2.trans (g3.trans (g4.trans (g5.trans g6))));refine q c4 _ F3 _ gg (g5.fh.free hc4) ((g1.trans (g2.trans (g3.trans (g4.trans g5)))).hh.free hc4) ql ?_
  ·have e:((List.range 12).filter fun n=>decide (n∈ns++ms))=(List.range 12).filter fun n=>decide (n∈ns\/n∈ms):=by
    congr 1;funext n;simp [nh]
   rw [e];have:=(RepL.ints (K:=X.K) (H:=F3) (ns:=((List.range 12).filter fun n=>decide (n∈ns\/n∈ms)).map fun n:Nat=>(n:Int)) (xs:=((List.range 12).filter fun n=>decide (n∈ns\/n∈ms)).map fun n=>V.int (n:Nat))).mpr (by rw [mq];rfl);rw [mq] at this;exact this
 ·cases hj
end
end DL
namespace Js
open PySem
open Sem (wp)
theorem qas:typeLookup (.type "list") "keys" = pure none:=by rw [g3s,g21];kernel_rfl
theorem q6r:typeLookup (.type "list") "__getattr__" = pure none:=by rw [g3s,g21];kernel_rfl
section
variable{prog:Program}{w:World}{A:Around}{E:Value->Shared->Prop}{s:Shared}{a:Addr}
theorem qgq{xs:Array Value}{n:Nat}{u:Tok}{Q:Value->Shared->Prop}{sl:Array (Option Value)}(hx:s.heap.get? a=some {cls:=.type "list",dict:=none,data:=.seq xs n,slots:=sl})(hh:A.handled=none)
  (h:∀h' tk e,Heap.NewAttrErr s.heap h' e (.ref a) "keys" -> E (.ref e) {s with heap:=h',toks:=tk}) :
  wpAny (model prog w) A (call (.builtin "list.__getattribute__") [.ref a,.str "keys" u]) Q E s:=by
 refine p5 g2r ⟨_,hx,rfl⟩ F.entry_list_ga ?_ (F.args_list_getattribute_2 _ _);obtain⟨hp,g,d,tk,os⟩:=s;have hT:(⟨hp,g,d,tk,os⟩:Shared).TypeIs (.ref a) "list" :=⟨_,hx,rfl⟩
 have f4:=qas;unfold Builtin.«object.__getattribute__»
 repeat (any_goals (first|assumption|wp_step))
 exact wpAny_raiseAttrError (by simpa using hh) (fun h' tk e x=>h h' tk e x) (attrMsg_fits (by decide +kernel) (by size_fits))
theorem qgr{xs:Array Value}{n:Nat}{Q:Option Value->Shared->Prop}{sl:Array (Option Value)}(hx:s.heap.get? a=some {cls:=.type "list",dict:=none,data:=.seq xs n,slots:=sl})(hh:A.handled=none)
  (h:∀h' tk,(∀b o,s.heap.get? b=some o->h'.get? b=some o)->Q none {s with heap:=h',toks:=tk}) :
  wpAny (model prog w) A (getAttr? (.ref a) "keys") Q E s:=by
 obtain⟨hp,g,d,tk,os⟩:=s;have hT:(⟨hp,g,d,tk,os⟩:Shared).TypeIs (.ref a) "list" :=⟨_,hx,rfl⟩
 have f1:=sub_AttributeError;have f3:=g2r.lookup;have f4:=g2r.bind (.ref a);have f5:=q6r;unfold getAttr? getAttrBy? getAttrBy
 repeat (any_goals (first|assumption|((with_reducible show wpAny _ _ (call (Value.builtin "list.__getattribute__") _ _) _ _ _);refine qgq hx (by first|exact hh|simpa using hh) fun h' tk' e x=>?_)|wp_step))
 obtain⟨t',u',he⟩:=x.there
 repeat (any_goals (first|assumption|wp_step))
 exact h _ _ x.keeps
end
end Js
namespace Js
open PySem
theorem q8h:entryFor table "dict.update.loop" = some Builtin.«dict.update.loop» :=entryFor_of_tree (by kernel_rfl)
theorem q1u:plainId "dict.update.loop" = true:=by decide +kernel
abbrev TK(prog:Program)(w:World):=tupleKind (intKind prog w)
structure Prs(prog:Program)(w:World)(h:Heap)(vs:List Value)(ps:List (List Int×Addr×Value)): Prop where
 len:vs.length=ps.length
 pair:∀(i:Nat) (p:List Int×Addr×Value),ps[i]? = some p->∃q,vs[i]? = some (.ref q)/\h.IsTuple q #[.ref p.2.1,p.2.2]
 key:∀p∈ps,(TK prog w).is h p.1 p.2.1
theorem q5m{prog:Program}{w:World}{h h':Heap}{k:List Int}{a:Addr}(x:(TK prog w).is h k a)(e:∀o,h.get? a=some o->h'.get? a=some o): (TK prog w).is h' k a:=by
 obtain⟨o,items,n,ho,r⟩:=x;exact⟨o,items,n,e o ho,r⟩
section
variable{prog:Program}{w:World}{A:Around}{R:Result->Shared->Prop}
theorem qgs{vs:List Value}{ps:List (List Int×Addr×Value)}{N I S L:Addr}(hu:A.units+1<cLine)(hh:A.in1.handled=none)(hSN:N<=S)(hIN:N<=I)(hLN:L<N)(hSI:S≠I)(h0:Heap)(hN:∀b o,h0.get? b=some o->b<N)(P0:Prs prog w h0 vs ps)(hl0:h0.IsList L vs.toArray)(hnd:(ps.map (·.1)).Nodup)(hz:ps.length<=sizeLine):
  ∀(k i:Nat) (s:Shared) (j:Int) (tj:Tok),ps.length-i=k->i<=ps.length->s.heap.IsListIter I L i->(∀b o,h0.get? b=some o->s.heap.get? b=some o)->s.heap.DictOfH (TK prog w) S (ps.take i) ->
   (∀s',s'.gens=s.gens->s'.drawn=s.drawn->s'.os=s.os->s.toks<=s'.toks->(∀b o,h0.get? b=some o->s'.heap.get? b=some o)->s'.heap.DictOfH (TK prog w) S ps->R (.ok (.ret .none)) s') ->
   codeAny (model prog w) A (.builtin "dict.update.loop" ⟨[.ref S,.ref I,.int j tj,.none],[]⟩) R s:=by
 intro k
 induction k with
 | zero=>
  intro i s j tj hk hi hit hkeep hd hR;have hin:i=ps.length:=by lia
  subst hin;refine g06 q8h ?_;rw [ux q1u _];have hls:s.heap.IsList L vs.toArray:=let⟨o,ho,r⟩:=hl0; ⟨o,hkeep L o ho,r⟩
  show wpAny _ A.in1 (pyNext (.ref I) >>= _) _ _ s;refine g0 (wpAny_pyNext_list_end hh hit hls (by simp [P0.len]) fun h' he=>?_);show wpAny _ A.in1 (Builtin.Dict.addKeywords S [] >>= _) _ _ _;refine g0 (g9 (g9 ?_));rw [pd (gu _)] at hd;refine hR _ rfl rfl rfl (gu _) (fun b o e=>he b o (m9 (gm (hN b o e) hIN)) (hkeep b o e)) ?_;obtain⟨o,es,ep,ho,hc,hdd,hes,his,hn⟩:=hd;exact⟨o,es,ep,he S o hSI ho,hc,hdd,hes,fun x hx=>q5m (P0.key x hx) fun o' e=>he _ o' (m9 (gm (hN _ o' e) hIN)) (hkeep _ o' e),hn⟩
 | succ k ih=>
  intro i s j tj hk hi hit hkeep hd hR;have hlt:i<ps.length:=by lia
  have hp:ps[i]? = some ps[i]:=mr hlt;obtain⟨q,hq,hqt⟩:=P0.pair i _ hp;have hkey:=P0.key _ (g5b hlt);generalize ps[i]=p at hp hq hqt hkey;refine g06 q8h ?_;rw [ux q1u _];have hls:s.heap.IsList L vs.toArray:=let⟨o,ho,r⟩:=hl0; ⟨o,hkeep L o ho,r⟩
  show wpAny _ A.in1 (pyNext (.ref I) >>= _) _ _ s;refine g0 (wpAny_pyNext_list_item hit hls (x:=.ref q) (by simpa using hq) fun h' hit' hs'=>?_);have keep1:∀b o,h0.get? b=some o->h'.get? b=some o:=fun b o e=>hs'.extBut b o (m9 (gm (hN b o e) hIN)) (hkeep b o e);have hqt1:h'.IsTuple q #[.ref p.2.1,p.2.2]:=let⟨o,ho,r⟩:=hqt; ⟨o,keep1 q o ho,r⟩
  have hkey1:(TK prog w).is h' p.1 p.2.1:=q5m hkey fun o e=>keep1 _ o e;have hd1:h'.DictOfH (TK prog w) S (ps.take i):=by
   obtain⟨o,es,ep,ho,hc,hdd,hes,his,hn⟩:=hd;exact⟨o,es,ep,hs'.extBut S o hSI ho,hc,hdd,hes,fun x hx=>q5m (P0.key x (g0c hx)) fun o' e=>keep1 _ o' e,hn⟩
  dsimp only;refine g0 (nz ?_);refine g0 (wpAny_tryCatch ?_);unfold Builtin.Dict.pairItems;obtain⟨oq,hoq,hcq,nq,hdq⟩:=hqt1;refine g0 (g1c (s:={s with heap:=h'}) (T:="tuple") ⟨oq,hoq,hcq⟩ ?_);rw [mi (by decide)];refine g0 (g0l (s:={s with heap:=h'}) hoq hdq (g9 ?_));dsimp only [Option.getD_some];refine nz ?_;have hnone:atKey (ps.take i) p.1=none:=by
   refine atKey_none_of_get fun jj pp e=>?_;have hjj:jj<i:=by
    have:=(my.mp e).1;rw [ni] at this;lia
   have e':ps[jj]? = some (p.1,pp):=by rw [g2h hjj] at e;exact e
   have:=idxH_unique hnd e' (show ps[i]? = some (p.1,p.2) from hp);lia
  refine wpAny_dictSet_heap (s:={s with heap:=h'}) (show(TK prog w).room A.in1 from hu) hkey1 hd1 (fun h2 hd2 hs2=>?_) (by rw [ni];lia);rw [storedH_new hnone,show ps.take i++[(p.1,p.2.1,p.2.2)]=ps.take (i+1) by rw [g42,hp];rfl] at hd2;have ne2:∀b o,h0.get? b=some o->b≠S:=fun b o e=>m9 (gm (hN b o e) hSN);refine g9 ⟨g1n q1u _,ih (i+1) _ _ _ (by lia) hlt ?_ (fun b o e=>?_) hd2 fun s' a1 a2 a3 a4 a5 a6=>?_⟩
  ·obtain⟨o,ho,r⟩:=hit'
   exact⟨o,hs2.extBut I o (mv hSI) ho,r⟩
  ·exact hs2.extBut b o (ne2 b o e) (keep1 b o e)
  ·exact hR s' a1 a2 a3 (ml (g26 _ _) a4) a5 a6
end
section
variable{prog:Program}{w:World}{A:Around}{E:Value->Shared->Prop}{s:Shared}
theorem q6s{L:Addr}{vs:List Value}{n0:Nat}{ps:List (List Int×Addr×Value)}{Q:Value->Shared->Prop}(hu:A.units+4<cLine)(hh:A.handled=none){sl:Array (Option Value)}(hL:s.heap.get? L=some {cls:=.type "list",dict:=none,data:=.seq vs.toArray n0,slots:=sl})(P0:Prs prog w s.heap vs ps)(hnd:(ps.map (·.1)).Nodup)(hz:ps.length<=sizeLine)
  (h:∀h' tk,(∀b o,s.heap.get? b=some o->h'.get? b=some o)->h'.DictOfH (TK prog w) s.heap.objs.size ps->Q (.ref s.heap.objs.size) {s with heap:=h',toks:=tk}) :
  wpAny (model prog w) A (call (.type "dict") [.ref L]) Q E s:=by
 refine callType_codes (Q₁:=fun obj s₁=>obj=.ref s.heap.objs.size/\s₁ = {s with heap:=s.heap.push {cls:=.type "dict",data:=.dict #[]} }) F.kt_called_dict (F.kt_typeCall_dict_1 _) F.entry_dict_init (kt_code_dict_new _ ⟨rfl,rfl⟩) ?_
 rintro obj s₁ ⟨rfl,rfl⟩
 let dO:Obj:={cls:=.type "dict",data:=.dict #[]}
 have hnew:(s.heap.push dO).DictOfH (TK prog w) s.heap.objs.size []:=Heap.DictOfH.new s.heap;have hTd:Shared.TypeIs {s with heap:=s.heap.push dO} (.ref s.heap.objs.size) "dict" :=⟨dO,gr _ rfl,rfl⟩
 have hL1:(s.heap.push dO).get? L=some {cls:=.type "list",dict:=none,data:=.seq vs.toArray n0,slots:=sl}:=gd _ hL;refine⟨hTd,F.args_dict_init_2 _ _,?_⟩;unfold Builtin.«dict.__init__»;refine g0 ?_;unfold Builtin.Dict.selfAndRest;refine g0 (wpAny_notOrdered_dict hTd ?_);show wpAny _ _ (pure (s.heap.objs.size,[Value.ref L])) _ _ _;refine g9 ?_;show wpAny _ _ (Builtin.Dict.updateFrom "dict.__init__" s.heap.objs.size (.ref L) [] .none) _ _ _;unfold Builtin.Dict.updateFrom;refine g0 (g1c (T:="list") ⟨_,hL1,rfl⟩ ?_);rw [mi (by decide)];refine g0 (qgr (s:={s with heap:=s.heap.push dO}) hL1 (by simpa using hh) fun h1 tk1 k1=>?_);rw [mi (by rfl)];refine g0 (g00 ?_);have hL2:h1.IsList L vs.toArray:=⟨_,k1 _ _ hL1,rfl,n0,rfl⟩
 refine g0 (g30 (s:={s with heap:=h1,toks:=tk1}) hL2 ?_)
 let iO:Obj:={cls:=.type "list_iterator",data:=.fields #[.ref L,.int 0 0]}
 have hz1:s.heap.objs.size+1<=h1.objs.size:=gw (k1 _ _ (gr s.heap (o:=dO) rfl));have hLs:L<s.heap.objs.size:=gw hL;have keep:∀b o,s.heap.get? b=some o->(h1.push iO).get? b=some o:=fun b o e=>gd _ (k1 b o (gd _ e));have hd0:(h1.push iO).DictOfH (TK prog w) s.heap.objs.size []:=by
  obtain⟨o,es,ep,ho,hc,hdd,hes,his,hn⟩:=hnew;exact⟨o,es,ep,gd _ (k1 _ _ ho),hc,hdd,hes,fun x hx=>(nomatch hx),hn⟩
 refine g9 ⟨g1n q1u _,qgs (A:=A.in1) (N:=s.heap.objs.size) (I:=h1.objs.size) (S:=s.heap.objs.size) (L:=L) (vs:=vs) (ps:=ps) (by show A.units+1+1<cLine;lia) (by simpa using hh) (gu _) (g1a hz1) hLs (m9 hz1) s.heap (fun b o e=>gw e) P0 ⟨_,hL,rfl,n0,rfl⟩ hnd hz
  ps.length 0 _ _ _ rfl (uy _) ⟨iO,gr _ rfl,rfl,rfl⟩ keep hd0 fun s' a1 a2 a3 a4 a5 a6=>?_⟩
 obtain⟨h',g',d',tk',os'⟩:=s';dsimp only at a1 a2 a3 a4 a5 a6;subst a1;subst a2;subst a3;exact⟨rfl,h h' tk' a5 a6⟩
end
end Js
namespace DL
open PySem PySem.Spec PyProof.Rows L2
variable[Lam]
def q5n:List D->Option (List (List Int)×List D)
 | []=>some ([],[])
 | .tup [.tup kd,v] :: r=>(xo kd).bind fun k=>(q5n r).map fun p=>(k :: p.1,v :: p.2)
 | _ :: _=>none
def q6t:List D->Option D
 | [.lst ds]=>(q5n ds).bind fun p=>if p.1.Nodup/\ds.length<=lim then some (.dtt p.1 p.2) else none
 | _=>none
def q33:D->D->Option D
 | .tup kd,.dtt ks _=>(xo kd).map fun k=>.bl (decide (k∈ks))
 | _,_=>none
omit [Lam] in
theorem ints_rep{K:Frag}{F:Hp}: ∀ {kd:List D} {xs:List V} {k:List Int},xo kd=some k->RepL K F kd xs->xs=k.map V.int
 | [],xs,k,h,r=>by cases h;exact r.nil_inv
 | .int i :: kd,xs,k,h,r=>by
  obtain⟨k',h1,rfl⟩:=gz.mp h;obtain⟨x,ys,rfl,a1,a2⟩:=r.cons_inv;rw [rep_int.mp a1,ints_rep h1 a2];rfl
 | .non :: _,_,_,h,_=>by cases h
 | .bl _ :: _,_,_,h,_=>by cases h
 | .str _ :: _,_,_,h,_=>by cases h
 | .tup _ :: _,_,_,h,_=>by cases h
 | .lst _ :: _,_,_,h,_=>by cases h
 | .dct _ _ :: _,_,_,h,_=>by cases h
 | .dtt _ _ :: _,_,_,h,_=>by cases h
 | .obj _ :: _,_,_,h,_=>by cases h
 | .exc _ :: _,_,_,h,_=>by cases h
omit [Lam] in
theorem items_int{P:Program}{w:World}: ∀ {k:List Int} {us:List Value},Vals (k.map V.int) us->ItemsAre (intKind P w) k us
 | [],_,r=>by cases r;exact .nil
 | i :: k,_,r=>by
  cases r with
  | cons h t=>
   obtain⟨tk,rfl⟩:=h;exact .cons (g3r _ _ _ _) (items_int t)
section
variable{X:Cx}{pins:List (Addr×Obj)}{σ : St}{H F:Hp}{s:Shared}
omit [Lam] in
theorem q1k(I:Inv X pins σ H s)(fh:Same F H){k:List Int}{a:Addr}(h:SqT X.K F a (k.map V.int)): (Js.TK X.prog X.w).is s.heap k a:=by
 obtain⟨its,r,⟨o,ho,hc,n,hd⟩,_⟩:=I.tuple (qh fh h);exact⟨o,its.toArray,n,ho,hc,hd,by simpa using items_int r⟩
omit [Lam] in
theorem qgt (I:Inv X pins σ H s) (fh:Same F H):∀ {ds:List D} {ys:List V} {its:List Value} {ks:List (List Int)} {vs:List D},q5n ds=some (ks,vs)->RepL X.K F ds ys->Vals ys its ->
  ∃(ps:List (List Int×Addr×Value)) (ws:List V),Js.Prs X.prog X.w s.heap its ps/\ps.map (·.1)=ks/\(∀p∈ps,SqT X.K F p.2.1 (p.1.map V.int))/\Vals ws (ps.map fun p=>p.2.2)/\RepL X.K F vs ws
 | [],ys,its,ks,vs,h,k,r=>by
  cases h;cases k.nil_inv;cases r;exact⟨[],[],⟨rfl,fun i p e=>by simp at e,fun p hp=>(nomatch hp)⟩,rfl,fun p hp=>(nomatch hp),.nil,.nil⟩
 | d :: ds,ys,its,ks,vs,h,k,r=>by
  unfold q5n at h
  split at h
  ·cases ‹_ :: _=[]›
  ·rename_i kd v r' e
   injection e with e1 e2
   subst e1;subst e2;obtain⟨kk,h1,h2⟩:=gc.mp h;obtain⟨p,h3,h4⟩:=gz.mp h2;cases h4;obtain⟨x,ys',rfl,a1,a2⟩:=k.cons_inv;obtain⟨q,qs,rfl,b1,b2⟩:=rep_tup.mp a1;obtain⟨x1,z1,rfl,c1,c2⟩:=b2.cons_inv;obtain⟨x2,z2,rfl,d1,d2⟩:=c2.cons_inv;cases d2.nil_inv;obtain⟨ka,kxs,rfl,k1,k2⟩:=rep_tup.mp c1;rw [ints_rep h1 k2] at k1;cases r with
   | cons r1 r2=>
    cases r1;obtain⟨uu,hu,⟨oq,hoq,hcq,nq,hdq⟩,_⟩:=I.tuple (qh fh b1);cases hu with
    | cons u1 u2=>
     cases u1;cases u2 with
     | cons u3 u4=>
      cases u4;rename_i uv;obtain⟨ps,ws,P,e1,e2,e3,e4⟩:=qgt I fh h3 a2 r2;refine⟨(kk,ka,uv) :: ps,x2 :: ws,⟨by simp [P.len],fun i p e=>?_,fun p hp=>?_⟩,by simp [e1],fun p hp=>?_,.cons u3 e3,.cons d1 e4⟩
      ·cases i with
       | zero=>
        simp only [g2y,g2z] at e;subst e;exact⟨q,rfl,oq,hoq,hcq,nq,hdq⟩
       | succ i=>exact P.pair i p (by simpa using e)
      ·rcases me.mp hp with rfl|hp
       ·exact q1k I fh k1
       ·exact P.key p hp
      ·rcases me.mp hp with rfl|hp
       ·exact k1
       ·exact e2 p hp
  ·cases h
end
section
variable{X:Cx}
theorem qdr(hc:X.calm=true)(hu:X.A.units+64<cLine): xm X (.type "dict") (rC X.K q6t):=fun pins s σ H xs us Q I rv ⟨F,ds,d,fh,rl,ho,q⟩=>by
 unfold q6t at ho
 split at ho
 ·rename_i ds'
  obtain⟨⟨ks,vs⟩,h1,h2⟩:=gc.mp ho
  split at h2
  ·rename_i hok
   cases h2;obtain⟨x,rfl,rx⟩:=rep1 rl;obtain⟨a,ys,rfl,k1,k2⟩:=rep_lst.mp rx;obtain⟨u,rfl,ru⟩:=vals1 rv;cases ru;obtain⟨its,r1,⟨o,n,e1,e2,e3,e4⟩,hz⟩:=I.list (fh.seq k1);obtain⟨oc,od,oda,osl⟩:=o;dsimp only at e2 e3 e4;subst e2;subst e3;subst e4;obtain⟨ps,ws,P,p1,p2,p3,p4⟩:=qgt I fh h1 k2 r1;have hl:ps.length<=lim:=by
    rw [<- P.len, <- r1.length, <- k2.length];exact hok.2
   refine Js.q6s (by lia) (I.ok.hd hc) e1 P (by rw [p1];exact hok.1) (ja hl) fun h' tk old hd=>?_;have hnn:H s.heap.objs.size=none:=I.hok.fresh (gu _);obtain⟨o,es,ep,g1,g2,g3,g4,_,g5⟩:=hd;have de:DE s.heap.objs.size ps ep h':=⟨o,es,g1,g2,g3,g4⟩
   refine⟨.ref _,_,I.laid (t':=tk) (a:=s.heap.objs.size) (o:=.ext (DE s.heap.objs.size ps ep)) old (gu _) ⟨de,⟨o,g1⟩,fun h1 h2 ⟨o,es,z,r⟩ e=>⟨o,es,e o z,r⟩⟩,rfl,?_⟩;have g:=Grow.new (o:=.ext (DE s.heap.objs.size ps ep)) fh hnn;refine q _ _ _ g (rep_dtt.mpr ⟨_,ps,ws,ep,rfl,ql,p1,hok.1,ja hl,g1i.mpr (uh (qdb I)),fun x hx=>qh g.ff (p2 x hx),p3,p4.mono g.ff⟩)
  ·cases h2
 ·cases ho
theorem qgu(hu:X.A.units+64<cLine): OpR X (compareOp .In) (rD X.K q33):=fun pins s σ H x y v u Q I rx ry ⟨F,d1,d2,d,fh,r1,r2,ho,q⟩=>by
 unfold q33 at ho
 split at ho
 ·rename_i kd ks vs
  obtain⟨k,h1,rfl⟩:=gz.mp ho;obtain⟨b,kxs,rfl,k1,k2⟩:=rep_tup.mp r1;obtain⟨a,xs,ys,ep,rfl,e1,e2,e3,e4,e5,e6,e7,e8⟩:=rep_dtt.mp r2;cases rx;cases ry;rw [ints_rep h1 k2] at k1;obtain⟨⟨o,es,g1,g2,g3,g4⟩,_,_⟩:=(show ObjOk X.prog X.w H s.heap a _ from I.hok a _ (fh _ _ e1))
  have dd:s.heap.DictOfH (Js.TK X.prog X.w) a xs:=⟨o,es,ep,g1,g2,g3,g4,fun x hx=>q1k I fh (e6 x hx),by rw [e2];exact e3⟩
  refine wpAny_in_heap (g4c (by lia)) (q1k I fh k1) e5 dd ?_;have:(atKey xs k).isSome=decide (k∈ks):=by
   rw [<- e2,uw,g0g]
   constructor
   ·intro h
    obtain⟨p,hp⟩:=g0p.mp h;obtain⟨z,hz,rfl⟩:=gz.mp hp;have:=List.find?_some hz;exact mx.mpr ⟨z,List.mem_of_find?_eq_some hz,by simpa using this⟩
   ·intro h
    obtain⟨z,hz,rfl⟩:=mx.mp h;obtain⟨i,hi⟩:=g3g.mp hz;rw [atKey_of_get (by rw [e2];exact e3) (show xs[i]? = some (z.1,z.2) from hi)]
    rfl
  rw [this];exact⟨.bl _,H,I.tok _,rfl,q _ F H (.refl fh) (rep_bl.mpr rfl)⟩
 ·cases ho
end
section
variable{X:Cx}
end
section
variable{X:Cx}{e:Expr}{pos:Pos}{f:FE}
end
section
variable{X:Cx}{N':List Str}{scope:Scope}{cap:List (Option Nat)}{tg iter elt:Expr}{ifs:List Expr}{it:FA}{b:FB}{c:FT}{f:FE}{pos:Pos}
theorem z7(hc:X.calm=true)(co:CapOkC X N' scope cap)(fr:q99 b cap)(hi:PI X tg iter (tDI X.K it))
  (hg:∀cl C s₀ H₀ fp,PG (zp X N' scope cl C s₀ H₀ fp) tg (tDG X.K b)) (hcs:∀cl C s₀ H₀ fp,q0o (zp X N' scope cl C s₀ H₀ fp) ifs (tDT X.K c)) (he:∀cl C s₀ H₀ fp,PE (zp X N' scope cl C s₀ H₀ fp) elt (tD X.K f))
  (hs:∀x,foldedSetIterable iter X.env x=pure x:=by intro _;rfl):PE X (.ListComp elt [⟨tg,iter,ifs,0⟩] scope pos) (tL X.K (qm it cap b c f)):=
 zt (qi0 hc co hi hg hcs he hs) fun σ H Q h=>qg3 fr h
end
def qk3 (outer:List (Str×NameKind)) (N N':List Str) (scope:Scope) (cap:List (Option Nat)):Bool:=
 scope.names.all (fun y=> !(y.2 == .cell) || (scope.names.lookup y.1==some .cell))&&(scope.names.all (fun y=> !(y.2 == .local) || (scope.names.lookup y.1==some .local))&&(scope.names.all (fun y=> !(y.2 == .free) || (outer.lookup y.1==some .cell) || (outer.lookup y.1==some .free)) &&
  (cap.length==N'.length&&(List.range cap.length).all fun i=>match(cap[i]?).join with
   | none=>true
   | some j=>match N'[i]? with
    | none=>false
    | some x=>N[j]? == some x&&scope.names.lookup x==some .free)))
omit [Lam] in
theorem qv{X:Cx}{N':List Str}{scope:Scope}{cap:List (Option Nat)}(hk:scope.kind=.function)(h:qk3 X.env.scope.names X.N N' scope cap=true): CapOkC X N' scope cap:=by
 unfold qk3 at h;simp only [m6,n9] at h;obtain⟨h1,h2,h3,h4,h5⟩:=h;refine⟨hk,fun y hy e=>?_,fun y hy e=>?_,fun y hy e=>?_,by simpa using h4,fun i j e=>?_⟩
 ·have:=h1 y hy;rw [e] at this;simpa using this
 ·have:=h2 y hy;rw [e] at this;simpa using this
 ·have:=h3 y hy
  rw [e] at this;simp only [beq_self_eq_true,g0j,g3b,g0q,g3h] at this;exact this
 ·have hi:i<cap.length:=(my.mp e).1
  have:=h5 i (tx.mpr hi);rw [e] at this;simp only [g3c] at this
  split at this
  ·cases this
  ·rename_i x hx
   simp only [m6,g3h] at this;exact⟨x,hx,this.1,this.2⟩
end DL
namespace Js
open PySem PyProof.Rows
section
variable{prog:Program}{w:World}{A:Around}{E:Value->Shared->Prop}{s:Shared}
theorem q7l{it d:Addr}{i ep:Nat}{od:Obj}{es:Array DictEntry}{Q:Option Value->Shared->Prop}(hit:s.heap.IsKeyIter it d i es.size ep)(hod:s.heap.get? d=some od)(hdd:od.data=.dict es ep)(hlt:i<es.size)
  (hQ:∀h',h'.IsKeyIter it d (i+1) es.size ep->Heap.SameBut it s.heap h'->Q (some (es[i]'hlt).key) {s with heap:=h'}):wpAny (model prog w) A (pyNext (.ref it)) Q E s:=by
 obtain⟨o,ho,hc,hd⟩:=id hit;unfold pyNext;refine g0 (g0i (t6 hit.typeIs g0d (p5 g0d hit.typeIs g3w ?_ (g3t _))));unfold Builtin.«dict_keyiterator.__next__»
 wp_delta
 wp_walk using g07 hit.typeIs,g0t hit.typeIs,g43 ho hd,g4r hod hdd,g5j hod hdd,g15 hit.typeIs
 rw [mf (by omega:¬((i:Int)<0)),show((i:Int)).toNat=i from by simp,g1e es i hlt];dsimp only;have hit':(s.heap.update it (Obj.mapFields fun x_1=>x_1.setIfInBounds (0+1) (rawInt ((i:Int)+1)))).IsKeyIter it d (i+1) es.size ep:=by
  obtain⟨c1,c2,c3,c4⟩:=o;dsimp only at hc hd;subst hc hd;exact⟨_,g0m _ ho rfl,rfl,rfl⟩
 have T':Shared.TypeIs {s with heap:=s.heap.update it (Obj.mapFields fun x_1=>x_1.setIfInBounds (0+1) (rawInt ((i:Int)+1)))} (.ref it) "dict_keyiterator" :=hit'.typeIs
 wp_walk using g07 hit.typeIs,g0t hit.typeIs,g15 hit.typeIs
 rw [hd];dsimp only;rw [show(if Builtin.Dict_items.ownsTuple "dict_keyiterator" = true then 2 else 0)=0 from by decide +kernel];rw [mi (by simp)];rw [mf (show ¬(List.any _ _=true) from by decide +kernel)];refine wpAny_update ho ?_
 wp_walk using g07 T',g0t T',g15 T'
 exact⟨_,rfl,g9 (hQ _ hit' ⟨p6 ..,fun b hb=>u9 _ _ _ _ hb⟩)⟩
theorem q94{it d:Addr}{ep:Nat}{od:Obj}{es:Array DictEntry}{Q:Option Value->Shared->Prop}(hh:A.handled=none)(hit:s.heap.IsKeyIter it d es.size es.size ep)(hod:s.heap.get? d=some od)(hdd:od.data=.dict es ep)
  (hQ:∀h',Heap.ExtBut it s.heap h'->Q none {s with heap:=h'}):wpAny (model prog w) A (pyNext (.ref it)) Q E s:=by
 obtain⟨o,ho,hc,hd⟩:=id hit;unfold pyNext;refine g0 (g0i (t6 hit.typeIs g0d (p5 g0d hit.typeIs g3w ?_ (g3t _))));unfold Builtin.«dict_keyiterator.__next__»
 wp_delta
 wp_walk using g07 hit.typeIs,g0t hit.typeIs,g43 ho hd,g4r hod hdd,g5j hod hdd,g15 hit.typeIs
 rw [mf (by omega:¬((es.size:Int)<0)),show((es.size:Int)).toNat=es.size from by simp,Array.getElem?_size];dsimp only
 wp_walk using g07 hit.typeIs,g0t hit.typeIs,g15 hit.typeIs
 rw [hd];dsimp only;rw [show(if Builtin.Dict_items.ownsTuple "dict_keyiterator" = true then 2 else 0)=0 from by decide +kernel];rw [mi (by simp)];refine wpAny_update ho ?_;have hA1:A.in1.handled=none:=hh
 wp_walk using td,g4h hA1
 ·dsimp only
  unfold raiseNew
  wp_walk using g4h hA1,wpAny_throw
  refine g5l isSubtype_stop (g9 ?_);exact(hQ _ (((u6 _ _ _).extBut.push _).push _))
 ·exact sizeOk_excFields _ _ _ _ _ _ _ _
 ·show(0:Nat)<=_
  exact uy _
theorem qgv{d:Addr}{ep:Nat}{od:Obj}{es:Array DictEntry}{Q:Value->Shared->Prop}(hs:(d==sysModules)=false)(hod:s.heap.get? d=some od)(hx:od.ExactDict)(hdd:od.data=.dict es ep)
  (hQ:Q (.ref s.heap.objs.size) {s with heap:=s.heap.push {cls:=.type "dict_keyiterator",data:=.fields #[.ref d,.int 0 0,.int (es.size:Int) 0,.int (ep:Int) 0]} }):wpAny (model prog w) A (pyIter (.ref d)) Q E s:=by
 have hT:s.TypeIs (.ref d) "dict" :=⟨od,hod,hx.1⟩
 refine g4q hT F.slot_dict_iter (p5 F.slot_dict_iter hT F.entry_dict_iter ?_ (F.args_dict_iter_1 _));unfold Builtin.«dict.__iter__»
 wp_walk using wpAny_notOrdered_dict hT,g4r hod hdd,g5j hod hdd
 exact⟨_,rfl,"dict_keyiterator",_,⟨_,gr _ rfl,rfl⟩,g0d.lookup,hQ⟩
end
end Js
namespace DL
open PySem PySem.Spec PyProof.Rows L2
variable[Lam]
section
variable{X:Cx}{pos:Pos}
def q0b:D->D->Option D
 | .dtt ks vs,.tup kd=>(xo kd).bind fun k=>if k∈ks then vs[ks.idxOf k]? else none
 | _,_=>none
theorem qo5(hu:X.A.units+64<cLine): IxR X (rD X.K q0b):=by
 intro value slice pins s σ H x y v u Q I rx ry ⟨F,d1,d2,d,fh,r1,r2,ho,q⟩ hs;unfold q0b at ho
 split at ho
 ·rename_i ks vs kd
  obtain⟨k,h1,ho⟩:=gc.mp ho
  split at ho
  ·rename_i hk
   obtain⟨b,kxs,rfl,k1,k2⟩:=rep_tup.mp r2;obtain⟨a,xs,ys,ep,rfl,e1,e2,e3,e4,e5,e6,e7,e8⟩:=rep_dtt.mp r1;cases rx;cases ry;rw [ints_rep h1 k2] at k1;obtain⟨⟨o,es,g1,g2,g3,g4⟩,_,_⟩:=(show ObjOk X.prog X.w H s.heap a _ from I.hok a _ (fh _ _ e1))
   have dd:s.heap.DictOfH (Js.TK X.prog X.w) a xs:=⟨o,es,ep,g1,g2,g3,g4,fun x hx=>q1k I fh (e6 x hx),by rw [e2];exact e3⟩
   obtain⟨w,ew,rw'⟩:=e8.get ho;obtain⟨uu,eu,ruu⟩:=e7.get ew;rw [mn] at eu;obtain⟨z,hz,rfl⟩:=gz.mp eu;have hzk:z.1=k:=by
    have h2:(xs.map (·.1))[ks.idxOf k]? = some z.1:=by rw [mn,hz];rfl
    rw [e2,mr (g4d hk),List.getElem_idxOf] at h2;exact(m8 h2).symm
   refine tail_any (ops:=[.ref a,.ref b]) (T:="dict") ⟨o,g1,g2.1⟩ PySem.F.slot_dict_getitem.lookup ?_ hs;refine wpAny_getItem_heap (g4c (by lia)) (q1k I fh k1) dd (p:=z.2) ?_ ⟨w,H,I.tok _,ruu,q w F H (.refl fh) rw'⟩;rw [<- hzk];exact atKey_of_get (by rw [e2];exact e3) (show xs[ks.idxOf k]? = some (z.1,z.2) from hz)
  ·cases ho
 ·cases ho
theorem q6u{a b:Expr}{f g:FE}(hu:X.A.units+64<cLine)(ha:PE X a (tD X.K f))(hb:PE X b (tD X.K g))(hs:q78 b:=by intro _ _;rfl): PE X (.Subscript a b pos) (tD X.K (eOp q0b f g)):=zt (qjv (qo5 hu) ha hb hs) fun σ H Q h=>two h
end
abbrev DX:=List (List Int×Addr×Value)
def Itd(a:Addr)(xs:DX)(ep:Nat): It:=
 ⟨fun i H=>H a=some (.ext (DE a xs ep))/\i<xs.length,fun i H v H'=>H'=H/\∃x,xs[i]? = some x/\v=.ref x.2.1,fun i H=>H a=some (.ext (DE a xs ep))/\xs.length<=i⟩
theorem qgw{P:Program}{w:World}{K:Frag}{tg:Expr}(a it:Addr)(xs:DX)(ep:Nat): Turn P w K tg (Itd a xs ep) [it] it (fun i h=>i<=xs.length/\h.IsKeyIter it a i xs.length ep) where
 mem:=by simp
 obj:=fun i h st b hb=>by
  have e:b=it:=by simpa using hb
  subst e;obtain⟨_,o,e,c,d⟩:=st;exact⟨o,e,fun v z=>by rw [d] at z;cases z⟩
 keep:=fun i h h' st k=>⟨st.1,st.2.at fun o e=>k it (by simp) o e⟩
 item:=by
  intro X hP hw hK hc i pins s σ H E I hf st hg;subst hP hw hK;obtain⟨hq,hi⟩:=hg;obtain⟨⟨o,es,g1,g2,g3,g4⟩,_,_⟩:=(show ObjOk X.prog X.w H s.heap a _ from I.hok a _ hq)
  have hsz:es.size=xs.length:=by rw [<- ng,g4,mj]
  obtain⟨f0,f1,f2,f3,f4,f5⟩:=hf it (by simp);have st2:=st.2;rw [<- hsz] at st2;have hi':i<es.size:=by rw [hsz];exact hi
  refine Js.q7l st2 g1 g3 hi' fun h' st' sb=>?_;have I1:Inv X pins σ H {s with heap:=h'}:=I.turned (t':=s.toks) (fun b o hb e=>(sb.2 b hb).trans e) f0 f1 f3 f4 f5;obtain⟨o',e,c,d⟩:=id st';have hx:xs[i]? = some xs[i]:=mr hi;have hk:(es[i]'hi').key=.ref xs[i].2.1:=by
   have h2:es.toList[i]? = some (qna xs[i]):=by rw [g4,mn,hx];rfl
   rw [g03,g1e es i hi'] at h2;rw [m8 h2];rfl
  rw [hsz] at st';exact⟨_,rfl,q97 (s:={s with heap:=h'}) e c d (by decide) ⟨.ref xs[i].2.1,H,I1,by rw [hk];rfl,⟨rfl,_,hx,rfl⟩,⟨hi,st'⟩,fun b hb=>(hf b hb).1⟩⟩
 done:=by
  intro X hP hw hK hc i pins s σ H E I hf st hg;subst hP hw hK;obtain⟨hq,hi⟩:=hg;obtain⟨⟨o,es,g1,g2,g3,g4⟩,_,_⟩:=(show ObjOk X.prog X.w H s.heap a _ from I.hok a _ hq)
  have hsz:es.size=xs.length:=by rw [<- ng,g4,mj]
  obtain⟨f0,f1,f2,f3,f4,f5⟩:=hf it (by simp);have st2:=st.2;rw [show i=xs.length from Nat.le_antisymm st.1 hi, <- hsz] at st2;exact Js.q94 (I.ok.hd hc) st2 g1 g3 fun h' eb=>⟨rfl,I.turned (t':=s.toks) (fun b o hb e=>eb b o hb e) f0 f1 f3 f4 f5⟩
 self:=fun _ _ _ _ _ st h=>wpAny_pyIter_keyiter st.2 h
abbrev q34(ks:List (List Int)): List D:=ks.map fun k=>.tup (k.map .int)
theorem qj8{K:Frag}{F:Hp}{a:Addr}{xs:DX}{ep:Nat}{ks:List (List Int)}(h:F a=some (.ext (DE a xs ep)))(e2:xs.map (·.1)=ks)(e6:∀x∈xs,SqT K F x.2.1 (x.1.map V.int)): ItD K F (q34 ks) (Itd a xs ep) where
 go:=fun i F' H s1 s2 hi=>⟨s2 _ _ (s1 _ _ h),by rw [<- e2] at hi;simpa using hi⟩
 yld:=fun i d F' H x H' s1 s2 hi ⟨e,y,hy,hx⟩=>by
  subst e hx e2;rw [mn,mn,hy] at hi;cases hi;exact⟨F',.refl s2,rep_tup.mpr ⟨_,_,rfl,qh s1 (e6 y (tq hy)),RepL.ints.mpr rfl⟩⟩
 stop:=fun i F' H s1 s2 hi=>⟨s2 _ _ (s1 _ _ h),by rw [<- e2] at hi;simpa using hi⟩
section
variable{X:Cx}{pos:Pos}{tg e:Expr}
theorem qlr{l:Expr}{tl:TE}(hl:PE X l tl): PI X tg l (fun σ H R=>tl σ H fun x H1=>∃a xs ep,x=.ref a/\H1 a=some (.ext (DE a xs ep))/\(a==sysModules)=false/\R (Itd a xs ep) H1):=by
 intro pins s σ H R I h;refine thn (hl pins s σ H _ I h) fun v s1 ⟨x,H1,I1,r1,q1⟩=>?_;obtain⟨a,xs,ep,e,hq,hm,q⟩:=q1;subst e;cases r1;obtain⟨⟨o,es,g1,g2,g3,g4⟩,_,_⟩:=(show ObjOk X.prog X.w H1 s1.heap a _ from I1.hok a _ hq)
 have hsz:es.size=xs.length:=by rw [<- ng,g4,mj]
 refine Js.qgv hm g1 g2 g3 ?_;refine⟨s1.heap.objs.size,[s1.heap.objs.size],_,_,H1,rfl,I1.kept (t':=s1.toks) fun b o e=>gd _ e,qgw a _ xs ep,⟨uy _,_,gr _ rfl,rfl,by rw [hsz];rfl⟩,fun b hb=>?_,q⟩;have e:b=s1.heap.objs.size:=by simpa using hb
 subst e;exact I1.fpOk (gu _) (I1.hok.fresh (gu _))
def q5o(f:FE): FA:=fun ρ =>(f ρ).bind fun d=>match d with
 | .dtt ks _=>some (q34 ks)
 | _=>none
theorem qat{f:FE}(h:PE X e (tD X.K f)): PI X tg e (tDI X.K (q5o f)):=q6d (qlr h) fun σ H R ⟨F0,H0,F, ρ,ds,r,hf,q⟩=>by
 obtain⟨d,h1,h2⟩:=gc.mp hf;refine⟨F0,H0,F, ρ,d,r,h1,fun v F' H' g' r'=>?_⟩
 split at h2
 ·cases h2
  obtain⟨a,xs,ys,ep,rfl,e1,e2,e3,e4,e5,e6,e7,e8⟩:=rep_dtt.mp r';exact⟨a,xs,ep,rfl,g'.fh _ _ e1,e5,q _ F' H' g' (qj8 e1 e2 e6)⟩
 ·cases h2
end
section
variable{X:Cx}{pos:Pos}
theorem q8i:PE X (.Dict [] [] pos) (fun σ H Q=>∀a,H a=none->(a==sysModules)=false->Q (.ref a) (upd H a (.ext (DE a [] 0)))):=fun pins s σ H Q I q=>by
 have hn:H s.heap.objs.size=none:=I.hok.fresh (gu _);have hb:=g1i.mpr (mv (m9 (qdb I)));refine wpAny_Dict_empty ⟨.ref s.heap.objs.size,_,I.laid (a:=s.heap.objs.size) (o:=.ext (DE s.heap.objs.size [] 0)) (t':=s.toks) (fun _ _ z=>gd _ z) (gu _)
  ⟨⟨_, #[],gr _ rfl,⟨rfl,rfl,rfl⟩,rfl,rfl⟩,⟨_,gr _ rfl⟩,fun h1 h2 ⟨o,es,z,r⟩ e=>⟨o,es,e o z,r⟩⟩,rfl,q _ hn hb⟩
def qep(K:Frag): V->V->V->Hp->(Hp->Prop)->Prop:=fun o i v H Q=>∃a b k xs ep,o=.ref a/\i=.ref b/\H a=some (.ext (DE a xs ep))/\SqT K H b (k.map V.int)/\(∀x∈xs,SqT K H x.2.1 (x.1.map V.int)) /\
 (xs.map (·.1)).Nodup/\k∉xs.map (·.1)/\xs.length<=sizeLine/\∀u ep',RelV v u->(∃h,DE a xs ep h)->Q (upd H a (.ext (DE a (xs++[(k,b,u)]) ep')))
theorem qc6{xs:DX}{k:List Int}{b:Addr}{u:Value}(h:k∉xs.map (·.1)): storedH xs k b u=xs++[(k,b,u)]:=by
 have hn:atKey xs k=none:=atKey_none_of_get fun jj pp e=>h (mx.mpr ⟨_,tq e,rfl⟩);exact storedH_new hn b u
theorem qds(hu:X.A.units+64<cLine): qmn X (qep X.K):=by
 intro pins s σ H o i v ov iv u Q I ro ri rv h;obtain⟨a,b,k,xs,ep,rfl,rfl,e1,k1,e6,nd,hk,hz,q⟩:=h;cases ro;cases ri;obtain⟨⟨o,es,g1,g2,g3,g4⟩,_,_⟩:=(show ObjOk X.prog X.w H s.heap a _ from I.hok a _ e1)
 have dd:s.heap.DictOfH (Js.TK X.prog X.w) a xs:=⟨o,es,ep,g1,g2,g3,g4,fun x hx=>q1k I (.refl _) (e6 x hx),nd⟩
 refine wpAny_setItem_heap (g4c (by lia)) (q1k I (.refl _) k1) dd (fun h' dd' sb=>?_) hz;rw [qc6 hk] at dd';obtain⟨o',es',ep',z1,z2,z3,z4,_,_⟩:=dd';refine⟨_,I.write (x:=a) (e:=a) (o:=.ext (DE a (xs++[(k,b,u)]) ep')) (by rw [e1];trivial) (.inl rfl) (fun c w hc e=>(sb.2 c hc).trans e) ⟨_,z1⟩ ?_,q u ep' rv ⟨_,o,es,g1,g2,g3,g4⟩⟩;exact⟨⟨o',es',z1,z2,z3,z4⟩,⟨o',z1⟩,fun h1 h2 ⟨o,es,z,r⟩ e=>⟨o,es,e o z,r⟩⟩
omit [Lam] in
theorem qj9{a c:Addr}{xs:DX}{ep:Nat}{h:Heap}{b:Str}(d:DE a xs ep h)(k:h.CodeRec (.ref c) b): a≠c:=fun z=>by
 subst z;obtain⟨o,es,g1,g2,g3,g4⟩:=d;obtain⟨c,o',vs,t,e0,e1,e2,_⟩:=k;cases e0;rw [g1] at e1;cases e1;rw [g3] at e2;cases e2
theorem qau{H:Hp}(t:Tab H){p:Addr}{o:HO}{xs:DX}{ep:Nat}(h:H p=some (.ext (DE p xs ep)))(hx:∃h,DE p xs ep h): Tab (upd H p o):=fun q hq=>by
 obtain⟨ps,e,ht,k⟩:=t q hq;obtain⟨h0,hd⟩:=hx;refine⟨ps,by rw [qi (fun z=>by subst z;rw [h] at e;cases e)];exact e,ht,fun pos cv z=>?_⟩;obtain⟨c, φ,e1,e2,e3⟩:=k pos cv z;refine⟨c, φ,e1,?_,e3⟩
 by_cases hc:c=p
 ·subst hc
  rw [h] at e2;cases e2;exact absurd rfl (qj9 hd (e3 h0 hd))
 ·rw [qi hc];exact e2
end
section
variable{K:Frag}{F0 H0 F H F' H':Hp}{σ : St}{ρ : Rho}
theorem w8{i:Nat}(no:xn ρ): xn (ρ.set i none):=fun j b h=>by
 by_cases q:j=i
 ·subst q
  obtain⟨z,_⟩:=qo h;cases z
 ·rw [gh (mv q)] at h
  exact no j b h
theorem qgx(r:RS K F0 H0 F H σ ρ)(no:xn ρ)(i:Nat)(v:Option V): RS K F0 H0 F H (σ.set i v) (ρ.set i none) where
 t0:=r.t0
 g:=r.g
 len:=by rw [t8,t8];exact r.len
 fz:=fun j e h1=>by
  by_cases q:j=i
  ·subst q
   obtain⟨z,l⟩:=qo h1;cases z
  ·rw [gh (mv q)] at h1 ⊢
   exact r.fz j e h1
 ow:=fun i ds h=>(vc (w8 no) h).elim
 dj:=fun i j ds es a _ h=>(vc (w8 no) h).elim
 od:=fun i ds h=>(vd (w8 no) h).elim
 o1:=fun i j ds es h=>(vd (w8 no) h).elim
theorem q9d(r:RS K F0 H0 F H σ ρ)(no:xn ρ){p:Addr}{o:HO}(h1:F p=none)(h2:H0 p=none)(h3:Tab (upd H p o)): RS K F0 H0 F (upd H p o) σ ρ where
 t0:=r.t0
 g :=⟨r.g.ff,⟨fun b u e=>by rw [qi (fun z=>by subst z;rw [h2] at e;cases e)];exact r.g.hh.lst b u e,fun b u e=>by rw [qi (fun z=>by subst z;rw [h2] at e;cases e)];exact r.g.hh.ext b u e,fun {b} e=>by
   by_cases z:b=p
   ·subst z;exact h2
   ·rw [qi z] at e;exact r.g.hh.free e,fun _=>h3,fun b u e=>by rw [qi (fun z=>by subst z;rw [h2] at e;cases e)];exact r.g.hh.dk b u e⟩,fun b u e=>by rw [qi (fun z=>by subst z;rw [h1] at e;cases e)];exact r.g.fh b u e,r.g.nw⟩
 len:=r.len
 fz:=r.fz
 ow:=fun i ds h=>(vc no h).elim
 dj:=fun i j ds es a _ h=>(vc no h).elim
 od:=fun i ds h=>(vd no h).elim
 o1:=fun i j ds es h=>(vd no h).elim
theorem qgy(r:RS K F0 H0 F H σ ρ)(no:xn ρ){p:Addr}{o:HO}(h1:F p=none)(h2:H0 p=none)(h3:H p=some o): RS K F0 H0 (upd F p o) H σ ρ where
 t0:=r.t0
 g :=⟨r.g.ff.trans (xg h1),r.g.hh,fun b u e=>by
   by_cases q:b=p
   ·subst q;rw [ql] at e;cases e;exact h3
   ·rw [qi q] at e;exact r.g.fh b u e,fun b hb=>by
   by_cases q:b=p
   ·subst q;exact .inr h2
   ·rw [qi q] at hb;exact r.g.nw b hb⟩
 len:=r.len
 fz:=fun i d e=>let⟨v,e1,e2⟩:=r.fz i d e; ⟨v,e1,e2.mono (xg h1)⟩
 ow:=fun i ds h=>(vc no h).elim
 dj:=fun i j ds es a _ h=>(vc no h).elim
 od:=fun i ds h=>(vd no h).elim
 o1:=fun i j ds es h=>(vd no h).elim
theorem qgz(r:RS K F0 H0 F H σ ρ){i:Nat}{d:D}{v:V}(hv : σ[i]? = some (some v))(h:Rep K F d v): RS K F0 H0 F H σ (ρ.set i (some (.fz d))):=by
 have e : σ.set i (some v) = σ :=by
  apply List.ext_getElem?;intro j
  by_cases q:j=i
  ·subst q
   rw [hv,g0h (my.mp hv).1]
  ·rw [gh (mv q)]
 have:=r.set i h;rw [e] at this;exact this
structure GD(K:Frag)(F H:Hp)(a:Addr)(ks:List (List Int))(vs:List D): Prop where
 ex:∃xs ys ep,H a=some (.ext (DE a xs ep))/\xs.map (·.1)=ks/\(∀x∈xs,SqT K F x.2.1 (x.1.map V.int))/\Vals ys (xs.map fun x=>x.2.2)/\RepL K F vs ys
 f:F a=none
theorem GD.grow{a:Addr}{ks:List (List Int)}{vs:List D}(d:GD K F H a ks vs)(g:Grow F H F' H'): GD K F' H' a ks vs:=by
 obtain⟨⟨xs,ys,ep,e1,e2,e3,e4,e5⟩,f⟩:=d;exact⟨⟨xs,ys,ep,g.hh.ext _ _ e1,e2,fun x hx=>qh g.ff (e3 x hx),e4,e5.mono g.ff⟩,q1s g f e1⟩
theorem GD.other{a p:Addr}{ks:List (List Int)}{vs:List D}{o:HO}(d:GD K F H a ks vs)(h:a≠p): GD K F (upd H p o) a ks vs:=by
 obtain⟨⟨xs,ys,ep,e1,e2,e3,e4,e5⟩,f⟩:=d;exact⟨⟨xs,ys,ep,by rw [qi h];exact e1,e2,e3,e4,e5⟩,f⟩
theorem GD.rep{a:Addr}{ks:List (List Int)}{vs:List D}(d:GD K F H a ks vs)(hs:(a==sysModules)=false)(nd:ks.Nodup)(hl:ks.length<=sizeLine): ∃o,H a=some o/\Rep K (upd F a o) (.dtt ks vs) (.ref a):=by
 obtain⟨⟨xs,ys,ep,e1,e2,e3,e4,e5⟩,f⟩:=d;have s:=xg (o:=.ext (DE a xs ep)) f;exact⟨_,e1,rep_dtt.mpr ⟨a,xs,ys,ep,rfl,ql,e2,nd,by rw [<- mj (·.1),e2];exact hl,hs,fun x hx=>qh s (e3 x hx),e4,e5.mono s⟩⟩
theorem GD.push{a b:Addr}{ks:List (List Int)}{vs:List D}{k:List Int}{dv:D}{v:V}{u:Value}{xs:DX}{ys:List V}{ep':Nat}(f:F a=none)(e2:xs.map (·.1)=ks)(e3:∀x∈xs,SqT K F x.2.1 (x.1.map V.int))(e4:Vals ys (xs.map fun x=>x.2.2))(e5:RepL K F vs ys)
  (hb:SqT K F b (k.map V.int)) (hv:Rep K F dv v) (hu:RelV v u):GD K F (upd H a (.ext (DE a (xs++[(k,b,u)]) ep'))) a (ks++[k]) (vs++[dv]):=by
 refine⟨⟨xs++[(k,b,u)],ys++[v],ep',ql,by rw [uf,e2];rfl,fun x hx=>?_,?_,e5.append (.cons hv .nil)⟩,f⟩
 ·rcases nh.mp hx with hx|hx
  ·exact e3 x hx
  ·rw [mw.mp hx];exact hb
 ·rw [uf]
  exact e4.append (.cons hu .nil)
def qav:D->Option (List Int)
 | .tup kd=>xo kd
 | _=>none
def q6v:List D->Option (List (List Int))
 | []=>some []
 | d :: ds=>(qav d).bind fun k=>(q6v ds).map (k :: ·)
def q0c(f:FE)(ρ : Rho)(j:Nat): List D->Option (List D)
 | []=>some []
 | d :: ds=>(f (ρ.set j (some (.fz d)))).bind fun v=>(q0c f ρ j ds).map (v :: ·)
def q5p(ρ : Rho)(j:Nat)(ds:List D): Rho:=match ds.getLast? with
 | some d=> ρ.set j (some (.fz d))
 | none=> ρ
def qh0(ρ : Rho): Bool:= ρ.all fun b=>match b with
 | some (.ow _)=>false
 | some (.od _)=>false
 | _=>true
omit [Lam] in
theorem qja(h:qh0 ρ = true): xn ρ :=fun i b e=>by
 have:=n9.mp h _ (tq e);cases b with
 | fz d=>exact⟨d,rfl⟩
 | ow _=>cases this
 | od _=>cases this
omit [Lam] in
theorem q8j:∀ {ds:List D} {ks:List (List Int)},q6v ds=some ks->ks.length=ds.length/\∀(k:Nat) (d:D),ds[k]? = some d->∃q,ks[k]? = some q/\qav d=some q
 | [],ks,h=>by cases h;exact⟨rfl,fun k d e=>by cases e⟩
 | d :: ds,ks,h=>by
  obtain⟨q,h1,h2⟩:=gc.mp h;obtain⟨r,h3,rfl⟩:=gz.mp h2;obtain⟨e1,e2⟩:=q8j h3;refine⟨by rw [t9,t9,e1],fun k x e=>?_⟩;cases k with
  | zero=>cases e;exact⟨q,rfl,h1⟩
  | succ k=>exact e2 k x e
omit [Lam] in
theorem q42{f:FE}{j:Nat}: ∀ {ds vs:List D},q0c f ρ j ds=some vs->vs.length=ds.length/\∀(k:Nat) (d:D),ds[k]? = some d->∃q,vs[k]? = some q/\f (ρ.set j (some (.fz d)))=some q
 | [],ks,h=>by cases h;exact⟨rfl,fun k d e=>by cases e⟩
 | d :: ds,ks,h=>by
  obtain⟨q,h1,h2⟩:=gc.mp h;obtain⟨r,h3,rfl⟩:=gz.mp h2;obtain⟨e1,e2⟩:=q42 h3;refine⟨by rw [t9,t9,e1],fun k x e=>?_⟩;cases k with
  | zero=>cases e;exact⟨q,rfl,h1⟩
  | succ k=>exact e2 k x e
end
abbrev unk(i1 i2:Nat)(ρ : Rho): Rho:=(ρ.set i1 none).set i2 none
def sDD(i1 i2 j:Nat)(it:FA)(f1 f2:FE): FS:=fun ρ =>if qh0 ρ = true/\i1 < ρ.length/\i2 < ρ.length/\j < ρ.length then(it (unk i1 i2 ρ)).bind fun ds=>(q6v ds).bind fun ks=>if ks.Nodup/\ks.length<=lim then
  (q0c f1 (unk i1 i2 ρ) j ds).bind fun v1=>(q0c f2 (unk i1 i2 ρ) j ds).map fun v2=>(.nx,((q5p (unk i1 i2 ρ) j ds).set i1 (some (.fz (.dtt ks v1)))).set i2 (some (.fz (.dtt ks v2)))) else none else none
abbrev qk4:TE:=fun σ H Q=>∀a,H a=none->(a==sysModules)=false->Q (.ref a) (upd H a (.ext (DE a [] 0)))
theorem take_snoc{α : Type}{l:List α}{k:Nat}{x : α}(h:l[k]? = some x): l.take (k+1)=l.take k++[x]:=by rw [g42,h];rfl
section
variable{X:Cx}{pos:Pos}
theorem qls{K:Frag}{F:Hp}{d:D}{q:List Int}{x:V}(hq:qav d=some q)(hr:Rep K F d x): ∃b,x=.ref b/\SqT K F b (q.map V.int):=by
 unfold qav at hq
 split at hq
 ·obtain⟨b,xs,rfl,h1,h2⟩:=rep_tup.mp hr
  rw [ints_rep hq h2] at h1;exact⟨b,rfl,h1⟩
 ·cases hq
theorem qp3{s1 s2 b1 b2:Stmt}{tg iter:Expr}{rest:List Stmt}{i1 i2 j:Nat}{it:FA}{f1 f2:FE}{u:FS}(hne:i1≠i2)(hj1:i1≠j)(hj2:i2≠j)
  (hp:PassesOwn (model X.prog X.w) X.A X.env X.xe) (hc:X.calm=true)
  (h1:PS X s1 (q5d qk4 (q0u i1))) (h2:PS X s2 (q5d qk4 (q0u i2))) (hi:PI X tg iter (tDI X.K it)) (hg:PG X tg (q0u j))
  (hb1:PS X b1 (q5d (tD X.K f1) (qhp (q3o i1) (q3o j) (qep X.K)))) (hb2:PS X b2 (q5d (tD X.K f2) (qhp (q3o i2) (q3o j) (qep X.K)))) (hr:PSs X rest (tDS X.K u))
  (hs:∀x,foldedSetIterable iter X.env x=pure x:=by intro _;rfl):PSs X (s1 :: s2 :: .For tg iter [b1,b2] [] pos :: rest) (tDS X.K (ze (sDD i1 i2 j it f1 f2) u)):=by
 refine q4j (q16 h1 (q16 h2 (q16 (qfe hp hc hi hg (q16 hb1 (qcu hb2)) hs) hr))) fun D σ H ⟨F0,H0,F, ρ,fl, ρ',r,hf,q⟩=>?_;obtain⟨⟨fl1, ρ1⟩,h3,h4⟩:=gc.mp hf;unfold sDD at h3
 split at h3
 case isFalse=>cases h3
 rename_i hok;obtain⟨hno,l1,l2,lj⟩:=hok;have no:=qja hno;obtain⟨ds,hit,h3⟩:=gc.mp h3;obtain⟨ks,hks,h3⟩:=gc.mp h3
 split at h3
 case isFalse=>cases h3
 rename_i hnd;obtain⟨v1,hv1,h3⟩:=gc.mp h3;obtain⟨v2,hv2,h3⟩:=gz.mp h3;cases h3;obtain⟨kl,kget⟩:=q8j hks;obtain⟨vl1,vget1⟩:=q42 hv1;obtain⟨vl2,vget2⟩:=q42 hv2;intro a1 n1 m1;intro a2 n2 m2;have hF1:F a1=none:=r.fh.free n1;have hz1:H0 a1=none:=r.g.hh.free n1;have r1:=qgx (q9d r no (o:=.ext (DE a1 [] 0)) hF1 hz1 (r.tab.upd (.inl n1))) no i1 (some (.ref a1));have no1:xn (ρ.set i1 none):=w8 no;have hF2:F a2=none:=r1.fh.free n2;have hz2:H0 a2=none:=r1.g.hh.free n2;have r2:=qgx (q9d r1 no1 (o:=.ext (DE a2 [] 0)) hF2 hz2 (r1.tab.upd (.inl n2))) no1 i2 (some (.ref a2));have no2:xn (unk i1 i2 ρ):=w8 no1;have hne12:a1≠a2:=fun z=>by subst z;rw [ql] at n2;cases n2
 have hsl : σ.length = ρ.length:=r.len;have G1:GD X.K F (upd (upd H a1 (.ext (DE a1 [] 0))) a2 (.ext (DE a2 [] 0))) a1 [] []:=⟨⟨[],[],0,by rw [qi hne12];exact ql,rfl,nofun,.nil,.nil⟩,hF1⟩
 have G2:GD X.K F (upd (upd H a1 (.ext (DE a1 [] 0))) a2 (.ext (DE a2 [] 0))) a2 [] []:=⟨⟨[],[],0,ql,rfl,nofun,.nil,.nil⟩,hF2⟩
 refine⟨F0,H0,F,unk i1 i2 ρ,ds,r2,hit,fun J F1 H1 g1 itd=>?_⟩;refine⟨fun k m σ H=>m=ds.length-k/\k<=ds.length/\∃F' ρk,Same F1 F'/\RS X.K F0 H0 F' H σ ρk/\xn ρk/\(∀d, ρk.set j (some (.fz d))=(unk i1 i2 ρ).set j (some (.fz d)))/\(k=ds.length -> ρk=q5p (unk i1 i2 ρ) j ds) /\
  σ[i1]? = some (some (.ref a1)) /\ σ[i2]? = some (some (.ref a2))/\GD X.K F' H a1 (ks.take k) (v1.take k)/\GD X.K F' H a2 (ks.take k) (v2.take k),
  ⟨ds.length,by simp,uy _,F1,unk i1 i2 ρ,.refl _,r2.grow g1,no2,fun _=>rfl,fun e=>?_,?_,?_,G1.grow g1,G2.grow g1⟩,?_⟩
 ·have:ds=[]:=g1l.mp e.symm
  subst this;rfl
 ·rw [gh (mv hne),g0h (by rw [hsl];exact l1)]
 ·rw [g0h (by rw [t8,hsl];exact l2)]
 rintro k m σ' H' ⟨rfl,hk,F', ρk,sm,rk,nok,hset,hend,hσ1,hσ2,d1,d2⟩
 by_cases hlt:k<ds.length
 ·refine .inr ⟨itd.go k F' H' sm rk.fh hlt,fun σ'' H''=>∃F'' ρk,Same F1 F''/\RS X.K F0 H0 F'' H'' σ'' ρk/\xn ρk/\(∀d, ρk.set j (some (.fz d))=(unk i1 i2 ρ).set j (some (.fz d)))/\(k+1=ds.length -> ρk=q5p (unk i1 i2 ρ) j ds) /\
   σ''[i1]? = some (some (.ref a1)) /\ σ''[i2]? = some (some (.ref a2))/\GD X.K F'' H'' a1 (ks.take (k+1)) (v1.take (k+1))/\GD X.K F'' H'' a2 (ks.take (k+1)) (v2.take (k+1)),fun σ'' H'' z=>⟨ds.length-(k+1),by omega,rfl,hlt,z⟩,fun x H2 y=>?_⟩
  have hd:ds[k]? = some ds[k]:=mr hlt;obtain⟨F2,g2,rx⟩:=itd.yld k ds[k] F' H' x H2 sm rk.fh hd y;obtain⟨kq,hkq,hki⟩:=kget k _ hd;obtain⟨w1,hw1,he1⟩:=vget1 k _ hd;obtain⟨w2,hw2,he2⟩:=vget2 k _ hd;obtain⟨b,rfl,hb⟩:=qls hki rx;have r3:=(rk.grow g2).set j rx;rw [hset] at r3;have no3:xn ((unk i1 i2 ρ).set j (some (.fz ds[k]))):=q87 no2;have s1':(σ'.set j (some (.ref b)))[i1]? = some (some (.ref a1)):=by rw [gh (mv hj1)];exact hσ1
  have s2':(σ'.set j (some (.ref b)))[i2]? = some (some (.ref a2)):=by rw [gh (mv hj2)];exact hσ2
  have sj':(σ'.set j (some (.ref b)))[j]? = some (some (.ref b)):=by
   rw [g0h];have:=r3.len;rw [t8,t8,t8,t8] at this;rw [this];exact lj
  have hkn:kq∉ks.take k:=fun hm=>by
   obtain⟨i,hi⟩:=g3g.mp hm;have hik:i<k:=by
    have:=(my.mp hi).1;rw [ni] at this;omega
   rw [g2h hik] at hi;obtain⟨z1,z2⟩:=my.mp hi;obtain⟨z3,z4⟩:=my.mp hkq;exact(g2e.mp hnd.1 i k z1 z3 hik) (z2.trans z4.symm)
  have hkl:∀ {l:DX},l.map (·.1)=ks.take k->l.length<=sizeLine:=fun {l} e=>by
   have e2:=ug List.length e;rw [mj,ni] at e2;exact ja (by have:=hnd.2;omega)
  have ndk:(ks.take k).Nodup:=List.Sublist.nodup (List.take_sublist _ _) hnd.1;refine⟨F0,H0,F2,_,w1,r3,he1,fun v F3 H3 g3 rv=>?_⟩;have d13:=(d1.grow g2).grow g3;have d23:=(d2.grow g2).grow g3;have r4:=r3.grow g3;have hb3:=qh g3.ff hb;obtain⟨⟨xs,ys,ep,e1,e2,e3,e4,e5⟩,f⟩:=d13;refine⟨_,s1',_,sj',a1,b,kq,xs,ep,rfl,rfl,e1,qh r4.fh hb3,fun z hz=>qh r4.fh (e3 z hz),by rw [e2];exact ndk,by rw [e2];exact hkn,hkl e2,fun uu ep' ru hx=>?_⟩;have D1:=GD.push (H:=H3) (ep':=ep') f e2 e3 e4 e5 hb3 rv ru;have r5:=q9d r4 no3 (o:=.ext (DE a1 (xs++[(kq,b,uu)]) ep')) f hz1 (qau r4.tab e1 hx);have d25:=d23.other (o:=.ext (DE a1 (xs++[(kq,b,uu)]) ep')) (mv hne12);refine⟨F0,H0,F3,_,w2,r5,he2,fun v' F4 H4 g4 rv'=>?_⟩;have D1':=D1.grow g4;have d26:=d25.grow g4;have r6:=r5.grow g4;have hb4:=qh g4.ff hb3;obtain⟨⟨xs2,ys2,ep2,t1,t2,t3,t4,t5⟩,tf⟩:=d26;refine⟨_,s2',_,sj',a2,b,kq,xs2,ep2,rfl,rfl,t1,qh r6.fh hb4,fun z hz=>qh r6.fh (t3 z hz),by rw [t2];exact ndk,by rw [t2];exact hkn,hkl t2,fun uu2 ep2' ru2 hx2=>?_⟩;have D2:=GD.push (H:=H4) (ep':=ep2') tf t2 t3 t4 t5 hb4 rv' ru2;have r7:=q9d r6 no3 (o:=.ext (DE a2 (xs2++[(kq,b,uu2)]) ep2')) tf hz2 (qau r6.tab t1 hx2);refine⟨F4,_,((sm.trans g2.ff).trans g3.ff).trans g4.ff,r7,no3,fun d=>List.set_set ..,fun e=>?_,s1',s2',?_,?_⟩
  ·have:ds.getLast? = some ds[k]:=by rw [g4y, <- e,Nat.add_sub_cancel];exact hd
   unfold q5p;rw [this]
  ·rw [take_snoc hkq,take_snoc hw1]
   exact D1'.other hne12
  ·rw [take_snoc hkq,take_snoc hw2]
   exact D2
 ·have e:k=ds.length:=by omega
  subst e;refine .inl ⟨itd.stop _ F' H' sm rk.fh (gu _),?_⟩;rw [pd (by omega),pd (by omega)] at d1;rw [pd (by omega),pd (by omega)] at d2;have er:=hend rfl;subst er;obtain⟨o1,ho1,rep1⟩:=d1.rep m1 hnd.1 (ja hnd.2);have r8:=qgy rk nok d1.f hz1 ho1;have d2':GD X.K (upd F' a1 o1) H' a2 ks v2:=by
   obtain⟨⟨xs2,ys2,ep2,t1,t2,t3,t4,t5⟩,tf⟩:=d2;have s:=xg (o:=o1) d1.f;exact⟨⟨xs2,ys2,ep2,t1,t2,fun x hx=>qh s (t3 x hx),t4,t5.mono s⟩,by rw [qi (mv hne12)];exact tf⟩
  obtain⟨o2,ho2,rep2⟩:=d2'.rep m2 hnd.1 (ja hnd.2);have r9:=qgy r8 nok d2'.f hz2 ho2;have r10:=qgz (qgz r9 hσ1 (rep1.mono (xg d2'.f))) hσ2 rep2;exact⟨F0,H0,_,_,fl, ρ',r10,h4,q1d (((g1.ff.trans sm).trans (xg d1.f)).trans (xg d2'.f)) q⟩
end
section
variable{X:Cx}{pos:Pos}{e:Expr}
def q1v(j:Nat)(lc:FA): FA:=fun ρ =>match ρ[j]? with
 | some (some (.ow ds))=>(lc (ρ.set j (some (.fz (.lst ds))))).bind fun es=>(xo es).map fun _=>es
 | _=>none
theorem qdt{j:Nat}{lc:FA}(h:PE X e (tL X.K lc)): PE X e (tL X.K (q1v j lc)):=zt h fun σ H Q ⟨F0,H0,F, ρ,ds,r,hf,q⟩=>by
 unfold q1v at hf
 split at hf
 ·rename_i us hj
  obtain⟨es,h1,h2⟩:=gc.mp hf;obtain⟨ns,h3,rfl⟩:=gz.mp h2;obtain⟨F',s,r'⟩:=r.freeze hj;refine⟨F0,H0,F',_,es,r',h1,fun a xs F'' H'' g n1 n2 n3 rl=>?_⟩;have sf:Same F F'':=s.trans g.ff;refine q a xs F H'' ⟨.refl _,g.hh,sf.trans g.fh,fun b hb=>.inl hb⟩ (sf.free n1) n2 n3 ?_;rw [q2t h3,ints_rep h3 rl];exact RepL.ints.mpr rfl
 ·cases hf
end
end DL
namespace Srt
open PySem PyProof.Rows
section
variable{prog:Program}{w:World}{A:Around}{E:Value->Shared->Prop}{s:Shared}{κ : SortKind}{G:Value->Prop}{lt:Value->Value->Bool}
theorem qc7{l:Addr}{vs:List Value}{Q:List Value->Shared->Prop}(hl:s.heap.IsTuple l vs.toArray)
  (hQ:Q vs {s with heap:=(s.heap.push (seqObj "list" #[] 0)).update s.heap.objs.size (Obj.mapSeq fun x=>x++vs.toArray)}) (hn:vs.length<=sizeLine):wpAny (model prog w) A (collect (.ref l)) Q E s:=by
 have hlt:l<s.heap.objs.size:=by obtain⟨o,ho,_⟩:=hl;exact gw ho
 unfold collect;refine g0 (wpAny_runValue (g06 F.entry_proto_collect ?_));rw [ux F.plain_proto_collect _];show wpAny _ A.in1 (newList [] >>= fun x=>again (.builtin "list.__iadd__" ⟨[x,.ref l],[]⟩)) _ _ s;refine g0 (td ?_);refine g9 ⟨g1n g34 _,g06 F.entry_list_iadd ?_⟩;rw [ux g34 _];have h1:Builtin.List.listSameRef (.ref s.heap.objs.size) (.ref l)=false:=by simp [Builtin.List.listSameRef,uh hlt]
 show wpAny _ A.in1 (Builtin.List.listExtendWith (.ref s.heap.objs.size) (.ref l) (.ref s.heap.objs.size)) _ _ _;unfold Builtin.List.listExtendWith;have hl1:(s.heap.push {cls:=.type "list",data:=.seq ([]:List Value).toArray}).IsTuple l vs.toArray:=by obtain⟨o,ho,r⟩:=hl;exact⟨o,gd _ ho,r⟩
 have hT:Shared.TypeIs {s with heap:=s.heap.push {cls:=.type "list",data:=.seq ([]:List Value).toArray} } (.ref l) "tuple" :=by obtain⟨o,ho,hc,_⟩:=hl1;exact⟨o,ho,hc⟩
 refine g0 (g1c hT ?_);rw [mi (by simp)];obtain⟨o,ho,hc,n,hd⟩:=hl1;have hS:(s.heap.push {cls:=.type "list",data:=.seq ([]:List Value).toArray}).get? s.heap.objs.size=some (seqObj "list" #[] 0):=gr _ rfl;refine g0 (g3q ho hd ?_);refine g0 (g3q hS rfl ?_);rw [mf (by simp)];refine g0 (g19 hS rfl ?_ (uy _) (by simp;exact Nat.le_succ_of_le hn));refine g9 ?_;have e:=g0r hS fun x=>x++vs.toArray;refine g0 (wpAny_load e ?_);show wpAny _ _ (pure (#[]++vs.toArray).toList) _ _ _;rw [show((#[]:Array Value)++vs.toArray).toList=vs by simp];exact g9 hQ
theorem qc8{l:Addr}{vs:List Value}{Q:Value->Shared->Prop}(hl:s.heap.IsTuple l vs.toArray)(hz:vs.length<=sizeLine)
  (hkind:2<=vs.length->∀Q:SortKind->Shared->Prop,Q κ {s with heap:=ji (srtH s.heap vs) (s.heap.objs.size+1) vs}->wpAny (model prog w) A.in1.in1 (keyKind' vs.toArray) Q E {s with heap:=ji (srtH s.heap vs) (s.heap.objs.size+1) vs})
  (C:2<=vs.length->Cmp prog w A.in1.in1 {s with heap:=ji (srtH s.heap vs) (s.heap.objs.size+1) vs} κ G lt) (g:∀v∈vs,G v)
  (h:∀out:List Value,out.Perm vs->out.Pairwise (fun x y=>lt y x=false)->Q (.ref (s.heap.objs.size+1)) {s with heap:=sortedAll s.heap vs out.toArray}) :
  wpAny (model prog w) A (call (.builtin "sorted") [.ref l]) Q E s:=by
 refine Calls.call_function_entry kind_sorted plain_sorted entry_sorted (args_sorted1 _) ?_;unfold Builtin.«sorted»;refine g0 (m:=checkCount "sorted" 1 1 _) (g9 ?_);refine g0 (qc7 hl ?_ hz);refine g0 (g39 ?_);have hsz:((s.heap.push (seqObj "list" #[] 0)).update s.heap.objs.size (Obj.mapSeq (· ++ vs.toArray))).objs.size=s.heap.objs.size+1:=by
  rw [p6,g01]
 have hoL:(srtH s.heap vs).get? (s.heap.objs.size+1)=some (seqObj "list" vs.toArray 0):=by
  unfold srtH;rw [<- hsz];exact gr _ rfl
 show wpAny _ _ _ _ _ {s with heap:=srtH s.heap vs};rw [hsz];refine g0 (nz (p5 slot_list_sort ⟨_,hoL,rfl⟩ entry_list_sort (qgd (κ := κ) (G:=G) (lt:=lt) hoL hz hkind C g fun out a1 a2=>⟨_,rfl,?_⟩) (args_list_sort _)));exact g9 ⟨_,rfl,h out a1 a2⟩
end
end Srt
namespace DL
open PySem PySem.Spec PyProof.Rows L2 Srt PySem.W
variable[Lam]
section
variable{X:Cx}{F H:Hp}{pos:Pos}
def q03:List D->Option (List D)
 | [.tup ds]=>if q0a ds then some ((yt (ds.map fun d=>(d,d))).map Prod.snd) else none
 | _=>none
theorem qh1(hu:X.A.units+64<cLine): xm X (.builtin "sorted") (rCL X.K q03):=fun pins s σ H xs us Q I rv ⟨F,ds,es,fh,rl,ho,q⟩=>by
 unfold q03 at ho
 split at ho
 ·rename_i ds
  split at ho
  ·rename_i hok
   cases ho;obtain⟨x,rfl,rx⟩:=rep1 rl;obtain⟨a,ys,rfl,k1,k2⟩:=rep_tup.mp rx;obtain⟨u,rfl,ru⟩:=vals1 rv;cases ru;obtain⟨its,r1,p1,hz⟩:=I.tuple (qh fh k1);obtain⟨T,t1,t2,t3,t4⟩:=qit k2 r1;have kds:∀d∈ds,kD d=true:=by
    unfold q0a at hok;rw [m6,m6] at hok;exact n9.mp hok.1.1
   have st:∀t∈T,q1j X.K F t.2.2 t.2.1:=fun t ht=>⟨kds _ (by rw [<- t3];exact g0x ht),t.1,t4 t ht⟩
   have hlen:its.length<=sizeLine:=by rw [<- r1.length];exact hz
   have keep:∀b o,s.heap.get? b=some o->(ji (srtH s.heap its) (s.heap.objs.size+1) its).get? b=some o:=fun b o qb=>by
    have hlt:b<s.heap.objs.size:=gw qb;unfold ji srtH;have z1:((s.heap.push (seqObj "list" #[] 0)).update s.heap.objs.size (Obj.mapSeq (· ++ its.toArray))).objs.size=s.heap.objs.size+1:=by rw [p6,g01]
    have ne:∀k,b≠s.heap.objs.size+k:=fun k=>m9 (gm hlt (g26 _ _));rw [pq _ _ _ (by rw [g01,p6,g01,z1];exact ne 3),pq _ _ _ (by rw [p6,g01,z1];exact ne 2),u9 _ _ _ _ (ne 1),
     pq _ _ _ (by rw [z1];exact ne 1),u9 _ _ _ _ (show b≠s.heap.objs.size from ne 0),pq _ _ _ (show b≠s.heap.objs.size from ne 0)]
    exact qb
   have I6:Inv X pins σ H {s with heap:=ji (srtH s.heap its) (s.heap.objs.size+1) its}:=I.kept (t':=s.toks) keep;obtain⟨κ,hk,C⟩:=qk2 I6 fh X.A.in1.in1 (by show X.A.units+1+1+60<cLine;lia) (us:=its) (ks:=ds) (fun u hu=>by
    rw [<- t2] at hu;obtain⟨t,ht,rfl⟩:=mx.mp hu;exact⟨t.2.2,by rw [<- t3];exact g0x ht,st t ht⟩) hok
   refine qc8 p1 hlen (fun h2 Q q=>hk h2 _ Q q) (fun _=>C) (fun v hv=>hv) fun out a1 a2=>?_;obtain⟨T',pT,eT⟩:=q8b (fun t:V×Value×D=>t.2.1) a1 t2.symm;have hT':∀t∈T',Rep X.K F t.2.2 t.1/\RelV t.1 t.2.1:=fun t ht=>t4 t (pT.mem_iff.mp ht);have hk':∀t∈T',keyOf X.K F t.2.1=t.2.2:=fun t ht=>q2z I fh (st t (pT.mem_iff.mp ht));have eD:T'.map (·.2.2)=(yt (ds.map fun d=>(d,d))).map Prod.snd:=by
    have e1:T'.map (fun t=>(t.2.2,t.2.2))=yt (ds.map fun d=>(d,d)):=by
     refine q5i ?_ ?_ ?_
     ·have:=pT.map (fun t:V×Value×D=>(t.2.2,t.2.2))
      rw [<- t3,mq];exact this
     ·rw [uo]
      rw [eT,uo] at a2;refine g1f (fun {x y} hx hy h=>?_) a2;rw [hk' x hx,hk' y hy] at h;exact h
     ·intro x hx y hy h1 h2
      obtain⟨d,hd,rfl⟩:=mx.mp hx;obtain⟨e,he,rfl⟩:=mx.mp hy;rw [lt_eq (kds d hd) (kds e he) h1 h2]
    rw [<- e1,mq]
    rfl
   have hn:H (s.heap.objs.size+1)=none:=I.hok.fresh (g29 _);have vo:Vals (T'.map (·.1)) out:=by
    rw [eT];clear eT eD pT hk'
    induction T' with
    | nil=>exact .nil
    | cons t T' ih=>exact .cons (hT' t m4).2 (ih fun t ht=>hT' t (m5 _ ht))
   have ro:RepL X.K F (T'.map (·.2.2)) (T'.map (·.1)):=by
    clear eT eD pT hk' vo
    induction T' with
    | nil=>exact .nil
    | cons t T' ih=>exact .cons (hT' t m4).1 (ih fun t ht=>hT' t (m5 _ ht))
   obtain⟨e,he⟩:=sortedAll_at s.heap its out.toArray;have ll:(T'.map (·.1)).length<=sizeLine:=by
    rw [mj,pT.length_eq, <- mj (f:=fun t:V×Value×D=>t.1) (as:=T),t1];exact hz
   refine⟨.ref (s.heap.objs.size+1),_,I.laid (t':=s.toks) (a:=s.heap.objs.size+1) (o:=.lst (T'.map (·.1))) (fun b ob q=>sortedAll_old q) (g29 _) ⟨ll,out,e,vo,he⟩,rfl,?_⟩;exact q _ _ F _ (Grow.own fh hn) (fh.free hn) hn ql (by rw [<- eD];exact ro)
  ·cases ho
 ·cases ho
end
end DL
namespace DL
open PySem PySem.Spec PyProof.Rows L2
variable[Lam]
section
variable{X:Cx}{N':List Str}{scope:Scope}{cap:List (Option Nat)}{tg iter elt:Expr}{ifs:List Expr}{it:FA}{b:FB}{c:FT}{f:FE}{pos:Pos}
theorem qaw{i:Nat}{x:Str}{px pe:Pos}(hc:X.calm=true)(hN:X.N.Nodup)(hx0:X.N[i]? = some x)(hx:X.env.scope.names.lookup x=some .local)(co:CapOkC X N' scope cap)(fr:q99 b cap)(hi:PI X tg iter (tDI X.K it))
  (hg:∀cl C s₀ H₀ fp,PG (zp X N' scope cl C s₀ H₀ fp) tg (tDG X.K b)) (hcs:∀cl C s₀ H₀ fp,q0o (zp X N' scope cl C s₀ H₀ fp) ifs (tDT X.K c)) (he:∀cl C s₀ H₀ fp,PE (zp X N' scope cl C s₀ H₀ fp) elt (tD X.K f))
  (hsw:swapsWith (.ListComp elt [⟨tg,iter,ifs,0⟩] scope pe) (some (.Name x px)) pos.line X.env=pure true:=by rfl)
  (hs:∀x,foldedSetIterable iter X.env x=pure x:=by intro _;rfl):PS X (.Assign [.Name x px] (.ListComp elt [⟨tg,iter,ifs,0⟩] scope pe) pos) (tDS X.K (q1c i (qm it cap b c f))):=
 q1a (qc2 hc hN hx0 hx co hi hg hcs he hsw hs) fun D σ H h=>qg3 fr (qjw h)
end
end DL
namespace DL
open PySem L2
theorem qax(a b:Int): decide (V.int a=V.int b)=decide (a=b):=decide_eq_decide.mpr ⟨fun h=>by injection h,fun h=>by rw [h]⟩
theorem q7m(a b:Int): oEq (.int a) (.int b)=some (.bl (decide (a=b))):=by
 simp only [oEq,qi7,flD,q76,ma,ny,g5u,qax]
theorem qdu(a b:Int): q3t (.int a) (.int b)=some (.bl (!decide (a=b))):=by
 simp only [q3t,flD,q76,ma,ny,qax]
theorem qo6(a b:Bool): oEq (.bl a) (.bl b)=some (.bl (a==b)):=by
 cases a <;> cases b <;> rfl
theorem q35(a b:Int)(h:0<b): oMod (.int a) (.int b)=some (.int (a%b)):=by simp [oMod,oI,h]
theorem qjb(a b:Int)(h:0<b)(h2:b<1073741824): oDiv (.int a) (.int b)=some (.int (a / b)):=by simp [oDiv,oI,h,h2]
theorem qh2(a b:Int): jf (.int a) (.int b)=some (.int (a+b)):=rfl
theorem qjc(a b:Int): oSub (.int a) (.int b)=some (.int (a-b)):=rfl
theorem qlt(a b:Int): oLt' (.int a) (.int b)=some (.bl (decide (a<b))):=rfl
theorem qlu(a b:Int): oLe (.int a) (.int b)=some (.bl (decide (a<=b))):=rfl
theorem qlv(a b:Int): oGt (.int a) (.int b)=some (.bl (decide (b<a))):=rfl
theorem qlw(a b:Int): oGe (.int a) (.int b)=some (.bl (decide (b<=a))):=rfl
theorem q8k(xs ys:List D)(h:xs.length+ys.length<=1000000): jf (.tup xs) (.tup ys)=some (.tup (xs++ys)):=by
 show(oAdd (.tup xs) (.tup ys)).or (q5h (.tup xs) (.tup ys))=_;simp only [oAdd,oI,Option.none_or,q5h,lim,mi h]
theorem qh3(xs ys:List D)(h:xs.length+ys.length<=1000000): jf (.lst xs) (.lst ys)=some (.lst (xs++ys)):=by
 show(oAdd (.lst xs) (.lst ys)).or (q5h (.lst xs) (.lst ys))=_;simp only [oAdd,oI,Option.none_or,q5h,lim,mi h]
theorem qay(a b:Int)(h:0<=b)(h2:b<=1000000)(h3:a.natAbs<2 ^ 64): oShl (.int a) (.int b)=some (.int (a*2 ^ b.toNat)):=by simp [oShl,oI,h,h2,h3]
theorem qjd(a b:Int)(h:0<=b): oShr (.int a) (.int b)=some (.int (a / 2 ^ b.toNat)):=by simp [oShr,oI,h]
theorem qje(a b:Int)(h:0<=b)(h2:b<=1000000)(h3:a.natAbs<2 ^ 64): oPow (.int a) (.int b)=some (.int (a ^ b.toNat)):=by simp [oPow,oI,h,h2,h3]
theorem qh4(ns:List Int): qea [.lst (ns.map .int)]=some (.int ns.sum):=by simp [qea,o1L,vn]
theorem q0y(bs:List Bool): q5f [.lst (bs.map .bl)]=some (.bl (bs.any id)):=by simp [q5f,o1L,q6f]
theorem qdv{α : Type}{xs:List α}{i:Int}(h0:0<=i): atI xs i=xs[i.toNat]? :=by
 unfold atI ixN;rw [mi h0]
 by_cases h:i<xs.length
 ·rw [mi h];rfl
 ·rw [mf h,g5t (by omega)];rfl
theorem qjf{α : Type}(xs:List α): atI xs (-1)=xs.getLast? :=by
 unfold atI ixN;rw [mf (by decide)];cases xs with
 | nil=>rfl
 | cons a r=>
  rw [mi (by simp only [t9];omega)];show(a :: r)[((-1:Int)+((a :: r).length:Nat)).toNat]? = _;rw [g4y]
  congr 1
  simp only [t9];omega
section
variable{b:FB}{body:FS}{d:D}{ds:List D}{ρ ρ1 ρ2:Rho}
theorem yj(h1:b d ρ = some ρ1)(h2:body ρ1=some (.nx, ρ2)): runFor b body (d :: ds) ρ = runFor b body ds ρ2:=by simp only [runFor,h1,h2,ma]
end
theorem q36{b:FB}{c:FT}{f:FE}{ρ : Rho}(p:D->Bool)(g:D->D): ∀ {ds:List D},(∀d∈ds,∃ ρ1,b d ρ = some ρ1/\c ρ1=some (p d)/\(p d=true->f ρ1=some (g d)))->zf b c f ρ ds=some ((ds.filter p).map g)
 | [],_=>rfl
 | d :: ds,h=>by
  obtain⟨ρ1,e1,e2,e3⟩:=h d m4;have ih:=q36 p g fun e he=>h e (m5 _ he);simp only [zf,e1,e2,ma];cases hp:p d with
  | true=>simp only [ny,e3 hp,ma,ih,nv,g0y,hp,gv]
  | false=>simp only [gf,p0,ih,g0y,hp]
theorem q0d{b:FB}{f:FE}{ρ : Rho}(g:D->D){ds:List D}(h:∀d∈ds,∃ ρ1,b d ρ = some ρ1/\f ρ1=some (g d)): zf b zx f ρ ds=some (ds.map g):=by
 have:=q36 (b:=b) (c:=zx) (f:=f) (ρ := ρ) (fun _=>true) g (ds:=ds) fun d hd=>let⟨ρ1,e1,e2⟩:=h d hd; ⟨ρ1,e1,rfl,fun _=>e2⟩
 rw [List.filter_eq_self.mpr (fun _ _=>rfl)] at this;exact this
theorem q52(lo:Int)(n:Nat): qr lo (n+1)=.int lo :: qr (lo+1) n:=by
 unfold qr;rw [g1r,gv,mq]
 congr 1
 ·simp
 ·apply g2a
  intro a _;simp only [Function.comp,Nat.succ_eq_add_one,Int.natCast_add]
  congr 1
  omega
theorem vq(lo:Int)(n:Nat): (qr lo n).length=n:=by simp [qr]
theorem yw(fa:FA)(ρ : Rho)(j:Int)(h:fa ρ = some [.int j])(h1 : -(2 ^ 62)<=j)(h2:j<2 ^ 62): iR1 fa ρ = some (qr 0 j.toNat):=by
 simp only [iR1,h,ma,p7 h1,p7 h2,g4m,ny]
theorem q53{α : Type}(xs:List D)(k:Nat): cutD xs none (some (k:Int))=xs.take k:=by
 unfold cutD;rw [HT.sIx_nat,HT.sIx_none];simp only [g3y,Nat.sub_zero]
 by_cases h:k<=xs.length
 ·rw [g5k h]
 ·rw [g5c (by omega),g55,pd (by omega)]
theorem qjg{α : Type}(xs:List D)(k:Nat): cutD xs (some (k:Int)) none=xs.drop k:=by
 unfold cutD;rw [HT.sIx_nat,HT.sIx_none]
 by_cases h:k<=xs.length
 ·rw [g5k h,pd (by rw [ui];exact gu _)]
 ·rw [g5c (by omega),g54,List.drop_eq_nil_of_le (by omega)];simp
section
variable{ρ ρ1 ρ':Rho}{f g:FE}{d x y z:D}{i n m ar:Nat}{fa fk:FA}{ds es:List D}{t t2:FT}{c:Bool}{u w:FS}{r:Option (Fl×Rho)}
theorem x_c:eC d ρ = some d:=rfl
theorem x_v(h : ρ[i]? = some (some (.fz d))): eV i ρ = some d:=by unfold eV;rw [h]
theorem qaz{o:D->D->Option D}(h1:f ρ = some x)(h2:g ρ = some y)(h3:o x y=some z): eOp o f g ρ = some z:=by unfold eOp;rw [h1,ma,h2,ma,h3]
theorem q37:qd ρ = some []:=rfl
theorem q1l(h1:f ρ = some d)(h2:fa ρ = some ds): qa f fa ρ = some (d :: ds):=by unfold qa;rw [h1,ma,h2,nv]
theorem x_call{o:List D->Option D}(h1:fa ρ = some ds)(h2:o ds=some d): qf o fa ρ = some d:=by unfold qf;rw [h1,ma,h2]
theorem qb0{o:List D->Option D}{dds:List D}(h1:fa ρ = some ds)(hl:(ds++dds).length=ar)(h2:o (ds++dds)=some d): qf (qk ar dds o) fa ρ = some d:=by unfold qf qk;rw [h1,ma,mi hl,h2]
theorem qp4{o:D->D->Option D}(h1:f ρ = some x)(h2:g ρ = some y)(h3:o x y=some (.bl c)): zd o f g ρ = some c:=by unfold zd;rw [qaz h1 h2 h3,ma];rfl
theorem qo7(h:u (ds.map (fun d=>some (.fz d))++List.replicate (n-ds.length) none)=some (.rt d, ρ')): z5 n u ds=some d:=by unfold z5;rw [h]
end
theorem eV0(d:D)(r:Rho): eV 0 (some (.fz d) :: r)=some d:=rfl
theorem eVs(i:Nat)(x:Option B)(r:Rho): eV (i+1) (x :: r)=eV i r:=rfl
theorem qk5(ds:List D): jz [.tup ds]=some (.int ds.length):=rfl
theorem qp5(ds:List D): jz [.lst ds]=some (.int ds.length):=rfl
theorem qpy(i:Int): (match D.int i with | .int i=>some (some i)|_=>none:Option (Option Int))=some (some i):=rfl
theorem qpz(ds:List D)(r:Rho): frz 0 (some (.ow ds) :: r)=some (.fz (.lst ds)) :: r:=rfl
theorem frzs(i:Nat)(x:Option B)(r:Rho): frz (i+1) (x :: r)=x :: frz i r:=by
 unfold frz;rw [g2x];cases h:r[i]? with
 | none=>rfl
 | some y=>
  cases y with
  | none=>rfl
  | some z=>cases z <;> rfl
theorem q38(a b:Int)(h : -(2 ^ 64)<b/\b<2 ^ 64): kb (.int a) (.int b)=some (.int (a*b)):=by
 have h2:(decide (-(2 ^ 64)<b)&&decide (b<2 ^ 64))=true:=by rw [p7 h.1,p7 h.2];rfl
 show(if((decide (-(2 ^ 64)<a)&&decide (a<2 ^ 64)) || (decide (-(2 ^ 64)<b)&&decide (b<2 ^ 64)))=true then some (D.int (a*b)) else none).or _=_;rw [h2,Bool.or_true,mi rfl,g5u]
theorem qc9(a b:Int)(h : -(2 ^ 64)<a/\a<2 ^ 64): kb (.int a) (.int b)=some (.int (a*b)):=by
 have h2:(decide (-(2 ^ 64)<a)&&decide (a<2 ^ 64))=true:=by rw [p7 h.1,p7 h.2];rfl
 show(if((decide (-(2 ^ 64)<a)&&decide (a<2 ^ 64)) || (decide (-(2 ^ 64)<b)&&decide (b<2 ^ 64)))=true then some (D.int (a*b)) else none).or _=_;rw [h2,Bool.true_or,mi rfl,g5u]
theorem qq0(ds:List D)(i:Int): oIx (.lst ds) (.int i)=atI ds i:=rfl
theorem qq1(ds:List D)(i:Int): oIx (.tup ds) (.int i)=atI ds i:=rfl
theorem qlx{α : Type}(xs:List α)(n:Nat): atI xs (no_index (OfNat.ofNat n:Int))=xs[n]? :=by
 show atI xs (n:Int)=xs[n]?;rw [qdv (show(0:Int)<=(n:Int) by omega)]
 rfl
theorem qjh{α : Type}(xs:List α)(n:Nat): atI xs (n:Int)=xs[n]? :=by
 rw [qdv (show(0:Int)<=(n:Int) by omega)]
 rfl
theorem qly(ds:List D): qjy [.lst ds]=some ds:=rfl
theorem qlz(ds:List D): qjy [.tup ds]=some ds:=rfl
theorem xi(ds:List D): zv [.lst ds]=some (.tup ds):=rfl
theorem qji(ds:List D): zv [.tup ds]=some (.tup ds):=rfl
theorem q4r(ds:List D)(r:Rho): q7b 0 (some (.ow ds) :: r)=some ds:=rfl
theorem q4s(i:Nat)(x:Option B)(r:Rho): q7b (i+1) (x :: r)=q7b i r:=rfl
theorem zb{n:Nat}{u:FS}{ds:List D}{d:D}(h:(u (ds.map (fun d=>some (.fz d))++List.replicate (n-ds.length) none)).map Prod.fst=some (.rt d)): z5 n u ds=some d:=by
 cases e:u (ds.map (fun d=>some (.fz d))++List.replicate (n-ds.length) none) with
 | none=>rw [e] at h;cases h
 | some p=>
  obtain⟨fl, ρ'⟩:=p;rw [e] at h;have h':fl=.rt d:=by simpa using h
  subst h';exact qo7 e
theorem qm0:z0 .int .non=false/\(∀b:Bool,z0 .int (.bl b)=true)/\(∀i:Int,z0 .int (.int i)=true)/\(∀x:Str,z0 .int (.str x)=false)/\(∀ds:List D,z0 .int (.tup ds)=false)/\(∀ds:List D,z0 .int (.lst ds)=false)/\(∀(ks:List Key) (vs:List D),z0 .int (.dct ks vs)=false)/\(∀(ks:List (List Int)) (vs:List D),z0 .int (.dtt ks vs)=false)/\z0 .bool .non=false/\(∀b:Bool,z0 .bool (.bl b)=true)/\(∀i:Int,z0 .bool (.int i)=false)/\(∀x:Str,z0 .bool (.str x)=false)/\(∀ds:List D,z0 .bool (.tup ds)=false)/\(∀ds:List D,z0 .bool (.lst ds)=false)/\(∀(ks:List Key) (vs:List D),z0 .bool (.dct ks vs)=false)/\(∀(ks:List (List Int)) (vs:List D),z0 .bool (.dtt ks vs)=false)/\z0 .tuple .non=false/\(∀b:Bool,z0 .tuple (.bl b)=false)/\(∀i:Int,z0 .tuple (.int i)=false)/\(∀x:Str,z0 .tuple (.str x)=false)/\(∀ds:List D,z0 .tuple (.tup ds)=true)/\(∀ds:List D,z0 .tuple (.lst ds)=false)/\(∀(ks:List Key) (vs:List D),z0 .tuple (.dct ks vs)=false)/\(∀(ks:List (List Int)) (vs:List D),z0 .tuple (.dtt ks vs)=false)/\z0 .list .non=false/\(∀b:Bool,z0 .list (.bl b)=false)/\(∀i:Int,z0 .list (.int i)=false)/\(∀x:Str,z0 .list (.str x)=false)/\(∀ds:List D,z0 .list (.tup ds)=false)/\(∀ds:List D,z0 .list (.lst ds)=true)/\(∀(ks:List Key) (vs:List D),z0 .list (.dct ks vs)=false)/\(∀(ks:List (List Int)) (vs:List D),z0 .list (.dtt ks vs)=false)/\z0 .str .non=false/\(∀b:Bool,z0 .str (.bl b)=false)/\(∀i:Int,z0 .str (.int i)=false)/\(∀x:Str,z0 .str (.str x)=true)/\(∀ds:List D,z0 .str (.tup ds)=false)/\(∀ds:List D,z0 .str (.lst ds)=false)/\(∀(ks:List Key) (vs:List D),z0 .str (.dct ks vs)=false)/\(∀(ks:List (List Int)) (vs:List D),z0 .str (.dtt ks vs)=false)/\z0 .dict .non=false/\(∀b:Bool,z0 .dict (.bl b)=false)/\(∀i:Int,z0 .dict (.int i)=false)/\(∀x:Str,z0 .dict (.str x)=false)/\(∀ds:List D,z0 .dict (.tup ds)=false)/\(∀ds:List D,z0 .dict (.lst ds)=false)/\(∀(ks:List Key) (vs:List D),z0 .dict (.dct ks vs)=true)/\(∀(ks:List (List Int)) (vs:List D),z0 .dict (.dtt ks vs)=true):=by
 refine⟨?_,?_,?_,?_,?_,?_,?_,?_,?_,?_,?_,?_,?_,?_,?_,?_,?_,?_,?_,?_,?_,?_,?_,?_,?_,?_,?_,?_,?_,?_,?_,?_,?_,?_,?_,?_,?_,?_,?_,?_,?_,?_,?_,?_,?_,?_,?_,?_⟩ <;> intros <;> rfl
theorem qm1{x:Int}{n:Nat}(hn:0<n): ∃k:Nat,k<n/\oMod (.int x) (.int (n:Int))=some (.int (k:Int)):=by
 have h1:=g16 x (show(n:Int)≠0 by omega);have h2:=g0n x (show(0:Int)<(n:Int) by omega);refine⟨(x%n).toNat,by omega,?_⟩;rw [q35 _ _ (by omega),g1k h1]
end DL
namespace My
open PySem PySem.Spec PyProof.Rows L2 DL
local macro_rules | `(tactic| walk_at "A")=> `(tactic| ((refine qkp (hs:=?hs) ?a ?_);(case hs=>exact qd3 rfl)))
local macro_rules | `(tactic| walk_at "L")=> `(tactic| first|exact .inl rfl|exact .inr rfl|assumption)
def top(i:Nat): Stmt:=PySem.Challenge.pw_oftentogether_k24_beyond_and_without.main.body.getD i (.Pass ⟨0,0,0,0⟩)
section
variable[Lam]{P:Program}{w:World}{K:Frag}{mg:Str->Option Value}{base:Heap}
abbrev y3:Stmt:=top 18
noncomputable def q25:List Str:=["_law_many"]
theorem qb1:(q25).Nodup:=by decide +kernel
theorem qb2:FnScope q25 ["_law_many"] (qc y3):=⟨rfl,rfl,rfl,qb1,rfl,by decide +kernel,by decide +kernel⟩
noncomputable def q0e:FS:=(zl (eOp oIx (eL (q2s (qa (eC (.int 1)) (qa (eC (.int 2)) (qa (eC (.int 4)) (qa (eC (.int 8)) (qa (eC (.int 16)) (qa (eC (.int 32)) (qa (eC (.int 64)) (qa (eC (.int 128)) (qa (eC (.int 256)) (qa (eC (.int 512)) (qa (eC (.int 1024)) (qa (eC (.int 2048)) (qa (eC (.int 4096)) qd))))))))))))))) (eV 0)))
noncomputable def j7:List D->Option D:=z5 1 q0e
theorem q43{fa:Addr}{cdv:Value}{A:Around}{outer:List Env}{s:Shared}{H:Hp}{E:XK}(hr:Room 0 (A.deeper (envOfC "_law_power" (qc y3) s.heap.objs.size fa cdv))):
  PSs (zj CX0 P w K mg base q25 "_law_power" (qc y3) fa cdv A outer s H E).nox (qu y3) (tDS K q0e):=by
 unfold q0e;refine(qp ?_);refine(za ?_);refine(q1t ?_ ?_);refine(jb ?_);refine(q1b ?_);walk_at "A";exact qj;walk_at "A";exact qj;walk_at "A";exact qj;walk_at "A";exact qj;walk_at "A";exact qj;walk_at "A";exact qj;walk_at "A";exact qj;walk_at "A";exact qj;walk_at "A";exact qj;walk_at "A";exact qj;walk_at "A";exact qj;walk_at "A";exact qj;walk_at "A";exact qj;exact qg;exact(q0 (pv 0))
theorem qb3{fa:Addr}{dV:Value}{fd:FuncData}(F:Fun2 K "_law_power" "_law_power" y3 dV fa fd): FnOk P w K mg base CX0 1 fa fd ["_law_many"] (spD K 1 j7):=
 F.okn (k:=0) (n:=1) (ar:=1) (k1:=1) (u:=q0e) qb2 rfl rfl rfl fun cdv A outer s H E hr=>(by first|(with_reducible exact q43  hr)|exact q43  hr)
abbrev w9:Stmt:=top 17
noncomputable def q44:List Str:=["_law_mark","_law_some","_law_ware"]
theorem q0z:(q44).Nodup:=by decide +kernel
theorem qeq:FnScope q44 ["_law_mark"] (qc w9):=⟨rfl,rfl,rfl,q0z,rfl,by decide +kernel,by decide +kernel⟩
noncomputable def xj:FS:=(ze (sIf (zd oEq (eOp oMod (eV 0) (eC (.int 2))) (eC (.int 1))) (q1e 1 (eV 2)) ya) (xh 0 (eOp oDiv (eV 0) (eC (.int 2)))))
noncomputable def q0i:FS:=(ze (q1c 1 (q2s qd)) (ze (k6 (iR1 (qa (eC (.int 12)) qd)) (bN 2) xj) (q22 1 (zl (qf zv (qa (eV 1) qd))))))
noncomputable def zg:List D->Option D:=z5 3 q0i
theorem q6w{fa:Addr}{cdv:Value}{A:Around}{outer:List Env}{s:Shared}{H:Hp}{E:XK}(n_range:mg "range" = none)(n_tuple:mg "tuple" = none)(hr:Room 0 (A.deeper (envOfC "_law_set" (qc w9) s.heap.objs.size fa cdv))):
  PSs (zj CX0 P w K mg base q44 "_law_set" (qc w9) fa cdv A outer s H E).nox (qu w9) (tDS K q0i):=by
 unfold q0i xj;refine(qq ?_ ?_);exact(q3u (i:=1) q0z rfl (Or.inl rfl) (q1b qg));refine(qq ?_ ?_);refine(q2h g17 rfl ?_ (qw q0z rfl (Or.inl rfl) (.inl rfl)) (qq ?_ ?_));refine(xv rfl n_range ?_);walk_at "A";exact qj;exact qg;refine(vf ?_ (qp ?_) jw);refine(zy (wj hr.units) ?_ qj);refine(z8 xu ?_ qj);exact(q0 (pv 0));refine(q6c (pv 1) ?_);exact(q0 (pv 2));refine(qp ?_);refine(j3 (i:=0) ?_ ?_ ?_ ?_ ?_ ?_);exact q0z;exact rfl;exact(Or.inl rfl);refine(z8 q69 ?_ qj);exact(q0 (pv 0));exact rfl;walk_at "L";refine(q0g 1 (qp ?_));refine(za ?_);refine(zk (jh) rfl n_tuple DL.boot_tuple ?_);walk_at "A";exact(q0 (pv 1));exact qg
theorem qer{fa:Addr}{dV:Value}{fd:FuncData}(F:Fun2 K "_law_set" "_law_set" w9 dV fa fd)(n_range:mg "range" = none)(n_tuple:mg "tuple" = none): FnOk P w K mg base CX0 1 fa fd ["_law_mark"] (spD K 1 zg):=
 F.okn (k:=0) (n:=3) (ar:=1) (k1:=1) (u:=q0i) qeq rfl rfl rfl fun cdv A outer s H E hr=>(by first|(with_reducible exact q6w n_range n_tuple hr)|exact q6w n_range n_tuple hr)
abbrev y4:Stmt:=top 16
noncomputable def q26:List Str:=["_law_script","_law_k","_law_number"]
theorem wo:(q26).Nodup:=by decide +kernel
theorem qb4:FnScope q26 ["_law_script","_law_k"] (qc y4):=⟨rfl,rfl,rfl,wo,rfl,by decide +kernel,by decide +kernel⟩
noncomputable def y6:FS:=(ze (xh 2 (eOp jf (eOp kb (eC (.int 5)) (eV 1)) (eC (.int 2)))) (ze (sIf (zd oGt (qf jz (qa (eV 0) qd)) (eC (.int 0))) (xh 2 (eOp oMod (eOp oIx (eV 0) (eOp oMod (eV 1) (qf jz (qa (eV 0) qd)))) (eC (.int 2147483629)))) ya) (ze (xh 2 (eOp oMod (eOp jf (eOp jf (eOp kb (eV 2) (eC (.int 48271))) (eOp kb (eOp kb (eV 1) (eV 1)) (eC (.int 69621)))) (eC (.int 11))) (eC (.int 2147483647)))) (zl (eOp oMod (eOp kb (eV 2) (eV 2)) (eC (.int 2147483629)))))))
noncomputable def jn:List D->Option D:=z5 3 y6
theorem q45{fa:Addr}{cdv:Value}{A:Around}{outer:List Env}{s:Shared}{H:Hp}{E:XK}(n_len:mg "len" = none)(hr:Room 0 (A.deeper (envOfC "_law_mixed" (qc y4) s.heap.objs.size fa cdv))):
  PSs (zj CX0 P w K mg base q26 "_law_mixed" (qc y4) fa cdv A outer s H E).nox (qu y4) (tDS K y6):=by
 unfold y6;refine(qq ?_ ?_);refine(j3 (i:=2) ?_ ?_ ?_ ?_ ?_ ?_);exact wo;exact rfl;exact(Or.inl rfl);refine(z8 yr ?_ qj);refine(z8 q1h qj ?_);exact(q0 (pv 1));exact rfl;walk_at "L";refine(qq ?_ ?_);refine(vf ?_ (qp ?_) jw);refine(zy q6a ?_ qj);refine(zh (vi) rfl n_len DL.j4 ?_);walk_at "A";exact(q0 (pv 0));exact qg;refine(j3 (i:=2) ?_ ?_ ?_ ?_ ?_ ?_);exact wo;exact rfl;exact(Or.inl rfl);refine(z8 xu ?_ qj);refine(q1t ?_ ?_);exact(q0 (pv 0));refine(z8 xu ?_ ?_);exact(q0 (pv 1));refine(zh (vi) rfl n_len DL.j4 ?_);walk_at "A";exact(q0 (pv 0));exact qg;exact rfl;walk_at "L";refine(qq ?_ ?_);refine(j3 (i:=2) ?_ ?_ ?_ ?_ ?_ ?_);exact wo;exact rfl;exact(Or.inl rfl);refine(z8 xu ?_ qj);refine(z8 yr ?_ qj);refine(z8 yr ?_ ?_);refine(z8 q1h ?_ qj);exact(q0 (pv 2));refine(z8 q1h ?_ qj);refine(z8 q1h ?_ ?_);exact(q0 (pv 1));exact(q0 (pv 1));exact rfl;walk_at "L";refine(qp ?_);refine(za ?_);refine(z8 xu ?_ qj);refine(z8 q1h ?_ ?_);exact(q0 (pv 2));exact(q0 (pv 2))
theorem qb5{fa:Addr}{dV:Value}{fd:FuncData}(F:Fun2 K "_law_mixed" "_law_mixed" y4 dV fa fd)(n_len:mg "len" = none): FnOk P w K mg base CX0 1 fa fd ["_law_script","_law_k"] (spD K 2 jn):=
 F.okn (k:=0) (n:=3) (ar:=2) (k1:=1) (u:=y6) qb4 rfl rfl rfl fun cdv A outer s H E hr=>(by first|(with_reducible exact q45 n_len hr)|exact q45 n_len hr)
abbrev y8:Stmt:=top 22
noncomputable def q27:List Str:=["_law_script","_law_wares","_law_first","_law_size","_law_sets_here","_law_k","_law_some"]
theorem zw:(q27).Nodup:=by decide +kernel
theorem qb6:FnScope q27 ["_law_script","_law_wares"] (qc y8):=⟨rfl,rfl,rfl,zw,rfl,by decide +kernel,by decide +kernel⟩
theorem q7n:(["_law_cell","_law_size"]:List Str).Nodup:=by decide +kernel
theorem q7o:(["_law_ware","_law_sets_here"]:List Str).Nodup:=by decide +kernel
theorem q7p:(["_law_ware","_law_some","_law_sets_here"]:List Str).Nodup:=by decide +kernel
noncomputable def j5:FS:=(ze (xh 6 (qf (qk 1 [] zg) (qa (eOp oMod (qf (qk 2 [] jn) (qa (eV 0) (qa (eV 5) qd))) (eV 3)) qd))) (ze (sIf (q7a (zd oGt (eV 5) (eC (.int 0))) (zd oEq (eOp oMod (qf (qk 2 [] jn) (qa (eV 0) (qa (eOp jf (eV 5) (eC (.int 40))) qd))) (eC (.int 4))) (eC (.int 1)))) (xh 6 (qf zv (qa (eL (q1v 4 (qm (zu (eV 6)) [none,some 4] (bN 0) (zd (oIn false) (eV 0) (eOp oIx (eV 1) (eUn q1g (eC (.int 1))))) (eV 0)))) qd))) ya) (ze (sIf (q7a (zd oGt (eV 5) (eC (.int 0))) (zd oEq (eOp oMod (qf (qk 2 [] jn) (qa (eV 0) (qa (eOp jf (eV 5) (eC (.int 40))) qd))) (eC (.int 4))) (eC (.int 2)))) (xh 6 (qf zv (qa (eL (q1v 4 (qm (iR1 (qa (eV 1) qd)) [none,some 6,some 4] (bN 0) (bOr (zd (oIn false) (eV 0) (eV 1)) (zd (oIn false) (eV 0) (eOp oIx (eV 2) (eUn q1g (eC (.int 1)))))) (eV 0)))) qd))) ya) (q1e 4 (eV 6)))))
noncomputable def ve:FS:=(ze (xh 2 (eC (.int 0))) (ze (sIf (zd oGt (qf jz (qa (eV 0) qd)) (eC (.int 0))) (xh 2 (eOp oIx (eV 0) (eC (.int 0)))) ya) (ze (xh 3 (qf (qk 1 [] j7) (qa (eV 1) qd))) (ze (q1c 4 (qm (zu (eSl (eV 0) (oAt (eC (.int 1))) (oAt (eC (.int 63))))) [none,some 3] (bN 0) zx (qf (qk 1 [] zg) (qa (eOp oMod (eV 0) (eV 1)) qd)))) (ze (sIf (zd oEq (eOp oMod (eOp oDiv (eV 2) (eC (.int 7))) (eC (.int 2))) (eC (.int 1))) (ze (q1c 4 (q2s qd)) (k6 (iR1 (qa (eOp oMod (eOp oDiv (eV 2) (eC (.int 14))) (eC (.int 25))) qd)) (bN 5) j5)) ya) (q22 4 (zl (eV 4))))))))
noncomputable def kc:List D->Option D:=z5 7 ve
theorem q46{fa:Addr}{cdv:Value}{A:Around}{outer:List Env}{s:Shared}{H:Hp}{E:XK}{a__law_power:Addr}{fd__law_power:FuncData}(c_12:Cal P w K mg base "_law_power" 1 ["_law_many"] 1 j7 a__law_power fd__law_power)(b_12:Binds K fd__law_power ["_law_many"] []){a__law_set:Addr}{fd__law_set:FuncData}(c_14:Cal P w K mg base "_law_set" 1 ["_law_mark"] 1 zg a__law_set fd__law_set)(b_14:Binds K fd__law_set ["_law_mark"] []){a__law_mixed:Addr}{fd__law_mixed:FuncData}(c_11:Cal P w K mg base "_law_mixed" 1 ["_law_script","_law_k"] 2 jn a__law_mixed fd__law_mixed)(b_11:Binds K fd__law_mixed ["_law_script","_law_k"] [])(n_len:mg "len" = none)(n_range:mg "range" = none)(n_tuple:mg "tuple" = none)(hr:Room 1 (A.deeper (envOfC "_law_drawn" (qc y8) s.heap.objs.size fa cdv))):
  PSs (zj CX0 P w K mg base q27 "_law_drawn" (qc y8) fa cdv A outer s H E).nox (qu y8) (tDS K ve):=by
 unfold ve j5;refine(qq ?_ ?_);refine(j3 (i:=2) ?_ ?_ ?_ qj ?_ ?_);exact zw;exact rfl;exact(Or.inl rfl);exact rfl;walk_at "L";refine(qq ?_ ?_);refine(vf ?_ (qp ?_) jw);refine(zy q6a ?_ qj);refine(zh (vi) rfl n_len DL.j4 ?_);walk_at "A";exact(q0 (pv 0));exact qg;refine(j3 (i:=2) ?_ ?_ ?_ ?_ ?_ ?_);exact zw;exact rfl;exact(Or.inl rfl);refine(q1t ?_ qj);exact(q0 (pv 0));exact rfl;walk_at "L";refine(qq ?_ ?_);refine(j3 (i:=3) ?_ ?_ ?_ ?_ ?_ ?_);exact zw;exact rfl;exact(Or.inr rfl);refine(qz c_12 b_12 hr (by decide) rfl ?_);walk_at "A";exact(q0 (pv 1));exact qg;exact rfl;walk_at "L";refine(qq ?_ ?_);refine(q3u (i:=4) zw rfl (Or.inr rfl) (z7 (N':=["_law_cell","_law_size"]) (cap:=[none,some 3]) rfl (qv rfl rfl) (qt rfl) ?_ (fun _ _ _ _ _=>(qw q7n rfl (Or.inl rfl) (.inr rfl))) (fun _ _ _ _ _=>vt) (fun _ _ _ _ _=>?_)));refine(jc ?_);refine(q2u ?_ (q1f qj) (q1f qj));exact(q0 (pv 0));refine(qz c_14 b_14 hr (by decide) rfl ?_);walk_at "A";refine(z8 xu ?_ ?_);exact(q0 (pv 0));exact(q0 (pv 1));exact qg;refine(qq ?_ ?_);refine(vf ?_ (qq ?_ ?_) jw);refine(zy (wj hr.units) ?_ qj);refine(z8 xu ?_ qj);refine(z8 q69 ?_ qj);exact(q0 (pv 2));exact(q3u (i:=4) zw rfl (Or.inr rfl) (q1b qg));refine(qp ?_);refine(q2h g17 rfl ?_ (qw zw rfl (Or.inl rfl) (.inl rfl)) (qq ?_ ?_));refine(xv rfl n_range ?_);walk_at "A";refine(z8 xu ?_ qj);refine(z8 q69 ?_ qj);exact(q0 (pv 2));exact qg;refine(j3 (i:=6) ?_ ?_ ?_ ?_ ?_ ?_);exact zw;exact rfl;exact(Or.inr rfl);refine(qz c_14 b_14 hr (by decide) rfl ?_);walk_at "A";refine(z8 xu ?_ ?_);refine(qz c_11 b_11 hr (by decide) rfl ?_);walk_at "A";exact(q0 (pv 0));walk_at "A";exact(q0 (pv 5));exact qg;exact(q0 (pv 3));exact qg;exact rfl;walk_at "L";refine(qq ?_ ?_);refine(vf ?_ (qp ?_) jw);refine(PW.pt (q6b ?_ (q4m ?_)));refine(zy q6a ?_ qj);exact(q0 (pv 5));refine(zy (wj hr.units) ?_ qj);refine(z8 xu ?_ qj);refine(qz c_11 b_11 hr (by decide) rfl ?_);walk_at "A";exact(q0 (pv 0));walk_at "A";refine(z8 yr ?_ qj);exact(q0 (pv 5));exact qg;refine(j3 (i:=6) ?_ ?_ ?_ ?_ ?_ ?_);exact zw;exact rfl;exact(Or.inr rfl);refine(zk (jh) rfl n_tuple DL.boot_tuple ?_);walk_at "A";refine(jb ?_);refine(qdt (z7 (N':=["_law_ware","_law_sets_here"]) (cap:=[none,some 4]) rfl (qv rfl rfl) (qt rfl) ?_ (fun _ _ _ _ _=>(qw q7o rfl (Or.inl rfl) (.inr rfl))) (fun _ _ _ _ _=>(vh ?_)) (fun _ _ _ _ _=>?_)));refine(jc ?_);exact(q0 (pv 6));refine(zy q9b ?_ ?_);exact(q0 (pv 0));refine(q1t ?_ ?_);exact(q0 (pv 1));exact(qg9 qj);exact(q0 (pv 0));exact qg;exact rfl;walk_at "L";refine(qq ?_ ?_);refine(vf ?_ (qp ?_) jw);refine(PW.pt (q6b ?_ (q4m ?_)));refine(zy q6a ?_ qj);exact(q0 (pv 5));refine(zy (wj hr.units) ?_ qj);refine(z8 xu ?_ qj);refine(qz c_11 b_11 hr (by decide) rfl ?_);walk_at "A";exact(q0 (pv 0));walk_at "A";refine(z8 yr ?_ qj);exact(q0 (pv 5));exact qg;refine(j3 (i:=6) ?_ ?_ ?_ ?_ ?_ ?_);exact zw;exact rfl;exact(Or.inr rfl);refine(zk (jh) rfl n_tuple DL.boot_tuple ?_);walk_at "A";refine(jb ?_);refine(qdt (z7 (N':=["_law_ware","_law_some","_law_sets_here"]) (cap:=[none,some 6,some 4]) rfl (qv rfl rfl) (qt rfl) ?_ (fun _ _ _ _ _=>(qw q7p rfl (Or.inl rfl) (.inr rfl))) (fun _ _ _ _ _=>(vh ?_)) (fun _ _ _ _ _=>?_)));refine(xv rfl n_range ?_);walk_at "A";exact(q0 (pv 1));exact qg;refine(PW.pt (q98 ?_ (q9q ?_)));refine(zy q9b ?_ ?_);exact(q0 (pv 0));exact(q0 (pv 1));refine(zy q9b ?_ ?_);exact(q0 (pv 0));refine(q1t ?_ ?_);exact(q0 (pv 2));exact(qg9 qj);exact(q0 (pv 0));exact qg;exact rfl;walk_at "L";refine(qp ?_);refine(q6c (pv 4) ?_);exact(q0 (pv 6));refine(q0g 4 (qp ?_));refine(za ?_);exact(q0 (pv 4))
theorem qb7{fa:Addr}{dV:Value}{fd:FuncData}(F:Fun2 K "_law_drawn" "_law_drawn" y8 dV fa fd){a__law_power:Addr}{fd__law_power:FuncData}(c_12:Cal P w K mg base "_law_power" 1 ["_law_many"] 1 j7 a__law_power fd__law_power)(b_12:Binds K fd__law_power ["_law_many"] []){a__law_set:Addr}{fd__law_set:FuncData}(c_14:Cal P w K mg base "_law_set" 1 ["_law_mark"] 1 zg a__law_set fd__law_set)(b_14:Binds K fd__law_set ["_law_mark"] []){a__law_mixed:Addr}{fd__law_mixed:FuncData}(c_11:Cal P w K mg base "_law_mixed" 1 ["_law_script","_law_k"] 2 jn a__law_mixed fd__law_mixed)(b_11:Binds K fd__law_mixed ["_law_script","_law_k"] [])(n_len:mg "len" = none)(n_range:mg "range" = none)(n_tuple:mg "tuple" = none): FnOk P w K mg base CX0 2 fa fd ["_law_script","_law_wares"] (spD K 2 kc):=
 F.okn (k:=1) (n:=7) (ar:=2) (k1:=2) (u:=ve) qb6 rfl rfl rfl fun cdv A outer s H E hr=>(by first|(with_reducible exact q46 c_12 b_12 c_14 b_14 c_11 b_11 n_len n_range n_tuple hr)|exact q46 c_12 b_12 c_14 b_14 c_11 b_11 n_len n_range n_tuple hr)
abbrev jo:Stmt:=top 19
noncomputable def q39:List Str:=["_law_wares"]
theorem qca:(q39).Nodup:=by decide +kernel
theorem qcb:FnScope q39 ["_law_wares"] (qc jo):=⟨rfl,rfl,rfl,qca,rfl,by decide +kernel,by decide +kernel⟩
theorem q95:(["_law_mark"]:List Str).Nodup:=by decide +kernel
noncomputable def jk:List D->Option D:=z5 1 (zl (we (qa (qf jz (qa (eV 0) qd)) (qa (eV 0) qd))))
noncomputable def wq:FS:=(zl (eL (q09 (w6 jk) (qa (eL (qm (iR1 (qa (qf (qk 1 [] j7) (qa (eV 0) qd)) qd)) [none] (bN 0) zx (qf (qk 1 [] zg) (qa (eV 0) qd)))) qd))))
noncomputable def xx:List D->Option D:=z5 1 wq
theorem q54{fa:Addr}{A:Around}{outer:List Env}{s:Shared}{H:Hp}{E:XK}{a__law_set:Addr}{fd__law_set:FuncData}(c_14:Cal P w K mg base "_law_set" 1 ["_law_mark"] 1 zg a__law_set fd__law_set)(b_14:Binds K fd__law_set ["_law_mark"] []){a__law_power:Addr}{fd__law_power:FuncData}(c_12:Cal P w K mg base "_law_power" 1 ["_law_many"] 1 j7 a__law_power fd__law_power)(b_12:Binds K fd__law_power ["_law_many"] [])(n_sorted:mg "sorted" = none)(n_range:mg "range" = none)(n_len:mg "len" = none){cL TL:Addr}{dV':Value}{fd':FuncData}(F_L:Fun3 K "_law_sets" "_law_sets" jo dV' fa fd' cL TL)(hP_L:(TL,("_law_sets.<locals>.<lambda>" : Str))∈Lam.tab)(hU_L:∀p∈Lam.tab,p.1=TL->p.2="_law_sets.<locals>.<lambda>")(B_L:q0x mg base)(hr:Room 3 (A.deeper (envOfC "_law_sets" (qc jo) s.heap.objs.size fa (.ref cL)))):
  PSs (zj CX0 P w K mg base q39 "_law_sets" (qc jo) fa (.ref cL) A outer s H E).nox (qu jo) (tDS K wq):=by
 unfold wq jk;refine(qp ?_);refine(za ?_);refine(jb ?_);refine(qix (N:=["_law_some"]) (ps:=["_law_some"]) (k:=0) (u:=(we (qa (qf jz (qa (eV 0) qd)) (qa (eV 0) qd)))) rfl F_L.hd hP_L hU_L B_L hr rfl n_sorted ?_ ⟨rfl,rfl,rfl,by decide,rfl,by decide +kernel,by decide +kernel⟩ (fun _ _ _ _ _ _ _ hr=>?_) (fun _ _ _ us hl=>match us,hl with | [_],_=>rfl) (by decide) rfl);walk_at "A";refine(jb ?_);refine(z7 (N':=["_law_mark"]) (cap:=[none]) rfl (qv rfl rfl) (qt rfl) ?_ (fun _ _ _ _ _=>(qw q95 rfl (Or.inl rfl) (.inr rfl))) (fun _ _ _ _ _=>vt) (fun _ _ _ _ _=>?_));refine(xv rfl n_range ?_);walk_at "A";refine(qz c_12 b_12 hr (by decide) rfl ?_);walk_at "A";exact(q0 (pv 0));exact qg;exact qg;refine(qz c_14 b_14 hr (by decide) rfl ?_);walk_at "A";exact(q0 (pv 0));exact qg;exact qg;refine(q2g ?_);walk_at "A";refine(zh (vi) rfl n_len DL.j4 ?_);walk_at "A";exact(q0 (pv 0));exact qg;walk_at "A";exact(q0 (pv 0));exact qg
theorem qcc{fa:Addr}{a__law_set:Addr}{fd__law_set:FuncData}(c_14:Cal P w K mg base "_law_set" 1 ["_law_mark"] 1 zg a__law_set fd__law_set)(b_14:Binds K fd__law_set ["_law_mark"] []){a__law_power:Addr}{fd__law_power:FuncData}(c_12:Cal P w K mg base "_law_power" 1 ["_law_many"] 1 j7 a__law_power fd__law_power)(b_12:Binds K fd__law_power ["_law_many"] [])(n_sorted:mg "sorted" = none)(n_range:mg "range" = none)(n_len:mg "len" = none){cL TL:Addr}{dV':Value}{fd':FuncData}(F_L:Fun3 K "_law_sets" "_law_sets" jo dV' fa fd' cL TL)(hP_L:(TL,("_law_sets.<locals>.<lambda>" : Str))∈Lam.tab)(hU_L:∀p∈Lam.tab,p.1=TL->p.2="_law_sets.<locals>.<lambda>")(B_L:q0x mg base): FnOk P w K mg base CX0 4 fa fd' ["_law_wares"] (spD K 1 xx):=
 F_L.okn (k:=3) (n:=1) (ar:=1) (k1:=4) (u:=wq) qcb rfl rfl rfl fun A outer s H E hr=>(by first|(with_reducible exact q54 c_14 b_14 c_12 b_12 n_sorted n_range n_len F_L hP_L hU_L B_L hr)|exact q54 c_14 b_14 c_12 b_12 n_sorted n_range n_len F_L hP_L hU_L B_L hr)
abbrev y9:Stmt:=top 21
noncomputable def q28:List Str:=["_law_one","_law_other"]
theorem qb8:(q28).Nodup:=by decide +kernel
theorem qb9:FnScope q28 ["_law_one","_law_other"] (qc y9):=⟨rfl,rfl,rfl,qb8,rfl,by decide +kernel,by decide +kernel⟩
theorem q7q:(["_law_ware","_law_other"]:List Str).Nodup:=by decide +kernel
noncomputable def kf:FS:=(zl (eOp oEq (qf jz (qa (eL (qm (zu (eV 0)) [none,some 1] (bN 0) (zd (oIn false) (eV 0) (eV 1)) (eV 0))) qd)) (qf jz (qa (eV 0) qd))))
noncomputable def zo:List D->Option D:=z5 2 kf
theorem q47{fa:Addr}{cdv:Value}{A:Around}{outer:List Env}{s:Shared}{H:Hp}{E:XK}(n_len:mg "len" = none)(hr:Room 0 (A.deeper (envOfC "_law_below" (qc y9) s.heap.objs.size fa cdv))):
  PSs (zj CX0 P w K mg base q28 "_law_below" (qc y9) fa cdv A outer s H E).nox (qu y9) (tDS K kf):=by
 unfold kf;refine(qp ?_);refine(za ?_);refine(q2f (wj hr.units) ?_ ?_);refine(zh (vi) rfl n_len DL.j4 ?_);walk_at "A";refine(jb ?_);refine(z7 (N':=["_law_ware","_law_other"]) (cap:=[none,some 1]) rfl (qv rfl rfl) (qt rfl) ?_ (fun _ _ _ _ _=>(qw q7q rfl (Or.inl rfl) (.inr rfl))) (fun _ _ _ _ _=>(vh ?_)) (fun _ _ _ _ _=>?_));refine(jc ?_);exact(q0 (pv 0));refine(zy q9b ?_ ?_);exact(q0 (pv 0));exact(q0 (pv 1));exact(q0 (pv 0));exact qg;refine(zh (vi) rfl n_len DL.j4 ?_);walk_at "A";exact(q0 (pv 0));exact qg
theorem qba{fa:Addr}{dV:Value}{fd:FuncData}(F:Fun2 K "_law_below" "_law_below" y9 dV fa fd)(n_len:mg "len" = none): FnOk P w K mg base CX0 1 fa fd ["_law_one","_law_other"] (spD K 2 zo):=
 F.okn (k:=0) (n:=2) (ar:=2) (k1:=1) (u:=kf) qb9 rfl rfl rfl fun cdv A outer s H E hr=>(by first|(with_reducible exact q47 n_len hr)|exact q47 n_len hr)
abbrev wa:Stmt:=top 23
noncomputable def q48:List Str:=["_law_wares","_law_sets_here","_law_beyond","_law_clear","_law_some","_law_smallest","_law_highest","_law_less","_law_more"]
theorem x4:(q48).Nodup:=by decide +kernel
theorem qes:FnScope q48 ["_law_wares","_law_sets_here"] (qc wa):=⟨rfl,rfl,rfl,x4,rfl,by decide +kernel,by decide +kernel⟩
theorem qbb:(["_law_one","_law_some"]:List Str).Nodup:=by decide +kernel
theorem qbc:(["_law_one","_law_some"]:List Str).Nodup:=by decide +kernel
theorem qbd:(["_law_ware","_law_some"]:List Str).Nodup:=by decide +kernel
theorem qbe:(["_law_other","_law_ware"]:List Str).Nodup:=by decide +kernel
theorem qbf:(["_law_ware","_law_some"]:List Str).Nodup:=by decide +kernel
theorem qbg:(["_law_one","_law_beyond"]:List Str).Nodup:=by decide +kernel
theorem qbh:(["_law_one","_law_clear"]:List Str).Nodup:=by decide +kernel
noncomputable def yk:FS:=(ze (q1c 7 (qm (zu (eV 4)) [none,some 4] (bN 0) zx (qf zv (qa (eL (qm (zu (eV 1)) [none,some 0] (bN 0) (zd q3t (eV 0) (eV 1)) (eV 0))) qd)))) (q22 7 (ze (q1c 8 (qm (iR1 (qa (eV 0) qd)) [none,some 4] (bN 0) (zd (oIn true) (eV 0) (eV 1)) (qf zv (qa (eL (q09 q03 (qa (eOp jf (eV 1) (we (qa (eV 0) qd))) qd))) qd)))) (q22 8 (ze (sIf (q7a (bT (eOp q0b (eV 2) (eV 4))) (wd (bT (qf q5f (qa (eL (qm (zu (eV 7)) [none,some 2] (bN 0) zx (eOp q0b (eV 1) (eV 0)))) qd))))) (q1e 5 (eV 4)) ya) (sIf (q7a (bT (eOp q0b (eV 3) (eV 4))) (wd (bT (qf q5f (qa (eL (qm (zu (eV 8)) [none,some 3] (bN 0) zx (eOp q0b (eV 1) (eV 0)))) qd))))) (q1e 6 (eV 4)) ya))))))
noncomputable def q0j:FS:=(ze (sDD 2 3 4 (zu (qf (qk 1 [] xx) (qa (eV 0) qd))) (eOp oEq (qf jz (qa (eL (qm (zu (eV 1)) [none,some 4] (bN 0) (bT (qf (qk 2 [] zo) (qa (eV 1) (qa (eV 0) qd)))) (eV 0))) qd)) (eC (.int 0))) (eOp oEq (qf jz (qa (eL (qm (zu (eV 1)) [none,some 4] (bN 0) (bT (qf (qk 2 [] zo) (qa (eV 0) (qa (eV 1) qd)))) (eV 0))) qd)) (eC (.int 0)))) (ze (q1c 5 (q2s qd)) (ze (q1c 6 (q2s qd)) (ze (k6 (q5o (eV 2)) (bN 4) yk) (q22 8 (q22 7 (q22 5 (q22 6 (zl (eL (q2s (qa (qf zv (qa (eV 5) qd)) (qa (qf zv (qa (eV 6) qd)) qd)))))))))))))
noncomputable def q0k:List D->Option D:=z5 9 q0j
theorem q6x{fa:Addr}{cdv:Value}{A:Around}{outer:List Env}{s:Shared}{H:Hp}{E:XK}{a__law_sets:Addr}{fd__law_sets:FuncData}(c_15:Cal P w K mg base "_law_sets" 4 ["_law_wares"] 1 xx a__law_sets fd__law_sets)(b_15:Binds K fd__law_sets ["_law_wares"] []){a__law_below:Addr}{fd__law_below:FuncData}(c_8:Cal P w K mg base "_law_below" 1 ["_law_one","_law_other"] 2 zo a__law_below fd__law_below)(b_8:Binds K fd__law_below ["_law_one","_law_other"] [])(n_tuple:mg "tuple" = none)(n_len:mg "len" = none)(n_sorted:mg "sorted" = none)(n_range:mg "range" = none)(n_any:mg "any" = none)(hr:Room 4 (A.deeper (envOfC "_law_due" (qc wa) s.heap.objs.size fa cdv))):
  PSs (zj CX0 P w K mg base q48 "_law_due" (qc wa) fa cdv A outer s H E).nox (qu wa) (tDS K q0j):=by
 unfold q0j yk;refine(qp3 (by decide) (by decide) (by decide) g17 rfl (q62 (i:=2) x4 rfl (Or.inr rfl) q8i) (q62 (i:=3) x4 rfl (Or.inr rfl) q8i) ?_ (qcv x4 rfl (Or.inr rfl)) (qfa ?_ (qf9 (pv 2) (pv 4) (qds hr.units))) (qfa ?_ (qf9 (pv 3) (pv 4) (qds hr.units))) ?_);refine(jc ?_);refine(qz c_15 b_15 hr (by decide) rfl ?_);walk_at "A";exact(q0 (pv 0));exact qg;refine(q2f (wj hr.units) ?_ qj);refine(zh (vi) rfl n_len DL.j4 ?_);walk_at "A";refine(jb ?_);refine(z7 (N':=["_law_one","_law_some"]) (cap:=[none,some 4]) rfl (qv rfl rfl) (qt rfl) ?_ (fun _ _ _ _ _=>(qw qbb rfl (Or.inl rfl) (.inr rfl))) (fun _ _ _ _ _=>(vh ?_)) (fun _ _ _ _ _=>?_));refine(jc ?_);exact(q0 (pv 1));refine(jq ?_);refine(qz c_8 b_8 hr (by decide) rfl ?_);walk_at "A";exact(q0 (pv 1));walk_at "A";exact(q0 (pv 0));exact qg;exact(q0 (pv 0));exact qg;refine(q2f (wj hr.units) ?_ qj);refine(zh (vi) rfl n_len DL.j4 ?_);walk_at "A";refine(jb ?_);refine(z7 (N':=["_law_one","_law_some"]) (cap:=[none,some 4]) rfl (qv rfl rfl) (qt rfl) ?_ (fun _ _ _ _ _=>(qw qbc rfl (Or.inl rfl) (.inr rfl))) (fun _ _ _ _ _=>(vh ?_)) (fun _ _ _ _ _=>?_));refine(jc ?_);exact(q0 (pv 1));refine(jq ?_);refine(qz c_8 b_8 hr (by decide) rfl ?_);walk_at "A";exact(q0 (pv 0));walk_at "A";exact(q0 (pv 1));exact qg;exact(q0 (pv 0));exact qg;refine(qq ?_ ?_);exact(q3u (i:=5) x4 rfl (Or.inl rfl) (q1b qg));refine(qq ?_ ?_);exact(q3u (i:=6) x4 rfl (Or.inl rfl) (q1b qg));refine(qq ?_ ?_);refine(q2h g17 rfl ?_ (qw x4 rfl (Or.inr rfl) (.inl rfl)) (qq ?_ ?_));refine(qat ?_);exact(q0 (pv 2));refine(qaw (i:=7) rfl x4 rfl rfl (N':=["_law_ware","_law_some"]) (cap:=[none,some 4]) (qv rfl rfl) (qt rfl) ?_ (fun _ _ _ _ _=>(qw qbd rfl (Or.inr rfl) (.inl rfl))) (fun _ _ _ _ _=>vt) (fun _ _ _ _ _=>?_));refine(jc ?_);exact(q0 (pv 4));refine(zk (jh) rfl n_tuple DL.boot_tuple ?_);walk_at "A";refine(jb ?_);refine(z7 (N':=["_law_other","_law_ware"]) (cap:=[none,some 0]) rfl (qv rfl rfl) (qt rfl) ?_ (fun _ _ _ _ _=>(qw qbe rfl (Or.inl rfl) (.inr rfl))) (fun _ _ _ _ _=>(vh ?_)) (fun _ _ _ _ _=>?_));refine(jc ?_);exact(q0 (pv 1));refine(zy qfu ?_ ?_);exact(q0 (pv 0));exact(q0 (pv 1));exact(q0 (pv 0));exact qg;refine(q0g 7 (qq ?_ ?_));refine(qaw (i:=8) rfl x4 rfl rfl (N':=["_law_ware","_law_some"]) (cap:=[none,some 4]) (qv rfl rfl) (qt rfl) ?_ (fun _ _ _ _ _=>(qw qbf rfl (Or.inl rfl) (.inr rfl))) (fun _ _ _ _ _=>(vh ?_)) (fun _ _ _ _ _=>?_));refine(xv rfl n_range ?_);walk_at "A";exact(q0 (pv 0));exact qg;refine(zy q9x ?_ ?_);exact(q0 (pv 0));exact(q0 (pv 1));refine(zk (jh) rfl n_tuple DL.boot_tuple ?_);walk_at "A";refine(jb ?_);refine(qie (qh1 hr.units) rfl n_sorted DL.boot_sorted ?_);walk_at "A";refine(z8 yr ?_ ?_);exact(q0 (pv 1));refine(q2g ?_);walk_at "A";exact(q0 (pv 0));exact qg;exact qg;exact qg;refine(q0g 8 (qq ?_ ?_));refine(vf ?_ (qp ?_) jw);refine(PW.pt (q6b ?_ (q4m ?_)));refine(jq ?_);refine(q6u hr.units ?_ ?_);exact(q0 (pv 2));exact(q0 (pv 4));refine(k9 ?_);refine(jq ?_);refine(zh (q6h rfl) rfl n_any DL.boot_any ?_);walk_at "A";refine(jb ?_);refine(z7 (N':=["_law_one","_law_beyond"]) (cap:=[none,some 2]) rfl (qv rfl rfl) (qt rfl) ?_ (fun _ _ _ _ _=>(qw qbg rfl (Or.inl rfl) (.inr rfl))) (fun _ _ _ _ _=>vt) (fun _ _ _ _ _=>?_));refine(jc ?_);exact(q0 (pv 7));refine(q6u hr.units ?_ ?_);exact(q0 (pv 1));exact(q0 (pv 0));exact qg;refine(q6c (pv 5) ?_);exact(q0 (pv 4));refine(qp ?_);refine(vf ?_ (qp ?_) jw);refine(PW.pt (q6b ?_ (q4m ?_)));refine(jq ?_);refine(q6u hr.units ?_ ?_);exact(q0 (pv 3));exact(q0 (pv 4));refine(k9 ?_);refine(jq ?_);refine(zh (q6h rfl) rfl n_any DL.boot_any ?_);walk_at "A";refine(jb ?_);refine(z7 (N':=["_law_one","_law_clear"]) (cap:=[none,some 3]) rfl (qv rfl rfl) (qt rfl) ?_ (fun _ _ _ _ _=>(qw qbh rfl (Or.inl rfl) (.inr rfl))) (fun _ _ _ _ _=>vt) (fun _ _ _ _ _=>?_));refine(jc ?_);exact(q0 (pv 8));refine(q6u hr.units ?_ ?_);exact(q0 (pv 1));exact(q0 (pv 0));exact qg;refine(q6c (pv 6) ?_);exact(q0 (pv 4));refine(q0g 8 (q0g 7 (q0g 5 (q0g 6 (qp ?_)))));refine(za ?_);refine(jb ?_);refine(q1b ?_);walk_at "A";refine(zk (jh) rfl n_tuple DL.boot_tuple ?_);walk_at "A";exact(q0 (pv 5));exact qg;walk_at "A";refine(zk (jh) rfl n_tuple DL.boot_tuple ?_);walk_at "A";exact(q0 (pv 6));exact qg;exact qg
theorem qet{fa:Addr}{dV:Value}{fd:FuncData}(F:Fun2 K "_law_due" "_law_due" wa dV fa fd){a__law_sets:Addr}{fd__law_sets:FuncData}(c_15:Cal P w K mg base "_law_sets" 4 ["_law_wares"] 1 xx a__law_sets fd__law_sets)(b_15:Binds K fd__law_sets ["_law_wares"] []){a__law_below:Addr}{fd__law_below:FuncData}(c_8:Cal P w K mg base "_law_below" 1 ["_law_one","_law_other"] 2 zo a__law_below fd__law_below)(b_8:Binds K fd__law_below ["_law_one","_law_other"] [])(n_tuple:mg "tuple" = none)(n_len:mg "len" = none)(n_sorted:mg "sorted" = none)(n_range:mg "range" = none)(n_any:mg "any" = none): FnOk P w K mg base CX0 5 fa fd ["_law_wares","_law_sets_here"] (spD K 2 q0k):=
 F.okn (k:=4) (n:=9) (ar:=2) (k1:=5) (u:=q0j) qes rfl rfl rfl fun cdv A outer s H E hr=>(by first|(with_reducible exact q6x c_15 b_15 c_8 b_8 n_tuple n_len n_sorted n_range n_any hr)|exact q6x c_15 b_15 c_8 b_8 n_tuple n_len n_sorted n_range n_any hr)
abbrev yx:Stmt:=top 20
noncomputable def q3a:List Str:=["_law_found","_law_due_here","_law_one","_law_other"]
theorem q29:(q3a).Nodup:=by decide +kernel
theorem qcd:FnScope q3a ["_law_found","_law_due_here"] (qc yx):=⟨rfl,rfl,rfl,q29,rfl,by decide +kernel,by decide +kernel⟩
noncomputable def vw(rc:List D->Option D): FS:=(sIf (wd (bT (qf (qk 2 [] rc) (qa (eV 2) (qa (eV 3) qd))))) (zl (eC (.bl false))) ya)
noncomputable def xy(rc:List D->Option D): FS:=(ze (sIf (bT (q7c .tuple (eV 1))) (ze (sIf (bOr (wd (bT (q7c .tuple (eV 0)))) (zd q3t (qf jz (qa (eV 0) qd)) (qf jz (qa (eV 1) qd)))) (zl (eC (.bl false))) ya) (ze (k6 (qij (qa (eV 0) (qa (eV 1) qd))) (q9v 2 (q4n (bN 2) (q4n (bN 3) q9u))) (vw rc)) (zl (eC (.bl true))))) ya) (zl (qe8 (q7c .int (eV 0)) (qe8 (q9r (q7c .bool (eV 0))) (eOp oEq (eV 0) (eV 1))))))
noncomputable def F_law_same(n:Nat): List D->Option D:=Nat.rec (fun _=>none) (fun _ rc=>z5 4 (xy rc)) n
noncomputable def wt:List D->Option D:=F_law_same 16
theorem qce{fa:Addr}{cdv:Value}{A:Around}{outer:List Env}{s:Shared}{H:Hp}{E:XK}{rc:List D->Option D}{kr kk:Nat}(hkr:kr<=kk)(hk0:0<=kk){a__law_same:Addr}{fd__law_same:FuncData}(c_13:Cal P w K mg base "_law_same" kr ["_law_found","_law_due_here"] 2 rc a__law_same fd__law_same)(b_13:Binds K fd__law_same ["_law_found","_law_due_here"] [])(n_isinstance:mg "isinstance" = none)(n_tuple:mg "tuple" = none)(n_zip:mg "zip" = none)(n_int:mg "int" = none)(n_bool:mg "bool" = none)(n_len:mg "len" = none)(hr:Room kk (A.deeper (envOfC "_law_same" (qc yx) s.heap.objs.size fa cdv))):
  PSs (zj CX0 P w K mg base q3a "_law_same" (qc yx) fa cdv A outer s H E).nox (qu yx) (tDS K (xy rc)):=by
 unfold xy vw;refine(qq ?_ ?_);refine(vf ?_ (qq ?_ ?_) jw);refine(jq ?_);refine(q6e .tuple rfl n_isinstance rfl n_tuple DL.boot_tuple ?_);exact(q0 (pv 1));refine(vf ?_ (qp ?_) jw);refine(PW.pt (q98 ?_ (q9q ?_)));refine(k9 ?_);refine(jq ?_);refine(q6e .tuple rfl n_isinstance rfl n_tuple DL.boot_tuple ?_);exact(q0 (pv 0));refine(zy qfu ?_ ?_);refine(zh (vi) rfl n_len DL.j4 ?_);walk_at "A";exact(q0 (pv 0));exact qg;refine(zh (vi) rfl n_len DL.j4 ?_);walk_at "A";exact(q0 (pv 1));exact qg;exact(za wc);refine(qq ?_ ?_);refine(q2h g17 rfl ?_ (qnk rfl (qd5 (qw q29 rfl (Or.inl rfl) (.inl rfl)) (qd5 (qw q29 rfl (Or.inl rfl) (.inl rfl)) qnj))) (qp ?_));refine(qnr rfl n_zip ?_);walk_at "A";exact(q0 (pv 0));walk_at "A";exact(q0 (pv 1));exact qg;refine(vf ?_ (qp ?_) jw);refine(k9 ?_);refine(jq ?_);refine(qz c_13 b_13 hr hkr rfl ?_);walk_at "A";exact(q0 (pv 2));walk_at "A";exact(q0 (pv 3));exact qg;exact(za wc);refine(qp ?_);exact(za wc);refine(qp ?_);refine(za ?_);refine(qfw ?_ (qfw ?_ (qnh ?_)));refine(q6e .int rfl n_isinstance rfl n_int DL.boot_int ?_);exact(q0 (pv 0));refine(q9t ?_);refine(q6e .bool rfl n_isinstance rfl n_bool DL.boot_bool ?_);exact(q0 (pv 0));refine(q2f (wj hr.units) ?_ ?_);exact(q0 (pv 0));exact(q0 (pv 1))
theorem qcf{fa:Addr}{dV:Value}{fd:FuncData}(F:Fun2 K "_law_same" "_law_same" yx dV fa fd)(mgf:mg "_law_same" = some (.ref fa))(kpf:PySem.W.keepIn K (.ref fa)=true)(b_13:Binds K fd ["_law_found","_law_due_here"] [])(n_isinstance:mg "isinstance" = none)(n_tuple:mg "tuple" = none)(n_zip:mg "zip" = none)(n_int:mg "int" = none)(n_bool:mg "bool" = none)(n_len:mg "len" = none)(n:Nat): FnOk P w K mg base CX0 (1+n) fa fd ["_law_found","_law_due_here"] (spD K 2 (F_law_same n)):=by
 induction n with
 | zero=>exact qgi
 | succ n ih=>exact F.okn (k:=1+n) (n:=4) (ar:=2) (k1:=1+(n+1)) (u:=xy (F_law_same n)) qcd rfl rfl rfl fun cdv A outer s H E hr=>(by exact qce (kr:=1+n) (kk:=1+n) (gu _) (by omega) (Cal.mk ih mgf kpf) b_13 n_isinstance n_tuple n_zip n_int n_bool n_len hr)
abbrev wb:Stmt:=top 1
noncomputable def q49:List Str:=["some"]
theorem qeu:(q49).Nodup:=by decide +kernel
theorem qev:FnScope q49 ["some"] (qc wb):=⟨rfl,rfl,rfl,qeu,rfl,by decide +kernel,by decide +kernel⟩
theorem qbi:(["ware"]:List Str).Nodup:=by decide +kernel
noncomputable def q0l:FS:=(zl (qf qea (qa (eL (qm (zu (eV 0)) [none] (bN 0) zx (eOp oShl (eC (.int 1)) (eV 0)))) qd)))
noncomputable def zm:List D->Option D:=z5 1 q0l
theorem q6y{fa:Addr}{cdv:Value}{A:Around}{outer:List Env}{s:Shared}{H:Hp}{E:XK}(n_sum:mg "sum" = none)(hr:Room 0 (A.deeper (envOfC "mark_of" (qc wb) s.heap.objs.size fa cdv))):
  PSs (zj CX0 P w K mg base q49 "mark_of" (qc wb) fa cdv A outer s H E).nox (qu wb) (tDS K q0l):=by
 unfold q0l;refine(qp ?_);refine(za ?_);refine(zh (qnn rfl) rfl n_sum DL.boot_sum ?_);walk_at "A";refine(jb ?_);refine(z7 (N':=["ware"]) (cap:=[none]) rfl (qv rfl rfl) (qt rfl) ?_ (fun _ _ _ _ _=>(qw qbi rfl (Or.inl rfl) (.inr rfl))) (fun _ _ _ _ _=>vt) (fun _ _ _ _ _=>?_));refine(jc ?_);exact(q0 (pv 0));refine(z8 qft qj ?_);exact(q0 (pv 0));exact qg
theorem qew{fa:Addr}{dV:Value}{fd:FuncData}(F:Fun2 K "mark_of" "mark_of" wb dV fa fd)(n_sum:mg "sum" = none): FnOk P w K mg base CX0 1 fa fd ["some"] (spD K 1 zm):=
 F.okn (k:=0) (n:=1) (ar:=1) (k1:=1) (u:=q0l) qev rfl rfl rfl fun cdv A outer s H E hr=>(by first|(with_reducible exact q6y n_sum hr)|exact q6y n_sum hr)
abbrev yy:Stmt:=top 4
noncomputable def q3b:List Str:=["some"]
theorem qcg:(q3b).Nodup:=by decide +kernel
theorem qch:FnScope q3b ["some"] (qc yy):=⟨rfl,rfl,rfl,qcg,rfl,by decide +kernel,by decide +kernel⟩
noncomputable def wu:FS:=(zl (we (qa (qf jz (qa (eV 0) qd)) (qa (eV 0) qd))))
noncomputable def v5:List D->Option D:=z5 1 wu
theorem q55{fa:Addr}{cdv:Value}{A:Around}{outer:List Env}{s:Shared}{H:Hp}{E:XK}(n_len:mg "len" = none)(hr:Room 0 (A.deeper (envOfC "order_of" (qc yy) s.heap.objs.size fa cdv))):
  PSs (zj CX0 P w K mg base q3b "order_of" (qc yy) fa cdv A outer s H E).nox (qu yy) (tDS K wu):=by
 unfold wu;refine(qp ?_);refine(za ?_);refine(q2g ?_);walk_at "A";refine(zh (vi) rfl n_len DL.j4 ?_);walk_at "A";exact(q0 (pv 0));exact qg;walk_at "A";exact(q0 (pv 0));exact qg
theorem qci{fa:Addr}{dV:Value}{fd:FuncData}(F:Fun2 K "order_of" "order_of" yy dV fa fd)(n_len:mg "len" = none): FnOk P w K mg base CX0 1 fa fd ["some"] (spD K 1 v5):=
 F.okn (k:=0) (n:=1) (ar:=1) (k1:=1) (u:=wu) qch rfl rfl rfl fun cdv A outer s H E hr=>(by first|(with_reducible exact q55 n_len hr)|exact q55 n_len hr)
abbrev q04:Stmt:=top 2
noncomputable def q5q:List Str:=["mark"]
theorem qh5:(q5q).Nodup:=by decide +kernel
theorem qh6:FnScope q5q ["mark"] (qc q04):=⟨rfl,rfl,rfl,qh5,rfl,by decide +kernel,by decide +kernel⟩
theorem qcj:(["ware","mark"]:List Str).Nodup:=by decide +kernel
noncomputable def q1m:FS:=(zl (qf zv (qa (eL (qm (iR1 (qa (eUn oBits (eV 0)) qd)) [none,some 0] (bN 0) (zd oEq (eOp oMod (eOp oShr (eV 1) (eV 0)) (eC (.int 2))) (eC (.int 1))) (eV 0))) qd)))
noncomputable def yl:List D->Option D:=z5 1 q1m
theorem q8l{fa:Addr}{cdv:Value}{A:Around}{outer:List Env}{s:Shared}{H:Hp}{E:XK}(n_tuple:mg "tuple" = none)(n_range:mg "range" = none)(hr:Room 0 (A.deeper (envOfC "set_of" (qc q04) s.heap.objs.size fa cdv))):
  PSs (zj CX0 P w K mg base q5q "set_of" (qc q04) fa cdv A outer s H E).nox (qu q04) (tDS K q1m):=by
 unfold q1m;refine(qp ?_);refine(za ?_);refine(zk (jh) rfl n_tuple DL.boot_tuple ?_);walk_at "A";refine(jb ?_);refine(z7 (N':=["ware","mark"]) (cap:=[none,some 0]) rfl (qv rfl rfl) (qt rfl) ?_ (fun _ _ _ _ _=>(qw qcj rfl (Or.inl rfl) (.inr rfl))) (fun _ _ _ _ _=>(vh ?_)) (fun _ _ _ _ _=>?_));refine(xv rfl n_range ?_);walk_at "A";refine(qkv ?_);exact(q0 (pv 0));exact qg;refine(zy (wj hr.units) ?_ qj);refine(z8 xu ?_ qj);refine(z8 qne ?_ ?_);exact(q0 (pv 1));exact(q0 (pv 0));exact(q0 (pv 0));exact qg
theorem qh7{fa:Addr}{dV:Value}{fd:FuncData}(F:Fun2 K "set_of" "set_of" q04 dV fa fd)(n_tuple:mg "tuple" = none)(n_range:mg "range" = none): FnOk P w K mg base CX0 1 fa fd ["mark"] (spD K 1 yl):=
 F.okn (k:=0) (n:=1) (ar:=1) (k1:=1) (u:=q1m) qh6 rfl rfl rfl fun cdv A outer s H E hr=>(by first|(with_reducible exact q8l n_tuple n_range hr)|exact q8l n_tuple n_range hr)
abbrev yz:Stmt:=top 5
noncomputable def q3c:List Str:=["wares"]
theorem qck:(q3c).Nodup:=by decide +kernel
theorem qcl:FnScope q3c ["wares"] (qc yz):=⟨rfl,rfl,rfl,qck,rfl,by decide +kernel,by decide +kernel⟩
theorem q96:(["mark"]:List Str).Nodup:=by decide +kernel
noncomputable def wx:FS:=(zl (eL (q09 (w6 v5) (qa (eL (qm (iR1 (qa (eOp oShl (eC (.int 1)) (eV 0)) qd)) [none] (bN 0) zx (qf (qk 1 [] yl) (qa (eV 0) qd)))) qd))))
noncomputable def v7:List D->Option D:=z5 1 wx
theorem q56{fa:Addr}{cdv:Value}{A:Around}{outer:List Env}{s:Shared}{H:Hp}{E:XK}{a_order_of:Addr}{fd_order_of:FuncData}(c_19:Cal P w K mg base "order_of" 1 ["some"] 1 v5 a_order_of fd_order_of)(b_19:Binds K fd_order_of ["some"] []){a_set_of:Addr}{fd_set_of:FuncData}(c_20:Cal P w K mg base "set_of" 1 ["mark"] 1 yl a_set_of fd_set_of)(b_20:Binds K fd_set_of ["mark"] [])(n_sorted:mg "sorted" = none)(n_range:mg "range" = none)(hr:Room 3 (A.deeper (envOfC "all_sets" (qc yz) s.heap.objs.size fa cdv))):
  PSs (zj CX0 P w K mg base q3c "all_sets" (qc yz) fa cdv A outer s H E).nox (qu yz) (tDS K wx):=by
 unfold wx;refine(qp ?_);refine(za ?_);refine(jb ?_);refine(qiu c_19 b_19 hr (by decide) rfl n_sorted rfl ?_);walk_at "A";refine(jb ?_);refine(z7 (N':=["mark"]) (cap:=[none]) rfl (qv rfl rfl) (qt rfl) ?_ (fun _ _ _ _ _=>(qw q96 rfl (Or.inl rfl) (.inr rfl))) (fun _ _ _ _ _=>vt) (fun _ _ _ _ _=>?_));refine(xv rfl n_range ?_);walk_at "A";refine(z8 qft qj ?_);exact(q0 (pv 0));exact qg;refine(qz c_20 b_20 hr (by decide) rfl ?_);walk_at "A";exact(q0 (pv 0));exact qg;exact qg
theorem qcm{fa:Addr}{dV:Value}{fd:FuncData}(F:Fun2 K "all_sets" "all_sets" yz dV fa fd){a_order_of:Addr}{fd_order_of:FuncData}(c_19:Cal P w K mg base "order_of" 1 ["some"] 1 v5 a_order_of fd_order_of)(b_19:Binds K fd_order_of ["some"] []){a_set_of:Addr}{fd_set_of:FuncData}(c_20:Cal P w K mg base "set_of" 1 ["mark"] 1 yl a_set_of fd_set_of)(b_20:Binds K fd_set_of ["mark"] [])(n_sorted:mg "sorted" = none)(n_range:mg "range" = none): FnOk P w K mg base CX0 4 fa fd ["wares"] (spD K 1 v7):=
 F.okn (k:=3) (n:=1) (ar:=1) (k1:=4) (u:=wx) qcl rfl rfl rfl fun cdv A outer s H E hr=>(by first|(with_reducible exact q56 c_19 b_19 c_20 b_20 n_sorted n_range hr)|exact q56 c_19 b_19 c_20 b_20 n_sorted n_range hr)
abbrev q05:Stmt:=top 3
noncomputable def q5r:List Str:=["one","other"]
theorem qh8:(q5r).Nodup:=by decide +kernel
theorem qh9:FnScope q5r ["one","other"] (qc q05):=⟨rfl,rfl,rfl,qh8,rfl,by decide +kernel,by decide +kernel⟩
noncomputable def q1n:FS:=(zl (qf zv (qa (eL (qen (eV 0) (eV 1))) qd)))
noncomputable def q06:List D->Option D:=z5 2 q1n
theorem q8m{fa:Addr}{cdv:Value}{A:Around}{outer:List Env}{s:Shared}{H:Hp}{E:XK}(n_tuple:mg "tuple" = none)(n_sorted:mg "sorted" = none)(n_set:mg "set" = none)(hr:Room 0 (A.deeper (envOfC "joined" (qc q05) s.heap.objs.size fa cdv))):
  PSs (zj CX0 P w K mg base q5r "joined" (qc q05) fa cdv A outer s H E).nox (qu q05) (tDS K q1n):=by
 unfold q1n;refine(qp ?_);refine(za ?_);refine(zk (jh) rfl n_tuple DL.boot_tuple ?_);walk_at "A";refine(jb ?_);refine(qlq rfl rfl n_sorted rfl n_set ?_ ?_);exact(q0 (pv 0));exact(q0 (pv 1));exact qg
theorem qha{fa:Addr}{dV:Value}{fd:FuncData}(F:Fun2 K "joined" "joined" q05 dV fa fd)(n_tuple:mg "tuple" = none)(n_sorted:mg "sorted" = none)(n_set:mg "set" = none): FnOk P w K mg base CX0 1 fa fd ["one","other"] (spD K 2 q06):=
 F.okn (k:=0) (n:=2) (ar:=2) (k1:=1) (u:=q1n) qh9 rfl rfl rfl fun cdv A outer s H E hr=>(by first|(with_reducible exact q8m n_tuple n_sorted n_set hr)|exact q8m n_tuple n_sorted n_set hr)
abbrev jv:Stmt:=top 6
noncomputable def wy:List Str:=["some","wares"]
theorem q5s:(wy).Nodup:=by decide +kernel
theorem q5t:FnScope wy ["some","wares"] (qc jv):=⟨rfl,rfl,rfl,q5s,rfl,by decide +kernel,by decide +kernel⟩
theorem q4a:(["ware","some"]:List Str).Nodup:=by decide +kernel
noncomputable def v8:FS:=(zl (eL (qm (iR1 (qa (eV 1) qd)) [none,some 0] (bN 0) (zd (oIn true) (eV 0) (eV 1)) (qf (qk 2 [] q06) (qa (eV 1) (qa (we (qa (eV 0) qd)) qd))))))
noncomputable def v9:List D->Option D:=z5 2 v8
theorem q1o{fa:Addr}{cdv:Value}{A:Around}{outer:List Env}{s:Shared}{H:Hp}{E:XK}{a_joined:Addr}{fd_joined:FuncData}(c_7:Cal P w K mg base "joined" 1 ["one","other"] 2 q06 a_joined fd_joined)(b_7:Binds K fd_joined ["one","other"] [])(n_range:mg "range" = none)(hr:Room 1 (A.deeper (envOfC "any_ware_more" (qc jv) s.heap.objs.size fa cdv))):
  PSs (zj CX0 P w K mg base wy "any_ware_more" (qc jv) fa cdv A outer s H E).nox (qu jv) (tDS K v8):=by
 unfold v8;refine(qp ?_);refine(za ?_);refine(jb ?_);refine(z7 (N':=["ware","some"]) (cap:=[none,some 0]) rfl (qv rfl rfl) (qt rfl) ?_ (fun _ _ _ _ _=>(qw q4a rfl (Or.inl rfl) (.inr rfl))) (fun _ _ _ _ _=>(vh ?_)) (fun _ _ _ _ _=>?_));refine(xv rfl n_range ?_);walk_at "A";exact(q0 (pv 1));exact qg;refine(zy q9x ?_ ?_);exact(q0 (pv 0));exact(q0 (pv 1));refine(qz c_7 b_7 hr (by decide) rfl ?_);walk_at "A";exact(q0 (pv 1));walk_at "A";refine(q2g ?_);walk_at "A";exact(q0 (pv 0));exact qg;exact qg
theorem q5u{fa:Addr}{dV:Value}{fd:FuncData}(F:Fun2 K "any_ware_more" "any_ware_more" jv dV fa fd){a_joined:Addr}{fd_joined:FuncData}(c_7:Cal P w K mg base "joined" 1 ["one","other"] 2 q06 a_joined fd_joined)(b_7:Binds K fd_joined ["one","other"] [])(n_range:mg "range" = none): FnOk P w K mg base CX0 2 fa fd ["some","wares"] (spD K 2 v9):=
 F.okn (k:=1) (n:=2) (ar:=2) (k1:=2) (u:=v8) q5t rfl rfl rfl fun cdv A outer s H E hr=>(by first|(with_reducible exact q1o c_7 b_7 n_range hr)|exact q1o c_7 b_7 n_range hr)
abbrev xp:Stmt:=top 11
noncomputable def q0q:List Str:=["some","known","wares"]
theorem q7r:(q0q).Nodup:=by decide +kernel
theorem q7s:FnScope q0q ["some","known","wares"] (qc xp):=⟨rfl,rfl,rfl,q7r,rfl,by decide +kernel,by decide +kernel⟩
theorem q5v:(["longer","known"]:List Str).Nodup:=by decide +kernel
noncomputable def vx:FS:=(zl (q9r (qf q5f (qa (eL (qm (zu (qf (qk 2 [] v9) (qa (eV 0) (qa (eV 2) qd)))) [none,some 1] (bN 0) zx (eOp q33 (eV 0) (eV 1)))) qd))))
noncomputable def xq:List D->Option D:=z5 3 vx
theorem q2l{fa:Addr}{cdv:Value}{A:Around}{outer:List Env}{s:Shared}{H:Hp}{E:XK}{a_any_ware_more:Addr}{fd_any_ware_more:FuncData}(c_1:Cal P w K mg base "any_ware_more" 2 ["some","wares"] 2 v9 a_any_ware_more fd_any_ware_more)(b_1:Binds K fd_any_ware_more ["some","wares"] [])(n_any:mg "any" = none)(hr:Room 2 (A.deeper (envOfC "is_greatest" (qc xp) s.heap.objs.size fa cdv))):
  PSs (zj CX0 P w K mg base q0q "is_greatest" (qc xp) fa cdv A outer s H E).nox (qu xp) (tDS K vx):=by
 unfold vx;refine(qp ?_);refine(za ?_);refine(q9t ?_);refine(zh (q6h rfl) rfl n_any DL.boot_any ?_);walk_at "A";refine(jb ?_);refine(z7 (N':=["longer","known"]) (cap:=[none,some 1]) rfl (qv rfl rfl) (qt rfl) ?_ (fun _ _ _ _ _=>(qw q5v rfl (Or.inl rfl) (.inr rfl))) (fun _ _ _ _ _=>vt) (fun _ _ _ _ _=>?_));refine(jc ?_);refine(qz c_1 b_1 hr (by decide) rfl ?_);walk_at "A";exact(q0 (pv 0));walk_at "A";exact(q0 (pv 2));exact qg;refine(q2f (qgu hr.units) ?_ ?_);exact(q0 (pv 0));exact(q0 (pv 1));exact qg
theorem q7t{fa:Addr}{dV:Value}{fd:FuncData}(F:Fun2 K "is_greatest" "is_greatest" xp dV fa fd){a_any_ware_more:Addr}{fd_any_ware_more:FuncData}(c_1:Cal P w K mg base "any_ware_more" 2 ["some","wares"] 2 v9 a_any_ware_more fd_any_ware_more)(b_1:Binds K fd_any_ware_more ["some","wares"] [])(n_any:mg "any" = none): FnOk P w K mg base CX0 3 fa fd ["some","known","wares"] (spD K 3 xq):=
 F.okn (k:=2) (n:=3) (ar:=3) (k1:=3) (u:=vx) q7s rfl rfl rfl fun cdv A outer s H E hr=>(by first|(with_reducible exact q2l c_1 b_1 n_any hr)|exact q2l c_1 b_1 n_any hr)
abbrev x8:Stmt:=top 14
noncomputable def q07:List Str:=["mark","marks","other"]
theorem q1w:(q07).Nodup:=by decide +kernel
theorem q6z:FnScope q07 ["mark","marks"] (qc x8):=⟨rfl,rfl,rfl,q1w,rfl,by decide +kernel,by decide +kernel⟩
noncomputable def zq:FS:=(sIf (zd oEq (eOp oBand (eV 0) (eV 2)) (eV 2)) (zl (eC (.bl true))) ya)
noncomputable def x9:FS:=(ze (k6 (zu (eV 1)) (bN 2) zq) (zl (eC (.bl false))))
noncomputable def xa:List D->Option D:=z5 3 x9
theorem q1x{fa:Addr}{cdv:Value}{A:Around}{outer:List Env}{s:Shared}{H:Hp}{E:XK}(hr:Room 0 (A.deeper (envOfC "is_above_one" (qc x8) s.heap.objs.size fa cdv))):
  PSs (zj CX0 P w K mg base q07 "is_above_one" (qc x8) fa cdv A outer s H E).nox (qu x8) (tDS K x9):=by
 unfold x9 zq;refine(qq ?_ ?_);refine(q2h g17 rfl ?_ (qw q1w rfl (Or.inl rfl) (.inl rfl)) (qp ?_));refine(jc ?_);exact(q0 (pv 1));refine(vf ?_ (qp ?_) jw);refine(zy (wj hr.units) ?_ ?_);refine(z8 qdc ?_ ?_);exact(q0 (pv 0));exact(q0 (pv 2));exact(q0 (pv 2));exact(za wc);refine(qp ?_);exact(za wc)
theorem q70{fa:Addr}{dV:Value}{fd:FuncData}(F:Fun2 K "is_above_one" "is_above_one" x8 dV fa fd): FnOk P w K mg base CX0 1 fa fd ["mark","marks"] (spD K 2 xa):=
 F.okn (k:=0) (n:=3) (ar:=2) (k1:=1) (u:=x9) q6z rfl rfl rfl fun cdv A outer s H E hr=>(by first|(with_reducible exact q1x  hr)|exact q1x  hr)
abbrev j6:Stmt:=top 10
noncomputable def ym:List Str:=["wares","sets","marks","known"]
theorem yb:(ym).Nodup:=by decide +kernel
theorem q3l:FnScope ym ["wares","sets"] (qc j6):=⟨rfl,rfl,rfl,yb,rfl,by decide +kernel,by decide +kernel⟩
theorem q2m:(["some"]:List Str).Nodup:=by decide +kernel
theorem q2n:(["some","marks"]:List Str).Nodup:=by decide +kernel
theorem q2o:(["some","known","wares"]:List Str).Nodup:=by decide +kernel
noncomputable def jr:FS:=(ze (xh 2 (eL (qm (zu (eV 1)) [none] (bN 0) zx (qf (qk 1 [] zm) (qa (eV 0) qd))))) (ze (xh 3 (qf q6t (qa (eL (qm (zu (qf (qk 1 [] v7) (qa (eV 0) qd))) [none,some 2] (bN 0) (wd (bT (qf (qk 2 [] xa) (qa (qf (qk 1 [] zm) (qa (eV 0) qd)) (qa (eV 1) qd))))) (we (qa (eV 0) (qa (eC (.bl true)) qd))))) qd))) (zl (qf zv (qa (eL (qm (q5o (eV 3)) [none,some 3,some 0] (bN 0) (bT (qf (qk 3 [] xq) (qa (eV 0) (qa (eV 1) (qa (eV 2) qd))))) (eV 0))) qd)))))
noncomputable def jt:List D->Option D:=z5 4 jr
theorem q00{fa:Addr}{cdv:Value}{A:Around}{outer:List Env}{s:Shared}{H:Hp}{E:XK}{a_mark_of:Addr}{fd_mark_of:FuncData}(c_17:Cal P w K mg base "mark_of" 1 ["some"] 1 zm a_mark_of fd_mark_of)(b_17:Binds K fd_mark_of ["some"] []){a_all_sets:Addr}{fd_all_sets:FuncData}(c_0:Cal P w K mg base "all_sets" 4 ["wares"] 1 v7 a_all_sets fd_all_sets)(b_0:Binds K fd_all_sets ["wares"] []){a_is_greatest:Addr}{fd_is_greatest:FuncData}(c_5:Cal P w K mg base "is_greatest" 3 ["some","known","wares"] 3 xq a_is_greatest fd_is_greatest)(b_5:Binds K fd_is_greatest ["some","known","wares"] []){a_is_above_one:Addr}{fd_is_above_one:FuncData}(c_3:Cal P w K mg base "is_above_one" 1 ["mark","marks"] 2 xa a_is_above_one fd_is_above_one)(b_3:Binds K fd_is_above_one ["mark","marks"] [])(n_dict:mg "dict" = none)(n_tuple:mg "tuple" = none)(hr:Room 4 (A.deeper (envOfC "greatest_without" (qc j6) s.heap.objs.size fa cdv))):
  PSs (zj CX0 P w K mg base ym "greatest_without" (qc j6) fa cdv A outer s H E).nox (qu j6) (tDS K jr):=by
 unfold jr;refine(qq ?_ ?_);refine(j3 (i:=2) ?_ ?_ ?_ ?_ ?_ ?_);exact yb;exact rfl;exact(Or.inr rfl);refine(jb ?_);refine(z7 (N':=["some"]) (cap:=[none]) rfl (qv rfl rfl) (qt rfl) ?_ (fun _ _ _ _ _=>(qw q2m rfl (Or.inl rfl) (.inr rfl))) (fun _ _ _ _ _=>vt) (fun _ _ _ _ _=>?_));refine(jc ?_);exact(q0 (pv 1));refine(qz c_17 b_17 hr (by decide) rfl ?_);walk_at "A";exact(q0 (pv 0));exact qg;exact rfl;walk_at "L";refine(qq ?_ ?_);refine(j3 (i:=3) ?_ ?_ ?_ ?_ ?_ ?_);exact yb;exact rfl;exact(Or.inr rfl);refine(zk (qdr rfl hr.units) rfl n_dict DL.boot_dict ?_);walk_at "A";refine(jb ?_);refine(z7 (N':=["some","marks"]) (cap:=[none,some 2]) rfl (qv rfl rfl) (qt rfl) ?_ (fun _ _ _ _ _=>(qw q2n rfl (Or.inl rfl) (.inr rfl))) (fun _ _ _ _ _=>(vh ?_)) (fun _ _ _ _ _=>?_));refine(jc ?_);refine(qz c_0 b_0 hr (by decide) rfl ?_);walk_at "A";exact(q0 (pv 0));exact qg;refine(k9 ?_);refine(jq ?_);refine(qz c_3 b_3 hr (by decide) rfl ?_);walk_at "A";refine(qz c_17 b_17 hr (by decide) rfl ?_);walk_at "A";exact(q0 (pv 0));exact qg;walk_at "A";exact(q0 (pv 1));exact qg;refine(q2g ?_);walk_at "A";exact(q0 (pv 0));walk_at "A";exact wc;exact qg;exact qg;exact rfl;walk_at "L";refine(qp ?_);refine(za ?_);refine(zk (jh) rfl n_tuple DL.boot_tuple ?_);walk_at "A";refine(jb ?_);refine(z7 (N':=["some","known","wares"]) (cap:=[none,some 3,some 0]) rfl (qv rfl rfl) (qt rfl) ?_ (fun _ _ _ _ _=>(qw q2o rfl (Or.inl rfl) (.inr rfl))) (fun _ _ _ _ _=>(vh ?_)) (fun _ _ _ _ _=>?_));refine(qat ?_);exact(q0 (pv 3));refine(jq ?_);refine(qz c_5 b_5 hr (by decide) rfl ?_);walk_at "A";exact(q0 (pv 0));walk_at "A";exact(q0 (pv 1));walk_at "A";exact(q0 (pv 2));exact qg;exact(q0 (pv 0));exact qg
theorem q3m{fa:Addr}{dV:Value}{fd:FuncData}(F:Fun2 K "greatest_without" "greatest_without" j6 dV fa fd){a_mark_of:Addr}{fd_mark_of:FuncData}(c_17:Cal P w K mg base "mark_of" 1 ["some"] 1 zm a_mark_of fd_mark_of)(b_17:Binds K fd_mark_of ["some"] []){a_all_sets:Addr}{fd_all_sets:FuncData}(c_0:Cal P w K mg base "all_sets" 4 ["wares"] 1 v7 a_all_sets fd_all_sets)(b_0:Binds K fd_all_sets ["wares"] []){a_is_greatest:Addr}{fd_is_greatest:FuncData}(c_5:Cal P w K mg base "is_greatest" 3 ["some","known","wares"] 3 xq a_is_greatest fd_is_greatest)(b_5:Binds K fd_is_greatest ["some","known","wares"] []){a_is_above_one:Addr}{fd_is_above_one:FuncData}(c_3:Cal P w K mg base "is_above_one" 1 ["mark","marks"] 2 xa a_is_above_one fd_is_above_one)(b_3:Binds K fd_is_above_one ["mark","marks"] [])(n_dict:mg "dict" = none)(n_tuple:mg "tuple" = none): FnOk P w K mg base CX0 5 fa fd ["wares","sets"] (spD K 2 jt):=
 F.okn (k:=4) (n:=4) (ar:=2) (k1:=5) (u:=jr) q3l rfl rfl rfl fun cdv A outer s H E hr=>(by first|(with_reducible exact q00 c_17 b_17 c_0 b_0 c_5 b_5 c_3 b_3 n_dict n_tuple hr)|exact q00 c_17 b_17 c_0 b_0 c_5 b_5 c_3 b_3 n_dict n_tuple hr)
abbrev jl:Stmt:=top 7
noncomputable def km:List Str:=["some"]
theorem q4w:(km).Nodup:=by decide +kernel
theorem q4x:FnScope km ["some"] (qc jl):=⟨rfl,rfl,rfl,q4w,rfl,by decide +kernel,by decide +kernel⟩
theorem q3n:(["place","some"]:List Str).Nodup:=by decide +kernel
noncomputable def xk:FS:=(zl (eL (qm (iR1 (qa (qf jz (qa (eV 0) qd)) qd)) [none,some 0] (bN 0) zx (eOp jf (eSl (eV 1) oNo (oAt (eV 0))) (eSl (eV 1) (oAt (eOp jf (eV 0) (eC (.int 1)))) oNo)))))
noncomputable def xl:List D->Option D:=z5 1 xk
theorem q0t{fa:Addr}{cdv:Value}{A:Around}{outer:List Env}{s:Shared}{H:Hp}{E:XK}(n_range:mg "range" = none)(n_len:mg "len" = none)(hr:Room 0 (A.deeper (envOfC "one_ware_fewer" (qc jl) s.heap.objs.size fa cdv))):
  PSs (zj CX0 P w K mg base km "one_ware_fewer" (qc jl) fa cdv A outer s H E).nox (qu jl) (tDS K xk):=by
 unfold xk;refine(qp ?_);refine(za ?_);refine(jb ?_);refine(z7 (N':=["place","some"]) (cap:=[none,some 0]) rfl (qv rfl rfl) (qt rfl) ?_ (fun _ _ _ _ _=>(qw q3n rfl (Or.inl rfl) (.inr rfl))) (fun _ _ _ _ _=>vt) (fun _ _ _ _ _=>?_));refine(xv rfl n_range ?_);walk_at "A";refine(zh (vi) rfl n_len DL.j4 ?_);walk_at "A";exact(q0 (pv 0));exact qg;exact qg;refine(z8 yr ?_ ?_);refine(q2u ?_ q5g (q1f ?_));exact(q0 (pv 1));exact(q0 (pv 0));refine(q2u ?_ (q1f ?_) q5g);exact(q0 (pv 1));refine(z8 yr ?_ qj);exact(q0 (pv 0))
theorem q4y{fa:Addr}{dV:Value}{fd:FuncData}(F:Fun2 K "one_ware_fewer" "one_ware_fewer" jl dV fa fd)(n_range:mg "range" = none)(n_len:mg "len" = none): FnOk P w K mg base CX0 1 fa fd ["some"] (spD K 1 xl):=
 F.okn (k:=0) (n:=1) (ar:=1) (k1:=1) (u:=xk) q4x rfl rfl rfl fun cdv A outer s H E hr=>(by first|(with_reducible exact q0t n_range n_len hr)|exact q0t n_range n_len hr)
abbrev xr:Stmt:=top 12
noncomputable def q0r:List Str:=["some","known"]
theorem q7u:(q0r).Nodup:=by decide +kernel
theorem q7v:FnScope q0r ["some","known"] (qc xr):=⟨rfl,rfl,rfl,q7u,rfl,by decide +kernel,by decide +kernel⟩
theorem q5w:(["shorter","known"]:List Str).Nodup:=by decide +kernel
noncomputable def vy:FS:=(zl (q9r (qf q5f (qa (eL (qm (zu (qf (qk 1 [] xl) (qa (eV 0) qd))) [none,some 1] (bN 0) zx (eOp q33 (eV 0) (eV 1)))) qd))))
noncomputable def xt:List D->Option D:=z5 2 vy
theorem q2p{fa:Addr}{cdv:Value}{A:Around}{outer:List Env}{s:Shared}{H:Hp}{E:XK}{a_one_ware_fewer:Addr}{fd_one_ware_fewer:FuncData}(c_18:Cal P w K mg base "one_ware_fewer" 1 ["some"] 1 xl a_one_ware_fewer fd_one_ware_fewer)(b_18:Binds K fd_one_ware_fewer ["some"] [])(n_any:mg "any" = none)(hr:Room 1 (A.deeper (envOfC "is_smallest" (qc xr) s.heap.objs.size fa cdv))):
  PSs (zj CX0 P w K mg base q0r "is_smallest" (qc xr) fa cdv A outer s H E).nox (qu xr) (tDS K vy):=by
 unfold vy;refine(qp ?_);refine(za ?_);refine(q9t ?_);refine(zh (q6h rfl) rfl n_any DL.boot_any ?_);walk_at "A";refine(jb ?_);refine(z7 (N':=["shorter","known"]) (cap:=[none,some 1]) rfl (qv rfl rfl) (qt rfl) ?_ (fun _ _ _ _ _=>(qw q5w rfl (Or.inl rfl) (.inr rfl))) (fun _ _ _ _ _=>vt) (fun _ _ _ _ _=>?_));refine(jc ?_);refine(qz c_18 b_18 hr (by decide) rfl ?_);walk_at "A";exact(q0 (pv 0));exact qg;refine(q2f (qgu hr.units) ?_ ?_);exact(q0 (pv 0));exact(q0 (pv 1));exact qg
theorem q7w{fa:Addr}{dV:Value}{fd:FuncData}(F:Fun2 K "is_smallest" "is_smallest" xr dV fa fd){a_one_ware_fewer:Addr}{fd_one_ware_fewer:FuncData}(c_18:Cal P w K mg base "one_ware_fewer" 1 ["some"] 1 xl a_one_ware_fewer fd_one_ware_fewer)(b_18:Binds K fd_one_ware_fewer ["some"] [])(n_any:mg "any" = none): FnOk P w K mg base CX0 2 fa fd ["some","known"] (spD K 2 xt):=
 F.okn (k:=1) (n:=2) (ar:=2) (k1:=2) (u:=vy) q7v rfl rfl rfl fun cdv A outer s H E hr=>(by first|(with_reducible exact q2p c_18 b_18 n_any hr)|exact q2p c_18 b_18 n_any hr)
abbrev xb:Stmt:=top 13
noncomputable def q08:List Str:=["mark","marks","other"]
theorem q1y:(q08).Nodup:=by decide +kernel
theorem q71:FnScope q08 ["mark","marks"] (qc xb):=⟨rfl,rfl,rfl,q1y,rfl,by decide +kernel,by decide +kernel⟩
noncomputable def zr:FS:=(sIf (zd oEq (eOp oBand (eV 0) (eV 2)) (eV 0)) (zl (eC (.bl true))) ya)
noncomputable def xc:FS:=(ze (k6 (zu (eV 1)) (bN 2) zr) (zl (eC (.bl false))))
noncomputable def xf:List D->Option D:=z5 3 xc
theorem q1z{fa:Addr}{cdv:Value}{A:Around}{outer:List Env}{s:Shared}{H:Hp}{E:XK}(hr:Room 0 (A.deeper (envOfC "is_below_one" (qc xb) s.heap.objs.size fa cdv))):
  PSs (zj CX0 P w K mg base q08 "is_below_one" (qc xb) fa cdv A outer s H E).nox (qu xb) (tDS K xc):=by
 unfold xc zr;refine(qq ?_ ?_);refine(q2h g17 rfl ?_ (qw q1y rfl (Or.inl rfl) (.inl rfl)) (qp ?_));refine(jc ?_);exact(q0 (pv 1));refine(vf ?_ (qp ?_) jw);refine(zy (wj hr.units) ?_ ?_);refine(z8 qdc ?_ ?_);exact(q0 (pv 0));exact(q0 (pv 2));exact(q0 (pv 0));exact(za wc);refine(qp ?_);exact(za wc)
theorem q72{fa:Addr}{dV:Value}{fd:FuncData}(F:Fun2 K "is_below_one" "is_below_one" xb dV fa fd): FnOk P w K mg base CX0 1 fa fd ["mark","marks"] (spD K 2 xf):=
 F.okn (k:=0) (n:=3) (ar:=2) (k1:=1) (u:=xc) q71 rfl rfl rfl fun cdv A outer s H E hr=>(by first|(with_reducible exact q1z  hr)|exact q1z  hr)
abbrev je:Stmt:=top 9
noncomputable def k8:List Str:=["wares","sets","marks","known"]
theorem yn:(k8).Nodup:=by decide +kernel
theorem q4b:FnScope k8 ["wares","sets"] (qc je):=⟨rfl,rfl,rfl,yn,rfl,by decide +kernel,by decide +kernel⟩
theorem q3d:(["some"]:List Str).Nodup:=by decide +kernel
theorem q3e:(["some","marks"]:List Str).Nodup:=by decide +kernel
theorem q3f:(["some","known"]:List Str).Nodup:=by decide +kernel
noncomputable def jx:FS:=(ze (xh 2 (eL (qm (zu (eV 1)) [none] (bN 0) zx (qf (qk 1 [] zm) (qa (eV 0) qd))))) (ze (xh 3 (qf q6t (qa (eL (qm (zu (qf (qk 1 [] v7) (qa (eV 0) qd))) [none,some 2] (bN 0) (wd (bT (qf (qk 2 [] xf) (qa (qf (qk 1 [] zm) (qa (eV 0) qd)) (qa (eV 1) qd))))) (we (qa (eV 0) (qa (eC (.bl true)) qd))))) qd))) (zl (qf zv (qa (eL (qm (q5o (eV 3)) [none,some 3] (bN 0) (bT (qf (qk 2 [] xt) (qa (eV 0) (qa (eV 1) qd)))) (eV 0))) qd)))))
noncomputable def jy:List D->Option D:=z5 4 jx
theorem q0m{fa:Addr}{cdv:Value}{A:Around}{outer:List Env}{s:Shared}{H:Hp}{E:XK}{a_mark_of:Addr}{fd_mark_of:FuncData}(c_17:Cal P w K mg base "mark_of" 1 ["some"] 1 zm a_mark_of fd_mark_of)(b_17:Binds K fd_mark_of ["some"] []){a_all_sets:Addr}{fd_all_sets:FuncData}(c_0:Cal P w K mg base "all_sets" 4 ["wares"] 1 v7 a_all_sets fd_all_sets)(b_0:Binds K fd_all_sets ["wares"] []){a_is_smallest:Addr}{fd_is_smallest:FuncData}(c_6:Cal P w K mg base "is_smallest" 2 ["some","known"] 2 xt a_is_smallest fd_is_smallest)(b_6:Binds K fd_is_smallest ["some","known"] []){a_is_below_one:Addr}{fd_is_below_one:FuncData}(c_4:Cal P w K mg base "is_below_one" 1 ["mark","marks"] 2 xf a_is_below_one fd_is_below_one)(b_4:Binds K fd_is_below_one ["mark","marks"] [])(n_dict:mg "dict" = none)(n_tuple:mg "tuple" = none)(hr:Room 4 (A.deeper (envOfC "smallest_beyond" (qc je) s.heap.objs.size fa cdv))):
  PSs (zj CX0 P w K mg base k8 "smallest_beyond" (qc je) fa cdv A outer s H E).nox (qu je) (tDS K jx):=by
 unfold jx;refine(qq ?_ ?_);refine(j3 (i:=2) ?_ ?_ ?_ ?_ ?_ ?_);exact yn;exact rfl;exact(Or.inr rfl);refine(jb ?_);refine(z7 (N':=["some"]) (cap:=[none]) rfl (qv rfl rfl) (qt rfl) ?_ (fun _ _ _ _ _=>(qw q3d rfl (Or.inl rfl) (.inr rfl))) (fun _ _ _ _ _=>vt) (fun _ _ _ _ _=>?_));refine(jc ?_);exact(q0 (pv 1));refine(qz c_17 b_17 hr (by decide) rfl ?_);walk_at "A";exact(q0 (pv 0));exact qg;exact rfl;walk_at "L";refine(qq ?_ ?_);refine(j3 (i:=3) ?_ ?_ ?_ ?_ ?_ ?_);exact yn;exact rfl;exact(Or.inr rfl);refine(zk (qdr rfl hr.units) rfl n_dict DL.boot_dict ?_);walk_at "A";refine(jb ?_);refine(z7 (N':=["some","marks"]) (cap:=[none,some 2]) rfl (qv rfl rfl) (qt rfl) ?_ (fun _ _ _ _ _=>(qw q3e rfl (Or.inl rfl) (.inr rfl))) (fun _ _ _ _ _=>(vh ?_)) (fun _ _ _ _ _=>?_));refine(jc ?_);refine(qz c_0 b_0 hr (by decide) rfl ?_);walk_at "A";exact(q0 (pv 0));exact qg;refine(k9 ?_);refine(jq ?_);refine(qz c_4 b_4 hr (by decide) rfl ?_);walk_at "A";refine(qz c_17 b_17 hr (by decide) rfl ?_);walk_at "A";exact(q0 (pv 0));exact qg;walk_at "A";exact(q0 (pv 1));exact qg;refine(q2g ?_);walk_at "A";exact(q0 (pv 0));walk_at "A";exact wc;exact qg;exact qg;exact rfl;walk_at "L";refine(qp ?_);refine(za ?_);refine(zk (jh) rfl n_tuple DL.boot_tuple ?_);walk_at "A";refine(jb ?_);refine(z7 (N':=["some","known"]) (cap:=[none,some 3]) rfl (qv rfl rfl) (qt rfl) ?_ (fun _ _ _ _ _=>(qw q3f rfl (Or.inl rfl) (.inr rfl))) (fun _ _ _ _ _=>(vh ?_)) (fun _ _ _ _ _=>?_));refine(qat ?_);exact(q0 (pv 3));refine(jq ?_);refine(qz c_6 b_6 hr (by decide) rfl ?_);walk_at "A";exact(q0 (pv 0));walk_at "A";exact(q0 (pv 1));exact qg;exact(q0 (pv 0));exact qg
theorem q4c{fa:Addr}{dV:Value}{fd:FuncData}(F:Fun2 K "smallest_beyond" "smallest_beyond" je dV fa fd){a_mark_of:Addr}{fd_mark_of:FuncData}(c_17:Cal P w K mg base "mark_of" 1 ["some"] 1 zm a_mark_of fd_mark_of)(b_17:Binds K fd_mark_of ["some"] []){a_all_sets:Addr}{fd_all_sets:FuncData}(c_0:Cal P w K mg base "all_sets" 4 ["wares"] 1 v7 a_all_sets fd_all_sets)(b_0:Binds K fd_all_sets ["wares"] []){a_is_smallest:Addr}{fd_is_smallest:FuncData}(c_6:Cal P w K mg base "is_smallest" 2 ["some","known"] 2 xt a_is_smallest fd_is_smallest)(b_6:Binds K fd_is_smallest ["some","known"] []){a_is_below_one:Addr}{fd_is_below_one:FuncData}(c_4:Cal P w K mg base "is_below_one" 1 ["mark","marks"] 2 xf a_is_below_one fd_is_below_one)(b_4:Binds K fd_is_below_one ["mark","marks"] [])(n_dict:mg "dict" = none)(n_tuple:mg "tuple" = none): FnOk P w K mg base CX0 5 fa fd ["wares","sets"] (spD K 2 jy):=
 F.okn (k:=4) (n:=4) (ar:=2) (k1:=5) (u:=jx) q4b rfl rfl rfl fun cdv A outer s H E hr=>(by first|(with_reducible exact q0m c_17 b_17 c_0 b_0 c_6 b_6 c_4 b_4 n_dict n_tuple hr)|exact q0m c_17 b_17 c_0 b_0 c_6 b_6 c_4 b_4 n_dict n_tuple hr)
abbrev k5:Stmt:=top 24
noncomputable def q3g:List Str:=["_law_wares","_law_sets_here","_law_due_here"]
theorem q57:(q3g).Nodup:=by decide +kernel
theorem qcn:FnScope q3g ["_law_wares","_law_sets_here"] (qc k5):=⟨rfl,rfl,rfl,q57,rfl,by decide +kernel,by decide +kernel⟩
noncomputable def wz:FS:=(ze (xh 2 (qf (qk 2 [] q0k) (qa (eV 0) (qa (eV 1) qd)))) (ze (sIf (wd (bT (qf (qk 2 [] wt) (qa (qf (qk 2 [] jy) (qa (eV 0) (qa (qf zv (qa (eV 1) qd)) qd))) (qa (eOp oIx (eV 2) (eC (.int 0))) qd))))) (zl (eC (.bl false))) ya) (zl (qf (qk 2 [] wt) (qa (qf (qk 2 [] jt) (qa (eV 0) (qa (qf zv (qa (eV 1) qd)) qd))) (qa (eOp oIx (eV 2) (eC (.int 1))) qd))))))
noncomputable def va:List D->Option D:=z5 3 wz
theorem q58{fa:Addr}{cdv:Value}{A:Around}{outer:List Env}{s:Shared}{H:Hp}{E:XK}{a__law_due:Addr}{fd__law_due:FuncData}(c_10:Cal P w K mg base "_law_due" 5 ["_law_wares","_law_sets_here"] 2 q0k a__law_due fd__law_due)(b_10:Binds K fd__law_due ["_law_wares","_law_sets_here"] []){a__law_same:Addr}{fd__law_same:FuncData}(c_13:Cal P w K mg base "_law_same" 17 ["_law_found","_law_due_here"] 2 wt a__law_same fd__law_same)(b_13:Binds K fd__law_same ["_law_found","_law_due_here"] []){a_greatest_without:Addr}{fd_greatest_without:FuncData}(c_2:Cal P w K mg base "greatest_without" 5 ["wares","sets"] 2 jt a_greatest_without fd_greatest_without)(b_2:Binds K fd_greatest_without ["wares","sets"] []){a_smallest_beyond:Addr}{fd_smallest_beyond:FuncData}(c_21:Cal P w K mg base "smallest_beyond" 5 ["wares","sets"] 2 jy a_smallest_beyond fd_smallest_beyond)(b_21:Binds K fd_smallest_beyond ["wares","sets"] [])(n_tuple:mg "tuple" = none)(hr:Room 17 (A.deeper (envOfC "_law_told" (qc k5) s.heap.objs.size fa cdv))):
  PSs (zj CX0 P w K mg base q3g "_law_told" (qc k5) fa cdv A outer s H E).nox (qu k5) (tDS K wz):=by
 unfold wz;refine(qq ?_ ?_);refine(j3 (i:=2) ?_ ?_ ?_ ?_ ?_ ?_);exact q57;exact rfl;exact(Or.inl rfl);refine(qz c_10 b_10 hr (by decide) rfl ?_);walk_at "A";exact(q0 (pv 0));walk_at "A";exact(q0 (pv 1));exact qg;exact rfl;walk_at "L";refine(qq ?_ ?_);refine(vf ?_ (qp ?_) jw);refine(k9 ?_);refine(jq ?_);refine(qz c_13 b_13 hr (by decide) rfl ?_);walk_at "A";refine(qz c_21 b_21 hr (by decide) rfl ?_);walk_at "A";exact(q0 (pv 0));walk_at "A";refine(zk (jh) rfl n_tuple DL.boot_tuple ?_);walk_at "A";exact(q0 (pv 1));exact qg;exact qg;walk_at "A";refine(q1t ?_ qj);exact(q0 (pv 2));exact qg;exact(za wc);refine(qp ?_);refine(za ?_);refine(qz c_13 b_13 hr (by decide) rfl ?_);walk_at "A";refine(qz c_2 b_2 hr (by decide) rfl ?_);walk_at "A";exact(q0 (pv 0));walk_at "A";refine(zk (jh) rfl n_tuple DL.boot_tuple ?_);walk_at "A";exact(q0 (pv 1));exact qg;exact qg;walk_at "A";refine(q1t ?_ qj);exact(q0 (pv 2));exact qg
theorem qco{fa:Addr}{dV:Value}{fd:FuncData}(F:Fun2 K "_law_told" "_law_told" k5 dV fa fd){a__law_due:Addr}{fd__law_due:FuncData}(c_10:Cal P w K mg base "_law_due" 5 ["_law_wares","_law_sets_here"] 2 q0k a__law_due fd__law_due)(b_10:Binds K fd__law_due ["_law_wares","_law_sets_here"] []){a__law_same:Addr}{fd__law_same:FuncData}(c_13:Cal P w K mg base "_law_same" 17 ["_law_found","_law_due_here"] 2 wt a__law_same fd__law_same)(b_13:Binds K fd__law_same ["_law_found","_law_due_here"] []){a_greatest_without:Addr}{fd_greatest_without:FuncData}(c_2:Cal P w K mg base "greatest_without" 5 ["wares","sets"] 2 jt a_greatest_without fd_greatest_without)(b_2:Binds K fd_greatest_without ["wares","sets"] []){a_smallest_beyond:Addr}{fd_smallest_beyond:FuncData}(c_21:Cal P w K mg base "smallest_beyond" 5 ["wares","sets"] 2 jy a_smallest_beyond fd_smallest_beyond)(b_21:Binds K fd_smallest_beyond ["wares","sets"] [])(n_tuple:mg "tuple" = none): FnOk P w K mg base CX0 18 fa fd ["_law_wares","_law_sets_here"] (spD K 2 va):=
 F.okn (k:=17) (n:=3) (ar:=2) (k1:=18) (u:=wz) qcn rfl rfl rfl fun cdv A outer s H E hr=>(by first|(with_reducible exact q58 c_10 b_10 c_13 b_13 c_2 b_2 c_21 b_21 n_tuple hr)|exact q58 c_10 b_10 c_13 b_13 c_2 b_2 c_21 b_21 n_tuple hr)
abbrev q4t:Stmt:=top 25
noncomputable def qex:List Str:=["_law_script","_law_first","_law_wares","_law_sets_here","_law_few"]
theorem q2q:(qex).Nodup:=by decide +kernel
theorem qo8:FnScope qex ["_law_script"] (qc q4t):=⟨rfl,rfl,rfl,q2q,rfl,by decide +kernel,by decide +kernel⟩
noncomputable def q4u:FS:=(ze (xh 1 (eC (.int 0))) (ze (sIf (zd oGt (qf jz (qa (eV 0) qd)) (eC (.int 0))) (xh 1 (eOp oIx (eV 0) (eC (.int 0)))) ya) (ze (xh 2 (eOp oMod (eV 1) (eC (.int 7)))) (ze (xh 3 (qf (qk 2 [] kc) (qa (eV 0) (qa (eV 2) qd)))) (ze (xh 4 (eSl (eV 3) oNo (oAt (eOp oMod (eOp oDiv (eV 1) (eC (.int 400))) (eC (.int 5)))))) (ze (sIf (bOr (wd (bT (qf (qk 2 [] va) (qa (eV 2) (qa (eV 3) qd))))) (bOr (wd (bT (qf (qk 2 [] va) (qa (eV 2) (qa (eV 4) qd))))) (wd (bT (qf (qk 2 [] va) (qa (eV 2) (qa (eL (q2s qd)) qd))))))) (zl (eC (.bl false))) ya) (zl (qf (qk 2 [] va) (qa (eV 2) (qa (eOp jf (eV 3) (eV 4)) qd))))))))))
noncomputable def qey:List D->Option D:=z5 5 q4u
theorem qhb{fa:Addr}{cdv:Value}{A:Around}{outer:List Env}{s:Shared}{H:Hp}{E:XK}{a__law_drawn:Addr}{fd__law_drawn:FuncData}(c_9:Cal P w K mg base "_law_drawn" 2 ["_law_script","_law_wares"] 2 kc a__law_drawn fd__law_drawn)(b_9:Binds K fd__law_drawn ["_law_script","_law_wares"] []){a__law_told:Addr}{fd__law_told:FuncData}(c_16:Cal P w K mg base "_law_told" 18 ["_law_wares","_law_sets_here"] 2 va a__law_told fd__law_told)(b_16:Binds K fd__law_told ["_law_wares","_law_sets_here"] [])(n_len:mg "len" = none)(hr:Room 18 (A.deeper (envOfC "law" (qc q4t) s.heap.objs.size fa cdv))):
  PSs (zj CX0 P w K mg base qex "law" (qc q4t) fa cdv A outer s H E).nox (qu q4t) (tDS K q4u):=by
 unfold q4u;refine(qq ?_ ?_);refine(j3 (i:=1) ?_ ?_ ?_ qj ?_ ?_);exact q2q;exact rfl;exact(Or.inl rfl);exact rfl;walk_at "L";refine(qq ?_ ?_);refine(vf ?_ (qp ?_) jw);refine(zy q6a ?_ qj);refine(zh (vi) rfl n_len DL.j4 ?_);walk_at "A";exact(q0 (pv 0));exact qg;refine(j3 (i:=1) ?_ ?_ ?_ ?_ ?_ ?_);exact q2q;exact rfl;exact(Or.inl rfl);refine(q1t ?_ qj);exact(q0 (pv 0));exact rfl;walk_at "L";refine(qq ?_ ?_);refine(j3 (i:=2) ?_ ?_ ?_ ?_ ?_ ?_);exact q2q;exact rfl;exact(Or.inl rfl);refine(z8 xu ?_ qj);exact(q0 (pv 1));exact rfl;walk_at "L";refine(qq ?_ ?_);refine(j3 (i:=3) ?_ ?_ ?_ ?_ ?_ ?_);exact q2q;exact rfl;exact(Or.inl rfl);refine(qz c_9 b_9 hr (by decide) rfl ?_);walk_at "A";exact(q0 (pv 0));walk_at "A";exact(q0 (pv 2));exact qg;exact rfl;walk_at "L";refine(qq ?_ ?_);refine(j3 (i:=4) ?_ ?_ ?_ ?_ ?_ ?_);exact q2q;exact rfl;exact(Or.inl rfl);refine(q2u ?_ q5g (q1f ?_));exact(q0 (pv 3));refine(z8 xu ?_ qj);refine(z8 q69 ?_ qj);exact(q0 (pv 1));exact rfl;walk_at "L";refine(qq ?_ ?_);refine(vf ?_ (qp ?_) jw);refine(PW.pt (q98 ?_ (q98 ?_ (q9q ?_))));refine(k9 ?_);refine(jq ?_);refine(qz c_16 b_16 hr (by decide) rfl ?_);walk_at "A";exact(q0 (pv 2));walk_at "A";exact(q0 (pv 3));exact qg;refine(k9 ?_);refine(jq ?_);refine(qz c_16 b_16 hr (by decide) rfl ?_);walk_at "A";exact(q0 (pv 2));walk_at "A";exact(q0 (pv 4));exact qg;refine(k9 ?_);refine(jq ?_);refine(qz c_16 b_16 hr (by decide) rfl ?_);walk_at "A";exact(q0 (pv 2));walk_at "A";refine(jb ?_);exact(q1b qg);exact qg;exact(za wc);refine(qp ?_);refine(za ?_);refine(qz c_16 b_16 hr (by decide) rfl ?_);walk_at "A";exact(q0 (pv 2));walk_at "A";refine(z8 yr ?_ ?_);exact(q0 (pv 3));exact(q0 (pv 4));exact qg
theorem qo9{fa:Addr}{dV:Value}{fd:FuncData}(F:Fun2 K "law" "law" q4t dV fa fd){a__law_drawn:Addr}{fd__law_drawn:FuncData}(c_9:Cal P w K mg base "_law_drawn" 2 ["_law_script","_law_wares"] 2 kc a__law_drawn fd__law_drawn)(b_9:Binds K fd__law_drawn ["_law_script","_law_wares"] []){a__law_told:Addr}{fd__law_told:FuncData}(c_16:Cal P w K mg base "_law_told" 18 ["_law_wares","_law_sets_here"] 2 va a__law_told fd__law_told)(b_16:Binds K fd__law_told ["_law_wares","_law_sets_here"] [])(n_len:mg "len" = none): FnOk P w K mg base CX0 19 fa fd ["_law_script"] (spD K 1 qey):=
 F.okn (k:=18) (n:=5) (ar:=1) (k1:=19) (u:=q4u) qo8 rfl rfl rfl fun cdv A outer s H E hr=>(by first|(with_reducible exact qhb c_9 b_9 c_16 b_16 n_len hr)|exact qhb c_9 b_9 c_16 b_16 n_len hr)
end
end My
open PySem PyProof.Rows L2 DL
local macro_rules | `(tactic| simp! [$a,*])=> `(tactic| simp (config:={decide:=true,implicitDefEqProofs:=false}) only [z5,ze,sIf,xh,zl,ya,q1c,k6,q22,eOp,eC,eV0,eVs,qf,qa,qd,we,eL,q2s,q09,eSl,oNo,oAt,qpy,q7a,zd,wd,bT,bOr,qe8,q9r,q7c,qm0,eUn,isB,qe7,q1g,qk5,qp5,qpz,frzs,zu,q5e,qk,bN,q9v,q4n,q9u,wg,qnl,gv,g10,t9,List.length_nil,mj,Nat.reduceAdd,Nat.reduceSub,Nat.reduceEqDiff,List.replicate,g3d,g1q,g2c,List.set_cons_zero,List.set_cons_succ,List.set_nil,g2y,g2x,ma,Option.bind_none,nv,Option.map_none,g3c,Option.join_none,q35,qjb,qh2,qjc,q38,qc9,q7m,qdu,qo6,qlt,qlu,qlv,qlw,xi,qji,ny,p0,decide_true,decide_false,gf,g0j,g1z,and_true,true_and,and_self,ite_true,ite_false,Int.reduceSub,Int.reduceMod,Int.reduceAdd,Int.reduceDiv,Int.reducePow,Int.reduceMul,Int.reduceNeg,Int.reduceEq,Int.reduceLT,Int.reduceLE,Int.reduceToNat,qq0,qq1,qlx,qly,qlz,qje,reduceCtorEq,List.isEmpty_nil,List.isEmpty_cons,List.isEmpty_iff, $a,*])
namespace My
open PySem PyProof.Rows L2 DL
abbrev TI(ns:List Int): D:=.tup (ns.map .int)
def bit(m i:Nat): Bool:=m / 2 ^ i%2==1
def qe(n m:Nat): List Int:=((List.range n).filter fun i=>bit m i).map fun i:Nat=>(i:Int)
def mk(b:List Int): Int:=(b.map fun x=>(2:Int) ^ x.toNat).sum
theorem qm2(a b:Nat): Builtin.bitAnd (a:Int) (b:Int)=((a &&& b:Nat):Int):=by
 unfold Builtin.bitAnd;rw [p7 (by lia:(0:Int)<=(a:Int)),p7 (by lia:(0:Int)<=(b:Int))];simp
theorem q8n(a b:Nat): oBand (.int (a:Int)) (.int (b:Int))=some (.int ((a &&& b:Nat):Int)):=by
 show some (D.int (Builtin.bitAnd (a:Int) (b:Int)))=_;rw [qm2]
theorem vj(n:Nat): qr 0 n=(List.range n).map fun i:Nat=>.int (i:Int):=by
 unfold qr;simp only [Int.zero_add]
theorem q10:∀k:Nat,k<64->qe (Builtin.Int.intBits (k:Int)) k=qe 12 k/\mk (qe 12 k)=(k:Int):=by decide
theorem q3h:∀a:Nat,a<64->∀b:Nat,b<64->qe 12 a=qe 12 b->a=b:=fun a ha b hb h=>by
 have h1:=(q10 a ha).2;have h2:=(q10 b hb).2;rw [h,h2] at h1;lia
theorem ko(n m:Nat): (qe n m).length<=n:=by
 unfold qe;rw [mj];exact ml (g14 _ _) (by simp)
theorem qbj{n m:Nat}{x:Int}(h:x∈qe n m): ∃i:Nat,x=(i:Int)/\i<n:=by
 unfold qe at h;obtain⟨i,hi,rfl⟩:=mx.mp h;exact⟨i,rfl,by simpa using(g04.mp hi).1⟩
theorem qm3(b:List Int)(hb:∀x∈b,0<=x/\x<100)(ρ : Rho): zf (bN 0) zx (eOp oShl (eC (.int 1)) (eV 0)) (none :: ρ) (b.map D.int)=some ((b.map fun x=>(2:Int) ^ x.toNat).map D.int):=by
 have:=q0d (b:=bN 0) (f:=eOp oShl (eC (.int 1)) (eV 0)) (ρ :=none :: ρ) (fun d=>match d with | .int x=>.int (2 ^ x.toNat)|_=>.non) (ds:=b.map D.int) fun d hd=>by
  obtain⟨x,hx,rfl⟩:=mx.mp hd;have:=hb x hx;refine⟨_,rfl,qaz x_c (x_v rfl) ?_⟩;rw [qay 1 x (by lia) (by lia) (by decide),Int.one_mul]
 rw [this,mq,mq]
 rfl
theorem qez(b:List Int)(hb:∀x∈b,0<=x/\x<100)(hl:b.length<=1000): zm [TI b]=some (.int (mk b)):=by
 have hl':b.length<=lim:=by show _<=1000000;lia
 have c:=qm3 b hb [];have a:=qh4 (b.map fun x=>(2:Int) ^ x.toNat)
 (refine zb ?_;simp! [q0l,qm,hl',c,a])
 rfl
theorem qm4(m i:Nat): oShr (.int (m:Int)) (.int (i:Int))=some (.int ((m / 2 ^ i:Nat):Int)):=by
 rw [qjd _ _ (by lia),nt]
 norm_cast
theorem qhc(k:Nat)(hk:k<64): yl [.int (k:Int)]=some (TI (qe 12 k)):=by
 have hb:Builtin.Int.intBits (k:Int)<=6:=by
  have:∀k:Nat,k<64->Builtin.Int.intBits (k:Int)<=6:=by decide
  exact this k hk
 have c:zf (bN 0) (zd oEq (eOp oMod (eOp oShr (eV 1) (eV 0)) (eC (.int 2))) (eC (.int 1))) (eV 0) [none,some (.fz (.int (k:Int)))] (qr 0 (Builtin.Int.intBits (k:Int)))=some ((qe 12 k).map D.int):=by
  have:=q36 (b:=bN 0) (c:=zd oEq (eOp oMod (eOp oShr (eV 1) (eV 0)) (eC (.int 2))) (eC (.int 1))) (f:=eV 0) (ρ :=[none,some (.fz (.int (k:Int)))]) (fun d=>match d with | .int x=>bit k x.toNat|_=>false) id (ds:=qr 0 (Builtin.Int.intBits (k:Int))) fun d hd=>by
   rw [vj] at hd;obtain⟨i,_,rfl⟩:=mx.mp hd;refine⟨_,rfl,qp4 (qaz (qaz (x_v rfl) (x_v rfl) (qm4 k i)) x_c (q35 _ 2 (by decide))) x_c ?_,fun _=>rfl⟩;rw [q7m]
   congr 2
   show decide _=bit k (i:Int).toNat;rw [nt,bit,uw,g0g,g3h];lia
  rw [this,List.map_id,vj,List.filter_map, <- (q10 k hk).1,qe,mq]
  rfl
 have hr:iR1 (qa (eUn oBits (eV 0)) qd) [some (.fz (.int (k:Int)))]=some (qr 0 (Builtin.Int.intBits (k:Int))):=by
  rw [yw _ _ ((Builtin.Int.intBits (k:Int):Nat):Int) rfl (by lia) (by lia),nt]
 have hl:(qr 0 (Builtin.Int.intBits (k:Int))).length<=lim:=by rw [vq];show _<=1000000;lia
 (refine zb ?_;simp! [q1m,qm,hr,hl,c,xi])
theorem qm5(w:Nat)(hw:w<=1000): oShl (.int 1) (.int (w:Int))=some (.int (2 ^ w)):=by
 rw [qay 1 (w:Int) (by lia) (by lia) (by decide),nt,Int.one_mul]
def q7x(lt:Nat->Nat->Bool)(x:Nat): List Nat->List Nat
 | []=>[x]
 | y :: r=>if lt y x=true then y :: q7x lt x r else x :: y :: r
def q73(lt:Nat->Nat->Bool): List Nat->List Nat
 | []=>[]
 | x :: r=>q7x lt x (q73 lt r)
theorem q8o(lt:Nat->Nat->Bool)(x:Nat): ∀l,(q7x lt x l).Perm (x :: l)
 | []=>.refl _
 | y :: r=>by
  unfold q7x
  split
  ·exact((q8o lt x r).cons y).trans (.swap x y r)
  ·exact .refl _
theorem q11(lt:Nat->Nat->Bool): ∀l,(q73 lt l).Perm l
 | []=>.refl _
 | x :: r=>(q8o lt x _).trans ((q11 lt r).cons x)
theorem qbk(f:Nat->D×D)(x:Nat): ∀l,q3x (f x) (l.map f)=(q7x (fun a b=>ltT (f a).1 (f b).1) x l).map f
 | []=>rfl
 | y :: r=>by
  rw [gv];unfold q3x q7x
  by_cases h:ltT (f y).1 (f x).1=true
  ·rw [mi h,mi h,qbk f x r,gv]
  ·rw [mf h,mf h,gv,gv]
theorem q4d(f:Nat->D×D): ∀l,yt (l.map f)=(q73 (fun a b=>ltT (f a).1 (f b).1) l).map f
 | []=>rfl
 | x :: r=>by
  rw [gv];unfold yt q73;rw [q4d f r,qbk]
def vm(k:Nat): D:=.tup [.int ((qe 12 k).length:Int),TI (qe 12 k)]
def ltO(a b:Nat): Bool:=ltT (vm a) (vm b)
theorem qbl:∀ns:List Int,kDL (ns.map D.int)=true
 | []=>by simp [kDL]
 | n :: ns=>by simp only [gv,kDL,kD,qbl ns,g3a]
theorem qbm:∀ns ms:List Int,shL (ns.map D.int) (ms.map D.int)=true
 | [],ms=>by simp [shL]
 | n :: ns,[]=>by simp [shL]
 | n :: ns,m :: ms=>by simp only [gv,shL,shD,qbm ns ms,g3a]
theorem q8p:∀ns:List Int,vp (ns.map D.int)=0
 | []=>by simp [vp]
 | n :: ns=>by simp only [gv,vp,yf,q8p ns];rfl
theorem qbn(k:Nat): kD (vm k)=true:=by simp only [vm,TI,kD,kDL,qbl,g3a]
theorem qoa(a b:Nat): shD (vm a) (vm b)=true:=by simp only [vm,TI,shD,shL,qbm,g3a]
theorem qm6(k:Nat): yf (vm k)<=50:=by simp only [vm,TI,yf,vp,q8p];decide
theorem qbo:∀ {a b:List Int},a.map D.int=b.map D.int->a=b
 | [],[],_=>rfl
 | [],_ :: _,h=>by cases h
 | _ :: _,[],h=>by cases h
 | x :: a,y :: b,h=>by
  rw [gv,gv] at h;injection h with h1 h2
  injection h1 with h1
  rw [h1,qbo h2]
theorem qm7{a b:Nat}(ha:a<64)(hb:b<64)(h1:ltO a b=false)(h2:ltO b a=false): a=b:=by
 have:=lt_eq (qbn a) (qbn b) h1 h2;unfold vm at this;injection this with this
 injection this with _ this
 injection this with this _
 injection this with this
 exact q3h a ha b hb (qbo this)
theorem q8q(l:List Nat): q0a (l.map vm)=true:=by
 unfold q0a;rw [m6,m6,g0q,m6];refine⟨⟨?_,?_⟩,.inr ⟨?_,?_⟩⟩
 ·rw [g08,n9];exact fun k _=>qbn k
 ·rw [g08,n9]
  intro a _;show(List.all _ _)=true;rw [g08,n9];exact fun b _=>qoa a b
 ·rw [g08,n9];exact fun k _=>rfl
 ·rw [g08,n9];exact fun k _=>p7 (qm6 k)
theorem q5x:∀l:List Nat,l.Nodup->(∀k∈l,k<64)->q3z (l.map vm)=true
 | [],_,_=>rfl
 | k :: l,hn,hl=>by
  rw [gv];unfold q3z;rw [m6];have hn':=g0o.mp hn;refine⟨?_,q5x l hn'.2 fun x hx=>hl x (m5 _ hx)⟩;rw [g08,n9];intro b hb;show(ltO k b || ltO b k)=true;cases h1:ltO k b
  ·cases h2:ltO b k
   ·have:=qm7 (hl k m4) (hl b (m5 _ hb)) h1 h2
    exact absurd (this ▸ hb) hn'.1
   ·rfl
  ·rfl
abbrev setD(k:Nat): D:=TI (qe 12 k)
theorem qjj(l:List Nat): vg v5 (l.map setD)=some (l.map vm):=by
 induction l with
 | nil=>rfl
 | cons k l ih=>
  have e:v5 [setD k]=some (vm k):=by
   (refine zb ?_;simp! [wu])
   rfl
  rw [gv];simp only [vg,e,ih,ma,nv,gv]
def marksOf(w:Nat): List Nat:=q73 ltO (List.range (2 ^ w))
theorem x6{w:Nat}(hw:w<=6): 2 ^ w<=64:=ml (Nat.pow_le_pow_right (by decide) hw) (by decide)
theorem q59(w:Nat)(hw:w<=6): v7 [.int (w:Int)]=some (.lst ((marksOf w).map setD)):=by
 have h2:=x6 hw;have hs:=qm5 w (by lia);have hr:iR1 (qa (eOp oShl (eC (.int 1)) (eV 0)) qd) [some (.fz (.int (w:Int)))]=some (qr 0 (2 ^ w)):=by
  have ha:qa (eOp oShl (eC (.int 1)) (eV 0)) qd [some (.fz (.int (w:Int)))]=some [.int ((2 ^ w:Nat):Int)]:=q1l (qaz x_c (x_v rfl) (by rw [hs];norm_cast)) q37;have h3:(0:Int)<=((2 ^ w:Nat):Int):=g46 _;have h4:((2 ^ w:Nat):Int)<=64:=by exact_mod_cast h2
  rw [yw _ _ _ ha (Int.le_trans (by decide) h3) (Int.lt_of_le_of_lt h4 (by decide)),nt]
 have hl:(qr 0 (2 ^ w)).length<=lim:=by rw [vq];show _<=1000000;lia
 have c:zf (bN 0) zx (qf (qk 1 [] yl) (qa (eV 0) qd)) [none] (qr 0 (2 ^ w))=some ((List.range (2 ^ w)).map setD):=by
  have:=q0d (b:=bN 0) (f:=qf (qk 1 [] yl) (qa (eV 0) qd)) (ρ :=[none]) (fun d=>match d with | .int x=>setD x.toNat|_=>.non) (ds:=qr 0 (2 ^ w)) fun d hd=>by
   rw [vj] at hd;obtain⟨i,hi,rfl⟩:=mx.mp hd;refine⟨_,rfl,qb0 (q1l (x_v rfl) q37) rfl ?_⟩;show yl [.int (i:Int)]=some (setD (i:Int).toNat);rw [nt];exact qhc i (by have:=tx.mp hi;lia)
  rw [this,vj,mq];exact ug some (g2a fun i _=>by show setD (i:Int).toNat=setD i;rw [nt])
 have srt:w6 v5 [.lst ((List.range (2 ^ w)).map setD)]=some ((marksOf w).map setD):=by
  show yi v5 (.lst ((List.range (2 ^ w)).map setD))=_;unfold yi;dsimp only;rw [qjj,ma,q8q,q5x _ g1g (fun k hk=>by have:=tx.mp hk;lia)];have ez:((List.range (2 ^ w)).map vm).zip ((List.range (2 ^ w)).map setD)=(List.range (2 ^ w)).map fun k=>(vm k,setD k):=by
   rw [g4k]
  rw [ez,q4d];simp only [g4m,ny,mq];exact rfl
 (refine zb ?_;simp! [wx,qm,hr,hl,c,srt])
end My
open PySem PyProof.Rows L2 DL
namespace My
open PySem PyProof.Rows L2 DL
def zc(k:Nat): List Nat:=((List.range 6).filter fun j=>bit k j).map fun j=>k-2 ^ j
theorem qf0:∀k:Nat,k<64->((List.range (qe 12 k).length).map fun p=>(qe 12 k).take p++(qe 12 k).drop (p+1))=(zc k).map (qe 12):=by decide +kernel
theorem qjk(k:Nat)(hk:k<64): xl [setD k]=some (.lst ((zc k).map setD)):=by
 have hb:=ko 12 k;have c:zf (bN 0) zx (eOp jf (eSl (eV 1) oNo (oAt (eV 0))) (eSl (eV 1) (oAt (eOp jf (eV 0) (eC (.int 1)))) oNo)) [none,some (.fz (setD k))] (qr 0 (qe 12 k).length) =
   some ((zc k).map setD):=by
  have:=q0d (b:=bN 0) (f:=eOp jf (eSl (eV 1) oNo (oAt (eV 0))) (eSl (eV 1) (oAt (eOp jf (eV 0) (eC (.int 1)))) oNo)) (ρ :=[none,some (.fz (setD k))]) (fun d=>match d with | .int x=>TI ((qe 12 k).take x.toNat++(qe 12 k).drop (x.toNat+1))|_=>.non) (ds:=qr 0 (qe 12 k).length) fun d hd=>by
   rw [vj] at hd;obtain⟨i,hi,rfl⟩:=mx.mp hd;have s1:oSl (setD k) none (some (i:Int))=some (TI ((qe 12 k).take i)):=by
    show some (D.tup (DL.cutD ((qe 12 k).map D.int) none (some (i:Int))))=_;rw [q53 (α :=D), <- g5y]
   have s2:oSl (setD k) (some ((i+1:Nat):Int)) none=some (TI ((qe 12 k).drop (i+1))):=by
    show some (D.tup (DL.cutD ((qe 12 k).map D.int) (some ((i+1:Nat):Int)) none))=_;rw [qjg (α :=D), <- g5z]
   have s3:jf (TI ((qe 12 k).take i)) (TI ((qe 12 k).drop (i+1)))=some (TI ((qe 12 k).take i++(qe 12 k).drop (i+1))):=by
    rw [q8k _ _ (by rw [mj,mj,ni,ui];lia), <- uf]
   refine⟨_,rfl,?_⟩;show eOp jf (eSl (eV 1) oNo (oAt (eV 0))) (eSl (eV 1) (oAt (eOp jf (eV 0) (eC (.int 1)))) oNo) [some (.fz (.int (i:Int))),some (.fz (setD k))]=some (TI ((qe 12 k).take (i:Int).toNat++(qe 12 k).drop ((i:Int).toNat+1)));rw [nt];have e1:(i:Int)+1=((i+1:Nat):Int):=by lia
   simp! [s1,e1,s2,s3]
  rw [this,vj,mq];have hf:=ug (List.map TI) (qf0 k hk);rw [mq,mq] at hf;exact ug some hf
 have hr:iR1 (qa (qf jz (qa (eV 0) qd)) qd) [some (.fz (setD k))]=some (qr 0 (qe 12 k).length):=by
  have ha:qa (qf jz (qa (eV 0) qd)) qd [some (.fz (setD k))]=some [.int ((qe 12 k).length:Int)]:=by
   refine q1l (x_call (q1l (x_v rfl) q37) ?_) q37;rw [qk5,mj]
  rw [yw _ _ _ ha (by lia) (by lia),nt]
 have hl:(qr 0 (qe 12 k).length).length<=lim:=by rw [vq];show _<=1000000;lia
 (refine zb ?_;simp! [xk,qm,hr,hl,c])
theorem q5a{A:List Nat}(hn:A.Nodup)(hA:∀k∈A,k<64): (A.map (qe 12)).Nodup:=by
 rw [List.Nodup,uo];refine g1f (fun {a b} ha hb hne e=>hne (q3h a (hA a ha) b (hA b hb) e)) hn
theorem q8r:∀A:List Nat,q5n (A.map fun k=>D.tup [setD k,.bl true])=some (A.map (qe 12),A.map fun _=>.bl true)
 | []=>rfl
 | k :: A=>by
  have hi:xo ((qe 12 k).map D.int)=some (qe 12 k):=vn _;rw [gv];show(xo ((qe 12 k).map D.int)).bind (fun q=>(q5n (A.map fun k=>D.tup [setD k,.bl true])).map fun p=>(q :: p.1,D.bl true :: p.2))=_;rw [hi,q8r A]
  rfl
abbrev jg(A:List Nat): D:=.dtt (A.map (qe 12)) (A.map fun _=>.bl true)
theorem q74(A:List Nat)(hn:A.Nodup)(hA:∀k∈A,k<64)(hl:A.length<=1000): q6t [.lst (A.map fun k=>D.tup [setD k,.bl true])]=some (jg A):=by
 show(q5n (A.map fun k=>D.tup [setD k,.bl true])).bind (fun p=>if p.1.Nodup/\(A.map fun k=>D.tup [setD k,.bl true]).length<=lim then some (D.dtt p.1 p.2) else none)=_;rw [q8r];show(if(A.map (qe 12)).Nodup/\_ then _ else _)=_;rw [mi ⟨q5a hn hA,by rw [mj];show _<=1000000;lia⟩]
theorem qbp(A:List Nat)(hA:∀k∈A,k<64)(m:Nat)(hm:m<64): q33 (setD m) (jg A)=some (.bl (decide (m∈A))):=by
 have hi:xo ((qe 12 m).map D.int)=some (qe 12 m):=vn _;show(xo ((qe 12 m).map D.int)).map (fun k=>D.bl (decide (k∈A.map (qe 12))))=_;rw [hi,nv]
 congr 2
 rw [uw,g0g,g0g]
 constructor
 ·intro h
  obtain⟨a,ha,e⟩:=mx.mp h;exact q3h a (hA a ha) m hm e ▸ ha
 ·exact fun h=>g0x h
theorem qjl:∀k:Nat,k<64->∀m∈zc k,m<64:=by decide +kernel
def yo:Nat->Int->Int->List Int
 | 0,_,_=>[]
 | n+1,m,k=>if m%2=1 then k :: yo n (m / 2) (k+1) else yo n (m / 2) (k+1)
theorem q1p:∀(n:Nat) (m k:Int) (acc:List D) (b:Option B),acc.length+n<=100->∃b' m',
  runFor (bN 2) xj (qr k n) [some (.fz (.int m)),some (.ow acc),b]=some (.nx,[some (.fz (.int m')),some (.ow (acc++(yo n m k).map .int)),b'])
 | 0,m,k,acc,b,_=>⟨b,m,by simp [qr,runFor,yo]⟩
 | n+1,m,k,acc,b,h=>by
  have ha:acc.length<lim:=by show _<1000000;lia
  rw [q52]
  by_cases hm:m%2=1
  ·obtain⟨b',m',ih⟩:=q1p n (m / 2) (k+1) (acc++[.int k]) (some (.fz (.int k))) (by simp;lia)
   refine⟨b',m',?_⟩;rw [yj (b:=bN 2) rfl (show xj [some (.fz (.int m)),some (.ow acc),some (.fz (.int k))]=some (.nx,[some (.fz (.int (m / 2))),some (.ow (acc++[.int k])),some (.fz (.int k))]) by simp! [xj,hm,q1e,q4r,q4s,ha]),ih,yo,mi hm];simp
  ·obtain⟨b',m',ih⟩:=q1p n (m / 2) (k+1) acc (some (.fz (.int k))) (by lia)
   refine⟨b',m',?_⟩;rw [yj (b:=bN 2) rfl (show xj [some (.fz (.int m)),some (.ow acc),some (.fz (.int k))]=some (.nx,[some (.fz (.int (m / 2))),some (.ow acc),some (.fz (.int k))]) by simp! [xj,hm]),ih,yo,mf hm]
theorem qf1(m:Int): zg [.int m]=some (TI (yo 12 m 0)):=by
 obtain⟨b',m',h⟩:=q1p 12 m 0 [] none (by simp);rw [g1q] at h;have r:iR1 (qa (eC (.int 12)) qd) [some (.fz (.int m)),some (.ow []),none]=some (qr 0 12):=yw _ _ 12 rfl (by decide) (by decide)
 (refine zb ?_;simp! [q0i,k6,r,h])
theorem q7y(x:Int): ∀b:List Int,inF (.int x) (b.map D.int)=decide (x∈b)
 | []=>rfl
 | y :: b=>by
  show((eqF (.int y) (.int x)) || inF (.int x) (b.map D.int))=_;rw [q7y x b];show((y==x) || _)=_;rw [uw];simp only [g0q,g3h,g0g,me]
  constructor <;> rintro(h|h)
  ·exact .inl h.symm
  ·exact .inr h
  ·exact .inl h.symm
  ·exact .inr h
theorem q8s(b:List Int): (b.map D.int).all flat=true:=by
 rw [g08,n9];intro x _;rfl
theorem q3i(x:Int)(b:List Int): oIn false (.int x) (TI b)=some (.bl (decide (x∈b))):=by
 show(if(flat (.int x)&&(b.map D.int).all flat)=true then some (D.bl (if false=true then !inF (.int x) (b.map D.int) else inF (.int x) (b.map D.int))) else none)=_;rw [q8s,q7y];rfl
def uni(s t:List Int): List Int:=((List.range 12).map fun i:Nat=>(i:Int)).filter fun x=>decide (x∈s\/x∈t)
theorem q4e:∀(s:List Int),(∀x∈s,0<=x/\x<12)->q24 (s.map D.int)=some (s.map Int.toNat)
 | [],_=>rfl
 | x :: s,h=>by
  have hx:=h x m4;show(if 0<=x/\x<12 then(q24 (s.map D.int)).map (x.toNat :: ·) else none)=_;rw [mi hx,q4e s fun y hy=>h y (m5 _ hy)]
  rfl
theorem q8t{s:List Int}(h:∀x∈s,0<=x/\x<12)(n:Nat): n∈s.map Int.toNat↔(n:Int)∈s:=by
 constructor
 ·intro hn
  obtain⟨x,hx,e⟩:=mx.mp hn;have:=h x hx;have:x=(n:Int):=by lia
  exact this ▸ hx
 ·intro hn
  exact mx.mpr ⟨_,hn,by simp⟩
theorem qf2(s t:List Int)(hs:∀x∈s,0<=x/\x<12)(ht:∀x∈t,0<=x/\x<12): qem (TI s) (TI t)=some ((uni s t).map D.int):=by
 show(q24 (s.map D.int)).bind (fun a=>(q24 (t.map D.int)).bind fun b=>some (((List.range 12).filter fun n=>decide (n∈a\/n∈b)).map fun n=>D.int (n:Nat)))=_;rw [q4e s hs,q4e t ht];show some _=_
 congr 1
 unfold uni;rw [List.filter_map,mq]
 congr 1
 refine g4s fun n _=>?_;show decide (n∈s.map Int.toNat\/n∈t.map Int.toNat)=decide ((n:Int)∈s\/(n:Int)∈t);rw [uw,g2q,g2q,q8t hs,q8t ht]
theorem qhd(s t:List Int)(hs:∀x∈s,0<=x/\x<12)(ht:∀x∈t,0<=x/\x<12): q06 [TI s,TI t]=some (TI (uni s t)):=by
 have h:=qf2 s t hs ht
 (refine zb ?_;simp! [q1n,qen,h,xi])
theorem qdw(x:Int)(b:List Int): oIn true (.int x) (TI b)=some (.bl (!decide (x∈b))):=by
 show(if(flat (.int x)&&(b.map D.int).all flat)=true then some (D.bl (if true=true then !inF (.int x) (b.map D.int) else inF (.int x) (b.map D.int))) else none)=_;rw [q8s,q7y];rfl
theorem q9e{c:FT}{ρ : Rho}(q:Int->Bool): ∀(l:List Int),(∀x∈l,c (some (.fz (.int x)) :: ρ)=some (q x))->zf (bN 0) c (eV 0) (none :: ρ) (l.map D.int)=some ((l.filter q).map D.int)
 | [],_=>rfl
 | x :: l,h=>by
  have ih:=q9e q l fun y hy=>h y (m5 _ hy);have h1:=h x m4;have b1:bN 0 (D.int x) (none :: ρ)=some (some (.fz (.int x)) :: ρ):=rfl;have v1:eV 0 (some (.fz (.int x)) :: ρ)=some (.int x):=rfl;simp only [gv,zf,b1,h1,ma,g0y];cases q x with
  | true=>simp only [ny,v1,ma,ih,nv,gv]
  | false=>simp only [gf,p0,ih]
theorem qob:∀k:Nat,k<64->yo 12 (k:Int) 0=qe 12 k:=by decide +kernel
theorem q0s(k:Nat)(hk:k<64): zg [.int (k:Int)]=some (setD k):=by rw [qf1,qob k hk]
theorem q4f(w:Nat)(hw:w<=6): j7 [.int (w:Int)]=some (.int ((2 ^ w:Nat):Int)):=by
 have:w=0\/w=1\/w=2\/w=3\/w=4\/w=5\/w=6:=by lia
 rcases this with rfl|rfl|rfl|rfl|rfl|rfl|rfl <;> rfl
theorem qjm(l:List Nat): vg jk (l.map setD)=some (l.map vm):=by
 induction l with
 | nil=>rfl
 | cons k l ih=>
  have e:jk [setD k]=some (vm k):=by
   (refine zb ?_;simp! [jk])
   rfl
  rw [gv];simp only [vg,e,ih,ma,nv,gv]
theorem qcp(w:Nat)(hw:w<=6): xx [.int (w:Int)]=some (.lst ((marksOf w).map setD)):=by
 have h2:=x6 hw;have hp:=q4f w hw;have hr:iR1 (qa (qf (qk 1 [] j7) (qa (eV 0) qd)) qd) [some (.fz (.int (w:Int)))]=some (qr 0 (2 ^ w)):=by
  have ha:qa (qf (qk 1 [] j7) (qa (eV 0) qd)) qd [some (.fz (.int (w:Int)))]=some [.int ((2 ^ w:Nat):Int)]:=q1l (qb0 (q1l (x_v rfl) q37) rfl hp) q37;have h3:(0:Int)<=((2 ^ w:Nat):Int):=g46 _;have h4:((2 ^ w:Nat):Int)<=64:=by exact_mod_cast h2
  rw [yw _ _ _ ha (Int.le_trans (by decide) h3) (Int.lt_of_le_of_lt h4 (by decide)),nt]
 have hl:(qr 0 (2 ^ w)).length<=lim:=by rw [vq];show _<=1000000;lia
 have c:zf (bN 0) zx (qf (qk 1 [] zg) (qa (eV 0) qd)) [none] (qr 0 (2 ^ w))=some ((List.range (2 ^ w)).map setD):=by
  have:=q0d (b:=bN 0) (f:=qf (qk 1 [] zg) (qa (eV 0) qd)) (ρ :=[none]) (fun d=>match d with | .int x=>setD x.toNat|_=>.non) (ds:=qr 0 (2 ^ w)) fun d hd=>by
   rw [vj] at hd;obtain⟨i,hi,rfl⟩:=mx.mp hd;refine⟨_,rfl,qb0 (q1l (x_v rfl) q37) rfl ?_⟩;show zg [.int (i:Int)]=some (setD (i:Int).toNat);rw [nt];exact q0s i (by have:=tx.mp hi;lia)
  rw [this,vj,mq];exact ug some (g2a fun i _=>by show setD (i:Int).toNat=setD i;rw [nt])
 have srt:w6 jk [.lst ((List.range (2 ^ w)).map setD)]=some ((marksOf w).map setD):=by
  show yi jk (.lst ((List.range (2 ^ w)).map setD))=_;unfold yi;dsimp only;rw [qjm,ma,q8q,q5x _ g1g (fun k hk=>by have:=tx.mp hk;lia)];have ez:((List.range (2 ^ w)).map vm).zip ((List.range (2 ^ w)).map setD)=(List.range (2 ^ w)).map fun k=>(vm k,setD k):=by
   rw [g4k]
  rw [ez,q4d];simp only [g4m,ny,mq];exact rfl
 (refine zb ?_;simp! [wq,qm,hr,hl,c,srt])
theorem yp(w k:Nat): k∈marksOf w↔k<2 ^ w:=by
 unfold marksOf;rw [(q11 ltO _).mem_iff,tx]
theorem q2a(w:Nat): (marksOf w).Nodup:=(q11 ltO _).nodup_iff.mpr g1g
theorem ku{w:Nat}(hw:w<=6): ∀k∈marksOf w,k<64:=fun k hk=>gm ((yp w k).mp hk) (x6 hw)
theorem yq(w:Nat): (marksOf w).length=2 ^ w:=by unfold marksOf;rw [(q11 ltO _).length_eq,List.length_range]
end My
open PySem PyProof.Rows L2 DL
namespace My
open PySem PyProof.Rows L2 DL
theorem vb{α : Type}{b:FB}{e:FE}{ρ : Rho}(f g : α -> D): ∀(as:List α),(∀a∈as,∃ ρ1,b (f a) ρ = some ρ1/\e ρ1=some (g a))->zf b zx e ρ (as.map f)=some (as.map g)
 | [],_=>rfl
 | a :: as,h=>by
  obtain⟨ρ1,e1,e2⟩:=h a m4;have ih:=vb f g as fun x hx=>h x (m5 _ hx);simp only [gv,zf,e1,e2,ma,zx,ny,ih,nv]
theorem j8{α : Type}{b:FB}{c:FT}{e:FE}{ρ : Rho}(f : α -> D)(p : α -> Bool)(g : α -> D): ∀(as:List α),(∀a∈as,∃ ρ1,b (f a) ρ = some ρ1/\c ρ1=some (p a)/\(p a=true->e ρ1=some (g a)))->zf b c e ρ (as.map f)=some ((as.filter p).map g)
 | [],_=>rfl
 | a :: as,h=>by
  obtain⟨ρ1,e1,e2,e3⟩:=h a m4;have ih:=j8 f p g as fun x hx=>h x (m5 _ hx);simp only [gv,zf,e1,e2,ma,g0y];cases hp:p a with
  | true=>simp only [ny,e3 hp,ma,ih,nv,gv]
  | false=>simp only [gf,p0,ih]
abbrev nD(m:Nat): D:=.int (m:Int)
def blw(k m:Nat): Bool:=decide (k &&& m=k)
theorem q4g(a b:Nat): oEq (.int (a:Int)) (.int (b:Int))=some (.bl (decide (a=b))):=by
 rw [q7m]
 congr 2
 exact decide_eq_decide.mpr (by lia)
theorem qbq(k:Nat)(x1:Option B): ∀(ms:List Nat) (b2:Option B),∃fl ρ,runFor (bN 2) zr (ms.map nD) [some (.fz (nD k)),x1,b2]=some (fl, ρ)/\fl=(if ms.any (blw k)=true then .rt (.bl true) else .nx)
 | [],b2=>⟨.nx,_,rfl,rfl⟩
 | m :: ms,b2=>by
  have ob:=q8n k m;have oe:=q4g (k &&& m) k;have e0:bN 2 (nD m) [some (.fz (nD k)),x1,b2]=some [some (.fz (nD k)),x1,some (.fz (nD m))]:=rfl
  by_cases h:k &&& m=k
  ·have hb:blw k m=true:=p7 h
   have body:zr [some (.fz (nD k)),x1,some (.fz (nD m))]=some (.rt (.bl true),[some (.fz (nD k)),x1,some (.fz (nD m))]):=by
    rw [p7 h] at oe;simp! [zr,ob,oe]
   exact⟨.rt (.bl true),[some (.fz (nD k)),x1,some (.fz (nD m))],by simp only [gv,runFor,e0,body,ma],by rw [g27,hb];rfl⟩
  ·have hb:blw k m=false:=nu h
   have body:zr [some (.fz (nD k)),x1,some (.fz (nD m))]=some (.nx,[some (.fz (nD k)),x1,some (.fz (nD m))]):=by
    rw [nu h] at oe;simp! [zr,ob,oe]
   obtain⟨fl, ρ,e1,e2⟩:=qbq k x1 ms (some (.fz (nD m)));exact⟨fl, ρ,by rw [gv,yj e0 body,e1],by rw [g27,hb,g3b];exact e2⟩
theorem qbr(k:Nat)(ms:List Nat): xf [nD k,.lst (ms.map nD)]=some (.bl (ms.any (blw k))):=by
 obtain⟨fl, ρ,h,e⟩:=qbq k (some (.fz (.lst (ms.map nD)))) ms none;cases c:ms.any (blw k) with
 | true=>rw [c,mi rfl] at e;subst e;(refine zb ?_;simp! [xc,k6,h])
 | false=>rw [c,mf mh] at e;subst e;(refine zb ?_;simp! [xc,k6,h])
theorem qbs(k:Nat)(x1:Option B): ∀(ms:List Nat) (b2:Option B),∃fl ρ,runFor (bN 2) zq (ms.map nD) [some (.fz (nD k)),x1,b2]=some (fl, ρ)/\fl=(if ms.any (fun m=>blw m k)=true then .rt (.bl true) else .nx)
 | [],b2=>⟨.nx,_,rfl,rfl⟩
 | m :: ms,b2=>by
  have ob:=q8n k m;have oe:=q4g (k &&& m) m;have e0:bN 2 (nD m) [some (.fz (nD k)),x1,b2]=some [some (.fz (nD k)),x1,some (.fz (nD m))]:=rfl
  by_cases h:k &&& m=m
  ·have hb:blw m k=true:=p7 (by rw [Nat.and_comm];exact h)
   have body:zq [some (.fz (nD k)),x1,some (.fz (nD m))]=some (.rt (.bl true),[some (.fz (nD k)),x1,some (.fz (nD m))]):=by
    rw [p7 h] at oe;simp! [zq,ob,oe]
   exact⟨.rt (.bl true),[some (.fz (nD k)),x1,some (.fz (nD m))],by simp only [gv,runFor,e0,body,ma],by rw [g27,hb];rfl⟩
  ·have hb:blw m k=false:=nu (by rw [Nat.and_comm];exact h)
   have body:zq [some (.fz (nD k)),x1,some (.fz (nD m))]=some (.nx,[some (.fz (nD k)),x1,some (.fz (nD m))]):=by
    rw [nu h] at oe;simp! [zq,ob,oe]
   obtain⟨fl, ρ,e1,e2⟩:=qbs k x1 ms (some (.fz (nD m)));exact⟨fl, ρ,by rw [gv,yj e0 body,e1],by rw [g27,hb,g3b];exact e2⟩
theorem qbt(k:Nat)(ms:List Nat): xa [nD k,.lst (ms.map nD)]=some (.bl (ms.any fun m=>blw m k)):=by
 obtain⟨fl, ρ,h,e⟩:=qbs k (some (.fz (.lst (ms.map nD)))) ms none;cases c:ms.any (fun m=>blw m k) with
 | true=>rw [c,mi rfl] at e;subst e;(refine zb ?_;simp! [x9,k6,h])
 | false=>rw [c,mf mh] at e;subst e;(refine zb ?_;simp! [x9,k6,h])
theorem q12(k:Nat)(hk:k<64): zm [setD k]=some (nD k):=by
 rw [qez (qe 12 k) (fun x hx=>by obtain⟨i,rfl,hi⟩:=qbj hx;lia) (ml (ko 12 k) (by decide)),(q10 k hk).2]
def zi(w k:Nat): List Nat:=((List.range w).filter fun i=> !bit k i).map fun i=>k+2 ^ i
theorem qjn:∀k:Nat,k<64->∀i:Nat,i<6->bit k i=false->uni (qe 12 k) [(i:Int)]=qe 12 (k+2 ^ i):=by decide +kernel
theorem q4v:∀k:Nat,k<64->∀i:Nat,i<6->decide ((i:Int)∈qe 12 k)=bit k i:=by decide +kernel
theorem q5y:∀w:Nat,w<7->∀k:Nat,k<2 ^ w->∀m∈zi w k,m<2 ^ w:=by decide +kernel
theorem q8u:∀w:Nat,w<7->∀k:Nat,k<2 ^ w->∀m∈zc k,m<2 ^ w:=by decide +kernel
theorem qcq(w k:Nat)(hw:w<=6)(hk:k<64): v9 [setD k,.int (w:Int)]=some (.lst ((zi w k).map setD)):=by
 have r:iR1 (qa (eV 1) qd) [some (.fz (setD k)),some (.fz (.int (w:Int)))]=some (qr 0 w):=yw _ _ (w:Int) rfl (by lia) (by lia);have hl:(qr 0 w).length<=lim:=by rw [vq];show _<=1000000;lia
 have t1:∀d:D,([d]:List D).length<=lim:=fun _=>by show 1<=1000000;decide
 have c:=j8 (b:=bN 0) (c:=zd (oIn true) (eV 0) (eV 1)) (e:=qf (qk 2 [] q06) (qa (eV 1) (qa (we (qa (eV 0) qd)) qd))) (ρ :=[none,some (.fz (setD k))]) nD (fun i=> !bit k i) (fun i=>setD (k+2 ^ i)) (List.range w) fun i hi=>by
  have hi6:i<6:=by have:=tx.mp hi;lia
  have o:=qdw (i:Int) (qe 12 k);rw [q4v k hk i hi6] at o;refine⟨[some (.fz (nD i)),some (.fz (setD k))],rfl,by simp! [o],fun hb=>?_⟩;have hb':bit k i=false:=by simpa using hb
  have j:=qhd (qe 12 k) [(i:Int)] (fun x hx=>by obtain⟨i,rfl,hi⟩:=qbj hx;lia) (fun x hx=>by rw [mw.mp hx];lia);rw [qjn k hk i hi6 hb',show TI [(i:Int)]=.tup [nD i] from rfl] at j;simp! [j,t1]
 rw [<- show qr 0 w=(List.range w).map nD from vj w] at c;have e:(zi w k).map setD=((List.range w).filter fun i=> !bit k i).map fun i=>setD (k+2 ^ i):=by unfold zi;rw [mq];rfl
 rw [e]
 (refine zb ?_;simp! [v8,qm,r,hl,c])
end My
open PySem PyProof.Rows L2 DL
namespace My
open PySem PyProof.Rows L2 DL
theorem qbu{α : Type}(p : α -> Bool)(l:List α): (l.map p).any id=l.any p:=by rw [List.any_map];rfl
theorem q8v:∀k:Nat,k<64->(zc k).length<=6:=by decide +kernel
theorem q8w(w k:Nat): (zi w k).length<=w:=by
 unfold zi;rw [mj];exact ml (g14 _ _) (by rw [List.length_range];exact gu _)
theorem qcr(A:List Nat)(hA:∀k∈A,k<64)(k:Nat)(hk:k<64): xt [setD k,jg A]=some (.bl (!(zc k).any fun m=>decide (m∈A))):=by
 have fe:=qjk k hk;have c:=vb (b:=bN 0) (e:=eOp q33 (eV 0) (eV 1)) (ρ :=[none,some (.fz (jg A))]) setD (fun m=>.bl (decide (m∈A))) (zc k) fun m hm=>by
  have ik:=qbp A hA m (qjl k hk m hm);exact⟨[some (.fz (setD m)),some (.fz (jg A))],rfl,by simp! [ik]⟩
 have a:=q0y ((zc k).map fun m=>decide (m∈A));rw [qbu,mq] at a;have hl:(zc k).length<=lim:=by exact ml (q8v k hk) (by decide)
 have c':zf (bN 0) zx (eOp q33 (eV 0) (eV 1)) [none,some (.fz (jg A))] ((zc k).map setD)=some ((zc k).map (D.bl ∘ fun m=>decide (m∈A))):=c
 (refine zb ?_;simp! [vy,fe,qm,hl,c',a])
theorem qcs(w:Nat)(hw:w<=6)(A:List Nat)(hA:∀k∈A,k<64)(k:Nat)(hk:k<2 ^ w): xq [setD k,jg A,.int (w:Int)]=some (.bl (!(zi w k).any fun m=>decide (m∈A))):=by
 have hk64:k<64:=gm hk (x6 hw);have fe:=qcq w k hw hk64;have c:=vb (b:=bN 0) (e:=eOp q33 (eV 0) (eV 1)) (ρ :=[none,some (.fz (jg A))]) setD (fun m=>.bl (decide (m∈A))) (zi w k) fun m hm=>by
  have ik:=qbp A hA m (gm (q5y w (by lia) k hk m hm) (x6 hw));exact⟨[some (.fz (setD m)),some (.fz (jg A))],rfl,by simp! [ik]⟩
 have a:=q0y ((zi w k).map fun m=>decide (m∈A));rw [qbu,mq] at a;have hl:(zi w k).length<=lim:=by exact ml (q8w w k) (ml hw (by decide))
 have c':zf (bN 0) zx (eOp q33 (eV 0) (eV 1)) [none,some (.fz (jg A))] ((zi w k).map setD)=some ((zi w k).map (D.bl ∘ fun m=>decide (m∈A))):=c
 (refine zb ?_;simp! [vx,fe,qm,hl,c',a])
def byd(ms:List Nat)(k:Nat): Bool:= !ms.any (blw k)
def clr(ms:List Nat)(k:Nat): Bool:= !ms.any fun m=>blw m k
theorem q3j(A:List Nat): q34 (A.map (qe 12))=A.map setD:=by
 unfold q34;rw [mq]
 rfl
def q1q(w:Nat)(ms:List Nat)(k:Nat): Bool:=byd ms k && !(zc k).any fun m=>byd ms m
def q1r(w:Nat)(ms:List Nat)(k:Nat): Bool:=clr ms k && !(zi w k).any fun m=>clr ms m
theorem qhe(w:Nat)(hw:w<=6)(ms:List Nat)(hm:∀m∈ms,m<64)(hl:ms.length<=1000): jy [.int (w:Int),.tup (ms.map setD)]=some (.tup (((marksOf w).filter (q1q w ms)).map setD)):=by
 have hl1:ms.length<=lim:=by show _<=1000000;lia
 have c1:=vb (b:=bN 0) (e:=qf (qk 1 [] zm) (qa (eV 0) qd)) (ρ :=[none]) setD nD ms fun m h=>by
  have e:=q12 m (hm m h);exact⟨[some (.fz (setD m))],rfl,by simp! [e]⟩
 have as:=q59 w hw;have hl2:(marksOf w).length<=lim:=by rw [yq];exact ml (x6 hw) (by decide)
 have t2:∀a b:D,([a,b]:List D).length<=lim:=fun _ _=>by show 2<=1000000;decide
 have c2:=j8 (b:=bN 0) (c:=wd (bT (qf (qk 2 [] xf) (qa (qf (qk 1 [] zm) (qa (eV 0) qd)) (qa (eV 1) qd))))) (e:=we (qa (eV 0) (qa (eC (.bl true)) qd))) (ρ :=[none,some (.fz (.lst (ms.map nD)))]) setD (byd ms) (fun k=>.tup [setD k,.bl true]) (marksOf w) fun k hk=>by
  have e:=q12 k (ku hw k hk);have b:=qbr k ms;refine⟨[some (.fz (setD k)),some (.fz (.lst (ms.map nD)))],rfl,?_,fun _=>by simp! [t2]⟩;show _=some (!ms.any (blw k));simp! [e,b]
 have nA:((marksOf w).filter (byd ms)).Nodup:=g0s _ (q2a w);have hA:∀k∈(marksOf w).filter (byd ms),k<64:=fun k hk=>ku hw k (g04.mp hk).1;have lA:((marksOf w).filter (byd ms)).length<=64:=ml (g14 _ _) (by rw [yq];exact x6 hw);have od:=q74 ((marksOf w).filter (byd ms)) nA hA (by lia);have hl3:((marksOf w).filter (byd ms)).length<=lim:=by exact ml lA (by decide)
 have ik:q5o (eV 3) [some (.fz (.int (w:Int))),some (.fz (.tup (ms.map setD))),some (.fz (.lst (ms.map nD))),some (.fz (jg ((marksOf w).filter (byd ms))))]=some (((marksOf w).filter (byd ms)).map setD):=by
  show some (q34 (((marksOf w).filter (byd ms)).map (qe 12)))=_;rw [q3j]
 have c3:=j8 (b:=bN 0) (c:=bT (qf (qk 2 [] xt) (qa (eV 0) (qa (eV 1) qd)))) (e:=eV 0) (ρ :=[none,some (.fz (jg ((marksOf w).filter (byd ms))))]) setD (fun k=> !(zc k).any fun m=>decide (m∈(marksOf w).filter (byd ms))) setD ((marksOf w).filter (byd ms)) fun k hk=>by
  have s:=qcr _ hA k (hA k hk);exact⟨[some (.fz (setD k)),some (.fz (jg ((marksOf w).filter (byd ms))))],rfl,by simp! [s],fun _=>rfl⟩
 have e:((marksOf w).filter (byd ms)).filter (fun k=> !(zc k).any fun m=>decide (m∈(marksOf w).filter (byd ms)))=(marksOf w).filter (q1q w ms):=by
  rw [List.filter_filter];refine g4s fun k hk=>?_;unfold q1q;rw [Bool.and_comm]
  congr 2
  rw [uw,g3e,g3e];have hk2:=(yp w k).mp hk
  constructor
  ·rintro⟨m,h1,h2⟩
   exact⟨m,h1,(g04.mp (g0f h2)).2⟩
  ·rintro⟨m,h1,h2⟩
   exact⟨m,h1,p7 (g04.mpr ⟨(yp w m).mpr (q8u w (by lia) k hk2 m h1),h2⟩)⟩
 rw [e] at c3;generalize jg ((marksOf w).filter (byd ms))=kn at od ik c3
 (refine zb ?_;simp! [jx,qm,hl1,c1,as,hl2,c2,od,ik,hl3,c3,xi])
theorem qf3(w:Nat)(hw:w<=6)(ms:List Nat)(hm:∀m∈ms,m<64)(hl:ms.length<=1000): jt [.int (w:Int),.tup (ms.map setD)]=some (.tup (((marksOf w).filter (q1r w ms)).map setD)):=by
 have hl1:ms.length<=lim:=by show _<=1000000;lia
 have c1:=vb (b:=bN 0) (e:=qf (qk 1 [] zm) (qa (eV 0) qd)) (ρ :=[none]) setD nD ms fun m h=>by
  have e:=q12 m (hm m h);exact⟨[some (.fz (setD m))],rfl,by simp! [e]⟩
 have as:=q59 w hw;have hl2:(marksOf w).length<=lim:=by rw [yq];exact ml (x6 hw) (by decide)
 have t2:∀a b:D,([a,b]:List D).length<=lim:=fun _ _=>by show 2<=1000000;decide
 have c2:=j8 (b:=bN 0) (c:=wd (bT (qf (qk 2 [] xa) (qa (qf (qk 1 [] zm) (qa (eV 0) qd)) (qa (eV 1) qd))))) (e:=we (qa (eV 0) (qa (eC (.bl true)) qd))) (ρ :=[none,some (.fz (.lst (ms.map nD)))]) setD (clr ms) (fun k=>.tup [setD k,.bl true]) (marksOf w) fun k hk=>by
  have e:=q12 k (ku hw k hk);have b:=qbt k ms;refine⟨[some (.fz (setD k)),some (.fz (.lst (ms.map nD)))],rfl,?_,fun _=>by simp! [t2]⟩;show _=some (!ms.any fun m=>blw m k);simp! [e,b]
 have nA:((marksOf w).filter (clr ms)).Nodup:=g0s _ (q2a w);have hA:∀k∈(marksOf w).filter (clr ms),k<64:=fun k hk=>ku hw k (g04.mp hk).1;have lA:((marksOf w).filter (clr ms)).length<=64:=ml (g14 _ _) (by rw [yq];exact x6 hw);have od:=q74 ((marksOf w).filter (clr ms)) nA hA (by lia);have hl3:((marksOf w).filter (clr ms)).length<=lim:=by exact ml lA (by decide)
 have ik:q5o (eV 3) [some (.fz (.int (w:Int))),some (.fz (.tup (ms.map setD))),some (.fz (.lst (ms.map nD))),some (.fz (jg ((marksOf w).filter (clr ms))))]=some (((marksOf w).filter (clr ms)).map setD):=by
  show some (q34 (((marksOf w).filter (clr ms)).map (qe 12)))=_;rw [q3j]
 have c3:=j8 (b:=bN 0) (c:=bT (qf (qk 3 [] xq) (qa (eV 0) (qa (eV 1) (qa (eV 2) qd))))) (e:=eV 0) (ρ :=[none,some (.fz (jg ((marksOf w).filter (clr ms)))),some (.fz (.int (w:Int)))]) setD (fun k=> !(zi w k).any fun m=>decide (m∈(marksOf w).filter (clr ms))) setD ((marksOf w).filter (clr ms)) fun k hk=>by
  have s:=qcs w hw _ hA k ((yp w k).mp (g04.mp hk).1);exact⟨[some (.fz (setD k)),some (.fz (jg ((marksOf w).filter (clr ms)))),some (.fz (.int (w:Int)))],rfl,by simp! [s],fun _=>rfl⟩
 have e:((marksOf w).filter (clr ms)).filter (fun k=> !(zi w k).any fun m=>decide (m∈(marksOf w).filter (clr ms)))=(marksOf w).filter (q1r w ms):=by
  rw [List.filter_filter];refine g4s fun k hk=>?_;unfold q1r;rw [Bool.and_comm]
  congr 2
  rw [uw,g3e,g3e];have hk2:=(yp w k).mp hk
  constructor
  ·rintro⟨m,h1,h2⟩
   exact⟨m,h1,(g04.mp (g0f h2)).2⟩
  ·rintro⟨m,h1,h2⟩
   exact⟨m,h1,p7 (g04.mpr ⟨(yp w m).mpr (q5y w (by lia) k hk2 m h1),h2⟩)⟩
 rw [e] at c3;generalize jg ((marksOf w).filter (clr ms))=kn at od ik c3
 (refine zb ?_;simp! [jr,qm,hl1,c1,as,hl2,c2,od,ik,hl3,c3,xi])
end My
open PySem PyProof.Rows L2 DL
namespace My
open PySem PyProof.Rows L2 DL
theorem qhf:∀a:Nat,a<64->∀b:Nat,b<64->decide (((qe 12 a).filter fun x=>decide (x∈qe 12 b)).length=(qe 12 a).length)=blw a b:=by decide +kernel
theorem q4h(a b:Nat)(ha:a<64)(hb:b<64): zo [setD a,setD b]=some (.bl (blw a b)):=by
 have c:=q9e (c:=zd (oIn false) (eV 0) (eV 1)) (ρ :=[some (.fz (setD b))]) (fun x=>decide (x∈qe 12 b)) (qe 12 a) fun x _=>by
  have o:=q3i x (qe 12 b);simp! [o]
 have hl:(qe 12 a).length<=lim:=ml (ko 12 a) (by decide);have e:=q4g (((qe 12 a).filter fun x=>decide (x∈qe 12 b)).length) (qe 12 a).length;rw [qhf a ha b hb] at e
 (refine zb ?_;simp! [kf,qm,hl,c,e])
theorem qhg:∀k:Nat,k<64->∀i:Nat,i<6->bit k i=false->(qe 12 (k+2 ^ i)).Perm (qe 12 k++[(i:Int)]):=by decide +kernel
theorem qhh(n k:Nat): (qe n k).Pairwise (· < ·):=by
 unfold qe;rw [uo];refine g32 (fun h=>?_) (g0s _ g37);lia
theorem qf4(ns:List Int): q0a (ns.map D.int)=true:=by
 unfold q0a;rw [m6,m6];refine⟨⟨?_,?_⟩,?_⟩
 ·rw [g08,n9];intro x _;rfl
 ·rw [g08,n9]
  intro x _;show(ns.map D.int).all _=true;rw [g08,n9];intro y _;rfl
 ·rw [g0q]
  left
  rw [g08,n9];intro x _;rfl
theorem qbv(a b:Int): ltT (.int a) (.int b)=decide (a<b):=ju a b
theorem qhi(ns ms:List Int)(hp:ms.Perm ns)(hr:ms.Pairwise (· < ·)): q03 [TI ns]=some (ms.map D.int):=by
 unfold q03;dsimp only;rw [qf4,mi rfl];have e:(ms.map fun x=>(D.int x,D.int x))=yt ((ns.map D.int).map fun d=>(d,d)):=by
  refine q5i ?_ ?_ ?_
  ·rw [mq];exact hp.map _
  ·rw [uo]
   refine g32 (fun {a b} h=>?_) hr;show ltT (.int b) (.int a)=false;rw [qbv];exact nu (by lia)
  ·intro x hx y hy h1 h2
   rw [mq] at hx hy;obtain⟨a,_,rfl⟩:=mx.mp hx;obtain⟨b,_,rfl⟩:=mx.mp hy;have h1':decide (a<b)=false:=by rw [<- qbv];exact h1
   have h2':decide (b<a)=false:=by rw [<- qbv];exact h2
   have:a=b:=by have:=of_decide_eq_false h1';have:=of_decide_eq_false h2';lia
   rw [this]
 rw [<- e,mq]
 rfl
abbrev dD(M:List Nat)(g:Nat->Bool): D:=.dtt (M.map (qe 12)) (M.map fun k=>.bl (g k))
theorem qjo(M:List Nat)(hM:∀k∈M,k<64)(m:Nat)(hm:m∈M): (M.map (qe 12)).idxOf (qe 12 m)=M.idxOf m:=by
 induction M with
 | nil=>cases hm
 | cons k M ih=>
  rw [gv,List.idxOf_cons,List.idxOf_cons]
  by_cases h:k=m
  ·subst h;simp
  ·have h':qe 12 k≠qe 12 m:=fun z=>h (q3h k (hM k m4) m (hM m hm) z)
   rw [g1i.mpr h,g1i.mpr h'];simp only [cond_false];rw [ih (fun x hx=>hM x (m5 _ hx)) ((me.mp hm).resolve_left (mv h))]
theorem q5z(M:List Nat)(g:Nat->Bool)(hM:∀k∈M,k<64)(m:Nat)(hm:m∈M): q0b (dD M g) (setD m)=some (.bl (g m)):=by
 show(xo ((qe 12 m).map D.int)).bind (fun k=>if k∈M.map (qe 12) then(M.map fun k=>D.bl (g k))[(M.map (qe 12)).idxOf k]? else none)=_;rw [vn,ma,mi (mx.mpr ⟨m,hm,rfl⟩),qjo M hM m hm,mn,mr (g4d hm),List.getElem_idxOf]
 rfl
theorem q5b:∀A:List Nat,q6v (A.map setD)=some (A.map (qe 12))
 | []=>rfl
 | k :: A=>by
  have e:qav (setD k)=some (qe 12 k):=vn _;simp only [gv,q6v,e,q5b A,ma,nv]
theorem q60{f:FE}{ρ : Rho}{j:Nat}(g:Nat->D): ∀A:List Nat,(∀k∈A,f (ρ.set j (some (.fz (setD k))))=some (g k))->q0c f ρ j (A.map setD)=some (A.map g)
 | [],_=>rfl
 | k :: A,h=>by
  simp only [gv,q0c,h k m4,q60 g A fun x hx=>h x (m5 _ hx),ma,nv]
theorem qdx(p:Nat->Bool)(ms:List Nat): decide ((ms.filter p).length=0) = !ms.any p:=by
 rw [uw,g2q,g1l,List.filter_eq_nil_iff,g1w,List.any_eq_false]
theorem qq2(ms:List Nat)(hm:∀m∈ms,m<64)(hl:ms.length<=1000)(k:Nat)(hk:k<64)(x0:Option B)(t:Rho): (eOp oEq (qf jz (qa (eL (qm (zu (eV 1)) [none,some 4] (bN 0) (bT (qf (qk 2 [] zo) (qa (eV 1) (qa (eV 0) qd)))) (eV 0))) qd)) (eC (.int 0))) (x0 :: some (.fz (.lst (ms.map setD))) :: none :: none :: some (.fz (setD k)) :: t)=some (.bl (byd ms k)):=by
 have c:=j8 (b:=bN 0) (c:=bT (qf (qk 2 [] zo) (qa (eV 1) (qa (eV 0) qd)))) (e:=eV 0) (ρ :=[none,some (.fz (setD k))]) setD (blw k) setD ms fun m h=>by
  have b:=q4h k m hk (hm m h);exact⟨[some (.fz (setD m)),some (.fz (setD k))],rfl,by simp! [b],fun _=>rfl⟩
 have hl':ms.length<=lim:=by show _<=1000000;lia
 have e:=q4g ((ms.filter (blw k)).length) 0;rw [qdx,show((0:Nat):Int)=0 from rfl] at e;show _=some (D.bl (!ms.any (blw k)));simp! [qm,hl',c,e]
theorem qq3(ms:List Nat)(hm:∀m∈ms,m<64)(hl:ms.length<=1000)(k:Nat)(hk:k<64)(x0:Option B)(t:Rho): (eOp oEq (qf jz (qa (eL (qm (zu (eV 1)) [none,some 4] (bN 0) (bT (qf (qk 2 [] zo) (qa (eV 0) (qa (eV 1) qd)))) (eV 0))) qd)) (eC (.int 0))) (x0 :: some (.fz (.lst (ms.map setD))) :: none :: none :: some (.fz (setD k)) :: t)=some (.bl (clr ms k)):=by
 have c:=j8 (b:=bN 0) (c:=bT (qf (qk 2 [] zo) (qa (eV 0) (qa (eV 1) qd)))) (e:=eV 0) (ρ :=[none,some (.fz (setD k))]) setD (fun m=>blw m k) setD ms fun m h=>by
  have b:=q4h m k (hm m h) hk;exact⟨[some (.fz (setD m)),some (.fz (setD k))],rfl,by simp! [b],fun _=>rfl⟩
 have hl':ms.length<=lim:=by show _<=1000000;lia
 have e:=q4g ((ms.filter fun m=>blw m k).length) 0;rw [qdx,show((0:Nat):Int)=0 from rfl] at e;show _=some (D.bl (!ms.any fun m=>blw m k));simp! [qm,hl',c,e]
end My
open PySem PyProof.Rows L2 DL
namespace My
open PySem PyProof.Rows L2 DL
theorem qhj:∀k:Nat,k<64->((qe 12 k).map fun x=>(qe 12 k).filter fun y=> !decide (y=x))=(zc k).map (qe 12):=by decide +kernel
theorem qhk(k:Nat)(hk:k<64): zf (bN 0) zx (qf zv (qa (eL (qm (zu (eV 1)) [none,some 0] (bN 0) (zd q3t (eV 0) (eV 1)) (eV 0))) qd)) [none,some (.fz (setD k))] ((qe 12 k).map D.int)=some ((zc k).map setD):=by
 have hl:(qe 12 k).length<=lim:=ml (ko 12 k) (by decide);have c:=vb (b:=bN 0) (e:=qf zv (qa (eL (qm (zu (eV 1)) [none,some 0] (bN 0) (zd q3t (eV 0) (eV 1)) (eV 0))) qd)) (ρ :=[none,some (.fz (setD k))]) D.int (fun x=>TI ((qe 12 k).filter fun y=> !decide (y=x))) (qe 12 k) fun x _=>by
  have ci:=q9e (c:=zd q3t (eV 0) (eV 1)) (ρ :=[some (.fz (.int x))]) (fun y=> !decide (y=x)) (qe 12 k) fun y _=>by
   have n:=qdu y x;simp! [n]
  refine⟨[some (.fz (.int x)),some (.fz (setD k))],rfl,?_⟩;simp! [qm,hl,ci,xi]
 rw [c];have e:(qe 12 k).map (fun x=>TI ((qe 12 k).filter fun y=> !decide (y=x)))=((qe 12 k).map fun x=>(qe 12 k).filter fun y=> !decide (y=x)).map TI:=by rw [mq];rfl
 rw [e,qhj k hk,mq]
 rfl
theorem qhl(w:Nat)(hw:w<=6)(k:Nat)(hk:k<64): zf (bN 0) (zd (oIn true) (eV 0) (eV 1)) (qf zv (qa (eL (q09 q03 (qa (eOp jf (eV 1) (we (qa (eV 0) qd))) qd))) qd)) [none,some (.fz (setD k))] (qr 0 w)=some ((zi w k).map setD):=by
 have t1:∀d:D,([d]:List D).length<=lim:=fun _=>by show 1<=1000000;decide
 have c:=j8 (b:=bN 0) (c:=zd (oIn true) (eV 0) (eV 1)) (e:=qf zv (qa (eL (q09 q03 (qa (eOp jf (eV 1) (we (qa (eV 0) qd))) qd))) qd)) (ρ :=[none,some (.fz (setD k))]) nD (fun i=> !bit k i) (fun i=>setD (k+2 ^ i)) (List.range w) fun i hi=>by
  have hi6:i<6:=by have:=tx.mp hi;lia
  have o:=qdw (i:Int) (qe 12 k);rw [q4v k hk i hi6] at o;refine⟨[some (.fz (nD i)),some (.fz (setD k))],rfl,by simp! [o],fun hb=>?_⟩;have hb':bit k i=false:=by simpa using hb
  have p:=q8k ((qe 12 k).map D.int) [nD i] (by rw [mj];have:=ko 12 k;simp;lia);have e:(qe 12 k).map D.int++[nD i]=(qe 12 k++[(i:Int)]).map D.int:=by rw [uf];rfl
  rw [e] at p;have s:=qhi (qe 12 k++[(i:Int)]) (qe 12 (k+2 ^ i)) (qhg k hk i hi6 hb') (qhh 12 _);simp! [t1,p,s,xi]
 rw [<- show qr 0 w=(List.range w).map nD from vj w] at c;have e:(zi w k).map setD=((List.range w).filter fun i=> !bit k i).map fun i=>setD (k+2 ^ i):=by unfold zi;rw [mq];rfl
 rw [e];exact c
theorem qbw(M:List Nat)(hM:∀k∈M,k<64)(g:Nat->Bool)(l:List Nat)(hl:∀m∈l,m∈M): zf (bN 0) zx (eOp q0b (eV 1) (eV 0)) [none,some (.fz (dD M g))] (l.map setD)=some ((l.map g).map D.bl):=by
 have c:=vb (b:=bN 0) (e:=eOp q0b (eV 1) (eV 0)) (ρ :=[none,some (.fz (dD M g))]) setD (fun m=>.bl (g m)) l fun m h=>by
  have i:=q5z M g hM m (hl m h);exact⟨[some (.fz (setD m)),some (.fz (dD M g))],rfl,by simp! [i]⟩
 rw [c,mq]
 rfl
theorem qjp(w:Nat)(hw:w<=6)(ms:List Nat)(x1:Option B)(M:List Nat)(hMl:∀k,k∈M↔k<2 ^ w)(g1 g2:Nat->Bool)(k:Nat)(hk:k∈M)(a5 a6:List Nat)(h5:a5.length<=1000)(h6:a6.length<=1000)(b7 b8:Option B):
  yk [some (.fz (.int (w:Int))),x1,some (.fz (dD M g1)),some (.fz (dD M g2)),some (.fz (setD k)),some (.ow (a5.map setD)),some (.ow (a6.map setD)),b7,b8] =
   some (.nx,[some (.fz (.int (w:Int))),x1,some (.fz (dD M g1)),some (.fz (dD M g2)),some (.fz (setD k)),some (.ow ((a5++if g1 k && !(zc k).any g1 then [k] else []).map setD)),some (.ow ((a6++if g2 k && !(zi w k).any g2 then [k] else []).map setD)),some (.fz (.lst ((zc k).map setD))),some (.fz (.lst ((zi w k).map setD)))]):=by
 have hM:∀k∈M,k<64:=fun k h=>gm ((hMl k).mp h) (x6 hw);have hk2:=(hMl k).mp hk;have hk64:=hM k hk;have lb:(qe 12 k).length<=lim:=ml (ko 12 k) (by decide);have lc:=qhk k hk64;have mc:=qhl w hw k hk64;have r:∀t:Rho,iR1 (qa (eV 0) qd) (some (.fz (.int (w:Int))) :: t)=some (qr 0 w):=fun t=>yw _ _ (w:Int) rfl (by lia) (by lia);have hlr:(qr 0 w).length<=lim:=by rw [vq];show _<=1000000;lia
 have i1:=q5z M g1 hM k hk;have i2:=q5z M g2 hM k hk;have c1:=qbw M hM g1 (zc k) fun m h=>(hMl m).mpr (q8u w (by lia) k hk2 m h);have c2:=qbw M hM g2 (zi w k) fun m h=>(hMl m).mpr (q5y w (by lia) k hk2 m h);have an1:=q0y ((zc k).map g1);have an2:=q0y ((zi w k).map g2);rw [qbu] at an1 an2;have l1:(zc k).length<=lim:=ml (q8v k hk64) (by decide);have l2:(zi w k).length<=lim:=ml (q8w w k) (ml hw (by decide));have la5:a5.length<lim:=by show _<1000000;lia
 have la6:a6.length<lim:=by show _<1000000;lia
 generalize dD M g1=D1 at i1 c1 ⊢;generalize dD M g2=D2 at i2 c2 ⊢;generalize (zc k).any g1=q1 at an1 ⊢;generalize (zi w k).any g2=q2 at an2 ⊢;cases e1:g1 k <;> cases q1 <;> cases e2:g2 k <;> cases q2 <;> rw [e1] at i1 <;> rw [e2] at i2 <;>
  simp! [yk,qm,lb,lc,r,hlr,mc,i1,i2,l1,c1,an1,l2,c2,an2,q1e,q4r,q4s,la5,la6,uf]
end My
open PySem PyProof.Rows L2 DL
namespace My
open PySem PyProof.Rows L2 DL
theorem same_int(n:Nat)(i:Int): F_law_same (n+1) [.int i,.int i]=some (.bl true):=by
 show z5 4 (xy (F_law_same n)) [.int i,.int i]=_
 (refine zb ?_;simp! [xy])
theorem q8x(n:Nat)(x0 x1:Option B): ∀(ds:List D) (b2 b3:Option B),(∀d∈ds,F_law_same n [d,d]=some (.bl true))->∃b2' b3',runFor (q9v 2 (q4n (bN 2) (q4n (bN 3) q9u))) (vw (F_law_same n)) (q3v ds ds) [x0,x1,b2,b3]=some (.nx,[x0,x1,b2',b3'])
 | [],b2,b3,_=>⟨b2,b3,rfl⟩
 | d :: ds,b2,b3,h=>by
  obtain⟨b2',b3',ih⟩:=q8x n x0 x1 ds (some (.fz d)) (some (.fz d)) fun e he=>h e (m5 _ he);refine⟨b2',b3',?_⟩;have hd:=h d m4;have z:q3v (d :: ds) (d :: ds)=.tup [d,d] :: q3v ds ds:=rfl;rw [z,yj (ρ1:=[x0,x1,some (.fz d),some (.fz d)]) rfl (show vw (F_law_same n) [x0,x1,some (.fz d),some (.fz d)]=some (.nx,[x0,x1,some (.fz d),some (.fz d)]) by simp! [vw,hd]),ih]
theorem qbx(n:Nat)(ds:List D)(h:∀d∈ds,F_law_same n [d,d]=some (.bl true)): F_law_same (n+1) [.tup ds,.tup ds]=some (.bl true):=by
 obtain⟨b2,b3,hl⟩:=q8x n (some (.fz (.tup ds))) (some (.fz (.tup ds))) ds none none h;show z5 4 (xy (F_law_same n)) [.tup ds,.tup ds]=_
 (refine zb ?_;simp! [xy,qij,k6,hl])
theorem qm8(n:Nat)(b:List Int): F_law_same (n+2) [TI b,TI b]=some (.bl true):=qbx _ _ fun d hd=>by
 obtain⟨x,_,rfl⟩:=mx.mp hd;exact same_int _ _
def FZ(b:Option B): Prop:=b=none\/∃d,b=some (.fz d)
theorem qby(w:Nat)(hw:w<=6)(ms:List Nat)(x1:Option B)(M:List Nat)(hMl:∀k,k∈M↔k<2 ^ w)(g1 g2:Nat->Bool): ∀(q a5 a6:List Nat) (b4 b7 b8:Option B),(∀k∈q,k∈M)->a5.length+q.length<=1000->a6.length+q.length<=1000->FZ b7->FZ b8->∃b4' b7' b8',FZ b7'/\FZ b8' /\
  runFor (bN 4) yk (q.map setD) [some (.fz (.int (w:Int))),x1,some (.fz (dD M g1)),some (.fz (dD M g2)),b4,some (.ow (a5.map setD)),some (.ow (a6.map setD)),b7,b8] =
   some (.nx,[some (.fz (.int (w:Int))),x1,some (.fz (dD M g1)),some (.fz (dD M g2)),b4',some (.ow ((a5++q.filter fun k=>g1 k && !(zc k).any g1).map setD)),some (.ow ((a6++q.filter fun k=>g2 k && !(zi w k).any g2).map setD)),b7',b8'])
 | [],a5,a6,b4,b7,b8,_,_,_,f7,f8=>⟨b4,b7,b8,f7,f8,by simp only [g10,runFor,List.filter_nil,g2c]⟩
 | k :: q,a5,a6,b4,b7,b8,hq,l5,l6,f7,f8=>by
  rw [t9] at l5 l6;have body:=qjp w hw ms x1 M hMl g1 g2 k (hq k m4) a5 a6 (by lia) (by lia) b7 b8;have e0:bN 4 (setD k) [some (.fz (.int (w:Int))),x1,some (.fz (dD M g1)),some (.fz (dD M g2)),b4,some (.ow (a5.map setD)),some (.ow (a6.map setD)),b7,b8]=some [some (.fz (.int (w:Int))),x1,some (.fz (dD M g1)),some (.fz (dD M g2)),some (.fz (setD k)),some (.ow (a5.map setD)),some (.ow (a6.map setD)),b7,b8]:=rfl;obtain⟨b4',b7',b8',h7,h8,ih⟩:=qby w hw ms x1 M hMl g1 g2 q (a5++if g1 k && !(zc k).any g1 then [k] else []) (a6++if g2 k && !(zi w k).any g2 then [k] else []) (some (.fz (setD k))) (some (.fz (.lst ((zc k).map setD)))) (some (.fz (.lst ((zi w k).map setD)))) (fun x hx=>hq x (m5 _ hx))
   (by rw [pz];split <;> simp <;> lia) (by rw [pz];split <;> simp <;> lia) (.inr ⟨_,rfl⟩) (.inr ⟨_,rfl⟩)
  refine⟨b4',b7',b8',h7,h8,?_⟩;rw [gv,yj e0 body,ih,g0y,g0y,mm,mm];have f:∀(c:Bool) (l:List Nat),(if c=true then [k] else [])++l=if c=true then k :: l else l:=fun c l=>by cases c <;> rfl
  rw [f,f]
noncomputable abbrev F1:FE:=eOp oEq (qf jz (qa (eL (qm (zu (eV 1)) [none,some 4] (bN 0) (bT (qf (qk 2 [] zo) (qa (eV 1) (qa (eV 0) qd)))) (eV 0))) qd)) (eC (.int 0))
noncomputable abbrev F2:FE:=eOp oEq (qf jz (qa (eL (qm (zu (eV 1)) [none,some 4] (bN 0) (bT (qf (qk 2 [] zo) (qa (eV 0) (qa (eV 1) qd)))) (eV 0))) qd)) (eC (.int 0))
theorem qp6(w:Nat)(hw:w<=6)(ms:List Nat)(hm:∀m∈ms,m<64)(hl:ms.length<=1000): ∃l,sDD 2 3 4 (zu (qf (qk 1 [] xx) (qa (eV 0) qd))) F1 F2 [some (.fz (.int (w:Int))),some (.fz (.lst (ms.map setD))),none,none,none,none,none,none,none] =
  some (.nx,[some (.fz (.int (w:Int))),some (.fz (.lst (ms.map setD))),some (.fz (dD (marksOf w) (byd ms))),some (.fz (dD (marksOf w) (clr ms))),some (.fz (setD l)),none,none,none,none]):=by
 obtain⟨l,hlast⟩:∃l,(marksOf w).getLast? = some l:=by
  cases e:(marksOf w).getLast? with
  | some l=>exact⟨l,rfl⟩
  | none=>
   have:=g4z.mp e;have h0:=yq w;rw [this] at h0;have:=g3u w;simp at h0;lia
 refine⟨l,?_⟩;have ls:=qcp w hw;have hit:zu (qf (qk 1 [] xx) (qa (eV 0) qd)) [some (.fz (.int (w:Int))),some (.fz (.lst (ms.map setD))),none,none,none,none,none,none,none]=some ((marksOf w).map setD):=by simp! [ls]
 have hk:=q5b (marksOf w);have hn:((marksOf w).map (qe 12)).Nodup/\((marksOf w).map (qe 12)).length<=lim:=⟨q5a (q2a w) (ku hw),by rw [mj,yq];exact ml (x6 hw) (by decide)⟩
 have v1:q0c F1 [some (.fz (.int (w:Int))),some (.fz (.lst (ms.map setD))),none,none,none,none,none,none,none] 4 ((marksOf w).map setD)=some ((marksOf w).map fun k=>.bl (byd ms k)):=q60 (fun k=>.bl (byd ms k)) (marksOf w) fun k hk=>qq2 ms hm hl k (ku hw k hk) _ _;have v2:q0c F2 [some (.fz (.int (w:Int))),some (.fz (.lst (ms.map setD))),none,none,none,none,none,none,none] 4 ((marksOf w).map setD)=some ((marksOf w).map fun k=>.bl (clr ms k)):=q60 (fun k=>.bl (clr ms k)) (marksOf w) fun k hk=>qq3 ms hm hl k (ku hw k hk) _ _;have er:q5p [some (.fz (.int (w:Int))),some (.fz (.lst (ms.map setD))),none,none,none,none,none,none,none] 4 ((marksOf w).map setD)=[some (.fz (.int (w:Int))),some (.fz (.lst (ms.map setD))),none,none,some (.fz (setD l)),none,none,none,none]:=by
  unfold q5p;rw [List.getLast?_map,hlast]
  rfl
 unfold sDD;rw [mi ⟨rfl,by show 2<9;decide,by show 3<9;decide,by show 4<9;decide⟩];show(zu (qf (qk 1 [] xx) (qa (eV 0) qd)) [some (.fz (.int (w:Int))),some (.fz (.lst (ms.map setD))),none,none,none,none,none,none,none]).bind _=_;rw [hit,ma,hk,ma,mi hn];show(q0c F1 [some (.fz (.int (w:Int))),some (.fz (.lst (ms.map setD))),none,none,none,none,none,none,none] 4 ((marksOf w).map setD)).bind (fun v1=>(q0c F2 [some (.fz (.int (w:Int))),some (.fz (.lst (ms.map setD))),none,none,none,none,none,none,none] 4 ((marksOf w).map setD)).map fun v2=>(Fl.nx,((q5p [some (.fz (.int (w:Int))),some (.fz (.lst (ms.map setD))),none,none,none,none,none,none,none] 4 ((marksOf w).map setD)).set 2 _).set 3 _))=_;rw [v1,ma,v2,nv,er]
 rfl
theorem qoc(w:Nat)(hw:w<=6)(ms:List Nat)(hm:∀m∈ms,m<64)(hl:ms.length<=1000): q0k [.int (w:Int),.lst (ms.map setD)]=some (.lst [.tup (((marksOf w).filter (q1q w ms)).map setD),.tup (((marksOf w).filter (q1r w ms)).map setD)]):=by
 obtain⟨l,dd⟩:=qp6 w hw ms hm hl;have hn:(marksOf w).length<=64:=by rw [yq];exact x6 hw
 obtain⟨b4,b7,b8,f7,f8,lp⟩:=qby w hw ms (some (.fz (.lst (ms.map setD)))) (marksOf w) (yp w) (byd ms) (clr ms) (marksOf w) [] [] (some (.fz (setD l))) none none (fun _ h=>h) (by simp;lia) (by simp;lia) (.inl rfl) (.inl rfl);rw [g1q,g1q,g10] at lp;have ik:∀t:Rho,q5o (eV 2) (some (.fz (.int (w:Int))) :: some (.fz (.lst (ms.map setD))) :: some (.fz (dD (marksOf w) (byd ms))) :: t)=some ((marksOf w).map setD):=fun t=>by
  show some (q34 ((marksOf w).map (qe 12)))=_;rw [q3j]
 have t0:([]:List D).length<=lim:=by decide
 have t2:∀a b:D,([a,b]:List D).length<=lim:=fun _ _=>by show 2<=1000000;decide
 have e1:(marksOf w).filter (q1q w ms)=(marksOf w).filter fun k=>byd ms k && !(zc k).any (byd ms):=rfl;have e2:(marksOf w).filter (q1r w ms)=(marksOf w).filter fun k=>clr ms k && !(zi w k).any (clr ms):=rfl;rw [e1,e2];generalize dD (marksOf w) (byd ms)=D1 at dd lp ik;generalize dD (marksOf w) (clr ms)=D2 at dd lp;generalize (marksOf w).filter (fun k=>byd ms k && !(zc k).any (byd ms))=S1 at lp ⊢;generalize (marksOf w).filter (fun k=>clr ms k && !(zi w k).any (clr ms))=S2 at lp ⊢;generalize (marksOf w).map setD=MM at lp ik;rcases f7 with rfl|⟨d7,rfl⟩ <;> rcases f8 with rfl|⟨d8,rfl⟩ <;> (refine zb ?_;simp! [q0j,dd,t0,k6,ik,lp,t2,xi])
theorem q8y(l:List Nat): wt [.tup (l.map setD),.tup (l.map setD)]=some (.bl true):=qbx 15 _ fun d hd=>by
 obtain⟨k,_,rfl⟩:=mx.mp hd;exact qm8 13 _
theorem q20(w:Nat)(hw:w<=6)(ms:List Nat)(hm:∀m∈ms,m<64)(hl:ms.length<=1000): va [.int (w:Int),.lst (ms.map setD)]=some (.bl true):=by
 have d:=qoc w hw ms hm hl;have b:=qhe w hw ms hm hl;have g:=qf3 w hw ms hm hl;have s1:=q8y ((marksOf w).filter (q1q w ms));have s2:=q8y ((marksOf w).filter (q1r w ms));generalize ((marksOf w).filter (q1q w ms)).map setD=L1 at d b s1;generalize ((marksOf w).filter (q1r w ms)).map setD=L2 at d g s2
 (refine zb ?_;simp! [wz,d,b,g,s1,s2,xi])
end My
open PySem PyProof.Rows L2 DL
namespace My
open PySem PyProof.Rows L2 DL
theorem q4i(ns:List Int)(k:Int)(h0:0<=k)(h1:k<=1000000): ∃m,jn [.lst (ns.map .int),.int k]=some (.int m)/\0<=m/\m<2147483629:=by
 have hkk:kb (.int k) (.int k)=some (.int (k*k)):=q38 _ _ ⟨by lia,by lia⟩;have hx:∀x:Int,kb (.int (x%2147483647)) (.int (x%2147483647))=some (.int ((x%2147483647)*(x%2147483647))):=fun x=>
  q38 _ _ ⟨by have:=g16 x (show(2147483647:Int)≠0 by decide);lia,by have:=g0n x (show(0:Int)<2147483647 by decide);lia⟩
 have fin:∀x:Int,0<=x%2147483629/\x%2147483629<2147483629:=fun x=>⟨g16 x (by decide),g0n x (by decide)⟩
 by_cases hn:0<ns.length
 ·obtain⟨j,hj,hm⟩:=qm1 (x:=k) hn
  have hn':(0:Int)<(ns.length:Int):=by lia
  have hi:atI (ns.map D.int) (j:Int)=some (.int ns[j]):=by rw [qjh,mn,mr hj];rfl
  simp! [jn,y6,hkk,hx,hm,hn',hi];exact⟨_,rfl,fin _⟩
 ·have hn':¬(0:Int)<(ns.length:Int):=by lia
  simp! [jn,y6,hkk,hx,hn'];exact⟨_,rfl,fin _⟩
theorem qf5:∀a:Nat,a<64->∀b:Nat,b<64->((qe 12 a).filter fun x=>decide (x∈qe 12 b))=qe 12 (a &&& b):=by decide +kernel
theorem qjq:∀w:Nat,w<7->∀a:Nat,a<2 ^ w->∀b:Nat,b<2 ^ w->(((List.range w).filter fun i=>bit a i || bit b i).map fun i:Nat=>(i:Int))=qe 12 (a ||| b):=by decide +kernel
theorem qdy(ms:List Nat)(l:Nat)(h:ms.getLast? = some l): oIx (.lst (ms.map setD)) (.int (-1))=some (setD l):=by
 show atI (ms.map setD) (-1)=_;rw [qjf,List.getLast?_map,h]
 rfl
theorem qbz{j:Nat}{lc:FA}{ρ : Rho}{ds es:List D}{ns:List Int}(h : ρ[j]? = some (some (.ow ds)))(e:lc (ρ.set j (some (.fz (.lst ds))))=some es)(hi:xo es=some ns): q1v j lc ρ = some es:=by
 unfold q1v;rw [h];dsimp only;rw [e,ma,hi]
 rfl
theorem peek1(ms:List Nat)(l m:Nat)(h:ms.getLast? = some l)(hl:l<64)(hm:m<64)(x0 x1 x2 x3 x5:Option B): q1v 4 (qm (zu (eV 6)) [none,some 4] (bN 0) (zd (oIn false) (eV 0) (eOp oIx (eV 1) (eUn q1g (eC (.int 1))))) (eV 0)) [x0,x1,x2,x3,some (.ow (ms.map setD)),x5,some (.fz (setD m))]=some ((qe 12 (m &&& l)).map D.int):=by
 have li:=qdy ms l h;have lb:(qe 12 m).length<=lim:=ml (ko 12 m) (by decide);have c:=q9e (c:=zd (oIn false) (eV 0) (eOp oIx (eV 1) (eUn q1g (eC (.int 1))))) (ρ :=[some (.fz (.lst (ms.map setD)))]) (fun x=>decide (x∈qe 12 l)) (qe 12 m) fun x _=>by
  have o:=q3i x (qe 12 l);simp! [li,o]
 rw [qf5 m hm l hl] at c;have e:qm (zu (eV 6)) [none,some 4] (bN 0) (zd (oIn false) (eV 0) (eOp oIx (eV 1) (eUn q1g (eC (.int 1))))) (eV 0) [x0,x1,x2,x3,some (.fz (.lst (ms.map setD))),x5,some (.fz (setD m))]=some ((qe 12 (m &&& l)).map D.int):=by
  simp! [qm,lb,c]
 exact qbz rfl e (vn _)
theorem qp7(w:Nat)(hw:w<=6)(ms:List Nat)(l m:Nat)(h:ms.getLast? = some l)(hl:l<2 ^ w)(hm:m<2 ^ w)(x0 x2 x3 x5:Option B): q1v 4 (qm (iR1 (qa (eV 1) qd)) [none,some 6,some 4] (bN 0) (bOr (zd (oIn false) (eV 0) (eV 1)) (zd (oIn false) (eV 0) (eOp oIx (eV 2) (eUn q1g (eC (.int 1)))))) (eV 0)) [x0,some (.fz (.int (w:Int))),x2,x3,some (.ow (ms.map setD)),x5,some (.fz (setD m))]=some ((qe 12 (m ||| l)).map D.int):=by
 have li:=qdy ms l h;have hm6:m<64:=gm hm (x6 hw);have hl6:l<64:=gm hl (x6 hw);have r:∀t:Rho,iR1 (qa (eV 1) qd) (x0 :: some (.fz (.int (w:Int))) :: t)=some (qr 0 w):=fun t=>yw _ _ (w:Int) rfl (by lia) (by lia);have hlr:(qr 0 w).length<=lim:=by rw [vq];show _<=1000000;lia
 have c:=j8 (b:=bN 0) (c:=bOr (zd (oIn false) (eV 0) (eV 1)) (zd (oIn false) (eV 0) (eOp oIx (eV 2) (eUn q1g (eC (.int 1)))))) (e:=eV 0) (ρ :=[none,some (.fz (setD m)),some (.fz (.lst (ms.map setD)))]) nD (fun i=>bit m i || bit l i) nD (List.range w) fun i hi=>by
  have hi6:i<6:=by have:=tx.mp hi;lia
  have o1:=q3i (i:Int) (qe 12 m);have o2:=q3i (i:Int) (qe 12 l);rw [q4v m hm6 i hi6] at o1;rw [q4v l hl6 i hi6] at o2;refine⟨[some (.fz (nD i)),some (.fz (setD m)),some (.fz (.lst (ms.map setD)))],rfl,?_,fun _=>rfl⟩;cases e1:bit m i <;> rw [e1] at o1 <;> (simp! [li,o1,o2];rfl)
 rw [<- show qr 0 w=(List.range w).map nD from vj w] at c;have e2:((List.range w).filter fun i=>bit m i || bit l i).map nD=(qe 12 (m ||| l)).map D.int:=by rw [<- qjq w (by lia) m hm l hl,mq];rfl
 rw [e2] at c;have e:qm (iR1 (qa (eV 1) qd)) [none,some 6,some 4] (bN 0) (bOr (zd (oIn false) (eV 0) (eV 1)) (zd (oIn false) (eV 0) (eOp oIx (eV 2) (eUn q1g (eC (.int 1)))))) (eV 0) [x0,some (.fz (.int (w:Int))),x2,x3,some (.fz (.lst (ms.map setD))),x5,some (.fz (setD m))]=some ((qe 12 (m ||| l)).map D.int):=by
  simp! [qm,r,hlr,c]
 exact qbz rfl e (vn _)
theorem qm9(w:Nat)(hw:w<=6)(x:Int): ∃m:Nat,m<2 ^ w/\zg [.int (x%((2 ^ w:Nat):Int))]=some (setD m):=by
 have hp:(0:Int)<((2 ^ w:Nat):Int):=by exact_mod_cast g3u w
 have a:=g16 x (g61 hp);have b:=g0n x hp;refine⟨(x%((2 ^ w:Nat):Int)).toNat,by lia,?_⟩;have:=q0s (x%((2 ^ w:Nat):Int)).toNat (by have:=x6 hw;lia);rw [g1k a] at this;exact this
theorem qf6(ns:List Int)(w:Nat)(hw:w<=6)(x2:Option B)(k:Nat)(hk:k<=100)(ms:List Nat)(hms:ms.length=k)(hm:∀m∈ms,m<2 ^ w)(b6:Option B): ∃m',m'<2 ^ w /\
  j5 [some (.fz (.lst (ns.map D.int))),some (.fz (.int (w:Int))),x2,some (.fz (.int ((2 ^ w:Nat):Int))),some (.ow (ms.map setD)),some (.fz (.int (k:Int))),b6] =
   some (.nx,[some (.fz (.lst (ns.map D.int))),some (.fz (.int (w:Int))),x2,some (.fz (.int ((2 ^ w:Nat):Int))),some (.ow ((ms++[m']).map setD)),some (.fz (.int (k:Int))),some (.fz (setD m'))]):=by
 obtain⟨q1,h1,_,_⟩:=q4i ns (k:Int) (by lia) (by lia);obtain⟨q2,h2,_,_⟩:=q4i ns ((k:Int)+40) (by lia) (by lia);obtain⟨m,m1,m2⟩:=qm9 w hw q1;have hp:(0:Int)<((2 ^ w:Nat):Int):=by exact_mod_cast g3u w
 have la:ms.length<lim:=by show _<1000000;lia
 generalize ((2 ^ w:Nat):Int)=sz at hp m2 ⊢
 by_cases k0:(0:Int)<(k:Int)
 ·obtain⟨l,hlast⟩:∃l,ms.getLast? = some l:=by
   cases e:ms.getLast? with
   | some l=>exact⟨l,rfl⟩
   | none=>rw [g4z.mp e] at hms;simp at hms;lia
  have hl:=hm l (List.mem_of_getLast? hlast)
  by_cases c1:q2%4=1
  ·have c2:¬q2%4=2:=by lia
   have pk:=peek1 ms l m hlast (gm hl (x6 hw)) (gm m1 (x6 hw)) (some (.fz (.lst (ns.map D.int)))) (some (.fz (.int (w:Int)))) x2 (some (.fz (.int sz))) (some (.fz (.int (k:Int))));refine⟨m &&& l,Nat.and_lt_two_pow _ hl,?_⟩;rw [uf];simp! [j5,h1,h2,hp,m2,k0,c1,c2,pk,xi,q1e,q4r,q4s,la]
  ·by_cases c2:q2%4=2
   ·have pk:=qp7 w hw ms l m hlast hl m1 (some (.fz (.lst (ns.map D.int)))) x2 (some (.fz (.int sz))) (some (.fz (.int (k:Int))))
    refine⟨m ||| l,Nat.or_lt_two_pow m1 hl,?_⟩;rw [uf];simp! [j5,h1,h2,hp,m2,k0,c1,c2,pk,xi,q1e,q4r,q4s,la]
   ·refine⟨m,m1,?_⟩
    rw [uf];simp! [j5,h1,h2,hp,m2,k0,c1,c2,q1e,q4r,q4s,la]
 ·refine⟨m,m1,?_⟩
  rw [uf];simp! [j5,h1,h2,hp,m2,k0,q1e,q4r,q4s,la]
theorem q75(ns:List Int)(w:Nat)(hw:w<=6)(x2:Option B): ∀(n k:Nat) (ms:List Nat) (b5 b6:Option B),k+n<=50->ms.length=k->(∀m∈ms,m<2 ^ w)->∃(ms':List Nat) (b5' b6':Option B),ms'.length=k+n/\(∀m∈ms',m<2 ^ w) /\
  runFor (bN 5) j5 (qr (k:Int) n) [some (.fz (.lst (ns.map D.int))),some (.fz (.int (w:Int))),x2,some (.fz (.int ((2 ^ w:Nat):Int))),some (.ow (ms.map setD)),b5,b6] =
   some (.nx,[some (.fz (.lst (ns.map D.int))),some (.fz (.int (w:Int))),x2,some (.fz (.int ((2 ^ w:Nat):Int))),some (.ow (ms'.map setD)),b5',b6'])
 | 0,k,ms,b5,b6,_,h1,h2=>⟨ms,b5,b6,h1,h2,rfl⟩
 | n+1,k,ms,b5,b6,hk,h1,h2=>by
  obtain⟨m',hm',body⟩:=qf6 ns w hw x2 k (by lia) ms h1 h2 b6;obtain⟨ms',b5',b6',e1,e2,ih⟩:=q75 ns w hw x2 n (k+1) (ms++[m']) (some (.fz (.int (k:Int)))) (some (.fz (setD m'))) (by lia) (by simp [h1]) (fun m hm=>by
   rcases nh.mp hm with hm|hm
   ·exact h2 m hm
   ·rw [mw.mp hm];exact hm')
  refine⟨ms',b5',b6',by lia,e2,?_⟩;have e0:bN 5 (.int (k:Int)) [some (.fz (.lst (ns.map D.int))),some (.fz (.int (w:Int))),x2,some (.fz (.int ((2 ^ w:Nat):Int))),some (.ow (ms.map setD)),b5,b6]=some [some (.fz (.lst (ns.map D.int))),some (.fz (.int (w:Int))),x2,some (.fz (.int ((2 ^ w:Nat):Int))),some (.ow (ms.map setD)),some (.fz (.int (k:Int))),b6]:=rfl;rw [q52,yj e0 body,show(k:Int)+1=((k+1:Nat):Int) by lia,ih]
end My
open PySem PyProof.Rows L2 DL
namespace My
open PySem PyProof.Rows L2 DL
theorem q61(x:Int)(n:Nat)(hn:0<n): ∃k:Nat,k<n/\x%(n:Int)=(k:Int):=by
 have a:=g16 x (show(n:Int)≠0 by lia);have b:=g0n x (show(0:Int)<(n:Int) by lia);exact⟨(x%(n:Int)).toNat,by lia,by lia⟩
theorem qjr(ns:List Int)(hl:ns.length<=63)(w:Nat)(hw:w<=6): ∃ms:List Nat,kc [.lst (ns.map D.int),.int (w:Int)]=some (.lst (ms.map setD))/\(∀m∈ms,m<2 ^ w)/\ms.length<=62:=by
 obtain⟨fst,hf⟩:∃fst:Int,(0<ns.length->(ns.map D.int)[0]? = some (.int fst))/\(¬ 0<ns.length->fst=0):=by
  cases ns with
  | nil=>exact⟨0,fun h=>absurd h (by simp),fun _=>rfl⟩
  | cons a r=>exact⟨a,fun _=>rfl,fun h=>absurd (by simp) h⟩
 have pw:=q4f w hw;have sl:oSl (.lst (ns.map D.int)) (some 1) (some 63)=some (.lst ((ns.drop 1).map D.int)):=by
  show some (D.lst (DL.cutD (ns.map D.int) (some ((1:Nat):Int)) (some ((63:Nat):Int))))=_;unfold DL.cutD;rw [HT.sIx_nat,HT.sIx_nat,mj,g5c hl]
  by_cases h:1<=ns.length
  ·rw [g5k h,pd (by simp),g5z]
  ·have:ns=[]:=by cases ns with
    | nil=>rfl
    | cons a r=>simp at h
   subst this;rfl
 have hp:(0:Int)<((2 ^ w:Nat):Int):=by exact_mod_cast g3u w
 have sm:∀x:Int,zg [.int (x%((2 ^ w:Nat):Int))]=some (setD (x%((2 ^ w:Nat):Int)).toNat):=fun x=>by
  have a:=g16 x (g61 hp);have b:=g0n x hp;have:=q0s (x%((2 ^ w:Nat):Int)).toNat (by have:=x6 hw;lia);rw [g1k a] at this;exact this
 have smlt:∀x:Int,(x%((2 ^ w:Nat):Int)).toNat<2 ^ w:=fun x=>by
  have a:=g16 x (g61 hp);have b:=g0n x hp;lia
 have c:=vb (b:=bN 0) (e:=qf (qk 1 [] zg) (qa (eOp oMod (eV 0) (eV 1)) qd)) (ρ :=[none,some (.fz (.int ((2 ^ w:Nat):Int)))]) D.int (fun x=>setD (x%((2 ^ w:Nat):Int)).toNat) (ns.drop 1) fun x _=>by
  have s:=sm x;generalize ((2 ^ w:Nat):Int)=sz at hp s ⊢;exact⟨[some (.fz (.int x)),some (.fz (.int sz))],rfl,by simp! [hp,s]⟩
 have e0:(ns.drop 1).map (fun x=>setD (x%((2 ^ w:Nat):Int)).toNat)=((ns.drop 1).map fun x=>(x%((2 ^ w:Nat):Int)).toNat).map setD:=by rw [mq];rfl
 rw [e0] at c;have ll:(ns.drop 1).length<=lim:=by rw [ui];show _<=1000000;lia
 have t0:([]:List D).length<=lim:=by decide
 have m7:∀x:Int,oMod (.int (x / 7)) (.int 2)=some (.int (x / 7%2)):=fun x=>q35 _ _ (by decide);obtain⟨tn,htn,etn⟩:=q61 (fst / 14) 25 (by lia);have er:∀(x0 x1:Option B) (t:Rho),iR1 (qa (eOp oMod (eOp oDiv (eV 2) (eC (.int 14))) (eC (.int 25))) qd) (x0 :: x1 :: some (.fz (.int fst)) :: t)=some (qr 0 tn):=fun x0 x1 t=>by
  rw [yw _ _ (fst / 14%25) (by simp! [ny]) (by lia) (by lia)];rw [show(fst / 14%25).toNat=tn by have:fst / 14%25=(tn:Int):=etn;lia]
 by_cases c7:fst / 7%2=1
 ·obtain⟨ms,b5,b6,h1,h2,h3⟩:=q75 ns w hw (some (.fz (.int fst))) tn 0 [] none none (by lia) rfl (fun _ h=>by cases h)
  rw [show((0:Nat):Int)=0 from rfl,g10] at h3;refine⟨ms,?_,h2,by lia⟩;generalize ((2 ^ w:Nat):Int)=sz at pw c h3
  by_cases hn:0<ns.length
  ·have i0:=hf.1 hn
   have hn':(0:Int)<(ns.length:Int):=by lia
   (refine zb ?_;simp! [ve,hn',i0,pw,sl,qm,ll,c,c7,t0,k6,er,h3])
  ·have f0:=hf.2 hn
   have hn':¬(0:Int)<(ns.length:Int):=by lia
   subst f0;exact absurd c7 (by decide)
 ·refine⟨(ns.drop 1).map fun x=>(x%((2 ^ w:Nat):Int)).toNat,?_,fun m hm=>?_,by rw [mj,ui];lia⟩
  ·generalize ((ns.drop 1).map fun x=>(x%((2 ^ w:Nat):Int)).toNat).map setD=L at c ⊢
   generalize ((2 ^ w:Nat):Int)=sz at pw c
   by_cases hn:0<ns.length
   ·have i0:=hf.1 hn
    have hn':(0:Int)<(ns.length:Int):=by lia
    (refine zb ?_;simp! [ve,hn',i0,pw,sl,qm,ll,c,c7])
   ·have f0:=hf.2 hn
    have hn':¬(0:Int)<(ns.length:Int):=by lia
    subst f0
    (refine zb ?_;simp! [ve,hn',pw,sl,qm,ll,c,c7])
  ·obtain⟨x,_,rfl⟩:=mx.mp hm
   exact smlt x
theorem qjs(ns:List Int)(hl:ns.length<=63): qey [.lst (ns.map .int)]=some (.bl true):=by
 obtain⟨fst,hf⟩:∃fst:Int,(0<ns.length->(ns.map D.int)[0]? = some (.int fst))/\(¬ 0<ns.length->fst=0):=by
  cases ns with
  | nil=>exact⟨0,fun h=>absurd h (by simp),fun _=>rfl⟩
  | cons a r=>exact⟨a,fun _=>rfl,fun h=>absurd (by simp) h⟩
 obtain⟨w,hw,ew⟩:=q61 fst 7 (by decide);obtain⟨j,hj,ej⟩:=q61 (fst / 400) 5 (by decide);rw [show((7:Nat):Int)=7 from rfl] at ew;rw [show((5:Nat):Int)=5 from rfl] at ej;have hw6:w<=6:=by lia
 obtain⟨ms,d,hm,hml⟩:=qjr ns hl w hw6;have hm64:∀m∈ms,m<64:=fun m h=>gm (hm m h) (x6 hw6);have t1:=q20 w hw6 ms hm64 (by lia);have t2:=q20 w hw6 (ms.take j) (fun m h=>hm64 m (g0c h)) (by rw [ni];lia);have t3:=q20 w hw6 [] (fun m h=>by cases h) (by decide);have t4:=q20 w hw6 (ms++ms.take j) (fun m h=>by
  rcases nh.mp h with h|h
  ·exact hm64 m h
  ·exact hm64 m (g0c h)) (by rw [pz,ni];lia)
 rw [g10] at t3;have sl:oSl (.lst (ms.map setD)) none (some (j:Int))=some (.lst ((ms.take j).map setD)):=by
  show some (D.lst (DL.cutD (ms.map setD) none (some (j:Int))))=_;rw [q53 (α :=D),g5y]
 have p:=qh3 (ms.map setD) ((ms.take j).map setD) (by rw [mj,mj,ni];lia);rw [<- uf] at p;have t0:([]:List D).length<=lim:=by decide
 generalize (ms++ms.take j).map setD=L4 at t4 p;generalize (ms.take j).map setD=L2 at t2 sl p;generalize ms.map setD=L1 at d t1 sl p
 by_cases hn:0<ns.length
 ·have i0:=hf.1 hn
  have hn':(0:Int)<(ns.length:Int):=by lia
  (refine zb ?_;simp! [q4u,hn',i0,ew,d,ej,sl,t1,t2,t0,t3,p,t4])
 ·have f0:=hf.2 hn
  have hn':¬(0:Int)<(ns.length:Int):=by lia
  subst f0;have h0:(0:Int) / 400%5=0:=by decide
  have j0:(j:Int)=0:=by rw [<- ej];exact h0
  rw [j0] at sl
  (refine zb ?_;simp! [q4u,hn',ew,d,ej,sl,t1,t2,t0,t3,p,t4])
end My
namespace My
open PySem PySem.Spec PyProof.Rows L2 DL
open PySem.W (nsIn fnOf keepIn codeIn mg_of subIn mg_none_of findIn plainGet)
theorem ln1{s:Shared}{fd:FuncData}{ps:List Str}(h:∀a0,BindsTo s fd ⟨[a0],[]⟩ (ps.zip ([a0]++[]))): ∀us:List Value,(us++[]).length=1->BindsTo s fd ⟨us,[]⟩ (ps.zip (us++[]))
 | [a0],_=>h a0
theorem ln2{s:Shared}{fd:FuncData}{ps:List Str}(h:∀a0 a1,BindsTo s fd ⟨[a0,a1],[]⟩ (ps.zip ([a0,a1]++[]))): ∀us:List Value,(us++[]).length=2->BindsTo s fd ⟨us,[]⟩ (ps.zip (us++[]))
 | [a0,a1],_=>h a0 a1
theorem ln3{s:Shared}{fd:FuncData}{ps:List Str}(h:∀a0 a1 a2,BindsTo s fd ⟨[a0,a1,a2],[]⟩ (ps.zip ([a0,a1,a2]++[]))): ∀us:List Value,(us++[]).length=3->BindsTo s fd ⟨us,[]⟩ (ps.zip (us++[]))
 | [a0,a1,a2],_=>h a0 a1 a2
theorem all_mk{q:Program}{l:PySem.W.OpenLaw}{w:World}{K:Frag}{h:Heap}{mg:Str->Option Value}{fa:Addr}(X:K.In h)(G:h.Ns mainGlobals mg)(hfa:mg "law" = some (.ref fa))(hm:∀ns:List Int,ns.length<=63->qey [.lst (ns.map .int)]=some (.bl true))
  {fa_12:Addr} {fd_law_power:FuncData} (x_12:nsIn K mainGlobals "_law_power" = some (some (.ref fa_12))) (F_law_power:Fun2 K "_law_power" "_law_power" y3 .none fa_12 fd_law_power)
  {fa_14:Addr} {fd_law_set:FuncData} (x_14:nsIn K mainGlobals "_law_set" = some (some (.ref fa_14))) (F_law_set:Fun2 K "_law_set" "_law_set" w9 .none fa_14 fd_law_set)
  {fa_11:Addr} {fd_law_mixed:FuncData} (x_11:nsIn K mainGlobals "_law_mixed" = some (some (.ref fa_11))) (F_law_mixed:Fun2 K "_law_mixed" "_law_mixed" y4 .none fa_11 fd_law_mixed)
  {fa_9:Addr} {fd_law_drawn:FuncData} (x_9:nsIn K mainGlobals "_law_drawn" = some (some (.ref fa_9))) (F_law_drawn:Fun2 K "_law_drawn" "_law_drawn" y8 .none fa_9 fd_law_drawn)
  {fa_15:Addr} {od_15 an_15:Option Addr} {sl_15:Array (Option Value)} {oc_15 kV_15 dc_15 pm_15 ct_15:Value}
  {cL_law_sets TL_law_sets:Addr}
  (x_15:nsIn K mainGlobals "_law_sets" = some (some (.ref fa_15)))
  (l_15:K.lookup fa_15=some ⟨oc_15,od_15,.func (fnOf "_law_sets" "_law_sets" (vz jo) (qu jo) (qc jo) .none kV_15 dc_15 pm_15 an_15 (.ref cL_law_sets) ct_15),sl_15⟩)
  (q_15:codeIn K (.ref cL_law_sets) "_law_sets" = true) (k_15:keepIn K (.ref fa_15)=true)
  {oL_law_sets:Obj} (o_15:K.lookup cL_law_sets=some oL_law_sets) (p_15:tabOf oL_law_sets=some TL_law_sets) (hh_15:PySem.W.codeHdIn [(cL_law_sets,oL_law_sets)] cL_law_sets TL_law_sets=true) (nl_15:K.lookup TL_law_sets=none) (r_15:((recsOf q).find? (fun e=>e.name==("_law_sets" : Str))).isSome=true)
  {fa_8:Addr} {fd_law_below:FuncData} (x_8:nsIn K mainGlobals "_law_below" = some (some (.ref fa_8))) (F_law_below:Fun2 K "_law_below" "_law_below" y9 .none fa_8 fd_law_below)
  {fa_10:Addr} {fd_law_due:FuncData} (x_10:nsIn K mainGlobals "_law_due" = some (some (.ref fa_10))) (F_law_due:Fun2 K "_law_due" "_law_due" wa .none fa_10 fd_law_due)
  {fa_13:Addr} {fd_law_same:FuncData} (x_13:nsIn K mainGlobals "_law_same" = some (some (.ref fa_13))) (F_law_same:Fun2 K "_law_same" "_law_same" yx .none fa_13 fd_law_same)
  {fa_17:Addr} {fd_mark_of:FuncData} (x_17:nsIn K mainGlobals "mark_of" = some (some (.ref fa_17))) (F_mark_of:Fun2 K "mark_of" "mark_of" wb .none fa_17 fd_mark_of)
  {fa_19:Addr} {fd_order_of:FuncData} (x_19:nsIn K mainGlobals "order_of" = some (some (.ref fa_19))) (F_order_of:Fun2 K "order_of" "order_of" yy .none fa_19 fd_order_of)
  {fa_20:Addr} {fd_set_of:FuncData} (x_20:nsIn K mainGlobals "set_of" = some (some (.ref fa_20))) (F_set_of:Fun2 K "set_of" "set_of" q04 .none fa_20 fd_set_of)
  {fa_0:Addr} {fd_all_sets:FuncData} (x_0:nsIn K mainGlobals "all_sets" = some (some (.ref fa_0))) (F_all_sets:Fun2 K "all_sets" "all_sets" yz .none fa_0 fd_all_sets)
  {fa_7:Addr} {fd_joined:FuncData} (x_7:nsIn K mainGlobals "joined" = some (some (.ref fa_7))) (F_joined:Fun2 K "joined" "joined" q05 .none fa_7 fd_joined)
  {fa_1:Addr} {fd_any_ware_more:FuncData} (x_1:nsIn K mainGlobals "any_ware_more" = some (some (.ref fa_1))) (F_any_ware_more:Fun2 K "any_ware_more" "any_ware_more" jv .none fa_1 fd_any_ware_more)
  {fa_5:Addr} {fd_is_greatest:FuncData} (x_5:nsIn K mainGlobals "is_greatest" = some (some (.ref fa_5))) (F_is_greatest:Fun2 K "is_greatest" "is_greatest" xp .none fa_5 fd_is_greatest)
  {fa_3:Addr} {fd_is_above_one:FuncData} (x_3:nsIn K mainGlobals "is_above_one" = some (some (.ref fa_3))) (F_is_above_one:Fun2 K "is_above_one" "is_above_one" x8 .none fa_3 fd_is_above_one)
  {fa_2:Addr} {fd_greatest_without:FuncData} (x_2:nsIn K mainGlobals "greatest_without" = some (some (.ref fa_2))) (F_greatest_without:Fun2 K "greatest_without" "greatest_without" j6 .none fa_2 fd_greatest_without)
  {fa_18:Addr} {fd_one_ware_fewer:FuncData} (x_18:nsIn K mainGlobals "one_ware_fewer" = some (some (.ref fa_18))) (F_one_ware_fewer:Fun2 K "one_ware_fewer" "one_ware_fewer" jl .none fa_18 fd_one_ware_fewer)
  {fa_6:Addr} {fd_is_smallest:FuncData} (x_6:nsIn K mainGlobals "is_smallest" = some (some (.ref fa_6))) (F_is_smallest:Fun2 K "is_smallest" "is_smallest" xr .none fa_6 fd_is_smallest)
  {fa_4:Addr} {fd_is_below_one:FuncData} (x_4:nsIn K mainGlobals "is_below_one" = some (some (.ref fa_4))) (F_is_below_one:Fun2 K "is_below_one" "is_below_one" xb .none fa_4 fd_is_below_one)
  {fa_21:Addr} {fd_smallest_beyond:FuncData} (x_21:nsIn K mainGlobals "smallest_beyond" = some (some (.ref fa_21))) (F_smallest_beyond:Fun2 K "smallest_beyond" "smallest_beyond" je .none fa_21 fd_smallest_beyond)
  {fa_16:Addr} {fd_law_told:FuncData} (x_16:nsIn K mainGlobals "_law_told" = some (some (.ref fa_16))) (F_law_told:Fun2 K "_law_told" "_law_told" k5 .none fa_16 fd_law_told)
  {fa_law:Addr} {fd_law:FuncData} (x_law:nsIn K mainGlobals "law" = some (some (.ref fa_law))) (F_law:Fun2 K "law" "law" q4t .none fa_law fd_law)
  (z_range:nsIn K mainGlobals "range" = some none)
  (z_tuple:nsIn K mainGlobals "tuple" = some none)
  (z_len:nsIn K mainGlobals "len" = some none)
  (z_sorted:nsIn K mainGlobals "sorted" = some none)
  (z_any:nsIn K mainGlobals "any" = some none)
  (z_isinstance:nsIn K mainGlobals "isinstance" = some none)
  (z_zip:nsIn K mainGlobals "zip" = some none)
  (z_int:nsIn K mainGlobals "int" = some none)
  (z_bool:nsIn K mainGlobals "bool" = some none)
  (z_sum:nsIn K mainGlobals "sum" = some none)
  (z_set:nsIn K mainGlobals "set" = some none)
  (z_dict:nsIn K mainGlobals "dict" = some none)
  : ∃(L:Lam) (tabs:List (Addr×Addr)) (fd:FuncData),(∀p∈L.tab,p.1∈tabs.map (·.2))/\(∀p∈tabs,K.lookup p.2=none/\∃y:Str,((recsOf q).find? (fun e=>e.name==y)).isSome=true/\PySem.W.tabIn K y=some p)/\(∀(s:Shared) (v:Value),BindsTo s fd ⟨[v],[]⟩ [("_law_script",v)])/\∀base:Heap,K.In base->base.Ns mainGlobals mg->q0x mg base->FnOk l.prog w K mg base CX0 19 fa fd ["_law_script"] (q9c K):=by
 letI L:Lam:=⟨[(TL_law_sets,"_law_sets.<locals>.<lambda>")]⟩
 have k_12:=F_law_power.kp;have k_14:=F_law_set.kp;have k_11:=F_law_mixed.kp;have k_9:=F_law_drawn.kp;have h_law_sets:=qc4 o_15 hh_15;have t_law_sets:=qiv x_15 l_15 rfl o_15 p_15;have F_law_sets:=qli (st:=jo) l_15 q_15 h_law_sets k_15;have k_8:=F_law_below.kp;have k_10:=F_law_due.kp;have k_13:=F_law_same.kp;have k_17:=F_mark_of.kp;have k_19:=F_order_of.kp;have k_20:=F_set_of.kp;have k_0:=F_all_sets.kp;have k_7:=F_joined.kp;have k_1:=F_any_ware_more.kp;have k_5:=F_is_greatest.kp;have k_3:=F_is_above_one.kp;have k_2:=F_greatest_without.kp;have k_18:=F_one_ware_fewer.kp;have k_6:=F_is_smallest.kp;have k_4:=F_is_below_one.kp;have k_21:=F_smallest_beyond.kp;have k_16:=F_law_told.kp;have k_law:=F_law.kp;have n_range:=mg_none_of X G z_range;have n_tuple:=mg_none_of X G z_tuple;have n_len:=mg_none_of X G z_len;have n_sorted:=mg_none_of X G z_sorted;have n_any:=mg_none_of X G z_any;have n_isinstance:=mg_none_of X G z_isinstance;have n_zip:=mg_none_of X G z_zip;have n_int:=mg_none_of X G z_int;have n_bool:=mg_none_of X G z_bool;have n_sum:=mg_none_of X G z_sum;have n_set:=mg_none_of X G z_set;have n_dict:=mg_none_of X G z_dict;have hP_L:(TL_law_sets,("_law_sets.<locals>.<lambda>" : Str))∈Lam.tab:=mw.mpr rfl;have hU_L:∀p∈Lam.tab,p.1=TL_law_sets->p.2="_law_sets.<locals>.<lambda>" :=fun p hp _=>by rw [mw.mp hp]
 have e:=hfa.symm.trans (mg_of X G x_law);cases e;have b_12:Binds K _ ["_law_many"] []:=F_law_power.bindsTo (P:=fun fd=>Binds K fd ["_law_many"] []) fun _ _ _ _ _ _ s us hk hl=>ln1 (fun _=>.of_eq rfl) us hl;have b_14:Binds K _ ["_law_mark"] []:=F_law_set.bindsTo (P:=fun fd=>Binds K fd ["_law_mark"] []) fun _ _ _ _ _ _ s us hk hl=>ln1 (fun _=>.of_eq rfl) us hl;have b_11:Binds K _ ["_law_script","_law_k"] []:=F_law_mixed.bindsTo (P:=fun fd=>Binds K fd ["_law_script","_law_k"] []) fun _ _ _ _ _ _ s us hk hl=>ln2 (fun _ _=>.of_eq rfl) us hl;have b_9:Binds K _ ["_law_script","_law_wares"] []:=F_law_drawn.bindsTo (P:=fun fd=>Binds K fd ["_law_script","_law_wares"] []) fun _ _ _ _ _ _ s us hk hl=>ln2 (fun _ _=>.of_eq rfl) us hl;have b_15:Binds K _ ["_law_wares"] []:=F_law_sets.bindsTo (P:=fun fd=>Binds K fd ["_law_wares"] []) fun _ _ _ _ _ _ s us hk hl=>ln1 (fun _=>.of_eq rfl) us hl;have b_8:Binds K _ ["_law_one","_law_other"] []:=F_law_below.bindsTo (P:=fun fd=>Binds K fd ["_law_one","_law_other"] []) fun _ _ _ _ _ _ s us hk hl=>ln2 (fun _ _=>.of_eq rfl) us hl;have b_10:Binds K _ ["_law_wares","_law_sets_here"] []:=F_law_due.bindsTo (P:=fun fd=>Binds K fd ["_law_wares","_law_sets_here"] []) fun _ _ _ _ _ _ s us hk hl=>ln2 (fun _ _=>.of_eq rfl) us hl;have b_13:Binds K _ ["_law_found","_law_due_here"] []:=F_law_same.bindsTo (P:=fun fd=>Binds K fd ["_law_found","_law_due_here"] []) fun _ _ _ _ _ _ s us hk hl=>ln2 (fun _ _=>.of_eq rfl) us hl;have b_17:Binds K _ ["some"] []:=F_mark_of.bindsTo (P:=fun fd=>Binds K fd ["some"] []) fun _ _ _ _ _ _ s us hk hl=>ln1 (fun _=>.of_eq rfl) us hl;have b_19:Binds K _ ["some"] []:=F_order_of.bindsTo (P:=fun fd=>Binds K fd ["some"] []) fun _ _ _ _ _ _ s us hk hl=>ln1 (fun _=>.of_eq rfl) us hl;have b_20:Binds K _ ["mark"] []:=F_set_of.bindsTo (P:=fun fd=>Binds K fd ["mark"] []) fun _ _ _ _ _ _ s us hk hl=>ln1 (fun _=>.of_eq rfl) us hl;have b_0:Binds K _ ["wares"] []:=F_all_sets.bindsTo (P:=fun fd=>Binds K fd ["wares"] []) fun _ _ _ _ _ _ s us hk hl=>ln1 (fun _=>.of_eq rfl) us hl;have b_7:Binds K _ ["one","other"] []:=F_joined.bindsTo (P:=fun fd=>Binds K fd ["one","other"] []) fun _ _ _ _ _ _ s us hk hl=>ln2 (fun _ _=>.of_eq rfl) us hl;have b_1:Binds K _ ["some","wares"] []:=F_any_ware_more.bindsTo (P:=fun fd=>Binds K fd ["some","wares"] []) fun _ _ _ _ _ _ s us hk hl=>ln2 (fun _ _=>.of_eq rfl) us hl;have b_5:Binds K _ ["some","known","wares"] []:=F_is_greatest.bindsTo (P:=fun fd=>Binds K fd ["some","known","wares"] []) fun _ _ _ _ _ _ s us hk hl=>ln3 (fun _ _ _=>.of_eq rfl) us hl;have b_3:Binds K _ ["mark","marks"] []:=F_is_above_one.bindsTo (P:=fun fd=>Binds K fd ["mark","marks"] []) fun _ _ _ _ _ _ s us hk hl=>ln2 (fun _ _=>.of_eq rfl) us hl;have b_2:Binds K _ ["wares","sets"] []:=F_greatest_without.bindsTo (P:=fun fd=>Binds K fd ["wares","sets"] []) fun _ _ _ _ _ _ s us hk hl=>ln2 (fun _ _=>.of_eq rfl) us hl;have b_18:Binds K _ ["some"] []:=F_one_ware_fewer.bindsTo (P:=fun fd=>Binds K fd ["some"] []) fun _ _ _ _ _ _ s us hk hl=>ln1 (fun _=>.of_eq rfl) us hl;have b_6:Binds K _ ["some","known"] []:=F_is_smallest.bindsTo (P:=fun fd=>Binds K fd ["some","known"] []) fun _ _ _ _ _ _ s us hk hl=>ln2 (fun _ _=>.of_eq rfl) us hl;have b_4:Binds K _ ["mark","marks"] []:=F_is_below_one.bindsTo (P:=fun fd=>Binds K fd ["mark","marks"] []) fun _ _ _ _ _ _ s us hk hl=>ln2 (fun _ _=>.of_eq rfl) us hl;have b_21:Binds K _ ["wares","sets"] []:=F_smallest_beyond.bindsTo (P:=fun fd=>Binds K fd ["wares","sets"] []) fun _ _ _ _ _ _ s us hk hl=>ln2 (fun _ _=>.of_eq rfl) us hl;have b_16:Binds K _ ["_law_wares","_law_sets_here"] []:=F_law_told.bindsTo (P:=fun fd=>Binds K fd ["_law_wares","_law_sets_here"] []) fun _ _ _ _ _ _ s us hk hl=>ln2 (fun _ _=>.of_eq rfl) us hl;refine⟨L,[(cL_law_sets,TL_law_sets)],_,fun p hp=>(by rw [mw.mp hp];exact mw.mpr rfl),fun p hp=>(by rw [mw.mp hp];exact⟨nl_15,_,r_15,t_law_sets⟩),F_law.bindsTo (P:=fun fd=>∀(s:Shared) (v:Value),BindsTo s fd ⟨[v],[]⟩ [("_law_script",v)]) (fun _ _ _ _ _ _ s v=>.of_eq rfl),fun base _ _ B_L=>?_⟩;have o_12:=qb3 (P:=l.prog) (w:=w) (mg:=mg) (base:=base) F_law_power;have c_12:=Cal.mk o_12 (mg_of X G x_12) k_12;have o_14:=qer (P:=l.prog) (w:=w) (mg:=mg) (base:=base) F_law_set n_range n_tuple;have c_14:=Cal.mk o_14 (mg_of X G x_14) k_14;have o_11:=qb5 (P:=l.prog) (w:=w) (mg:=mg) (base:=base) F_law_mixed n_len;have c_11:=Cal.mk o_11 (mg_of X G x_11) k_11;have o_9:=qb7 (P:=l.prog) (w:=w) (mg:=mg) (base:=base) F_law_drawn c_12 b_12 c_14 b_14 c_11 b_11 n_len n_range n_tuple;have c_9:=Cal.mk o_9 (mg_of X G x_9) k_9;have o_15:=qcc (P:=l.prog) (w:=w) (mg:=mg) (base:=base) c_14 b_14 c_12 b_12 n_sorted n_range n_len F_law_sets hP_L hU_L B_L;have c_15:=Cal.mk o_15 (mg_of X G x_15) k_15;have o_8:=qba (P:=l.prog) (w:=w) (mg:=mg) (base:=base) F_law_below n_len;have c_8:=Cal.mk o_8 (mg_of X G x_8) k_8;have o_10:=qet (P:=l.prog) (w:=w) (mg:=mg) (base:=base) F_law_due c_15 b_15 c_8 b_8 n_tuple n_len n_sorted n_range n_any;have c_10:=Cal.mk o_10 (mg_of X G x_10) k_10;have o_13:=qcf (P:=l.prog) (w:=w) (mg:=mg) (base:=base) F_law_same (mg_of X G x_13) k_13 b_13 n_isinstance n_tuple n_zip n_int n_bool n_len 16;have c_13:=Cal.mk o_13 (mg_of X G x_13) k_13;have o_17:=qew (P:=l.prog) (w:=w) (mg:=mg) (base:=base) F_mark_of n_sum;have c_17:=Cal.mk o_17 (mg_of X G x_17) k_17;have o_19:=qci (P:=l.prog) (w:=w) (mg:=mg) (base:=base) F_order_of n_len;have c_19:=Cal.mk o_19 (mg_of X G x_19) k_19;have o_20:=qh7 (P:=l.prog) (w:=w) (mg:=mg) (base:=base) F_set_of n_tuple n_range;have c_20:=Cal.mk o_20 (mg_of X G x_20) k_20;have o_0:=qcm (P:=l.prog) (w:=w) (mg:=mg) (base:=base) F_all_sets c_19 b_19 c_20 b_20 n_sorted n_range;have c_0:=Cal.mk o_0 (mg_of X G x_0) k_0;have o_7:=qha (P:=l.prog) (w:=w) (mg:=mg) (base:=base) F_joined n_tuple n_sorted n_set;have c_7:=Cal.mk o_7 (mg_of X G x_7) k_7;have o_1:=q5u (P:=l.prog) (w:=w) (mg:=mg) (base:=base) F_any_ware_more c_7 b_7 n_range;have c_1:=Cal.mk o_1 (mg_of X G x_1) k_1;have o_5:=q7t (P:=l.prog) (w:=w) (mg:=mg) (base:=base) F_is_greatest c_1 b_1 n_any;have c_5:=Cal.mk o_5 (mg_of X G x_5) k_5;have o_3:=q70 (P:=l.prog) (w:=w) (mg:=mg) (base:=base) F_is_above_one;have c_3:=Cal.mk o_3 (mg_of X G x_3) k_3;have o_2:=q3m (P:=l.prog) (w:=w) (mg:=mg) (base:=base) F_greatest_without c_17 b_17 c_0 b_0 c_5 b_5 c_3 b_3 n_dict n_tuple;have c_2:=Cal.mk o_2 (mg_of X G x_2) k_2;have o_18:=q4y (P:=l.prog) (w:=w) (mg:=mg) (base:=base) F_one_ware_fewer n_range n_len;have c_18:=Cal.mk o_18 (mg_of X G x_18) k_18;have o_6:=q7w (P:=l.prog) (w:=w) (mg:=mg) (base:=base) F_is_smallest c_18 b_18 n_any;have c_6:=Cal.mk o_6 (mg_of X G x_6) k_6;have o_4:=q72 (P:=l.prog) (w:=w) (mg:=mg) (base:=base) F_is_below_one;have c_4:=Cal.mk o_4 (mg_of X G x_4) k_4;have o_21:=q4c (P:=l.prog) (w:=w) (mg:=mg) (base:=base) F_smallest_beyond c_17 b_17 c_0 b_0 c_6 b_6 c_4 b_4 n_dict n_tuple;have c_21:=Cal.mk o_21 (mg_of X G x_21) k_21;have o_16:=qco (P:=l.prog) (w:=w) (mg:=mg) (base:=base) F_law_told c_10 b_10 c_13 b_13 c_2 b_2 c_21 b_21 n_tuple;have c_16:=Cal.mk o_16 (mg_of X G x_16) k_16;exact qns (qo9 (P:=l.prog) (w:=w) (mg:=mg) (base:=base) F_law c_9 b_9 c_16 b_16 n_len) hm
end My
namespace PySem.W.Fast
theorem tw3817935449192290095 : True := trivial
theorem tw5093205918005539931 : True := trivial
theorem tw8220214805539688566 : True := trivial
theorem tw11700567244040565297 : True := trivial
theorem tw12511559473060914546 : True := trivial
theorem tw9762761267765158943 : True := trivial
theorem tw7727194014568642246 : True := trivial
theorem tw5134652840042128783 : True := trivial
theorem tw17878578356700162115 : True := trivial
theorem tw1632088347755602513 : True := trivial
theorem tw17840006528449480341 : True := trivial
end PySem.W.Fast
open PySem PySem.W PyProof.Rows
local macro_rules | `(tactic| walk_at "F")=> `(tactic| (letI:DL.Lam:=⟨[]⟩;exact DL.qkx (by k_is) (by k_is) (by k_is)))
set_option maxHeartbeats 0 in
theorem PySem.Challenge.cw_oftentogether_k24_beyond_and_without_holds : PySem.Challenge.rw_oftentogether_k24_beyond_and_without.Holds := by
 w_on;o_law;k_head;(case hw=>w_witness2)
 k_fill
 refine DL.qlj (l:=PySem.Challenge.rw_oftentogether_k24_beyond_and_without) (k:=19) (x:="_law_script") rfl rfl ⟨rfl,by decide,by decide⟩ (fun w h Y=>by first|exact PySem.W.kIn_of Y|exact PySem.W.km_in_of Y) ?F
 case F=>
  intro w mg fa h KX G hmg;refine' My.all_mk KX G hmg My.qjs ?x_12 ?F_law_power ?x_14 ?F_law_set ?x_11 ?F_law_mixed ?x_9 ?F_law_drawn ?x_15 ?l_15 ?q_15 ?k_15 ?o_15 ?p_15 ?hh_15 ?nl_15 ?r_15 ?x_8 ?F_law_below ?x_10 ?F_law_due ?x_13 ?F_law_same ?x_17 ?F_mark_of ?x_19 ?F_order_of ?x_20 ?F_set_of ?x_0 ?F_all_sets ?x_7 ?F_joined ?x_1 ?F_any_ware_more ?x_5 ?F_is_greatest ?x_3 ?F_is_above_one ?x_2 ?F_greatest_without ?x_18 ?F_one_ware_fewer ?x_6 ?F_is_smallest ?x_4 ?F_is_below_one ?x_21 ?F_smallest_beyond ?x_16 ?F_law_told ?x_law ?F_law ?z_range ?z_tuple ?z_len ?z_sorted ?z_any ?z_isinstance ?z_zip ?z_int ?z_bool ?z_sum ?z_set ?z_dict
  (case x_12=>k_is)
  (case F_law_power=>walk_at "F")
  (case x_14=>k_is)
  (case F_law_set=>walk_at "F")
  (case x_11=>k_is)
  (case F_law_mixed=>walk_at "F")
  (case x_9=>k_is)
  (case F_law_drawn=>walk_at "F")
  (case x_15=>k_is)
  (case l_15=>k_is)
  (case q_15=>k_is)
  (case k_15=>k_is)
  (case o_15=>k_is)
  (case p_15=>first|rfl|decide +kernel)
  (case hh_15=>first|rfl|decide +kernel)
  (case nl_15=>first|kernel_rfl|rfl)
  (case r_15=>first|rfl|decide +kernel)
  (case x_8=>k_is)
  (case F_law_below=>walk_at "F")
  (case x_10=>k_is)
  (case F_law_due=>walk_at "F")
  (case x_13=>k_is)
  (case F_law_same=>walk_at "F")
  (case x_17=>k_is)
  (case F_mark_of=>walk_at "F")
  (case x_19=>k_is)
  (case F_order_of=>walk_at "F")
  (case x_20=>k_is)
  (case F_set_of=>walk_at "F")
  (case x_0=>k_is)
  (case F_all_sets=>walk_at "F")
  (case x_7=>k_is)
  (case F_joined=>walk_at "F")
  (case x_1=>k_is)
  (case F_any_ware_more=>walk_at "F")
  (case x_5=>k_is)
  (case F_is_greatest=>walk_at "F")
  (case x_3=>k_is)
  (case F_is_above_one=>walk_at "F")
  (case x_2=>k_is)
  (case F_greatest_without=>walk_at "F")
  (case x_18=>k_is)
  (case F_one_ware_fewer=>walk_at "F")
  (case x_6=>k_is)
  (case F_is_smallest=>walk_at "F")
  (case x_4=>k_is)
  (case F_is_below_one=>walk_at "F")
  (case x_21=>k_is)
  (case F_smallest_beyond=>walk_at "F")
  (case x_16=>k_is)
  (case F_law_told=>walk_at "F")
  (case x_law=>k_is)
  (case F_law=>walk_at "F")
  (case z_range=>k_is)
  (case z_tuple=>k_is)
  (case z_len=>k_is)
  (case z_sorted=>k_is)
  (case z_any=>k_is)
  (case z_isinstance=>k_is)
  (case z_zip=>k_is)
  (case z_int=>k_is)
  (case z_bool=>k_is)
  (case z_sum=>k_is)
  (case z_set=>k_is)
  (case z_dict=>k_is)
