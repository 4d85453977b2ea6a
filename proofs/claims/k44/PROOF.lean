import PyProof.Rows.All
import Wide.All
import OpenK.AllK
import Wide.FinOn
import Lean
import PyProof.EqAt
import PyProof.EqKinds
import PyProof.TupleCall
import PyProof.AutoSeq1
import PyProof.NeKinds
import PyProof.ListRange
import PyProof.CollectIter
import PyProof.TupleOfGen
import PyProof.StationsW
import PyProof.Rows.Catch
import PySem.SetOps
import PyProof.SetKind
import PyProof.DictKinds
import PyProof.DictStraight
import PyProof.FactsAll.set_1
import PyProof.FactsAll.set_2
import PyProof.FactsAll.set_0
import PyProof.FactsAll.set_3
import PyProof.Slots
import PyProof.Rows.SetFrom
import PyProof.TupleIter
import PyProof.Walks
import PyProof.CollectWalk
import PyProof.Rows.SortShell
import PyProof.IsiH_list
import PyProof.AttrMiss
import KE.KDictOf
import PyProof.DictRoadsH
import KE.KDictList
import KE.KRevIter
import PyProof.ListNew
import PyProof.IsiH_tuple
import PyProof.Rows.SortRuns
import KE.KSortTup
import KE.KTryMore
import PySem.Challenge.RW_oftentogether_k44_whole_store_anew
set_option maxRecDepth 100000
set_option maxHeartbeats 4000000
set_option Elab.async false
set_option linter.all false
abbrev Ta:=PySem.Value->PySem.Shared->Prop
abbrev Tc:=PySem.Str->Option PySem.Value
abbrev Td:=List (PySem.Addr×PySem.Obj)
abbrev Te:=List (Option Nat)
abbrev Tf:=List (Nat×Nat)
abbrev Tg:=Array (Option PySem.Value)
abbrev g9:=@PySem.wpAny_bind
abbrev gc:=@Option.bind_eq_some_iff
abbrev gf:=@PySem.wpAny_pure
abbrev gh:=@PySem.Heap.get?_push_of_some
abbrev gj:=@Option.bind_some
abbrev gp:=@Option.map_eq_some_iff
abbrev gq:=@List.size_toArray
abbrev gr:=@List.getElem?_set_ne
abbrev gs:=@PySem.Heap.get?_push_size
abbrev gu:=@PySem.Heap.lt_size
abbrev gv:=@List.length_map
abbrev gw:=@if_pos
abbrev gx:=@Nat.lt_of_lt_of_le
abbrev gy:=@Bool.false_ne_true
abbrev gz:=@List.mem_cons_of_mem
abbrev m4:=@Nat.ne_of_lt
abbrev m5:=@List.map_cons
abbrev m6:=@Nat.le_refl
abbrev ma:=@List.mem_cons_self
abbrev mf:=@if_neg
abbrev mh:=@List.mem_cons
abbrev mi:=@Nat.le_trans
abbrev mj:=@decide_eq_true
abbrev ml:=@Ne.symm
abbrev mm:=@decide_eq_false
abbrev mn:=@Bool.and_eq_true
abbrev mq:=@List.getElem?_map
abbrev mr:=@Option.some.inj
abbrev mv:=@List.length_cons
abbrev mw:=@List.getElem?_eq_getElem
abbrev mx:=@Option.map_some
abbrev my:=@Bool.false_eq_true
abbrev ng:=@List.length_append
abbrev nh:=@List.mem_append_right
abbrev ni:=@PySem.Heap.get?_update_other
abbrev nj:=@List.getElem?_eq_some_iff
abbrev nk:=@List.lookup_cons
abbrev nr:=@PySem.wpAny_holding
abbrev nt:=@List.length_filter_le
abbrev nu:=@PySem.wpAny_mono
abbrev nv:=@List.getD_eq_getElem?_getD
abbrev ny:=@List.append_nil
abbrev p5:=@PySem.Around.under_plainId
abbrev p6:=@List.map_map
abbrev p7:=@List.mem_map
abbrev p8:=@List.filter_cons
abbrev p9:=@PySem.wpAny_ite_split
abbrev pb:=@PySem.wpAny_newObj_type
abbrev pd:=@Nat.ne_of_gt
abbrev pf:=@List.getElem?_append_left
abbrev ph:=@PySem.Heap.size_push
abbrev pj:=@PySem.wpAny_call_entry
abbrev pk:=@PySem.Heap.get?_update_self
abbrev pq:=@PySem.codeAny_builtin
abbrev pw:=@List.map_append
abbrev pz:=@PySem.wpAny_field
abbrev t4:=@List.all_eq_true
abbrev t5:=@PySem.wpAny_askSetting
abbrev t6:=@List.mem_filter
abbrev t7:=@Nat.not_lt_zero
abbrev t8:=@Nat.lt_succ_self
abbrev t9:=@PySem.Heap.SameBut.update
abbrev td:=@List.append_assoc
abbrev tf:=@decide_eq_true_eq
abbrev tq:=@PyProof.Rows.slot_tuple_getitem
abbrev tw:=@PySem.wpAny_callSpecial?_slot
abbrev tx:=@List.getElem?_append_right
abbrev u6:=@Nat.zero_le
abbrev u9:=@List.length_take
abbrev ua:=@Nat.lt_irrefl
abbrev uc:=@PySem.AutoSeq1.wpAny_loadPart'
abbrev ud:=@List.mem_append
abbrev ue:=@List.length_set
abbrev uf:=@PyProof.Rows.callWith_type1
abbrev ug:=@List.getElem?_replicate
abbrev uh:=@if_true
abbrev ui:=@congrArg
abbrev uj:=@List.mem_of_getElem?
abbrev uk:=@List.not_mem_nil
abbrev um:=@PySem.Heap.size_update
abbrev uo:=@Array.getElem?_eq_some_iff
abbrev uq:=@Int.toNat_natCast
abbrev ur:=@of_decide_eq_true
abbrev uw:=@PySem.Heap.get?_update_ne
abbrev ux:=@beq_iff_eq
abbrev uy:=@List.nodup_cons
abbrev uz:=@List.nil_append
abbrev g00:=@List.mem_singleton
abbrev g01:=@PySem.Obj.data_mapFields
abbrev g02:=@Int.emod_lt_of_pos
abbrev g03:=@PySem.sizeLine_eq
abbrev g04:=@PySem.wpAny_seqItems
abbrev g05:=@PySem.Heap.get?_push_ne
abbrev g06:=@Int.emod_nonneg
abbrev g07:=@beq_eq_false_iff_ne
abbrev g08:=@PySem.wpAny_typeOf
abbrev g09:=@PySem.plainId_quiet
abbrev g0a:=@PySem.wpAny_Call_Name_kw
abbrev g0b:=@PySem.wpAny_setField
abbrev g0c:=@PySem.builtinLookup_eq_fast
abbrev g0d:=@Bool.eq_iff_iff
abbrev g0e:=@PySem.codeAny_call_builtin
abbrev g0f:=@PySem.wpAny_rule
abbrev g0g:=@PyProof.Rows.size_push'
abbrev g0h:=@PySem.wpAny_truthy_bool
abbrev g0i:=@Nat.le_of_succ_le
abbrev g0j:=@List.flatMap_cons
abbrev g0k:=@List.filterMap_cons
abbrev g0l:=@Array.length_toList
abbrev g0m:=@List.replicate_succ
abbrev g0n:=@List.mem_range
abbrev g0o:=@or_false
abbrev g0p:=@List.getElem_mem
abbrev g0q:=@PySem.wpAny_call
abbrev g0r:=@List.take_of_length_le
abbrev g0s:=@PySem.W.Looks.here
abbrev g0t:=@PySem.codeAny_mono
abbrev g0u:=@List.map_nil
abbrev g0v:=@PySem.wpAny_setField_rec
abbrev g0w:=@PyProof.Rows.F.plain_set_update_loop
abbrev g0x:=@PySem.wpAny_passesOwn
abbrev g0y:=@PySem.Obj.isFreed_of_fields
abbrev g0z:=@List.take_append_drop
abbrev g10:=@PySem.PassesOwn.never
abbrev g11:=@if_false
abbrev g13:=@PySem.F.slot_tuple_iterator_next
abbrev g14:=@PySem.F.excBase_ValueError
abbrev g15:=@Nat.lt_succ_of_lt
abbrev g16:=@PySem.Heap.get?_none_of_le
abbrev g17:=@Option.isNone_iff_eq_none
abbrev g18:=@Classical.byContradiction
abbrev g19:=@List.Pairwise.filter
abbrev g1a:=@Option.isSome_iff_exists
abbrev g1b:=@PySem.AutoSeq1.sub_tuple_tuple
abbrev g1c:=@PySem.F.called_set
abbrev g1d:=@PySem.mem_of_lookup
abbrev g1e:=@Int.toNat_of_nonneg
abbrev g1f:=@PySem.BindsTo.of_defaults
abbrev g1g:=@List.filter_eq_self
abbrev g1h:=@List.getElem?_cons_succ
abbrev g1i:=@PySem.wpAny_attempt
abbrev g1j:=@PySem.W.callWith_K
abbrev g1k:=@List.forIn_cons
abbrev g1l:=@List.pairwise_cons
abbrev g1m:=@PySem.typeLookup_type
abbrev g1n:=@PyProof.Rows.get?_update_seq
abbrev g1o:=@Nat.le_succ
abbrev g1p:=@List.range_succ_eq_map
abbrev g1q:=@PySem.wpAny_pyIter_list
abbrev g1r:=@List.flatten_cons
abbrev g1s:=@PySem.Heap.SameBut.refl
abbrev g1t:=@PySem.wpAny_loadPart_at
abbrev g1u:=@PySem.wpAny_storeSet_of
abbrev g1v:=@PySem.W.methodCall_KW
abbrev g1w:=@List.cons.sizeOf_spec
abbrev g1x:=@PySem.isSubtype_type
abbrev g1y:=@List.getElem?_eq_none
abbrev g1z:=@List.idxOf_lt_length_of_mem
abbrev g20:=@List.mem_append_left
abbrev g21:=@PySem.wpAny_execs_cons
abbrev g22:=@PySem.wpAny_isInstance
abbrev g23:=@PySem.F.slot_tuple_mul
abbrev g24:=@List.pairwise_append
abbrev g25:=@Nat.le_add_right
abbrev g26:=@Int.fdiv_eq_ediv_of_nonneg
abbrev g27:=@Bool.not_true
abbrev g28:=@PySem.wpAny_execs_nil
abbrev g29:=@PySem.wpAny_loadPart'
abbrev g2a:=@List.drop_eq_getElem_cons
abbrev g2b:=@PySem.F.slot_tuple_getattribute
abbrev g2c:=@List.mem_filterMap
abbrev g2d:=@List.getElem?_take_of_lt
abbrev g2e:=@PySem.F.args_tuple_add_2
abbrev g2f:=@List.filterMap_map
abbrev g2g:=@PySem.Code.quiet_builtin
abbrev g2h:=@PySem.wpAny_pyIter_tuple
abbrev g2i:=@PyProof.Rows.F.entry_set_update_loop
abbrev g2j:=@PySem.F.slot_list_getattribute
abbrev g2k:=@PySem.tupleKind_room_in1
abbrev g2l:=@List.forIn_nil
abbrev g2m:=@Option.some_or
abbrev g2n:=@Option.none_or
abbrev g2o:=@Bool.not_false
abbrev g2p:=@PySem.F.entry_tuple_add
abbrev g2q:=@List.getElem?_cons_zero
abbrev g2r:=@List.getElem?_set
abbrev g2s:=@Option.some.injEq
abbrev g2t:=@PySem.F.plain_list_iadd
abbrev g2u:=@List.pairwise_map
abbrev g2v:=@PySem.wpAny_setState_of
abbrev g2w:=@PySem.F.slot_tuple_add
abbrev g2x:=@PySem.Calls.callWith_builtin
abbrev g2y:=@PySem.wpAny_standAt
abbrev g2z:=@List.all_cons
abbrev g30:=@PySem.W.mg_of
abbrev g31:=@List.length_drop
abbrev g32:=@beq_self_eq_true
abbrev g33:=@Option.join_some
abbrev g34:=@List.mem_nil_iff
abbrev g35:=@List.cons_append
abbrev g36:=@List.length_replicate
abbrev g37:=@List.length_singleton
abbrev g38:=@Array.getElem?_toList
abbrev g39:=@PySem.F.slot_dict_get
abbrev g3a:=@PySem.plainObj_wpAny_Assign_Attribute
abbrev g3b:=@Nat.le_of_lt
abbrev g3c:=@PyProof.Rows.callWith_builtin1
abbrev g3d:=@PySem.Calls.evalArgs_plain
abbrev g3e:=@PySem.call_meets
abbrev g3f:=@Bool.or_eq_true
abbrev g3g:=@PySem.wpAny_updateSeq_pair
abbrev g3h:=@PySem.F.slot_zip_next
abbrev g3i:=@PySem.wpAny_ite_false
abbrev g3j:=@PySem.codeAny_of_tree
abbrev g3k:=@PySem.intKind_is
abbrev g3l:=@Nat.pow_le_pow_right
abbrev g3m:=@List.eq_nil_of_length_eq_zero
abbrev g3n:=@PySem.W.plainGet_of
abbrev g3o:=@List.map_congr_left
abbrev g3p:=@List.mem_map_of_mem
abbrev g3q:=@Bool.false_and
abbrev g3r:=@PySem.F.args_tuple_iterator_next_1
abbrev g3s:=@List.take_succ
abbrev g3t:=@Array.append_assoc
abbrev g3u:=@PySem.Calls.spliced_cons
abbrev g3v:=@PySem.F.attrBase_ValueError
abbrev g3w:=@PySem.IsiPair.dict_tuple
abbrev g3x:=@PySem.F.entry_tuple_iterator_next
abbrev g3y:=@PySem.F.args_tuple_mul_2
abbrev g3z:=@List.lookup_append
abbrev g40:=@PySem.Calls.Constant_str
abbrev g41:=@PySem.Paired.length
abbrev g42:=@PySem.wpAny_onRaise
abbrev g43:=@PySem.mem_of_lookup
abbrev g44:=@List.perm_ext_iff_of_nodup
abbrev g45:=@List.sum_cons
abbrev g46:=@PySem.Calls.spliced_nil
abbrev g47:=@PySem.IsiPair.dict_bool
abbrev g48:=@PySem.IsiPair.dict_list
abbrev g49:=@PySem.IsiPair.dict_dict
abbrev g4a:=@PySem.F.entry_tuple_mul
abbrev g4b:=@List.length_range
abbrev g4c:=@PySem.atKey_none_of_get
abbrev g4d:=@Array.getElem?_eq_getElem
abbrev g4e:=@List.findIdx?_eq_none_iff
abbrev g4f:=@List.getElem?_eq_none_iff
abbrev g4g:=@List.getElem_inj
abbrev g4h:=@PySem.concat_meets
abbrev g4i:=@PySem.noFill_tuple_add
abbrev g4j:=@List.drop_length
abbrev g4k:=@PySem.IsiPair.dict_int
abbrev g4l:=@PySem.IsiPair.dict_str
abbrev g4m:=@List.take_length
abbrev g4n:=@PySem.AutoSeq1.idx_int
abbrev g4o:=@List.range'_succ
abbrev g4p:=@List.nodup_range
abbrev g4q:=@List.Pairwise.imp_of_mem
abbrev g4r:=@decide_false
abbrev g4s:=@PySem.F.plainAttrs_list
abbrev g4t:=@List.of_mem_zip
abbrev g4u:=@PySem.SeqAt.EqAt.same
abbrev g4v:=@PySem.W.kia_one
abbrev g4w:=@PySem.wpAny_updateSeq
abbrev g4x:=@PySem.pushCells_keeps
abbrev g4y:=@List.getElem?_set_self
abbrev g4z:=@PySem.W.cellsFrom_some
abbrev g50:=@PySem.wpAny_of_eq
abbrev g51:=@PySem.wpAny_letGo
abbrev g52:=@List.sum_replicate_nat
abbrev g53:=@PySem.wpAny_alloc
abbrev g54:=@List.pairwise_lt_range
abbrev g55:=@PySem.F.entry_dict_get
abbrev g56:=@decide_true
abbrev g57:=@List.drop_zero
abbrev g58:=@not_or
abbrev g59:=@List.Perm.refl
abbrev g5a:=@Nat.mod_lt
abbrev g5b:=@Bool.false_or
abbrev g5c:=@Bool.and_self
abbrev g5d:=@Bool.true_and
abbrev g5e:=@Nat.le_of_eq
abbrev g5f:=@Nat.lt_trans
abbrev g5g:=@Bool.or_true
namespace L2
open PySem PySem.Spec PyProof.Rows
abbrev Key:=Sum Int Str
def qtb:Key->Value->Bool
 | .inl k,v=>Value.isInt k v
 | .inr x,v=>Value.isStrOf x v
def z12(w:World): Key->Int
 | .inl k=>hashInt k
 | .inr x=>hashStr w x
theorem xq:∀ {k:Key} {v:Value},qtb k v=true->(∃i t,k=Sum.inl i/\v=Value.int i t)\/(∃x t,k=Sum.inr x/\v=Value.str x t)
 | .inl i,v,h=>by
  obtain⟨t,e⟩:=Value.isInt_shape (k:=i) (v:=v) h;exact .inl ⟨i,t,rfl,e⟩
 | .inr x,v,h=>by
  obtain⟨t,e⟩:=Value.isStrOf_shape (x:=x) (v:=v) h;exact .inr ⟨x,t,rfl,e⟩
theorem qwf(a b:Int): decide ((Sum.inl a:Key)=Sum.inl b)=(a==b):=by
 by_cases e:a=b
 ·subst e;simp
 ·have h:¬(Sum.inl a:Key)=Sum.inl b:=fun q=>e (Sum.inl.inj q)
  rw [mm h];exact(g07.mpr e).symm
theorem qwg(a b:Str): decide ((Sum.inr a:Key)=Sum.inr b)=decide (a=b):=by
 by_cases e:a=b
 ·subst e;simp
 ·have h:¬(Sum.inr a:Key)=Sum.inr b:=fun q=>e (Sum.inr.inj q)
  rw [mm h,mm e]
theorem qwh(a:Int)(b:Str): decide ((Sum.inl a:Key)=Sum.inr b)=false:=mm (fun q=>nomatch q)
theorem qwi(a:Str)(b:Int): decide ((Sum.inr a:Key)=Sum.inl b)=false:=mm (fun q=>nomatch q)
def mixKind(prog:Program)(w:World): PySem.KeyKind prog w Key where
 is:=qtb
 hash:=z12 w
 inj:=fun v a b ha hb=>by
  rcases xq ha with⟨i,t,rfl,rfl⟩|⟨x,t,rfl,rfl⟩
  ·rcases xq hb with⟨j,u,rfl,e⟩|⟨y,u,rfl,e⟩
   ·injection e with e1 _;rw [e1]
   ·exact nomatch e
  ·rcases xq hb with⟨j,u,rfl,e⟩|⟨y,u,rfl,e⟩
   ·exact nomatch e
   ·injection e with e1 _;rw [e1]
 byValue:=fun k v h=>by
  rcases xq h with⟨i,t,rfl,rfl⟩|⟨x,t,rfl,rfl⟩ <;> rfl
 pyHash:=fun hv h=>by
  rcases xq hv with⟨i,t,rfl,rfl⟩|⟨x,t,rfl,rfl⟩
  ·exact wpAny_pyHash_int h
  ·exact wpAny_pyHash_str h
 eqBool:=fun hu hv h=>by
  rcases xq hu with⟨i,t,rfl,rfl⟩|⟨x,t,rfl,rfl⟩
  ·rcases xq hv with⟨j,u,rfl,rfl⟩|⟨y,u,rfl,rfl⟩
   ·rw [qwf] at h;exact wpAny_eqBool_int h
   ·rw [qwh] at h;exact SeqAt.EqAt.int_str i t y u _ _ _ _ h
  ·rcases xq hv with⟨j,u,rfl,rfl⟩|⟨y,u,rfl,rfl⟩
   ·rw [qwi] at h;exact SeqAt.EqAt.str_int x t j u _ _ _ _ h
   ·rw [qwg] at h;exact wpAny_eqBool_str h
 «strs» :=fun k x t v h=>by
  rcases xq h with⟨i,u,rfl,e⟩|⟨y,u,rfl,e⟩
  ·exact nomatch e
  ·injection e with e1 _
   subst e1;cases v <;> rfl
inductive V where
 | non|bl (b:Bool)|int (i:Int)|str (x:Str)|byt (b:Array UInt8)|flt (b:UInt64)|ref (a:Addr)|ty (n:String)
 deriving DecidableEq
def RelV:V->Value->Prop
 | .non,u=>u=Value.none
 | .bl b,u=>u=Value.bool b
 | .int i,u=>∃t,u=Value.int i t
 | .str x,u=>∃t,u=Value.str x t
 | .byt b,u=>∃t,u=Value.bytes b t
 | .flt b,u=>∃t,u=Value.float b t
 | .ref a,u=>u=Value.ref a
 | .ty n,u=>u=Value.type n
abbrev Vals:List V->List Value->Prop:=Paired RelV
theorem Vals.length{xs:List V}{us:List Value}(r:Vals xs us): xs.length=us.length:=g41 r
theorem Vals.get:∀ {xs:List V} {us:List Value} {i:Nat} {x:V},Vals xs us->xs[i]? = some x->∃u,us[i]? = some u/\RelV x u
 | _,_,_,_,.nil,e=>by simp at e
 | _,_,0,_,.cons r _,e=>by simp at e;subst e;exact⟨_,rfl,r⟩
 | _,_,i+1,x,.cons _ t,e=>by
  obtain⟨u,h1,h2⟩:=Vals.get (i:=i) (x:=x) t (by simpa using e);exact⟨u,by simpa using h1,h2⟩
theorem Vals.set{x:V}{u:Value}(r:RelV x u): ∀ {xs:List V} {us:List Value} (i:Nat),Vals xs us->Vals (xs.set i x) (us.set i u)
 | _,_,_,.nil=>.nil
 | _,_,0,.cons _ t=>.cons r t
 | _,_,i+1,.cons q t=>.cons q (Vals.set r i t)
theorem Vals.append:∀ {xs ys:List V} {us ws:List Value},Vals xs us->Vals ys ws->Vals (xs++ys) (us++ws)
 | _,_,_,_,.nil,s=>s
 | _,_,_,_,.cons r t,s=>.cons r (Vals.append t s)
theorem Vals.take:∀ {xs:List V} {us:List Value} (n:Nat),Vals xs us->Vals (xs.take n) (us.take n)
 | _,_,0,_=>.nil
 | _,_,_+1,.nil=>.nil
 | _,_,n+1,.cons r t=>.cons r (Vals.take n t)
theorem Vals.drop:∀ {xs:List V} {us:List Value} (n:Nat),Vals xs us->Vals (xs.drop n) (us.drop n)
 | _,_,0,r=>r
 | _,_,_+1,.nil=>.nil
 | _,_,n+1,.cons _ t=>Vals.drop n t
def RelO:Option V->Option Value->Prop
 | some v,some u=>RelV v u
 | none,none=>True
 | _,_=>False
def KV{κ : Type}: List (κ × V)->List (κ × Value)->Prop:=Paired fun(p : κ × V) (q : κ × Value)=>p.1=q.1/\RelV p.2 q.2
def kV:Key->V
 | .inl i=>.int i
 | .inr x=>.str x
inductive HO where
 /-- a list -/
 | lst (xs:List V)
 /-- a tuple (never changes) -/
 | tup (xs:List V)
 /-- a dict whose keys are ints and texts; one whose keys are tuples of ints and texts (the empty one is both) -/
 | dK (kvs:List (Key×V))|dT (kvs:List (List Key×V))
 /-- a set of ints: its members, its size -/
 | set (S:Int->Bool) (n:Nat)
 /-- an instance of the class at C, its dict at dx, its attributes -/
 | ins (C dx:Addr) (fs:List (Str×V))
 /-- the dict of the instance at x -/
 | own (x:Addr)
 /-- the dict of an exception -/
 | xd (fs:List (Str×V))
 /-- a bound method, f of x -/
 | met (f x:Addr)
 /-- a range object lo, lo + 1, .. below hi -/
 | rng (lo hi:Int)
 /-- a thing that is known to the object (the script; a dict while a loop walks it): read, never written while it is so -/
 | frz (o:Obj) (u:HO)
 /-- a code object's table -/
 | tbl (ps:Array Value)
 /-- any other thing, by what is true of its one object (a def of one's own: SetO a S n := HO.ext fun h => ..) -/
 | ext (φ : Heap->Prop)
abbrev Hp:=Addr->Option HO
def upd(H:Hp)(a:Addr)(o:HO): Hp:=fun b=>if b=a then some o else H b
theorem za{H:Hp}{a:Addr}{o:HO}: upd H a o a=some o:=by unfold upd;rw [gw rfl]
theorem qr{H:Hp}{a b:Addr}{o:HO}(h:b≠a): upd H a o b=H b:=by unfold upd;rw [mf h]
theorem jt{H:Hp}{a b:Addr}{o:HO}(h:H a=some o)(h':H b=none): a≠b:=by
 intro e;subst e;rw [h] at h';cases h'
def TupX(h:Heap)(a:Addr)(items:Array Value): Prop:=∃o,h.get? a=some o/\o.cls=.type "tuple" /\ o.dict=none/\∃n,o.data=.seq items n
theorem TupX.up{h:Heap}{a:Addr}{items:Array Value}(p:TupX h a items): IsTup h a items:=let⟨o,x,y,_,z⟩:=p; ⟨o,x,y,z⟩
theorem TupX.new(h:Heap)(items:Array Value): TupX (h.push {cls:=.type "tuple",data:=.seq items}) h.objs.size items:=⟨_,gs _ rfl,rfl,rfl,_,rfl⟩
section
variable(P:Program)(w:World)
def ObjOk(H:Hp)(h:Heap)(a:Addr): HO->Prop
 | .lst xs=>xs.length<=sizeLine/\∃(its:List Value) (n:Nat),Vals xs its/\h.get? a=some {cls:=.type "list",data:=.seq its.toArray n}
 | .tup xs=>xs.length<=sizeLine/\∃its:List Value,Vals xs its/\TupX h a its.toArray
 | .dK kvs=>kvs.length<=sizeLine/\(a==sysModules)=false/\∃vs,KV kvs vs/\h.DictOf (mixKind P w) a vs
 | .dT kvs=>kvs.length<=sizeLine/\(a==sysModules)=false/\∃xs:List (List Key×Addr×Value),
   Paired (fun(p:List Key×V) (q:List Key×Addr×Value)=>p.1=q.1/\H q.2.1=some (.tup (p.1.map kV))/\RelV p.2 q.2.2) kvs xs /\
   ∃o es ep,h.get? a=some o/\o.ExactDict/\o.data=.dict es ep/\es.toList=xs.map (entryOfKey (tupleKind (mixKind P w)))/\(xs.map (·.1)).Nodup
 | .set S n=>h.SetOf (intKind P w) a S n
 | .ins C dx fs=>H dx=some (.own a)/\fs.length<=1000/\dx≠a/\h.get? a=some (PySem.W.instObj C dx) /\
   ∃mA,h.Ns1 dx mA/\(∀f,RelO (fs.lookup f) (mA f))/\PySem.Within mA (fs.map (·.1))
 | .own _=>∃o,h.get? a=some o
 | .xd fs=>∃mA,h.Ns1 a mA/\∀f,RelO (fs.lookup f) (mA f)
 | .rng lo hi=>∃t u v,h.get? a=some {cls:=.type "range",data:=.fields #[.int lo t,.int hi u,.int 1 v]}
 | .frz o u=>h.get? a=some o/\ObjOk H h a u
 | .tbl ps=>h.get? a=some {cls:=.none,data:=.fields ps}
 | .met f x=>h.get? a=some (PySem.W.methodObj (.ref f) (.ref x))
 | .ext φ => φ h/\(∃o,h.get? a=some o)/\∀h1 h2:Heap, φ h1->(∀o,h1.get? a=some o->h2.get? a=some o) -> φ h2
def HOk(H:Hp)(h:Heap): Prop:=∀a o,H a=some o->ObjOk P w H h a o
end
section
variable{P:Program}{w:World}{H H':Hp}{h h':Heap}{a:Addr}{o:HO}
theorem ObjOk.lt(x:ObjOk P w H h a o): a<h.objs.size:=by
 cases o with
 | lst xs=>obtain⟨_,_,_,_,e⟩:=x;exact gu e
 | tup xs=>obtain⟨_,_,_,p⟩:=x;exact p.up.lt
 | dK kvs=>obtain⟨_,_,_,_,o,_,_,e,_⟩:=x;exact gu e
 | dT kvs=>obtain⟨_,_,_,_,o,_,_,e,_⟩:=x;exact gu e
 | set S n=>obtain⟨o,_,_,_,e,_⟩:=x;exact gu e
 | ins C dx fs=>obtain⟨_,_,_,e,_⟩:=x;exact gu e
 | own y=>obtain⟨_,e⟩:=x;exact gu e
 | xd fs=>obtain⟨_,⟨_,_,_,e,_⟩,_⟩:=x;exact gu e
 | rng lo hi=>obtain⟨_,_,_,e⟩:=x;exact gu e
 | frz ob u=>obtain⟨e,_⟩:=x;exact gu e
 | tbl ps=>exact gu (show h.get? a=some _ from x)
 | met f y=>exact gu (show h.get? a=some _ from x)
 | ext φ =>obtain⟨_,⟨_,e⟩,_⟩:=x;exact gu e
theorem Paired.mapP{α β : Type}{F G : α -> β -> Prop}: ∀ {l₁:List α} {l₂:List β},Paired F l₁ l₂->(∀a b,F a b->G a b)->Paired G l₁ l₂
 | _,_,.nil,_=>.nil
 | _,_,.cons r t,f=>.cons (f _ _ r) (Paired.mapP t f)
theorem ObjOk.stay(x:ObjOk P w H h a o)(k:∀b u,(b=a\/H b=some (.own a))->h.get? b=some u->h'.get? b=some u)
  (ho:∀b,H b=some (.own a)->H' b=some (.own a)) (ht:∀b xs,H b=some (.tup xs)->H' b=some (.tup xs)):ObjOk P w H' h' a o:=by
 induction o with
 | lst xs=>obtain⟨z,its,n,r,e⟩:=x;exact⟨z,its,n,r,k _ _ (.inl rfl) e⟩
 | tup xs=>obtain⟨z,its,r,ob,e,c⟩:=x;exact⟨z,its,r,ob,k _ _ (.inl rfl) e,c⟩
 | dK kvs=>obtain⟨z,y,vs,r,ob,es,ep,e,c⟩:=x;exact⟨z,y,vs,r,ob,es,ep,k _ _ (.inl rfl) e,c⟩
 | dT kvs=>
  obtain⟨z,y,xs,r,ob,es,ep,e,c⟩:=x;exact⟨z,y,xs,Paired.mapP r fun p q z=>⟨z.1,ht _ _ z.2.1,z.2.2⟩,ob,es,ep,k _ _ (.inl rfl) e,c⟩
 | set S n=>obtain⟨ob,es,ep,t,e,c⟩:=x;exact⟨ob,es,ep,t,k _ _ (.inl rfl) e,c⟩
 | ins C dx fs=>
  obtain⟨d,z,ne,e,mA,⟨od,es,ep,e2,c⟩,r⟩:=x;exact⟨ho _ d,z,ne,k _ _ (.inl rfl) e,mA,⟨od,es,ep,k _ _ (.inr d) e2,c⟩,r⟩
 | own y=>obtain⟨ob,e⟩:=x;exact⟨ob,k _ _ (.inl rfl) e⟩
 | xd fs=>obtain⟨mA,⟨od,es,ep,e,c⟩,r⟩:=x;exact⟨mA,⟨od,es,ep,k _ _ (.inl rfl) e,c⟩,r⟩
 | rng lo hi=>obtain⟨t,u,v,e⟩:=x;exact⟨t,u,v,k _ _ (.inl rfl) e⟩
 | frz ob u ih=>obtain⟨e,q⟩:=x;exact⟨k _ _ (.inl rfl) e,ih q⟩
 | tbl ps=>
  have e:h.get? a=some {cls:=.none,data:=.fields ps}:=x;show h'.get? a=some {cls:=.none,data:=.fields ps};exact k a _ (.inl rfl) e
 | met f y=>
  have e:h.get? a=some (PySem.W.methodObj (.ref f) (.ref y)):=x;show h'.get? a=some (PySem.W.methodObj (.ref f) (.ref y));exact k a _ (.inl rfl) e
 | ext φ =>obtain⟨p,⟨o,e⟩,st⟩:=x;exact⟨st _ _ p fun o q=>k _ _ (.inl rfl) q,⟨o,k _ _ (.inl rfl) e⟩,st⟩
theorem HOk.lt(x:HOk P w H h)(e:H a=some o): a<h.objs.size:=(x a o e).lt
theorem HOk.fresh(x:HOk P w H h)(e:h.objs.size<=a): H a=none:=by
 cases q:H a with
 | none=>rfl
 | some u=>exact absurd (gx (x.lt q) e) (ua _)
theorem HOk.kept(x:HOk P w H h)(k:∀b u,h.get? b=some u->h'.get? b=some u): HOk P w H h':=fun a o e=>
 (x a o e).stay (fun b u _ q=>k b u q) (fun _ q=>q) fun _ _ q=>q
theorem HOk.laid(x:HOk P w H h)(k:∀b u,h.get? b=some u->h'.get? b=some u)(hp:h.objs.size<=a)(new:ObjOk P w (upd H a o) h' a o): HOk P w (upd H a o) h':=fun b u e=>by
 have hn:=x.fresh hp
 by_cases hb:b=a
 ·subst hb;rw [za] at e;cases e;exact new
 ·rw [qr hb] at e
  exact(x b u e).stay (fun c v _ q=>k c v q) (fun c q=>by rw [qr (jt q hn)];exact q) fun c xs q=>by rw [qr (jt q hn)];exact q
end
def Rd(H:Hp)(a:Addr)(u:HO): Prop:=H a=some u\/∃o,H a=some (.frz o u)
theorem Rd.ok{P:Program}{w:World}{H:Hp}{h:Heap}{a:Addr}{u:HO}(r:Rd H a u)(x:HOk P w H h): ObjOk P w H h a u:=by
 rcases r with r|⟨o,r⟩
 ·exact x a u r
 ·obtain⟨_,q⟩:=x a _ r
  exact q
def Mut:Option HO->Prop
 | some (.lst _)=>True
 | some (.dK _)=>True
 | some (.dT _)=>True
 | some (.set _ _)=>True
 | some (.ins _ _ _)=>True
 | some (.ext _)=>True
 | _=>False
section
variable{P:Program}{w:World}{H:Hp}{h h':Heap}{x e:Addr}{o':HO}
theorem HOk.write(ok:HOk P w H h)(mu:Mut (H x))(he:e=x\/H e=some (.own x))(k:∀b u,b≠e->h.get? b=some u->h'.get? b=some u)(heo:∃u,h'.get? e=some u)
  (new:ObjOk P w (upd H x o') h' x o'):HOk P w (upd H x o') h':=fun b u q=>by
 have nown:∀c y,H c=some (.own y)->c≠x:=fun c y r z=>by subst z;rw [r] at mu;exact mu
 have ntup:∀c xs,H c=some (.tup xs)->c≠x:=fun c xs r z=>by subst z;rw [r] at mu;exact mu
 by_cases hb:b=x
 ·subst hb;rw [za] at q;cases q;exact new
 ·rw [qr hb] at q
  by_cases hbe:b=e
  ·have q':H b=some (.own x):=by
    rcases he with z|z
    ·exact absurd (hbe.trans z) hb
    ·rw [hbe];exact z
   rw [q] at q';cases q';obtain⟨v,hv⟩:=heo;exact⟨v,by rw [hbe];exact hv⟩
  ·refine(ok b u q).stay (fun c v hc r=>k c v ?_ r) (fun c r=>by rw [qr (nown c b r)];exact r) fun c xs r=>by rw [qr (ntup c xs r)];exact r
   rcases hc with rfl|hc
   ·exact hbe
   ·rintro rfl
    rcases he with z|z
    ·exact nown c b hc z
    ·rw [hc] at z;cases z;exact hb rfl
end
structure Un(fs ex:List Addr)(H H':Hp)(h h':Heap): Prop where
 keep:∀b o,h.get? b=some o->H b=none->b∉fs->b∉ex->h'.get? b=some o
 slot:∀b o,h.get? b=some o->H b=none->b∈fs->b∉ex->∃sl,h'.get? b=some {o with slots:=sl}
 free:∀b o,h.get? b=some o->H b=none->b∉ex->H' b=none
 there:∀b o,h.get? b=some o->b∉ex->∃o',h'.get? b=some o'
 tups:∀b xs,H b=some (.tup xs)->H' b=some (.tup xs)
 frzs:∀b o u,H b=some (.frz o u)->H' b=some (.frz o u)
 tbls:∀b ps,H b=some (.tbl ps)->∃more,H' b=some (.tbl (ps++more))
section
variable{fs fs' ex ex':List Addr}{H H1 H2:Hp}{h h1 h2 h':Heap}{a x e:Addr}{o:HO}
theorem Un.any(u:Un fs ex H H1 h h1){b:Addr}{ob:Obj}(q:h.get? b=some ob)(n:H b=none)(hx:b∉ex): ∃sl,h1.get? b=some {ob with slots:=sl}:=by
 by_cases hb:b∈fs
 ·exact u.slot b ob q n hb hx
 ·exact⟨ob.slots,u.keep b ob q n hb hx⟩
theorem Un.trans(a:Un fs ex H H1 h h1)(b:Un fs ex H1 H2 h1 h2): Un fs ex H H2 h h2 where
 keep:=fun c ob q n hc hx=>b.keep c ob (a.keep c ob q n hc hx) (a.free c ob q n hx) hc hx
 slot:=fun c ob q n hc hx=>by
  obtain⟨sl,e1⟩:=a.slot c ob q n hc hx;obtain⟨sl',e2⟩:=b.slot c _ e1 (a.free c ob q n hx) hc hx;exact⟨sl',e2⟩
 free:=fun c ob q n hx=>by
  obtain⟨o',e1⟩:=a.there c ob q hx;exact b.free c o' e1 (a.free c ob q n hx) hx
 there:=fun c ob q hx=>by
  obtain⟨o',e1⟩:=a.there c ob q hx;exact b.there c o' e1 hx
 tups:=fun c xs q=>b.tups c xs (a.tups c xs q)
 frzs:=fun c ob xs q=>b.frzs c ob xs (a.frzs c ob xs q)
 tbls:=fun c ps q=>by
  obtain⟨m1,e1⟩:=a.tbls c ps q;obtain⟨m2,e2⟩:=b.tbls c _ e1;exact⟨m1++m2,by rw [e2,g3t]⟩
theorem Un.kept(k:∀b u,h.get? b=some u->h'.get? b=some u): Un fs ex H H h h':=
 ⟨fun b ob q _ _ _=>k b ob q,fun b ob q _ _ _=>⟨ob.slots,k b ob q⟩,fun _ _ _ n _=>n,fun b ob q _=>⟨ob,k b ob q⟩,fun _ _ q=>q,fun _ _ _ q=>q,fun _ ps q=>⟨#[],by rw [q];simp⟩⟩
theorem Un.refl:Un fs ex H H h h:=Un.kept fun _ _ q=>q
theorem Un.laid(k:∀b u,h.get? b=some u->h'.get? b=some u)(hp:h.objs.size<=a)(hn:H a=none): Un fs ex H (upd H a o) h h' where
 keep:=fun b u q _ _ _=>k b u q
 slot:=fun b u q _ _ _=>⟨u.slots,k b u q⟩
 free:=fun b u q n _=>by rw [qr (m4 (gx (gu q) hp))];exact n
 there:=fun b u q _=>⟨u,k b u q⟩
 tups:=fun b xs q=>by rw [qr (jt q hn)];exact q
 frzs:=fun b u xs q=>by rw [qr (jt q hn)];exact q
 tbls:=fun b ps q=>⟨#[],by rw [qr (jt q hn),q];simp⟩
theorem Un.write(mu:Mut (H x))(he:e=x\/H e=some (.own x))(k:∀b u,b≠e->h.get? b=some u->h'.get? b=some u)(heo:∃u,h'.get? e=some u): Un fs ex H (upd H x o) h h':=by
 have hx:∀b,H b=none->b≠x:=fun b n z=>by subst z;rw [n] at mu;exact mu
 have hb:∀b,H b=none->b≠e:=fun b n z=>by
  subst z;rcases he with r|r
  ·exact hx b n r
  ·rw [n] at r;cases r
 have hm:∀b u,H b=some u->¬Mut (some u)->b≠x:=fun b u q nm z=>by subst z;rw [q] at mu;exact nm mu
 refine⟨fun b u q n _ _=>k b u (hb b n) q,fun b u q n _ _=>⟨u.slots,k b u (hb b n) q⟩,fun b u q n _=>by rw [qr (hx b n)];exact n,fun b u q _=>?_,
  fun b xs q=>by rw [qr (hm b _ q fun z=>z)];exact q,fun b u xs q=>by rw [qr (hm b _ q fun z=>z)];exact q,fun b ps q=>⟨#[],by rw [qr (hm b _ q fun z=>z),q];simp⟩⟩
 by_cases hbe:b=e
 ·subst hbe;exact heo
 ·exact⟨u,k b u hbe q⟩
end
def trk(h:Heap)(H:Hp): List Addr:=(List.range h.objs.size).filter fun a=>(H a).isSome
def q59(h:Heap)(H:Hp): Heap:=PySem.W.hideAll h (trk h H)
theorem qn3(h:Heap)(H:Hp): (q59 h H).objs.size=h.objs.size:=PySem.W.hideAll_size _ _
theorem qpz{h:Heap}{H:Hp}{b:Addr}{o:Obj}(e:h.get? b=some o)(n:H b=none): (q59 h H).get? b=some o:=
 PySem.W.hideAll_get _ e fun hm=>by
  have q:(H b).isSome=true:=(t6.mp hm).2;rw [n] at q;simp at q
theorem qu3{h:Heap}{H:Hp}{b:Addr}{o:Obj}(e:(q59 h H).get? b=some o): h.get? b=some o/\H b=none:=by
 have e':h.get? b=some o:=PySem.W.of_hideAll (trk h H) e;refine⟨e',?_⟩;cases q:H b with
 | none=>rfl
 | some x=>
  have hm:b∈trk h H:=t6.mpr ⟨g0n.mpr (gu e'),by simp [q]⟩;have z:(q59 h H).get? b=none:=PySem.W.hideAll_none (trk h H) hm;rw [z] at e;cases e
def qu4(g h:Heap)(L:Addr): Td:=(List.range h.objs.size).filterMap fun a=>if a=L\/(g.get? a).isSome=true then none else(h.get? a).map fun o=>(a,o)
def rest(g h:Heap)(L d:Addr): Td:=(qu4 g h L).filter fun p=>decide (p.1≠d)
structure Mod(K:PySem.W.Frag)(mg:Tc)(base:Heap): Prop where
 kin:K.In base
 glob:base.Ns mainGlobals mg
 blt:∃mb,base.Ns builtinsNs mb/\∀x:Str,x≠"__name__" -> mb x=bootBuiltins x
 nolimit:base.NoLimit
structure Cx where
 prog:Program
 w:World
 K:PySem.W.Frag
 mg:Tc
 base:Heap
 A:Around
 N:List Str
 s₀:Shared
 H₀:Hp
 env:Env
 outer:List Env
 stack:List Env
 ex:List Addr
 fn:Str->Bool
 calm:Bool
 pn:Td
 xe:Ta
def frs(l:List Env): List Addr:=l.filterMap (·.frame)
abbrev Cx.fs(X:Cx): List Addr:=frs X.outer
def Vis(sc:Scope)(x:Str): Prop:=sc.names.lookup x=some .local\/sc.names.lookup x=some .cell\/sc.names.lookup x=some .free
def Loc(sc:Scope)(x:Str): Prop:=sc.names.lookup x=some .local\/sc.names.lookup x=some .cell
def Look(env:Env)(h:Heap)(m:Tc)(x:Str)(u:Value): Prop:=
 (env.kindOf x=some .local/\m x=some u)\/((env.kindOf x=some .cell\/env.kindOf x=some .free)/\∃c,env.cells.lookup x=some c/\h.IsCell c (some u))
structure Cx.Ok(X:Cx): Prop where
 mod:Mod X.K X.mg X.base
 kind:X.env.scope.kind=.function
 glob:X.env.globals=mainGlobals
 blt:X.env.builtins=builtinsNs
 above:X.s₀.heap.objs.size<=X.env.locals
 inj:∀x y c,X.env.cells.lookup x=some c->X.env.cells.lookup y=some c->x=y
 has:∀x,(X.env.kindOf x=some .cell\/X.env.kindOf x=some .free)->∃c,X.env.cells.lookup x=some c
 cab:∀x c,X.fn x=true->X.env.cells.lookup x=some c->X.s₀.heap.objs.size<=c
 hd:X.calm=true->X.A.handled=none
 frames:X.A.frames=some X.stack
 stk:X.stack=X.outer\/(X.stack=X.env :: X.outer/\X.env.frame=some X.env.locals)
 exf:∀b∈X.ex,b≠X.env.locals/\∀x c,X.env.cells.lookup x=some c->c≠b
 bs:∀b o,X.base.get? b=some o->X.s₀.heap.get? b=some o/\X.H₀ b=none
 bsz:X.base.objs.size<=X.s₀.heap.objs.size
 noex:∀b o,X.base.get? b=some o->b∉X.ex
 exfs:∀b∈X.ex,b∉X.fs
 funs:X.s₀.heap.FunFrames X.base X.outer
 frf:∀b∈X.fs,X.H₀ b=none
structure Inv(X:Cx)(pins:Td)(σ : List (Option V))(H:Hp)(s:Shared): Prop where
 ok:X.Ok
 os:s.os=X.s₀.os
 bare:AllBare s.gens
 base:Un X.fs X.ex X.H₀ H X.s₀.heap s.heap
 loc:∃m,s.heap.Ns X.env.locals m/\∀(i:Nat) (x:Str) (v:V),X.N[i]? = some x -> σ[i]? = some (some v)->Vis X.env.scope x->∃u,RelV v u/\Look X.env s.heap m x u
 cell:∀x c,X.env.cells.lookup x=some c->∃v,s.heap.IsCell c v
 free:H X.env.locals=none
 freeC:∀x c,X.env.cells.lookup x=some c->H c=none
 pin:∀p∈X.pn++pins,s.heap.get? p.1=some p.2/\H p.1=none/\p.1≠X.env.locals/\p.1∉X.fs/\∀v,p.2.data ≠ .cell v
 hok:HOk X.prog X.w H s.heap
 len : σ.length=X.N.length
section
variable{X:Cx}{pins:Td}{σ : List (Option V)}{H H':Hp}{s:Shared}{h':Heap}
theorem Cx.Ok.nofr(ok:X.Ok){b:Addr}{o:Obj}(e:X.base.get? b=some o): b∉X.fs:=fun hb=>by
 have:=(ok.funs.mem hb).1;rw [e] at this;cases this
theorem Inv.bs(I:Inv X pins σ H s): ∀b o,X.base.get? b=some o->s.heap.get? b=some o/\H b=none:=fun b o e=>
 ⟨I.base.keep b o (I.ok.bs b o e).1 (I.ok.bs b o e).2 (I.ok.nofr e) (I.ok.noex b o e),I.base.free b o (I.ok.bs b o e).1 (I.ok.bs b o e).2 (I.ok.noex b o e)⟩
theorem Inv.bk(I:Inv X pins σ H s): ∀b o,X.base.get? b=some o->s.heap.get? b=some o:=fun b o e=>(I.bs b o e).1
theorem Inv.mod(I:Inv X pins σ H s): Mod X.K X.mg X.base:=I.ok.mod
theorem Inv.kIn(I:Inv X pins σ H s): X.K.In s.heap:=I.ok.mod.kin.keeps I.bk
theorem Inv.lt(I:Inv X pins σ H s): X.env.locals<s.heap.objs.size:=let⟨_,hn,_⟩:=I.loc;hn.lt
theorem Inv.sz(I:Inv X pins σ H s): X.s₀.heap.objs.size<=s.heap.objs.size:=mi I.ok.above (g3b I.lt)
theorem Inv.nofs(I:Inv X pins σ H s){a:Addr}(h:s.heap.objs.size<=a): a∉X.fs:=fun hb=>by
 obtain⟨_,o,ho,_⟩:=I.ok.funs.mem hb;exact absurd (gx (gu ho) (mi I.sz h)) (ua _)
theorem Inv.cne(I:Inv X pins σ H s): ∀x c,X.env.cells.lookup x=some c->c≠X.env.locals:=fun x c e z=>by
 obtain⟨v,o,ho,hd⟩:=I.cell x c e;obtain⟨m,⟨o',es,ep,ho',hd',_⟩,_⟩:=I.loc;rw [z,ho'] at ho;cases ho;rw [hd'] at hd;cases hd
theorem Inv.funs(I:Inv X pins σ H s): s.heap.FunFrames X.base X.outer:=by
 have all:∀(l:List Env),(∀b∈frs l,b∈X.fs)->X.s₀.heap.FunFrames X.base l->s.heap.FunFrames X.base l:=by
  intro l
  induction l with
  | nil=>intro _ _;trivial
  | cons env r ih=>
   intro hs hl;obtain⟨hk,⟨L,o,hf,hn,ho,hd⟩,hr⟩:=hl;have hL:L∈X.fs:=hs L (by unfold frs;rw [g0k,hf];exact ma);obtain⟨sl,e⟩:=I.base.slot L o ho (I.ok.frf L hL) hL fun z=>I.ok.exfs L z hL;exact⟨hk,⟨L,_,hf,hn,e,hd⟩,ih (fun b hb=>hs b (by unfold frs;rw [g0k,hf];exact gz _ hb)) hr⟩
 exact all X.outer (fun _ hb=>hb) I.ok.funs
theorem Inv.stack(I:Inv X pins σ H s): s.heap.FunFrames X.base X.stack:=by
 rcases I.ok.stk with e|⟨e,hf⟩
 ·rw [e];exact I.funs
 ·rw [e]
  obtain⟨m,hn,_⟩:=I.loc;refine .cons (by rw [I.ok.kind];decide) hf hn ?_ I.funs;exact g16 (mi I.ok.bsz I.ok.above)
theorem Inv.stkSub(I:Inv X pins σ H s): ∀b∈frs X.stack,b∈X.env.locals :: X.fs:=fun b hb=>by
 rcases I.ok.stk with e|⟨e,hf⟩
 ·rw [e] at hb;exact gz _ hb
 ·rw [e] at hb
  unfold frs at hb;rw [g0k,hf] at hb;exact hb
theorem Inv.stkFree(I:Inv X pins σ H s): ∀b∈frs X.stack,H b=none:=fun b hb=>by
 rcases mh.mp (I.stkSub b hb) with e|hb
 ·rw [e];exact I.free
 ·obtain⟨_,o,ho,_⟩:=I.ok.funs.mem hb
  exact I.base.free b o ho (I.ok.frf b hb) fun z=>I.ok.exfs b z hb
theorem Inv.step{g':Array GenState}{t':Nat}{d':Drawn}{ch:List Addr}(I:Inv X pins σ H s)
  (hch:∀b∈ch,(b∈X.ex\/X.s₀.heap.objs.size<=b)/\b≠X.env.locals/\(∀x c,X.env.cells.lookup x=some c->c≠b)/\∀p∈X.pn++pins,p.1≠b)
  (keep:∀b o,b≠X.env.locals->b∉X.fs->b∉ch->s.heap.get? b=some o->H b=none->h'.get? b=some o)
  (slot:∀b o,b≠X.env.locals->b∈X.fs->b∉ch->s.heap.get? b=some o->H b=none->∃sl,h'.get? b=some {o with slots:=sl}) (free:∀b o,b∉ch->s.heap.get? b=some o->H b=none->H' b=none)
  (there:∀b o,b∉ch->s.heap.get? b=some o->∃o',h'.get? b=some o')
  (tups:∀b xs,H b=some (.tup xs)->H' b=some (.tup xs)) (frzs:∀b o u,H b=some (.frz o u)->H' b=some (.frz o u)) (tbls:∀b ps,H b=some (.tbl ps)->∃more,H' b=some (.tbl (ps++more)))
  (ns:∀m,s.heap.Ns X.env.locals m->h'.Ns X.env.locals m) (hok:HOk X.prog X.w H' h') (hg:AllBare g') :
  Inv X pins σ H' {s with heap:=h',gens:=g',drawn:=d',toks:=t'}:=by
 have neL:∀b o,X.s₀.heap.get? b=some o->b≠X.env.locals:=fun b o e=>m4 (gx (gu e) I.ok.above);have neC:∀b o,X.s₀.heap.get? b=some o->b∉X.ex->b∉ch:=fun b o e hx hb=>by
  rcases(hch b hb).1 with z|z
  ·exact hx z
  ·exact absurd (gx (gu e) z) (ua _)
 have cellK:∀x c,X.env.cells.lookup x=some c->∀v,s.heap.IsCell c v->h'.IsCell c v:=fun x c e v ⟨o,ho,hd⟩=>by
  have nch:c∉ch:=fun z=>(hch c z).2.2.1 x c e rfl
  by_cases hc:c∈X.fs
  ·obtain⟨sl,q⟩:=slot c o (I.cne x c e) hc nch ho (I.freeC x c e)
   exact⟨_,q,hd⟩
  ·exact⟨o,keep c o (I.cne x c e) hc nch ho (I.freeC x c e),hd⟩
 refine⟨I.ok,I.os,hg,⟨fun b o e n hb hx=>?_,fun b o e n hb hx=>?_,fun b o e n hx=>?_,fun b o e hx=>?_,fun b xs e=>tups b xs (I.base.tups b xs e),fun b o xs e=>frzs b o xs (I.base.frzs b o xs e),fun b ps e=>?_⟩,?_,fun x c e=>?_,?_,fun x c e=>?_,fun p hp=>?_,hok,I.len⟩
 ·exact keep b o (neL b o e) hb (neC b o e hx) (I.base.keep b o e n hb hx) (I.base.free b o e n hx)
 ·obtain⟨sl,e1⟩:=I.base.slot b o e n hb hx
  obtain⟨sl',e2⟩:=slot b _ (neL b o e) hb (neC b o e hx) e1 (I.base.free b o e n hx);exact⟨sl',e2⟩
 ·obtain⟨o',e1⟩:=I.base.there b o e hx
  exact free b o' (neC b o e hx) e1 (I.base.free b o e n hx)
 ·obtain⟨o',e1⟩:=I.base.there b o e hx
  exact there b o' (neC b o e hx) e1
 ·obtain⟨m1,e1⟩:=I.base.tbls b ps e
  obtain⟨m2,e2⟩:=tbls b _ e1;exact⟨m1++m2,by rw [e2,g3t]⟩
 ·obtain⟨m,hn,hl⟩:=I.loc
  refine⟨m,ns m hn,fun i x v e1 e2 e3=>?_⟩;obtain⟨u,r,l⟩:=hl i x v e1 e2 e3;refine⟨u,r,?_⟩;rcases l with l|⟨k,c,e,z⟩
  ·exact .inl l
  ·exact .inr ⟨k,c,e,cellK x c e _ z⟩
 ·obtain⟨v,z⟩:=I.cell x c e
  exact⟨v,cellK x c e v z⟩
 ·obtain⟨m,⟨o,_,_,ho,_⟩,_⟩:=I.loc
  exact free _ o (fun z=>(hch _ z).2.1 rfl) ho I.free
 ·obtain⟨v,o,ho,hd⟩:=I.cell x c e
  exact free c o (fun z=>(hch c z).2.2.1 x c e rfl) ho (I.freeC x c e)
 ·obtain⟨e,n,ne,nf,d⟩:=I.pin p hp
  have nch:p.1∉ch:=fun z=>(hch p.1 z).2.2.2 p hp rfl;exact⟨keep p.1 p.2 ne nf nch e n,free p.1 p.2 nch e n,ne,nf,d⟩
theorem Inv.un{t':Nat}(I:Inv X pins σ H s)(u:Un X.fs [] H H' s.heap h')(hok:HOk X.prog X.w H' h'): Inv X pins σ H' {s with heap:=h',toks:=t'}:=by
 obtain⟨m,⟨o,es,ep,ho,r⟩,_⟩:=id I.loc;obtain⟨sl,hL⟩:=u.any ho I.free (by simp);exact I.step (g':=s.gens) (d':=s.drawn) (ch:=[]) (fun _ z=>nomatch z) (fun b o _ hb _ e n=>u.keep b o e n hb (by simp)) (fun b o _ hb _ e n=>u.slot b o e n hb (by simp)) (fun b o _ e n=>u.free b o e n (by simp)) (fun b o _ e=>u.there b o e (by simp)) u.tups u.frzs u.tbls (fun m' hm=>by
  obtain⟨o',es',ep',ho',r'⟩:=hm;rw [ho] at ho';cases ho';exact⟨_,es',ep',hL,r'⟩) hok I.bare
theorem Inv.call{g':Array GenState}{t':Nat}{d':Drawn}{ch:List Addr}(I:Inv X pins σ H s)(u:Un (frs X.stack) ch H H' s.heap h')(hok:HOk X.prog X.w H' h')(hg:AllBare g')
  (hch:∀b∈ch,(b∈X.ex\/X.s₀.heap.objs.size<=b)/\b≠X.env.locals/\(∀x c,X.env.cells.lookup x=some c->c≠b)/\∀p∈X.pn++pins,p.1≠b) :
  Inv X pins σ H' {s with heap:=h',gens:=g',drawn:=d',toks:=t'}:=by
 obtain⟨m,⟨o,es,ep,ho,r⟩,_⟩:=id I.loc;obtain⟨sl,hL⟩:=u.any ho I.free fun z=>(hch _ z).2.1 rfl;exact I.step (ch:=ch) hch (fun b o hL hb hc e n=>u.keep b o e n (fun z=>(mh.mp (I.stkSub b z)).elim hL hb) hc) (fun b o _ _ hc e n=>u.any e n hc) (fun b o hc e n=>u.free b o e n hc) (fun b o hc e=>u.there b o e hc) u.tups u.frzs u.tbls (fun m' hm=>by
  obtain⟨o',es',ep',ho',r'⟩:=hm;rw [ho] at ho';cases ho';exact⟨_,es',ep',hL,r'⟩) hok hg
theorem Inv.turned{t':Nat}{it:Addr}(I:Inv X pins σ H s)(k:∀b o,b≠it->s.heap.get? b=some o->h'.get? b=some o)(hn:H it=none)(hL:it≠X.env.locals)
  (h1:it∈X.ex\/X.s₀.heap.objs.size<=it) (h2:∀x c,X.env.cells.lookup x=some c->c≠it) (h3:∀p∈X.pn++pins,p.1≠it):Inv X pins σ H {s with heap:=h',toks:=t'}:=by
 have nit:∀b u,H b=some u->b≠it:=fun b u e z=>by rw [z,hn] at e;cases e
 refine I.step (g':=s.gens) (d':=s.drawn) (ch:=[it]) (fun b hb=>?_) (fun b o _ _ hc e _=>k b o (fun z=>hc (by simp [z])) e) (fun b o _ _ hc e _=>⟨o.slots,k b o (fun z=>hc (by simp [z])) e⟩) (fun _ _ _ _ n=>n)
  (fun b o hc e=>⟨o,k b o (fun z=>hc (by simp [z])) e⟩) (fun _ _ e=>e) (fun _ _ _ e=>e) (fun b ps e=>⟨#[],by rw [e];simp⟩) (fun m hm=>?_) (fun b u e=>?_) I.bare
 ·have e:b=it:=by simpa using hb
  subst e;exact⟨h1,hL,h2,h3⟩
 ·obtain⟨o,es,ep,ho,r⟩:=hm
  exact⟨o,es,ep,k _ o (ml hL) ho,r⟩
 ·refine(I.hok b u e).stay (fun c v hc q=>k c v ?_ q) (fun _ q=>q) fun _ _ q=>q
  rcases hc with z|z
  ·rw [z];exact nit b u e
  ·exact nit c _ z
theorem Inv.tok(I:Inv X pins σ H s)(t:Nat): Inv X pins σ H {s with toks:=t}:=I.un (h':=s.heap) (t':=t) Un.refl I.hok
theorem Inv.kept{t':Nat}(I:Inv X pins σ H s)(k:∀b u,s.heap.get? b=some u->h'.get? b=some u): Inv X pins σ H {s with heap:=h',toks:=t'}:=I.un (Un.kept k) (I.hok.kept k)
theorem Inv.laid{a:Addr}{o:HO}{t':Nat}(I:Inv X pins σ H s)(k:∀b u,s.heap.get? b=some u->h'.get? b=some u)(hp:s.heap.objs.size<=a)(new:ObjOk X.prog X.w (upd H a o) h' a o):
  Inv X pins σ (upd H a o) {s with heap:=h',toks:=t'}:=I.un (Un.laid k hp (I.hok.fresh hp)) (I.hok.laid k hp new)
theorem Inv.write{x e:Addr}{o:HO}{t':Nat}(I:Inv X pins σ H s)(mu:Mut (H x))(he:e=x\/H e=some (.own x))(k:∀b u,b≠e->s.heap.get? b=some u->h'.get? b=some u)(heo:∃u,h'.get? e=some u)
  (new:ObjOk X.prog X.w (upd H x o) h' x o):Inv X pins σ (upd H x o) {s with heap:=h',toks:=t'}:=I.un (Un.write mu he k heo) (I.hok.write mu he k heo new)
theorem Inv.pins_of{pins':Td}(I:Inv X pins σ H s)(h:∀p∈pins',s.heap.get? p.1=some p.2/\H p.1=none/\p.1≠X.env.locals/\p.1∉X.fs/\∀v,p.2.data ≠ .cell v): Inv X pins' σ H s:=
 ⟨I.ok,I.os,I.bare,I.base,I.loc,I.cell,I.free,I.freeC,fun p hp=>(ud.mp hp).elim (fun z=>I.pin p (g20 _ z)) (h p),I.hok,I.len⟩
theorem qg3{N:List Str}(hN:N.Nodup){i j:Nat}{x:Str}(a:N[i]? = some x)(b:N[j]? = some x): i=j:=by
 obtain⟨h1,e1⟩:=nj.mp a;obtain⟨h2,e2⟩:=nj.mp b;exact(g4g hN).mp (e1.trans e2.symm)
theorem qn4{M:Model}{A:Around}{E:Ta}{i:Nat}{x:Str}{v:V}{u:Value}{Q:Unit->Shared->Prop}(I:Inv X pins σ H s)(hN:X.N.Nodup)(hi:X.N[i]? = some x)(hx:Loc X.env.scope x)(r:RelV v u)
  (h:∀s',Inv X pins (σ.set i (some v)) H s'->(∃a,Heap.SameBut a s.heap s'.heap/\(a=X.env.locals\/X.env.cells.lookup x=some a))->Q () s') (hf:X.fn x=true\/X.env.scope.names.lookup x=some .local:=by first|exact .inl rfl|exact .inr rfl|assumption):wpAny M A (storeName X.env x u) Q E s:=by
 obtain⟨m,hn,hl⟩:=id I.loc;have hcls:(X.env.scope.kind == .class || (X.env.scope.kind == .module&&X.env.locals != X.env.globals))=false:=by rw [I.ok.kind];rfl
 have hiσ : i < σ.length:=by rw [I.len];exact(nj.mp hi).1
 have cne:=I.cne;have tracked:∀ {a:Addr} {h':Heap},(∃o,s.heap.get? a=some o/\H a=none)->Heap.SameBut a s.heap h'->HOk X.prog X.w H h':=fun {a h'} ha hs b ob e=>by
  obtain⟨_,_,hfree⟩:=ha;refine(I.hok b ob e).stay (fun c w' hc q=>(hs.2 c ?_).trans q) (fun _ q=>q) fun _ _ q=>q
  rintro rfl
  rcases hc with rfl|hc
  ·rw [hfree] at e;cases e
  ·rw [hfree] at hc;cases hc
 rcases hx with hk|hk
 ·refine wpAny_storeName_local hk hn (fun h' hn' hs=>?_) hcls
  obtain⟨oL,_,_,hoL,_⟩:=id hn;refine h _ ⟨I.ok,I.os,I.bare,⟨fun b o e n hb hx=>?_,fun b o e n hb hx=>?_,I.base.free,fun b o e hx=>?_,I.base.tups,I.base.frzs,I.base.tbls⟩,⟨_,hn',fun j y v' e1 e2 e3=>?_⟩,fun y c e=>?_,I.free,I.freeC,fun p hp=>?_,tracked ⟨oL,hoL,I.free⟩ hs,by simpa using I.len⟩ ⟨_,hs,.inl rfl⟩
  ·exact(hs.2 b (m4 (gx (gu e) I.ok.above))).trans (I.base.keep b o e n hb hx)
  ·obtain⟨sl,e1⟩:=I.base.slot b o e n hb hx
   exact⟨sl,(hs.2 b (m4 (gx (gu e) I.ok.above))).trans e1⟩
  ·obtain⟨o',e1⟩:=I.base.there b o e hx
   exact⟨o',(hs.2 b (m4 (gx (gu e) I.ok.above))).trans e1⟩
  ·by_cases hj:j=i
   ·subst hj
    rw [hi] at e1;cases e1;rw [g4y hiσ] at e2;cases e2;exact⟨u,r,.inl ⟨hk,by simp⟩⟩
   ·rw [gr (ml hj)] at e2
    obtain⟨u',r',q⟩:=hl j y v' e1 e2 e3;refine⟨u',r',?_⟩;rcases q with⟨k,e⟩|⟨k,c,e,z⟩
    ·refine .inl ⟨k,?_⟩
     have:y≠x:=fun e=>hj (qg3 hN e1 (e ▸ hi));simp [this,e]
    ·exact .inr ⟨k,c,e,z.sameBut hs (cne y c e)⟩
  ·obtain⟨w',z⟩:=I.cell y c e
   exact⟨w',z.sameBut hs (cne y c e)⟩
  ·obtain⟨e,n,ne,nf,d⟩:=I.pin p hp
   exact⟨(hs.2 p.1 ne).trans e,n,ne,nf,d⟩
 ·have hfn:X.fn x=true:=by
   rcases hf with z|z
   ·exact z
   ·rw [z] at hk;cases hk
  obtain⟨c,hc⟩:=I.ok.has x (.inl hk);obtain⟨w',z⟩:=I.cell x c hc;refine wpAny_storeName_cell I.ok.kind hk hc z (fun h' hc' hs=>?_);obtain⟨oc,hoc,hocd⟩:=id z;refine h {s with heap:=h'} ⟨I.ok,I.os,I.bare,⟨fun b o e n hb hx=>?_,fun b o e n hb hx=>?_,I.base.free,fun b o e hx=>?_,I.base.tups,I.base.frzs,I.base.tbls⟩,⟨m,hn.sameBut hs (ml (cne x c hc)),fun j y v' e1 e2 e3=>?_⟩,fun y c' e=>?_,I.free,I.freeC,fun p hp=>?_,tracked ⟨oc,hoc,I.freeC x c hc⟩ hs,by simpa using I.len⟩ ⟨c,hs,.inr hc⟩
  ·exact(hs.2 b (m4 (gx (gu e) (I.ok.cab x c hfn hc)))).trans (I.base.keep b o e n hb hx)
  ·obtain⟨sl,e1⟩:=I.base.slot b o e n hb hx
   exact⟨sl,(hs.2 b (m4 (gx (gu e) (I.ok.cab x c hfn hc)))).trans e1⟩
  ·obtain⟨o',e1⟩:=I.base.there b o e hx
   exact⟨o',(hs.2 b (m4 (gx (gu e) (I.ok.cab x c hfn hc)))).trans e1⟩
  ·by_cases hj:j=i
   ·subst hj
    rw [hi] at e1;cases e1;rw [g4y hiσ] at e2;cases e2;exact⟨u,r,.inr ⟨.inl hk,c,hc,hc'⟩⟩
   ·rw [gr (ml hj)] at e2
    obtain⟨u',r',q⟩:=hl j y v' e1 e2 e3;refine⟨u',r',?_⟩;rcases q with q|⟨k,c',e,z'⟩
    ·exact .inl q
    ·refine .inr ⟨k,c',e,z'.sameBut hs ?_⟩
     rintro rfl
     exact hj (qg3 hN e1 (I.ok.inj _ _ _ e hc ▸ hi))
  ·by_cases hcc:c'=c
   ·subst hcc;exact⟨_,hc'⟩
   ·obtain⟨w2,z2⟩:=I.cell y c' e
    exact⟨w2,z2.sameBut hs hcc⟩
  ·obtain⟨e,n,ne,nf,d⟩:=I.pin p hp
   refine⟨(hs.2 p.1 ?_).trans e,n,ne,nf,d⟩;intro q;rw [q,hoc] at e;have q':oc=p.2:=mr e;exact d w' (by rw [<- q'];exact hocd)
theorem q5a{M:Model}{A:Around}{E:Ta}{i:Nat}{x:Str}{v:V}{u:Value}{Q:Unit->Shared->Prop}(I:Inv X pins σ H s)(hN:X.N.Nodup)(hi:X.N[i]? = some x)(hx:Loc X.env.scope x)(r:RelV v u)
  (h:∀s',Inv X pins (σ.set i (some v)) H s'->Q () s') (hf:X.fn x=true\/X.env.scope.names.lookup x=some .local:=by first|exact .inl rfl|exact .inr rfl|assumption):wpAny M A (storeName X.env x u) Q E s:=
 qn4 I hN hi hx r (fun s' I' _=>h s' I') hf
theorem Inv.call'{s':Shared}{ch:List Addr}(I:Inv X pins σ H s)(ho:s'.os=s.os)(u:Un (frs X.stack) ch H H' s.heap s'.heap)(hok:HOk X.prog X.w H' s'.heap)(hg:AllBare s'.gens)
  (hch:∀b∈ch,(b∈X.ex\/X.s₀.heap.objs.size<=b)/\b≠X.env.locals/\(∀x c,X.env.cells.lookup x=some c->c≠b)/\∀p∈X.pn++pins,p.1≠b):Inv X pins σ H' s':=by
 obtain⟨h',g',d',t',o'⟩:=s';have e:o'=s.os:=ho;subst e;exact I.call (g':=g') (t':=t') (d':=d') u hok hg hch
end
abbrev XK:=Value->Option Addr->Hp->Prop
abbrev St:=List (Option V)
abbrev VK:=V->Hp->Prop
abbrev TE:=St->Hp->VK->Prop
abbrev TT:=St->Hp->(Bool->Hp->Prop)->Prop
abbrev TA:=St->Hp->(List V->Hp->Prop)->Prop
structure Ends where
 nx:St->Hp->Prop
 rt:VK
 bk:St->Hp->Prop:=fun _ _=>False
 ct:St->Hp->Prop:=fun _ _=>False
abbrev TS:=Ends->St->Hp->Prop
def EP(X:Cx)(pins:Td)(σ : St)(Q:VK)(u:Value)(s':Shared): Prop:=∃v H',Inv X pins σ H' s'/\RelV v u/\Q v H'
def TP(X:Cx)(pins:Td)(σ : St)(Q:Bool->Hp->Prop)(b:Bool)(s':Shared): Prop:=∃H',Inv X pins σ H' s'/\Q b H'
def AP(X:Cx)(pins:Td)(σ : St)(Q:List V->Hp->Prop)(us:List Value)(s':Shared): Prop:=∃vs H',Inv X pins σ H' s'/\Vals vs us/\Q vs H'
def SP(X:Cx)(pins:Td)(D:Ends)(f:Flow)(s':Shared): Prop:=
 match f with
 | .next=>∃ σ' H',Inv X pins σ' H' s'/\D.nx σ' H'
 | .brk=>∃ σ' H',Inv X pins σ' H' s'/\D.bk σ' H'
 | .cont=>∃ σ' H',Inv X pins σ' H' s'/\D.ct σ' H'
 | .ret u=>∃v σ' H',Inv X pins σ' H' s'/\RelV v u/\D.rt v H'
def PE(X:Cx)(e:Expr)(t:TE): Prop:=
 ∀(pins:Td) (s:Shared) (σ : St) (H:Hp) (Q:VK),Inv X pins σ H s->t σ H Q->wpAny (model X.prog X.w) X.A (eval e X.env) (EP X pins σ Q) X.xe s
def PT(X:Cx)(e:Expr)(t:TT): Prop:=
 ∀(pins:Td) (s:Shared) (σ : St) (H:Hp) (Q:Bool->Hp->Prop),Inv X pins σ H s->t σ H Q->wpAny (model X.prog X.w) X.A (isTrue e X.env (eval e X.env)) (TP X pins σ Q) X.xe s
def PW(X:Cx)(e:Expr)(t:TT): Prop:=
 ∀(whole:Sem Value) (pins:Td) (s:Shared) (σ : St) (H:Hp) (Q:Bool->Hp->Prop),Inv X pins σ H s->t σ H Q->wpAny (model X.prog X.w) X.A (isTrue e X.env whole) (TP X pins σ Q) X.xe s
theorem PW.pt{X:Cx}{e:Expr}{t:TT}(h:PW X e t): PT X e t:=h _
def PA(X:Cx)(es:List Expr)(t:TA): Prop:=
 ∀(pos:Pos) (pins:Td) (s:Shared) (σ : St) (H:Hp) (Q:List V->Hp->Prop),Inv X pins σ H s->t σ H Q->wpAny (model X.prog X.w) X.A (spliced (backTo pos (starEach es X.env))) (AP X pins σ Q) X.xe s
def PS(X:Cx)(st:Stmt)(t:TS): Prop:=
 ∀(pins:Td) (s:Shared) (σ : St) (H:Hp) (D:Ends),Inv X pins σ H s->t D σ H->wpAny (model X.prog X.w) X.A (exec st X.env) (SP X pins D) X.xe s
def PSs(X:Cx)(st:List Stmt)(t:TS): Prop:=
 ∀(pins:Td) (s:Shared) (σ : St) (H:Hp) (D:Ends),Inv X pins σ H s->t D σ H->wpAny (model X.prog X.w) X.A (execs st X.env) (SP X pins D) X.xe s
theorem thn{α : Type}{t:Sem α}{Q Q' : α -> Shared->Prop}{M:Model}{A:Around}{E:Ta}{s:Shared}(h:wpAny M A t Q E s)(hQ:∀a s,Q a s->Q' a s): wpAny M A t Q' E s:=nu h hQ fun _ _ x=>x
section
variable{X:Cx}
def vp(i:Nat): TE:=fun σ H Q=>∃v, σ[i]? = some (some v)/\Q v H
def tC(v:V): TE:=fun _ H Q=>Q v H
theorem qwj{i:Nat}{x:Str}{pos:Pos}(hN:X.N[i]? = some x)(hv:Vis X.env.scope x)(hd:(x==("__debug__" : Str))=false:=by decide)(hcd:(x==("__classdict__" : Str))=false:=by decide): PE X (.Name x pos) (vp i):=by
 intro pins s σ H Q I h;obtain⟨v,e,h⟩:=h;obtain⟨m,hn,hl⟩:=I.loc;obtain⟨u,r,l⟩:=hl i x v hN e hv;have fin:EP X pins σ Q u s:=⟨v,H,I,r,h⟩
 rcases l with⟨hk,hm⟩|⟨hk,c,hc,hcell⟩
 ·exact wpAny_Name (wpAny_loadName_local I.ok.kind hk hn hm fin) hd
 ·rcases hk with hk|hk
  ·exact wpAny_Name (wpAny_loadName_cell I.ok.kind hk hc hcell fin) hd
  ·exact wpAny_Name (wpAny_loadName_free I.ok.kind hk hc hcell fin hcd) hd
theorem qwk{i j pos}: PE X (.Constant (.int i) j pos) (tC (.int i)):=fun _ _ _ H _ I h=>wpAny_Constant_int ⟨.int i,H,I.tok _,⟨_,rfl⟩,h⟩
theorem qzq{b j pos}: PE X (.Constant (.bool b) j pos) (tC (.bl b)):=fun _ _ _ H _ I h=>Constant_bool ⟨.bl b,H,I,rfl,h⟩
theorem qwl{j pos}: PE X (.Constant .none j pos) (tC .non):=fun _ _ _ H _ I h=>Constant_none ⟨.non,H,I,rfl,h⟩
def Gl(X:Cx)(x:Str): Prop:=X.env.kindOf x=some .globalImplicit
theorem k9{E:Ta}{pins:Td}{s:Shared}{σ : St}{H:Hp}{x:Str}{u:Value}{pos:Pos}{Q:Ta}(I:Inv X pins σ H s)(hg:Gl X x)(hm:X.mg x=some u)(h:Q u s)
  (hd:(x==("__debug__" : Str))=false:=by decide):wpAny (model X.prog X.w) X.A (eval (.Name x pos) X.env) Q E s:=
 Calls.Name_function_global I.ok.kind hg (Calls.loadGlobal_global (by rw [I.ok.glob];exact I.mod.glob.keeps I.bk) hm h) hd
theorem q0n{E:Ta}{pins:Td}{s:Shared}{σ : St}{H:Hp}{x:Str}{u:Value}{pos:Pos}{Q:Ta}(I:Inv X pins σ H s)(hg:Gl X x)(hm:X.mg x=none)(hv:bootBuiltins x=some u)(h:Q u s)
  (hn:x≠"__name__" :=by decide) (hd:(x==("__debug__" : Str))=false:=by decide):wpAny (model X.prog X.w) X.A (eval (.Name x pos) X.env) Q E s:=by
 obtain⟨mb,h1,h2⟩:=I.mod.blt;exact Calls.Name_function_global I.ok.kind hg (Calls.loadGlobal_builtin (by rw [I.ok.glob];exact I.mod.glob.keeps I.bk) hm (by rw [I.ok.blt];exact h1.keeps I.bk) ((h2 x hn).trans hv) h) hd
theorem qu5{x:Str}{v:V}{u:Value}{pos:Pos}(hg:Gl X x)(hm:X.mg x=some u)(r:RelV v u)(hd:(x==("__debug__" : Str))=false:=by decide): PE X (.Name x pos) (tC v):=
 fun _ _ _ H _ I h=>k9 I hg hm ⟨v,H,I,r,h⟩ hd
theorem qu6{x:Str}{v:V}{u:Value}{pos:Pos}(hg:Gl X x)(hm:X.mg x=none)(hv:bootBuiltins x=some u)(r:RelV v u)(hn:x≠"__name__" :=by decide)(hd:(x==("__debug__" : Str))=false:=by decide): PE X (.Name x pos) (tC v):=
 fun _ _ _ H _ I h=>q0n I hg hm hv ⟨v,H,I,r,h⟩ hn hd
variable{a b:Expr}{ta tb:TE}{pos:Pos}
theorem q5b(b:Expr){op:CmpOp}(h:op ≠ .In)(h2:op ≠ .NotIn): behindInMarks op b=false:=by
 have e1:(op==CmpOp.In)=false:=by cases op <;> first|rfl|exact absurd rfl h
 have e2:(op==CmpOp.NotIn)=false:=by cases op <;> first|rfl|exact absurd rfl h2
 cases b <;> simp [behindInMarks,e1,e2]
variable{tA tB':TT}{rest:List Expr}
def z13(t u:TT): TT:=fun σ H Q=>t σ H fun c H1=>if c=true then u σ H1 Q else Q false H1
def tOr(t u:TT): TT:=fun σ H Q=>t σ H fun c H1=>if c=true then Q true H1 else u σ H1 Q
def z14(t:TT): TT:=fun σ H Q=>t σ H fun c H1=>Q (!c) H1
theorem qu7(ha:PT X a tA): PW X (.BoolOp .And [a] pos) tA:=by
 intro wh pins s σ H Q I h;refine isTrue_and (thn (ha pins s σ H Q I h) fun c s1 e=>?_);cases c with
 | true=>exact isTrue_and_nil e
 | false=>exact e
theorem qn5(ha:PT X a tA): PW X (.BoolOp .Or [a] pos) tA:=by
 intro wh pins s σ H Q I h;refine isTrue_or (thn (ha pins s σ H Q I h) fun c s1 e=>?_);cases c with
 | false=>exact isTrue_or_nil e
 | true=>exact e
theorem qwm(ha:PT X a tA)(hb:PW X (.BoolOp .And (b :: rest) pos) tB'): PW X (.BoolOp .And (a :: b :: rest) pos) (z13 tA tB'):=by
 intro wh pins s σ H Q I h;refine isTrue_and (thn (ha pins s σ H _ I h) fun c s1 ⟨H1,I1,q1⟩=>?_);cases c with
 | true=>exact hb wh pins s1 σ H1 Q I1 q1
 | false=>exact⟨H1,I1,q1⟩
theorem qtc(ha:PT X a tA)(hb:PW X (.BoolOp .Or (b :: rest) pos) tB'): PW X (.BoolOp .Or (a :: b :: rest) pos) (tOr tA tB'):=by
 intro wh pins s σ H Q I h;refine isTrue_or (thn (ha pins s σ H _ I h) fun c s1 ⟨H1,I1,q1⟩=>?_);cases c with
 | true=>exact⟨H1,I1,q1⟩
 | false=>exact hb wh pins s1 σ H1 Q I1 q1
theorem qn6(ha:PT X a tA): PT X (.UnaryOp .Not a pos) (z14 tA):=by
 intro pins s σ H Q I h;exact isTrue_not (ha pins s σ H (fun c H1=>Q (!c) H1) I h)
def qzr(ta tb:TE): TE:=fun σ H Q=>ta σ H fun x H1=>∃c,x=.bl c/\if c=true then tb σ H1 Q else Q (.bl false) H1
def qzs(ta:TE): TE:=fun σ H Q=>ta σ H fun x H1=>∃c,x=.bl c/\Q (.bl (!c)) H1
theorem qn7{op}{t:TE}(h:PE X a t): PE X (.BoolOp op [a] pos) t:=fun pins s σ H Q I hw=>BoolOp_one (h pins s σ H Q I hw)
theorem qn8(ha:PE X a ta)(hb:PE X (.BoolOp .And (b :: rest) pos) tb): PE X (.BoolOp .And (a :: b :: rest) pos) (qzr ta tb):=by
 intro pins s σ H Q I h;refine BoolOp_and (thn (ha pins s σ H _ I h) fun v s1 ⟨x,H1,I1,r1,q1⟩=>?_);obtain⟨c,rfl,q1⟩:=q1;cases r1;refine g0h ?_;cases c with
 | true=>exact hb pins s1 σ H1 Q I1 q1
 | false=>exact⟨.bl false,H1,I1,rfl,q1⟩
theorem qwn(ha:PE X a ta): PE X (.UnaryOp .Not a pos) (qzs ta):=by
 intro pins s σ H Q I h;refine UnaryOp_ (thn (ha pins s σ H _ I h) fun v s1 ⟨x,H1,I1,r1,q1⟩=>?_);obtain⟨c,rfl,q1⟩:=q1;cases r1;exact not_of (g0h ⟨.bl (!c),H1,I1,rfl,q1⟩)
def tIf(t:TT)(ta tb:TE): TE:=fun σ H Q=>t σ H fun c H1=>if c=true then ta σ H1 Q else tb σ H1 Q
theorem qq0{c:Expr}(hc:PT X c tA)(ha:PE X a ta)(hb:PE X b tb): PE X (.IfExp c a b pos) (tIf tA ta tb):=by
 intro pins s σ H Q I h;refine wpAny_IfExp (thn (hc pins s σ H _ I h) fun d s1 ⟨H1,I1,q1⟩=>?_);cases d with
 | true=>exact ha pins s1 σ H1 Q I1 q1
 | false=>exact hb pins s1 σ H1 Q I1 q1
end
def SqL(K:PySem.W.Frag)(H:Hp)(a:Addr)(xs:List V): Prop:=
 Rd H a (.lst xs) \/
  ∃(o:Obj) (its:Array Value) (n:Nat),K.lookup a=some o/\o.cls=.type "list" /\ o.dict=none/\o.data=.seq its n/\its.size<=sizeLine/\Vals xs its.toList
def SqT(K:PySem.W.Frag)(H:Hp)(a:Addr)(xs:List V): Prop:=
 Rd H a (.tup xs) \/
  ∃(o:Obj) (its:Array Value) (n:Nat),K.lookup a=some o/\o.cls=.type "tuple" /\ o.dict=none/\o.data=.seq its n/\its.size<=sizeLine/\Vals xs its.toList
def z15:Value->Option V
 | .none=>some .non
 | .bool b=>some (.bl b)
 | .int i _=>some (.int i)
 | .str x _=>some (.str x)
 | .bytes b _=>some (.byt b)
 | .float b _=>some (.flt b)
 | .ref a=>some (.ref a)
 | .type n=>some (.ty n)
 | _=>none
theorem RelV.abs{x:V}{u:Value}(r:RelV x u): z15 u=some x:=by
 cases x with
 | non=>cases r;rfl
 | bl _=>cases r;rfl
 | int _=>obtain⟨t,rfl⟩:=r;rfl
 | str _=>obtain⟨t,rfl⟩:=r;rfl
 | byt _=>obtain⟨t,rfl⟩:=r;rfl
 | flt _=>obtain⟨t,rfl⟩:=r;rfl
 | ref _=>cases r;rfl
 | ty _=>cases r;rfl
theorem RelV.inj{x y:V}{u:Value}(r:RelV x u)(q:RelV y u): x=y:=mr (r.abs.symm.trans q.abs)
theorem Vals.inj:∀ {xs ys:List V} {us:List Value},Vals xs us->Vals ys us->xs=ys
 | _,_,_,.nil,.nil=>rfl
 | _,_,_,.cons r t,.cons r' t'=>by rw [r.inj r',Vals.inj t t']
section
variable{X:Cx}{pins:Td}{σ : St}{H:Hp}{s:Shared}{a:Addr}{xs ys:List V}
theorem SqL.of{K:PySem.W.Frag}(h:H a=some (.lst xs)): SqL K H a xs:=.inl (.inl h)
theorem SqT.of{K:PySem.W.Frag}(h:H a=some (.tup xs)): SqT K H a xs:=.inl (.inl h)
theorem Inv.list(I:Inv X pins σ H s)(h:SqL X.K H a xs): ∃its:List Value,Vals xs its/\PlainL s.heap a its.toArray/\xs.length<=sizeLine:=by
 rcases h with h|⟨o,its,n,hk,hc,hd,hs,hz,r⟩
 ·obtain⟨z,its,n,r,e⟩:=h.ok I.hok
  exact⟨its,r,⟨_,n,e,rfl,rfl,rfl⟩,z⟩
 ·refine⟨its.toList,r,⟨o,n,I.kIn a o hk,hc,hd,by simpa using hs⟩,?_⟩
  have e:=r.length;simp only [g0l] at e;omega
theorem Inv.tupleX(I:Inv X pins σ H s)(h:SqT X.K H a xs): ∃its:List Value,Vals xs its/\TupX s.heap a its.toArray/\xs.length<=sizeLine:=by
 rcases h with h|⟨o,its,n,hk,hc,hd,hs,hz,r⟩
 ·obtain⟨z,its,r,p⟩:=h.ok I.hok
  exact⟨its,r,p,z⟩
 ·refine⟨its.toList,r,⟨o,I.kIn a o hk,hc,hd,n,by simpa using hs⟩,?_⟩
  have e:=r.length;simp only [g0l] at e;omega
theorem Inv.tuple(I:Inv X pins σ H s)(h:SqT X.K H a xs): ∃its:List Value,Vals xs its/\IsTup s.heap a its.toArray/\xs.length<=sizeLine:=let⟨its,r,p,z⟩:=I.tupleX h; ⟨its,r,p.up,z⟩
theorem Inv.list_inj(I:Inv X pins σ H s)(h:SqL X.K H a xs)(h':SqL X.K H a ys): xs=ys:=by
 obtain⟨its,r,⟨o,n,e,_,_,d⟩,_⟩:=I.list h;obtain⟨its',r',⟨o',n',e',_,_,d'⟩,_⟩:=I.list h';rw [e] at e';cases e';rw [d] at d';injection d' with d1 _
 have:its=its':=by simpa using ui Array.toList d1
 subst this;exact r.inj r'
theorem Inv.tuple_inj(I:Inv X pins σ H s)(h:SqT X.K H a xs)(h':SqT X.K H a ys): xs=ys:=by
 obtain⟨its,r,⟨o,e,_,n,d⟩,_⟩:=I.tuple h;obtain⟨its',r',⟨o',e',_,n',d'⟩,_⟩:=I.tuple h';rw [e] at e';cases e';rw [d] at d';injection d' with d1 _
 have:its=its':=by simpa using ui Array.toList d1
 subst this;exact r.inj r'
end
abbrev Cx.wish(X:Cx)(E:Ta): Cx:={X with xe:=E}
abbrev Cx.nox(X:Cx): Cx:=X.wish fun _ _=>False
theorem Cx.Ok.wish{X:Cx}(ok:X.Ok)(E:Ta): (X.wish E).Ok:=
 ⟨ok.mod,ok.kind,ok.glob,ok.blt,ok.above,ok.inj,ok.has,ok.cab,ok.hd,ok.frames,ok.stk,ok.exf,ok.bs,ok.bsz,ok.noex,ok.exfs,ok.funs,ok.frf⟩
theorem Cx.Ok.unwish{X:Cx}{E:Ta}(ok:(X.wish E).Ok): X.Ok:=
 ⟨ok.mod,ok.kind,ok.glob,ok.blt,ok.above,ok.inj,ok.has,ok.cab,ok.hd,ok.frames,ok.stk,ok.exf,ok.bs,ok.bsz,ok.noex,ok.exfs,ok.funs,ok.frf⟩
section
variable{X:Cx}{pins:Td}{σ : St}{H:Hp}{s:Shared}{E:Ta}
theorem Inv.wish(I:Inv X pins σ H s)(E:Ta): Inv (X.wish E) pins σ H s:=⟨I.ok.wish E,I.os,I.bare,I.base,I.loc,I.cell,I.free,I.freeC,I.pin,I.hok,I.len⟩
theorem Inv.unwish(I:Inv (X.wish E) pins σ H s): Inv X pins σ H s:=⟨I.ok.unwish,I.os,I.bare,I.base,I.loc,I.cell,I.free,I.freeC,I.pin,I.hok,I.len⟩
theorem SP.unwish{D:Ends}{f:Flow}{s':Shared}(h:SP (X.wish E) pins D f s'): SP X pins D f s':=by
 cases f with
 | next=>obtain⟨σ',H',I,q⟩:=h;exact⟨σ',H',I.unwish,q⟩
 | brk=>obtain⟨σ',H',I,q⟩:=h;exact⟨σ',H',I.unwish,q⟩
 | cont=>obtain⟨σ',H',I,q⟩:=h;exact⟨σ',H',I.unwish,q⟩
 | ret u=>obtain⟨v, σ',H',I,r,q⟩:=h;exact⟨v, σ',H',I.unwish,r,q⟩
theorem PT.nox{e:Expr}{t:TT}(h:PT X.nox e t): PT X e t:=fun pins s σ H Q I hw=>
 nu (h pins s σ H Q (I.wish _) hw) (fun _ _ ⟨H',I',q⟩=>⟨H',I'.unwish,q⟩) fun _ _ z=>False.elim z
theorem PSs.nox{st:List Stmt}{t:TS}(h:PSs X.nox st t): PSs X st t:=fun pins s σ H D I hw=>
 nu (h pins s σ H D (I.wish _) hw) (fun _ _ q=>q.unwish) fun _ _ z=>False.elim z
end
section
variable{X:Cx}{st:Stmt}{rest:List Stmt}{t u:TS}{e:Expr}{te:TE}{pos:Pos}
def tNext:TS:=fun D σ H=>D.nx σ H
def z16(t u:TS): TS:=fun D σ H=>t {D with nx:=u D} σ H
theorem qu8:PSs X [] tNext:=fun _ _ σ H _ I h=>g28 ⟨σ,H,I,h⟩
theorem qg4(h1:PS X st t)(h2:PSs X rest u): PSs X (st :: rest) (z16 t u):=by
 intro pins s σ H D I h;refine g21 (thn (h1 pins s σ H {D with nx:=u D} I h) fun f s1 q=>?_);cases f with
 | next=>
  obtain⟨σ',H',I',q⟩:=q;exact h2 pins s1 σ' H' D I' q
 | ret v=>exact q
 | brk=>exact q
 | cont=>exact q
theorem qd2(h1:PS X st t): PSs X [st] t:=by
 intro pins s σ H D I h;refine g21 (thn (h1 pins s σ H D I h) fun f s1 q=>?_);cases f with
 | next=>exact g28 q
 | ret v=>exact q
 | brk=>exact q
 | cont=>exact q
theorem Inv.quiet{pins:Td}{σ : St}{H:Hp}{s:Shared}(I:Inv X pins σ H s): interactive X.env=false:=by simp [interactive,I.ok.kind]
def qzt(te:TE): TS:=fun D σ H=>te σ H fun _ H1=>D.nx σ H1
theorem q4j(he:PE X e te)(hs:swapsWith e none pos.line X.env=pure false:=by rfl): PS X (.Expr e pos) (qzt te):=by
 intro pins s σ H D I h;exact wpAny_Expr_any (thn (he pins s σ H _ I h) fun v s1 ⟨x,H1,I1,r1,q1⟩=>⟨σ,H1,I1,q1⟩) I.quiet hs
def z17(te:TE): TS:=fun D σ H=>te σ H D.rt
theorem qn9(he:PE X e te): PS X (.Return (some e) pos) (z17 te):=by
 intro pins s σ H D I h;exact wpAny_Return_some (thn (he pins s σ H _ I h) fun v s1 ⟨x,H1,I1,r1,q1⟩=>⟨x, σ,H1,I1,r1,q1⟩)
def z18(c:TT)(t u:TS): TS:=fun D σ H=>c σ H fun b H1=>if b=true then t D σ H1 else u D σ H1
theorem qfl{c:Expr}{a b:List Stmt}{tc:TT}(hc:PT X c tc)(ha:PSs X a t)(hb:PSs X b u): PS X (.If c a b pos) (z18 tc t u):=by
 intro pins s σ H D I h;refine wpAny_If (thn (hc pins s σ H _ I h) fun d s1 ⟨H1,I1,q1⟩=>?_);cases d with
 | true=>exact ha pins s1 σ H1 D I1 q1
 | false=>exact hb pins s1 σ H1 D I1 q1
end
abbrev TG:=V->St->Hp->(St->Hp->Prop)->Prop
abbrev TGs:=List V->St->Hp->(St->Hp->Prop)->Prop
def PG(X:Cx)(target:Expr)(t:TG): Prop:=
 ∀(pins:Td) (s:Shared) (σ : St) (H:Hp) (v:V) (u:Value) (Q:St->Hp->Prop),Inv X pins σ H s->RelV v u->t v σ H Q ->
  wpAny (model X.prog X.w) X.A (assign target X.env u) (fun _ s'=>∃ σ' H',Inv X pins σ' H' s'/\Q σ' H') X.xe s
def PGs(X:Cx)(ts:List Expr)(t:TGs): Prop:=
 ∀(pins:Td) (s:Shared) (σ : St) (H:Hp) (vs:List V) (us:List Value) (Q:St->Hp->Prop),Inv X pins σ H s->Vals vs us->t vs σ H Q ->
  wpAny (model X.prog X.w) X.A (assignInOrder ((assignEach ts X.env).map (·.2)) us) (fun _ s'=>∃ σ' H',Inv X pins σ' H' s'/\Q σ' H') X.xe s
abbrev TSet:=V->V->V->Hp->(Hp->Prop)->Prop
def qwo(X:Cx)(t:TSet): Prop:=
 ∀(pins:Td) (s:Shared) (σ : St) (H:Hp) (o i v:V) (ov iv u:Value) (Q:Hp->Prop),Inv X pins σ H s->RelV o ov->RelV i iv->RelV v u->t o i v H Q ->
  wpAny (model X.prog X.w) X.A (setItem ov iv u) (fun _ s'=>∃H',Inv X pins σ H' s'/\Q H') X.xe s
abbrev TIp:=V->V->Hp->VK->Prop
def PIp(X:Cx)(op:Operator)(t:TIp): Prop:=
 ∀(pins:Td) (s:Shared) (σ : St) (H:Hp) (x y:V) (v u:Value) (Q:VK),Inv X pins σ H s->RelV x v->RelV y u->t x y H Q ->
  wpAny (model X.prog X.w) X.A (inplaceOp op v u) (EP X pins σ Q) X.xe s
section
variable{X:Cx}{pos:Pos}
def q8h(i:Nat): TG:=fun v σ H Q=>Q (σ.set i (some v)) H
theorem qu9{i:Nat}{x:Str}(hN:X.N.Nodup)(hi:X.N[i]? = some x)(hx:Loc X.env.scope x)(hf:X.fn x=true\/X.env.scope.names.lookup x=some .local:=by first|exact .inl rfl|exact .inr rfl|assumption): PG X (.Name x pos) (q8h i):=by
 intro pins s σ H v u Q I r h;exact wpAny_assign_Name (q5a I hN hi hx r (fun s' I'=>⟨_,H,I',h⟩) hf)
def gNil:TGs:=fun vs σ H Q=>vs=[]/\Q σ H
def qzu(t:TG)(u:TGs): TGs:=fun vs σ H Q=>∃v r,vs=v :: r/\t v σ H fun σ' H'=>u r σ' H' Q
theorem qua:PGs X [] gNil:=by
 intro pins s σ H vs us Q I r h;obtain⟨e,h⟩:=h;subst e;cases r;exact assignInOrder_nil ⟨σ,H,I,h⟩
theorem qq1{e:Expr}{es:List Expr}{t:TG}{u:TGs}(h1:PG X e t)(h2:PGs X es u)
  (hs:(assignEach (e :: es) X.env).map (·.2)=assign e X.env :: (assignEach es X.env).map (·.2):=by rfl):PGs X (e :: es) (qzu t u):=by
 intro pins s σ H vs us Q I r h;obtain⟨v,vr,e1,h⟩:=h;subst e1;cases r with
 | cons r rr=>
  rw [hs];refine assignInOrder_cons (thn (h1 pins s σ H _ _ _ I r h) fun _ s1 ⟨σ1,H1,I1,q1⟩=>?_);exact h2 pins s1 σ1 H1 _ _ Q I1 rr q1
def z19(K:PySem.W.Frag)(n:Nat)(t:TGs): TG:=fun v σ H Q=>∃a xs,v=.ref a/\SqT K H a xs/\xs.length=n/\t xs σ H Q
theorem qwp{es:List Expr}{k:Nat}{t:TGs}{n:Nat}(hc:X.calm=true)(h:PGs X es t)
  (hn:(assignEach es X.env).length=n:=by rfl) (hst:(assignEach es X.env).findIdx? (·.1)=none:=by rfl):PG X (.Tuple es k pos) (z19 X.K n t):=by
 intro pins s σ H v u Q I r hw;obtain⟨a,xs,e1,hq,hl,hw⟩:=hw;subst e1;cases r;obtain⟨its,rv,ht,hz⟩:=I.tuple hq;refine assign_Tuple_tuple (I.ok.hd hc) ht (by simp [hn, <- hl,rv.length]) hst fun h' hx=>?_;have I1:Inv X pins σ H {s with heap:=h'}:=I.kept (t':=s.toks) fun b o e=>hx b o (m4 (gu e)) e;exact h pins _ σ H xs _ Q I1 (by simpa using rv) hw
def z1a(to ti:TE)(t:TSet): TG:=fun v σ H Q=>to σ H fun o H1=>ti σ H1 fun i H2=>t o i v H2 fun H3=>Q σ H3
theorem qwq{o i:Expr}{to ti:TE}{t:TSet}(ho:PE X o to)(hi:PE X i ti)(hs:qwo X t)
  (ha:∀v,assign (.Subscript o i pos) X.env v=(do
   let ov <- holding [v] (eval o X.env)
   let iv <- holding [v,ov] (eval i X.env)
   standAt pos
   holding [v,ov,iv] (setItem ov iv v)
   release [v,ov,iv] []):=by intro _;rfl):PG X (.Subscript o i pos) (z1a to ti t):=by
 intro pins s σ H v u Q I r h;rw [ha];refine g9 (nr (thn (ho pins s σ H _ I h) fun ov s1 ⟨x,H1,I1,r1,q1⟩=>?_));refine g9 (nr (thn (hi pins s1 σ H1 _ I1 q1) fun iv s2 ⟨y,H2,I2,r2,q2⟩=>?_));refine g9 (g2y (g9 (nr (thn (hs pins s2 σ H2 x y v ov iv u _ I2 r1 r2 r q2) fun _ s3 ⟨H3,I3,q3⟩=>?_))));exact wpAny_release ⟨σ,H3,I3,q3⟩
def qq2(te:TE)(g:TG): TS:=fun D σ H=>te σ H fun x H1=>g x σ H1 D.nx
theorem qna{tg e:Expr}{te:TE}{g:TG}(he:PE X e te)(hg:PG X tg g)(hs:swapsWithSole [tg] e pos.line X.env=pure false:=by rfl)(hw:swappedStores [tg] e X.env=pure none:=by rfl)
  (h1:(assignEach [tg] X.env).map (·.2)=[assign tg X.env]:=by rfl):PS X (.Assign [tg] e pos) (qq2 te g):=by
 intro pins s σ H D I h;refine wpAny_Assign_stores (thn (he pins s σ H _ I h) fun v s1 ⟨x,H1,I1,r1,q1⟩=>?_) hs hw;rw [h1];exact thn (hg pins s1 σ H1 x v _ I1 r1 q1) fun _ s2 q=>q
theorem qaz{i:Nat}{x:Str}{e:Expr}{te:TE}{pos':Pos}(hN:X.N.Nodup)(hi:X.N[i]? = some x)(hx:Loc X.env.scope x)(he:PE X e te)(hs:swapsWith e (some (.Name x pos')) pos.line X.env=pure false:=by rfl)(hf:X.fn x=true\/X.env.scope.names.lookup x=some .local:=by first|exact .inl rfl|exact .inr rfl|assumption):
  PS X (.Assign [.Name x pos'] e pos) (qq2 te (q8h i)):=by
 intro pins s σ H D I h;refine wpAny_Assign_Name (thn (he pins s σ H _ I h) fun v s1 ⟨y,H1,I1,r1,q1⟩=>?_) hs;exact q5a I1 hN hi hx r1 (fun s2 I2=>⟨_,H1,I2,q1⟩) hf
def qwr(i:Nat)(te:TE)(ti:TIp): TS:=fun D σ H=>∃x, σ[i]? = some (some x)/\te σ H fun y H1=>ti x y H1 fun z H2=>D.nx (σ.set i (some z)) H2
theorem qws{i:Nat}{x:Str}{e:Expr}{te:TE}{op:Operator}{ti:TIp}{pos':Pos}(hN:X.N.Nodup)(hi:X.N[i]? = some x)(hx:Loc X.env.scope x)(he:PE X e te)(ho:PIp X op ti)(hf:X.fn x=true\/X.env.scope.names.lookup x=some .local:=by first|exact .inl rfl|exact .inr rfl|assumption):
  PS X (.AugAssign (.Name x pos') op e pos) (qwr i te ti):=by
 intro pins s σ H D I h;obtain⟨v,e1,h⟩:=h;obtain⟨m,hn,hl⟩:=I.loc;have vis:Vis X.env.scope x:=by rcases hx with k|k;exact .inl k;exact .inr (.inl k)
 obtain⟨u,r,l⟩:=hl i x v hi e1 vis;refine wpAny_AugAssign_Name ?_;have go:wpAny (model X.prog X.w) X.A (eval e X.env) (fun w s₂=>wpAny (model X.prog X.w) X.A (inplaceOp op u w) (fun r s₃=>wpAny (model X.prog X.w) X.A (storeName X.env x r) (fun _=>SP X pins D .next) X.xe s₃) X.xe s₂) X.xe s:=by
  refine thn (he pins s σ H _ I h) fun w s1 ⟨y,H1,I1,r1,q1⟩=>?_;refine thn (ho pins s1 σ H1 v y u w _ I1 r r1 q1) fun z s2 ⟨zv,H2,I2,r2,q2⟩=>?_;exact q5a I2 hN hi hx r2 (fun s3 I3=>⟨_,H2,I3,q2⟩) hf
 rcases l with⟨hk,hm⟩|⟨hk,c,hc,hcell⟩
 ·exact wpAny_loadName_local I.ok.kind hk hn hm go
 ·rcases hk with hk|hk
  ·exact wpAny_loadName_cell I.ok.kind hk hc hcell go
  ·rcases hx with k|k
   ·have:X.env.scope.names.lookup x=some .free:=hk
    rw [k] at this;cases this
   ·have:X.env.scope.names.lookup x=some .free:=hk
    rw [k] at this;cases this
def ipI(f:Int->Int->Int): TIp:=fun x y H Q=>∃i j,x=.int i/\y=.int j/\Q (.int (f i j)) H
theorem qwt:PIp X .Sub (ipI fun i j=>i-j):=by
 intro pins s σ H x y v u Q I r1 r2 h;obtain⟨i,j,e1,e2,q⟩:=h;subst e1;subst e2;obtain⟨t,rfl⟩:=r1;obtain⟨t',rfl⟩:=r2;exact isub_int ⟨.int _,H,I.tok _,⟨_,rfl⟩,q⟩
end
section
variable{X:Cx}{pos:Pos}
def qwu(c:TT)(tb:TS): TS:=fun D σ H=>∃W:Nat->St->Hp->Prop,(∃m,W m σ H)/\∀m σ H,W m σ H ->
 c σ H fun b H1=>if b=true then ∃N:St->Hp->Prop,(∀ σ' H',N σ' H'->∃m',m'<m/\W m' σ' H')/\tb {D with nx:=N,ct:=N,bk:=D.nx} σ H1 else D.nx σ H1
theorem qq3{c:Expr}{body:List Stmt}{tc:TT}{tb:TS}(hp:PassesOwn (model X.prog X.w) X.A X.env X.xe)(hc:PT X c tc)(hb:PSs X body tb): PS X (.While c body [] pos) (qwu tc tb):=by
 intro pins s σ H D I h;obtain⟨W,⟨m0,w0⟩,turn⟩:=h;refine wpAny_While (codeAny_whileLoop (fun n s'=>∃ σ' H',Inv X pins σ' H' s'/\W n σ' H') ?_ m0 ⟨σ,H,I,w0⟩)
 rintro n s1 ⟨σ1,H1,I1,w1⟩
 refine g0x hp (thn (hc pins s1 σ1 H1 _ I1 (turn n σ1 H1 w1)) fun b s2 ⟨H2,I2,q2⟩=>?_);cases b with
 | true=>
  obtain⟨N,hN,q2⟩:=q2;rw [gw rfl];refine g0x hp (thn (hb pins s2 σ1 H2 _ I2 q2) fun f s3 q3=>?_);cases f with
  | next=>
   obtain⟨σ3,H3,I3,n3⟩:=q3;obtain⟨m',hm,w3⟩:=hN σ3 H3 n3;exact⟨m',hm, σ3,H3,I3,w3⟩
  | cont=>
   obtain⟨σ3,H3,I3,n3⟩:=q3;obtain⟨m',hm,w3⟩:=hN σ3 H3 n3;exact⟨m',hm, σ3,H3,I3,w3⟩
  | brk=>exact q3
  | ret v=>exact q3
 | false=>
  rw [mf gy];exact g28 ⟨σ1,H2,I2,q2⟩
end
structure It where
 go:Nat->Hp->Prop
 yld:Nat->Hp->V->Hp->Prop
 stop:Nat->Hp->Prop
def q09(X:Cx)(pins:Td)(H:Hp)(b:Addr): Prop:=
 H b=none/\b≠X.env.locals/\b∉X.fs/\(b∈X.ex\/X.s₀.heap.objs.size<=b)/\(∀x c,X.env.cells.lookup x=some c->c≠b)/\∀p∈X.pn++pins,p.1≠b
theorem Inv.fpOk{X:Cx}{pins:Td}{σ : St}{H H':Hp}{s:Shared}{b:Addr}(I:Inv X pins σ H s)(hb:s.heap.objs.size<=b)(hn:H' b=none): q09 X pins H' b:=by
 refine⟨hn,pd (gx I.lt hb),I.nofs hb,.inr (mi I.sz hb),fun x c e z=>?_,fun p hp z=>?_⟩
 ·obtain⟨v,q⟩:=I.cell x c e
  exact absurd (gx q.lt (by rw [z];exact hb)) (ua _)
 ·exact absurd (gx (gu (I.pin p hp).1) (by rw [z];exact hb)) (ua _)
structure Turn(P:Program)(w:World)(K:PySem.W.Frag)(tg:Expr)(J:It)(fp:List Addr)(it:Addr)(tn:Nat->Heap->Prop): Prop where
 mem:it∈fp
 obj:∀i h,tn i h->∀b∈fp,∃o,h.get? b=some o/\∀v,o.data ≠ .cell v
 keep:∀i h h',tn i h->(∀b∈fp,∀o,h.get? b=some o->h'.get? b=some o)->tn i h'
 item:∀(X:Cx),X.prog=P->X.w=w->X.K=K->X.calm=true->∀(i:Nat) (pins:Td) (s:Shared) (σ : St) (H:Hp) (E:Ta),Inv X pins σ H s->(∀b∈fp,q09 X pins H b)->tn i s.heap->J.go i H ->
  wpAny (model P w) X.A (pyNext (.ref it)) (fun r s1=>∃u,r=some u /\
   wpAny (model P w) X.A (letOwnedTupleGo tg (.ref it) u) (fun _ s2=>∃x H',Inv X pins σ H' s2/\RelV x u/\J.yld i H x H'/\tn (i+1) s2.heap/\∀b∈fp,H' b=none) E s1) E s
 done:∀(X:Cx),X.prog=P->X.w=w->X.K=K->X.calm=true->∀(i:Nat) (pins:Td) (s:Shared) (σ : St) (H:Hp) (E:Ta),Inv X pins σ H s->(∀b∈fp,q09 X pins H b)->tn i s.heap->J.stop i H ->
  wpAny (model P w) X.A (pyNext (.ref it)) (fun r s1=>r=none/\Inv X pins σ H s1) E s
 self:∀(A:Around) (i:Nat) (s:Shared) (Q:Ta) (E:Ta),tn i s.heap->Q (.ref it) s->wpAny (model P w) A (pyIter (.ref it)) Q E s
abbrev TI:=St->Hp->(It->Hp->Prop)->Prop
def PIE(X:Cx)(pins:Td)(σ : St)(tg:Expr)(R:It->Hp->Prop)(itv:Value)(s2:Shared): Prop:=
 ∃(it:Addr) (fp:List Addr) (tn:Nat->Heap->Prop) (J:It) (H':Hp),itv=.ref it/\Inv X pins σ H' s2/\Turn X.prog X.w X.K tg J fp it tn/\tn 0 s2.heap/\(∀b∈fp,q09 X pins H' b)/\R J H'
def PI(X:Cx)(tg iter:Expr)(wi:TI): Prop:=
 ∀(pins:Td) (s:Shared) (σ : St) (H:Hp) (R:It->Hp->Prop),Inv X pins σ H s->wi σ H R ->
  wpAny (model X.prog X.w) X.A (eval iter X.env) (fun v s1=>wpAny (model X.prog X.w) X.A (pyIter v) (PIE X pins σ tg R) X.xe s1) X.xe s
theorem qle{M:Model}{A:Around}{E:Ta}{s:Shared}{tg:Expr}{it:Addr}{u:Value}{o:Obj}{n:String}{vs:Array Value}{Q:Unit->Shared->Prop}(ho:s.heap.get? it=some o)(hc:o.cls=.type n)(hd:o.data=.fields vs)
  (hn:["enumerate","zip","dict_itemiterator","dict_reverseitemiterator","odict_iterator","itertools.zip_longest","itertools.pairwise"].contains n=false) (hQ:Q () s):wpAny M A (letOwnedTupleGo tg (.ref it) u) Q E s:=by
 unfold letOwnedTupleGo;cases tg <;> first
  | exact gf hQ
  | (cases u <;> first
    | exact gf hQ
    | (refine g9 (wpAny_load ho ?_);rw [hc,hd];show wpAny M A (if(["enumerate","zip","dict_itemiterator","dict_reverseitemiterator","odict_iterator","itertools.zip_longest","itertools.pairwise"].contains n&&vs[0]? == some (rawInt _))=true then _ else _) Q E s;rw [mf (by intro h;rw [hn,g3q] at h;cases h)];exact gf hQ))
def Itl(K:PySem.W.Frag)(a:Addr): It:=
 ⟨fun i H=>∃xs x,SqL K H a xs/\xs[i]? = some x,fun i H x H'=>H'=H/\∀xs,SqL K H a xs->xs[i]? = some x,fun i H=>∃xs,SqL K H a xs/\xs.length<=i⟩
def Itt(K:PySem.W.Frag)(a:Addr): It:=
 ⟨fun i H=>∃xs x,SqT K H a xs/\xs[i]? = some x,fun i H x H'=>H'=H/\∀xs,SqT K H a xs->xs[i]? = some x,fun i H=>∃xs,SqT K H a xs/\xs.length<=i⟩
def Itr(lo:Int)(n:Nat): It:=⟨fun i _=>i<n,fun i H x H'=>H'=H/\x=.int (lo+i),fun i _=>n<=i⟩
theorem qnb{P:Program}{w:World}{K:PySem.W.Frag}{tg:Expr}(a it:Addr): Turn P w K tg (Itl K a) [it] it (fun i h=>h.IsListIter it a i) where
 mem:=by simp
 obj:=fun i h st b hb=>by
  have e:b=it:=by simpa using hb
  subst e;obtain⟨o,e,c,d⟩:=st;exact⟨o,e,fun v z=>by rw [d] at z;cases z⟩
 keep:=fun i h h' st k=>st.at fun o e=>k it (by simp) o e
 item:=by
  intro X hP hw hK hc i pins s σ H E I hf st hg;subst hP hw hK;obtain⟨xs,x,hq,hx⟩:=hg;obtain⟨its,rv,p,hz⟩:=I.list hq;obtain⟨u,hu,ru⟩:=rv.get hx;obtain⟨f0,f1,f2,f3,f4,f5⟩:=hf it (by simp);refine wpAny_pyNext_list_item st p.isList (x:=u) (by simpa using hu) fun h' st' sb=>?_;have I1:Inv X pins σ H {s with heap:=h'}:=I.turned (t':=s.toks) (fun b o hb e=>(sb.2 b hb).trans e) f0 f1 f3 f4 f5;obtain⟨o,e,c,d⟩:=id st';exact⟨u,rfl,qle (s:={s with heap:=h'}) e c d (by decide) ⟨x,H,I1,ru,⟨rfl,fun ys hy=>by rw [I.list_inj hy hq];exact hx⟩,st',fun b hb=>(hf b hb).1⟩⟩
 done:=by
  intro X hP hw hK hc i pins s σ H E I hf st hg;subst hP hw hK;obtain⟨xs,hq,hx⟩:=hg;obtain⟨its,rv,p,hz⟩:=I.list hq;obtain⟨f0,f1,f2,f3,f4,f5⟩:=hf it (by simp);have hl:=rv.length;exact wpAny_pyNext_list_end (I.ok.hd hc) st p.isList (by simp;omega) fun h' eb=>⟨rfl,I.turned (t':=s.toks) (fun b o hb e=>eb b o hb e) f0 f1 f3 f4 f5⟩
 self:=fun _ _ _ _ _ st h=>wpAny_pyIter_listiter st h
theorem qlf{P:Program}{w:World}{K:PySem.W.Frag}{tg:Expr}(a it:Addr): Turn P w K tg (Itt K a) [it] it (fun i h=>h.IsTupleIter it a i) where
 mem:=by simp
 obj:=fun i h st b hb=>by
  have e:b=it:=by simpa using hb
  subst e;obtain⟨o,e,c,d⟩:=st;exact⟨o,e,fun v z=>by rw [d] at z;cases z⟩
 keep:=fun i h h' st k=>st.at fun o e=>k it (by simp) o e
 item:=by
  intro X hP hw hK hc i pins s σ H E I hf st hg;subst hP hw hK;obtain⟨xs,x,hq,hx⟩:=hg;obtain⟨its,rv,p,hz⟩:=I.tuple hq;obtain⟨u,hu,ru⟩:=rv.get hx;obtain⟨f0,f1,f2,f3,f4,f5⟩:=hf it (by simp);refine wpAny_pyNext_tuple_item st (show s.heap.IsTuple a its.toArray from p) (x:=u) (by simpa using hu) fun h' st' sb=>?_;have I1:Inv X pins σ H {s with heap:=h'}:=I.turned (t':=s.toks) (fun b o hb e=>(sb.2 b hb).trans e) f0 f1 f3 f4 f5;obtain⟨o,e,c,d⟩:=id st';exact⟨u,rfl,qle (s:={s with heap:=h'}) e c d (by decide) ⟨x,H,I1,ru,⟨rfl,fun ys hy=>by rw [I.tuple_inj hy hq];exact hx⟩,st',fun b hb=>(hf b hb).1⟩⟩
 done:=by
  intro X hP hw hK hc i pins s σ H E I hf st hg;subst hP hw hK;obtain⟨xs,hq,hx⟩:=hg;obtain⟨its,rv,p,hz⟩:=I.tuple hq;obtain⟨f0,f1,f2,f3,f4,f5⟩:=hf it (by simp);have hl:=rv.length;exact wpAny_pyNext_tuple_end (I.ok.hd hc) st (show s.heap.IsTuple a its.toArray from p) (by simp;omega) fun h' eb=>⟨rfl,I.turned (t':=s.toks) (fun b o hb e=>eb b o hb e) f0 f1 f3 f4 f5⟩
 self:=fun _ _ _ _ _ st h=>wpAny_pyIter_tupleiter st h
theorem qlg{P:Program}{w:World}{K:PySem.W.Frag}{tg:Expr}(it:Addr)(lo:Int)(n:Nat): Turn P w K tg (Itr lo n) [it] it (fun i h=>IsRangeIter h it (lo+(i:Nat)*1) ((n:Int)-(i:Nat)) 1) where
 mem:=by simp
 obj:=fun i h st b hb=>by
  have e:b=it:=by simpa using hb
  subst e;exact⟨_,st,fun v z=>by
   have z':Data.fields _=Data.cell v:=z;cases z'⟩
 keep:=fun i h h' st k=>k it (by simp) _ st
 item:=by
  intro X hP hw hK hc i pins s σ H E I hf st hg;subst hP hw hK;obtain⟨f0,f1,f2,f3,f4,f5⟩:=hf it (by simp);have W:=Walks.range (prog:=X.prog) (w:=X.w) (I.ok.hd hc) it lo 1 n;refine W.item i s _ _ hg st fun v h' tk hv st' kk=>?_;obtain⟨t,rfl⟩:=hv;have I1:Inv X pins σ H {s with heap:=h',toks:=tk}:=I.turned (fun b o hb e=>kk b o (by simpa using hb) e) f0 f1 f3 f4 f5;refine⟨_,rfl,qle (s:={s with heap:=h',toks:=tk}) (n:="range_iterator") st' rfl rfl (by decide) ⟨.int (lo+i),H,I1,⟨t,?_⟩,⟨rfl,rfl⟩,st',fun b hb=>(hf b hb).1⟩⟩;rw [Int.mul_one]
 done:=by
  intro X hP hw hK hc i pins s σ H E I hf st hg;subst hP hw hK;obtain⟨f0,f1,f2,f3,f4,f5⟩:=hf it (by simp);exact wpAny_pyNext_range_end (I.ok.hd hc) st (by have:n<=i:=hg;omega) fun h' eb=>⟨rfl,I.turned (t':=s.toks) (fun b o hb e=>eb b o hb e) f0 f1 f3 f4 f5⟩
 self:=fun _ _ _ _ _ st h=>wpAny_pyIter_rangeiter st h
section
variable{X:Cx}{tg:Expr}
theorem qg5{pins:Td}{σ : St}{H:Hp}{s:Shared}{R:It->Hp->Prop}{E:Ta}{lo hi:Int}{t u v:Tok}{tk:Nat}(I:Inv X pins σ H s)(h1 : -(2 ^ 62)<=lo)(h2:lo<2 ^ 62)(h3 : -(2 ^ 62)<=hi)(h4:hi<2 ^ 62)
  (q:R (Itr lo (hi-lo).toNat) H):wpAny (model X.prog X.w) X.A (pyIter (.ref s.heap.objs.size)) (PIE X pins σ tg R) E {s with heap:=s.heap.push {cls:=.type "range",data:=.fields #[.int lo t,.int hi u,.int 1 v]},toks:=tk}:=by
 refine wpAny_pyIter_range (IsRange.new ..) (small_one h1 h2 h3 h4) ?_;have I1:Inv X pins σ H {s with heap:=s.heap.push {cls:=.type "range",data:=.fields #[.int lo t,.int hi u,.int 1 v]},toks:=tk}:=I.kept fun b o e=>gh _ e;refine⟨(s.heap.push {cls:=.type "range",data:=.fields #[.int lo t,.int hi u,.int 1 v]}).objs.size,[(s.heap.push {cls:=.type "range",data:=.fields #[.int lo t,.int hi u,.int 1 v]}).objs.size],_,_,H,rfl,
  I1.kept (t':=tk) fun b o e=>gh _ e,qlg _ lo (hi-lo).toNat,?_,fun b hb=>?_,q⟩
 ·have e1:lo+((0:Nat):Int)*1=lo:=by simp
  have e2:(((hi-lo).toNat:Nat):Int)-((0:Nat):Int)=Builtin.Range.rangeSize lo hi 1:=by rw [rangeSize_one];split <;> omega
  show IsRangeIter _ _ (lo+((0:Nat):Int)*1) ((((hi-lo).toNat:Nat):Int)-((0:Nat):Int)) 1;rw [e1,e2];exact gs _ rfl
 ·have e:b=(s.heap.push {cls:=.type "range",data:=.fields #[.int lo t,.int hi u,.int 1 v]}).objs.size:=by simpa using hb
  subst e;exact I1.fpOk (m6 _) (I1.hok.fresh (m6 _))
def qzv(ta:TA): TI:=fun σ H R=>ta σ H fun vs H1=>∃j:Int,vs=[.int j] /\ -(2 ^ 62)<=j/\j<2 ^ 62/\R (Itr 0 j.toNat) H1
def qzw(ta:TA): TI:=fun σ H R=>ta σ H fun vs H1=>∃i j:Int,vs=[.int i,.int j]/\(-(2 ^ 62)<=i/\i<2 ^ 62 /\ -(2 ^ 62)<=j/\j<2 ^ 62)/\R (Itr i (j-i).toNat) H1
theorem qnc{a:Expr}{ta:TA}{p pos:Pos}(hg:Gl X "range")(hm:X.mg "range" = none)(ha:PA X [a] ta)(hs:starEach [a] X.env=[(false,eval a X.env)]:=by rfl): PI X tg (.Call (.Name "range" p) [a] [] pos) (qzv ta):=by
 intro pins s σ H R I h;refine Call_ (q0n I hg hm boot_range (uf (thn (ha pos pins s σ H _ I h) fun us s1 ⟨vs,H1,I1,r1,q1⟩=>?_) hs rfl));obtain⟨j,e,q1,q2,q⟩:=q1;subst e;cases r1 with
 | cons r rr=>
  cases rr;obtain⟨t,rfl⟩:=r;exact call_range_1 (qg5 I1 (by omega) (by omega) q1 q2 (by simpa using q))
theorem qnd{a b:Expr}{ta:TA}{p pos:Pos}(hg:Gl X "range")(hm:X.mg "range" = none)(ha:PA X [a,b] ta)(hs:starEach [a,b] X.env=[(false,eval a X.env),(false,eval b X.env)]:=by rfl)(hs2:starEach [b] X.env=[(false,eval b X.env)]:=by rfl):
  PI X tg (.Call (.Name "range" p) [a,b] [] pos) (qzw ta):=by
 intro pins s σ H R I h;refine Call_ (q0n I hg hm boot_range (uf (thn (ha pos pins s σ H _ I h) fun us s1 ⟨vs,H1,I1,r1,q1⟩=>?_) (by rw [hs,hs2]) (by rw [hs2];rfl)));obtain⟨i,j,e,⟨q1,q2,q3,q4⟩,q⟩:=q1;subst e;cases r1 with
 | cons r rr=>
  cases rr with
  | cons r' rr=>
   cases rr;obtain⟨t,rfl⟩:=r;obtain⟨t',rfl⟩:=r';exact call_range_2 (qg5 I1 q1 q2 q3 q4 q)
def z1b(wi:TI)(g:TG)(tb:TS): TS:=fun D σ H=>wi σ H fun J H1=>∃W:Nat->Nat->St->Hp->Prop,(∃m,W 0 m σ H1)/\∀i m σ H,W i m σ H ->
 (J.stop i H/\D.nx σ H)\/(J.go i H/\∃N:St->Hp->Prop,(∀ σ' H',N σ' H'->∃m',m'<m/\W (i+1) m' σ' H')/\∀x H',J.yld i H x H'->g x σ H' fun σ2 H2=>tb {D with nx:=N,ct:=N,bk:=D.nx} σ2 H2)
def q4k(fp:List Addr)(h:Heap): Td:=fp.filterMap fun b=>(h.get? b).map fun o=>(b,o)
theorem q2c{fp:List Addr}{h:Heap}{b:Addr}{o:Obj}(hb:b∈fp)(e:h.get? b=some o): (b,o)∈q4k fp h:=g2c.mpr ⟨b,hb,by rw [e];rfl⟩
theorem qne{fp:List Addr}{h:Heap}{p:Addr×Obj}(hp:p∈q4k fp h): p.1∈fp/\h.get? p.1=some p.2:=by
 obtain⟨b,hb,e⟩:=g2c.mp hp;cases q:h.get? b with
 | none=>rw [q] at e;cases e
 | some o=>
  rw [q] at e;have e':(b,o)=p:=mr e;subst e';exact⟨hb,q⟩
theorem Inv.pinned{pins:Td}{σ : St}{H:Hp}{s:Shared}{fp:List Addr}(I:Inv X pins σ H s)(hf:∀b∈fp,q09 X pins H b)(ho:∀b∈fp,∃o,s.heap.get? b=some o/\∀v,o.data ≠ .cell v): Inv X (pins++q4k fp s.heap) σ H s:=
 I.pins_of fun p hp=>(ud.mp hp).elim (fun z=>I.pin p (nh _ z)) fun z=>by
  obtain⟨hb,e⟩:=qne z;obtain⟨f0,f1,f2,_⟩:=hf p.1 hb;obtain⟨o,e',d⟩:=ho p.1 hb;rw [e] at e';cases e';exact⟨e,f0,f1,f2,d⟩
theorem Inv.unpinned{pins pl:Td}{σ : St}{H:Hp}{s:Shared}(I:Inv X (pins++pl) σ H s): Inv X pins σ H s:=I.pins_of fun p hp=>I.pin p (nh _ (g20 _ hp))
theorem qwv{iter:Expr}{body:List Stmt}{wi:TI}{g:TG}{tb:TS}{pos:Pos}(hp:PassesOwn (model X.prog X.w) X.A X.env X.xe)(hc:X.calm=true)(hi:PI X tg iter wi)(hg:PG X tg g)(hb:PSs X body tb)
  (hs:∀x,foldedSetIterable iter X.env x=pure x:=by intro _;rfl):PS X (.For tg iter body [] pos) (z1b wi g tb):=by
 intro pins s σ H D I h;refine wpAny_For (thn (hi pins s σ H _ I h) fun v s1 h1=>thn h1 fun itv s2 h2=>?_) hs;obtain⟨it,fp,tn,J,H2,e,I2,T,st2,f2,W,⟨m0,w0⟩,turn⟩:=h2;subst e
 -- what stays true of the iterator's objects through the loop
 have stat:∀ {H':Hp},(∀b∈fp,H' b=none)->∀b∈fp,q09 X pins H' b:=fun hn b hb=>⟨hn b hb,(f2 b hb).2⟩
 refine codeAny_forLoop_any (fun n s'=>∃i σ' H',Inv X pins σ' H' s'/\tn i s'.heap/\(∀b∈fp,H' b=none)/\W i n σ' H') ?_ m0 ⟨0, σ,H2,I2,st2,fun b hb=>(f2 b hb).1,w0⟩
 rintro n s3 ⟨i, σ3,H3,I3,st3,fr3,w3⟩
 rcases turn i n σ3 H3 w3 with⟨stop,qn⟩|⟨go,N,hN,step⟩
 ·refine g0x hp (thn (T.done X rfl rfl rfl hc i pins s3 σ3 H3 X.xe I3 (stat fr3) st3 stop) fun r s4 ⟨hr,I4⟩=>?_)
  subst hr;exact g28 ⟨σ3,H3,I4,qn⟩
 ·refine g0x hp (thn (T.item X rfl rfl rfl hc i pins s3 σ3 H3 X.xe I3 (stat fr3) st3 go) fun r s4 ⟨u,hr,h4⟩=>?_)
  subst hr;refine g0x hp (thn h4 fun _ s5 ⟨x,H5,I5,r5,y5,st5,fr5⟩=>?_);have I5':=I5.pinned (stat fr5) (T.obj _ _ st5);refine g0x hp (thn (hg _ s5 σ3 H5 x u _ I5' r5 (step x H5 y5)) fun _ s6 ⟨σ6,H6,I6,q6⟩=>?_);refine g0x hp (thn (hb _ s6 σ6 H6 _ I6 q6) fun f s7 q7=>?_);have again:∀ {σ7:St} {H7:Hp},Inv X (pins++q4k fp s5.heap) σ7 H7 s7->N σ7 H7->∃m,m<n/\∃i σ' H',Inv X pins σ' H' s7/\tn i s7.heap/\(∀b∈fp,H' b=none)/\W i m σ' H':=fun {σ7 H7} I7 n7=>by
   obtain⟨m',hm,w7⟩:=hN σ7 H7 n7;refine⟨m',hm,i+1, σ7,H7,I7.unpinned,T.keep _ _ _ st5 fun b hb o e=>(I7.pin (b,o) (nh _ (nh _ (q2c hb e)))).1,fun b hb=>?_,w7⟩;obtain⟨o,e,d⟩:=T.obj _ _ st5 b hb;exact(I7.pin (b,o) (nh _ (nh _ (q2c hb e)))).2.1
  cases f with
  | next=>obtain⟨σ7,H7,I7,n7⟩:=q7;exact again I7 n7
  | cont=>obtain⟨σ7,H7,I7,n7⟩:=q7;exact again I7 n7
  | brk=>obtain⟨σ7,H7,I7,q7⟩:=q7;exact⟨σ7,H7,I7.unpinned,q7⟩
  | ret v=>obtain⟨x7, σ7,H7,I7,r7,q7⟩:=q7;exact⟨x7, σ7,H7,I7.unpinned,r7,q7⟩
end
abbrev R2:=V->V->Hp->VK->Prop
def OpR(X:Cx)(f:Value->Value->Sem Value)(r:R2): Prop:=
 ∀(pins:Td) (s:Shared) (σ : St) (H:Hp) (x y:V) (v u:Value) (Q:VK),Inv X pins σ H s->RelV x v->RelV y u->r x y H Q ->
  wpAny (model X.prog X.w) X.A (f v u) (EP X pins σ Q) X.xe s
def xk(X:Cx)(f:Value)(r:List V->Hp->VK->Prop): Prop:=
 ∀(pins:Td) (s:Shared) (σ : St) (H:Hp) (xs:List V) (us:List Value) (Q:VK),Inv X pins σ H s->Vals xs us->r xs H Q ->
  wpAny (model X.prog X.w) X.A (call f us) (EP X pins σ Q) X.xe s
def z1c(X:Cx)(r:V->Hp->(Bool->Hp->Prop)->Prop): Prop:=
 ∀(pins:Td) (s:Shared) (σ : St) (H:Hp) (x:V) (v:Value) (Q:Bool->Hp->Prop),Inv X pins σ H s->RelV x v->r x H Q ->
  wpAny (model X.prog X.w) X.A (truthy v) (TP X pins σ Q) X.xe s
def tOp(r:R2)(ta tb:TE): TE:=fun σ H Q=>ta σ H fun x H1=>tb σ H1 fun y H2=>r x y H2 Q
def rI(C:Int->Int->Prop)(g:Int->Int->V): R2:=fun x y H Q=>∃i j,x=.int i/\y=.int j/\C i j/\Q (g i j) H
def rI0(g:Int->Int->V): R2:=fun x y H Q=>∃i j,x=.int i/\y=.int j/\Q (g i j) H
section
variable{X:Cx}{a b c:Expr}{ta tb tc:TE}{pos:Pos}
theorem qq4(ha:PE X a ta)(hb:PE X b tb){pins:Td}{s:Shared}{σ : St}{H:Hp}{R:V->V->Hp->Prop}(I:Inv X pins σ H s)
  (h:ta σ H fun x H1=>tb σ H1 fun y H2=>R x y H2) {Q:Ta} {f:Value->Value->Sem Value}
  (hf:∀v u s2 x y H2,Inv X pins σ H2 s2->RelV x v->RelV y u->R x y H2->wpAny (model X.prog X.w) X.A (f v u) Q X.xe s2) :
  wpAny (model X.prog X.w) X.A (eval a X.env) (fun v s₁=>wpAny (model X.prog X.w) X.A (eval b X.env) (fun u s₂=>wpAny (model X.prog X.w) X.A (f v u) Q X.xe s₂) X.xe s₁) X.xe s:=by
 refine thn (ha pins s σ H _ I h) fun v s1 ⟨x,H1,I1,r1,q1⟩=>?_;refine thn (hb pins s1 σ H1 _ I1 q1) fun u s2 ⟨y,H2,I2,r2,q2⟩=>?_;exact hf v u s2 x y H2 I2 r1 r2 q2
theorem qtd{op:Operator}{r:R2}(ho:OpR X (binaryOp op) r)(ha:PE X a ta)(hb:PE X b tb): PE X (.BinOp a op b pos) (tOp r ta tb):=by
 intro pins s σ H Q I h;exact wpAny_BinOp (qq4 ha hb I h fun v u s2 x y H2 I2 rx ry q=>ho pins s2 σ H2 x y v u Q I2 rx ry q)
theorem opI{f:Value->Value->Sem Value}{C:Int->Int->Prop}{g:Int->Int->Int}
  (rule:∀(i j:Int) (t u:Tok) (s:Shared) (Q:Ta) (E:Ta),C i j->Q (.int (g i j) s.toks) {s with toks:=s.toks+1}->wpAny (model X.prog X.w) X.A (f (.int i t) (.int j u)) Q E s) :
  OpR X f (rI C fun i j=>.int (g i j)):=by
 intro pins s σ H x y v u Q I rx ry h;obtain⟨i,j,rfl,rfl,hc,q⟩:=h;obtain⟨t,rfl⟩:=rx;obtain⟨t',rfl⟩:=ry;exact rule i j t t' s _ _ hc ⟨.int (g i j),H,I.tok _,⟨_,rfl⟩,q⟩
theorem qq5{f:Value->Value->Sem Value}{g:Int->Int->Int}
  (rule:∀(i j:Int) (t u:Tok) (s:Shared) (Q:Ta) (E:Ta),Q (.int (g i j) s.toks) {s with toks:=s.toks+1}->wpAny (model X.prog X.w) X.A (f (.int i t) (.int j u)) Q E s) :
  OpR X f (rI0 fun i j=>.int (g i j)):=by
 intro pins s σ H x y v u Q I rx ry h;obtain⟨i,j,rfl,rfl,q⟩:=h;obtain⟨t,rfl⟩:=rx;obtain⟨t',rfl⟩:=ry;exact rule i j t t' s _ _ ⟨.int (g i j),H,I.tok _,⟨_,rfl⟩,q⟩
theorem qlh{f:Value->Value->Sem Value}{g:Int->Int->Bool}
  (rule:∀(i j:Int) (t u:Tok) (s:Shared) (Q:Ta) (E:Ta),Q (.bool (g i j)) s->wpAny (model X.prog X.w) X.A (f (.int i t) (.int j u)) Q E s) :
  OpR X f (rI0 fun i j=>.bl (g i j)):=by
 intro pins s σ H x y v u Q I rx ry h;obtain⟨i,j,rfl,rfl,q⟩:=h;obtain⟨t,rfl⟩:=rx;obtain⟨t',rfl⟩:=ry;exact rule i j t t' s _ _ ⟨.bl (g i j),H,I,rfl,q⟩
def z1d(i j:Int): Prop:=0<j/\j<1073741824
def qww(i j:Int): Prop:=0<=j/\j<=1000000/\i.natAbs<2 ^ 64
def CMul(i j:Int): Prop:=(-(2 ^ 64)<i/\i<2 ^ 64)\/(-(2 ^ 64)<j/\j<2 ^ 64)
theorem CMul.ok{i j:Int}(h:CMul i j): IntMulOk i j:=by
 rcases h with⟨h1,h2⟩|⟨h1,h2⟩
 ·exact .of_left (intBits_le_64 h1 h2)
 ·exact .of_right (intBits_le_64 h1 h2)
theorem qli(k:Nat): (0:Int)<=2 ^ k:=by
 rw [two_pow_cast];exact Int.natCast_nonneg _
theorem qwx:OpR X (binaryOp .Add) (rI0 fun i j=>.int (i+j)):=qq5 fun _ _ _ _ _ _ _ q=>add_int q
theorem qwy:OpR X (binaryOp .Sub) (rI0 fun i j=>.int (i-j)):=qq5 fun _ _ _ _ _ _ _ q=>sub_int q
theorem qwz:OpR X (binaryOp .Mult) (rI CMul fun i j=>.int (i*j)):=opI fun _ _ _ _ _ _ _ hc q=>mul_int q hc.ok
theorem qub:OpR X (binaryOp .FloorDiv) (rI z1d fun i j=>.int (i / j)):=opI fun i j _ _ _ _ _ hc q=>by
 have h1:(0:Int)<j:=hc.1;have h2:j<1073741824:=hc.2;exact floordiv_int (by omega) (by rw [g26 i (by omega)];exact q) (.inl (PyProof.noPylong_small (by omega)))
theorem qx0:OpR X (binaryOp .Mod) (rI (fun _ j=>0<j) fun i j=>.int (i%j)):=opI fun i j _ _ _ _ _ hc q=>by
 have h1:(0:Int)<j:=hc;exact mod_int' (by omega) (by rw [Int.fmod_eq_emod_of_nonneg i (by omega)];exact q)
theorem qx1:OpR X (binaryOp .Pow) (rI qww fun i j=>.int (i ^ j.toNat)):=opI fun _ _ _ _ _ _ _ hc q=>pow_int_small hc.1 hc.2.1 hc.2.2 q
theorem qx2:OpR X (binaryOp .LShift) (rI qww fun i j=>.int (i*2 ^ j.toNat)):=opI fun _ _ _ _ _ _ _ hc q=>lshift_int_small hc.1 hc.2.1 hc.2.2 q
theorem qx3:OpR X (binaryOp .RShift) (rI (fun _ j=>0<=j) fun i j=>.int (i / 2 ^ j.toNat)):=opI fun i j _ _ _ _ _ hc q=>
 rshift_int hc (by rw [g26 i (qli _)];exact q)
theorem qx4:OpR X (binaryOp .BitAnd) (rI0 fun i j=>.int (Builtin.bitAnd i j)):=qq5 fun _ _ _ _ _ _ _ q=>and_int q
end
def qd3:V->V->Bool
 | .non,.non=>true | .non,.int _=>true | .int _,.non=>true | .non,.bl _=>true | .bl _,.non=>true | .non,.str _=>true | .str _,.non=>true
 | .int _,.int _=>true | .bl _,.bl _=>true | .str _,.str _=>true | .byt _,.byt _=>true
 | .int _,.str _=>true | .str _,.int _=>true | .bl _,.str _=>true | .str _,.bl _=>true
 | _,_=>false
def rEq:R2:=fun x y H Q=>qd3 x y=true/\Q (.bl (decide (x=y))) H
def rNe:R2:=fun x y H Q=>qd3 x y=true/\Q (.bl (!decide (x=y))) H
theorem qk1{i j:Int}: decide (V.int i=V.int j)=(i==j):=by
 rw [g0d];simp
theorem qnf{i j:Bool}: decide (V.bl i=V.bl j)=(i==j):=by
 rw [g0d];simp
theorem qk2{i j:Str}: decide (V.str i=V.str j)=(i==j):=by
 rw [g0d];simp
theorem qk3{i j:Array UInt8}: decide (V.byt i=V.byt j)=(i.toList==j.toList):=by
 rw [g0d];cases i;cases j;simp
section
variable{X:Cx}{a b c:Expr}{ta tb tc:TE}{pos:Pos}
theorem j4{pins:Td}{σ : St}{H:Hp}{s:Shared}{Q:VK}{k k':Bool}(I:Inv X pins σ H s)(q:Q (.bl k) H)(e:k=k'): EP X pins σ Q (.bool k') s:=by
 subst e;exact⟨.bl k,H,I,rfl,q⟩
theorem qzx:OpR X (compareOp .Eq) rEq:=by
 intro pins s σ H x y v u Q I rx ry h;obtain⟨hs,q⟩:=h;cases x with
 | non=>
  cases rx;cases y with
  | non=>cases ry;exact PySem.EqNone.eq_none_none (j4 I q (by simp))
  | bl j=>cases ry;exact PySem.EqNone.eq_none_bool (j4 I q (by simp))
  | int j=>obtain⟨t',rfl⟩:=ry;exact PySem.EqNone.eq_none_int (j4 I q (by simp))
  | str j=>obtain⟨t',rfl⟩:=ry;exact PySem.EqNone.eq_none_str (j4 I q (by simp))
  | _=>exact absurd (show false=true from hs) gy
 | bl i=>
  cases rx;cases y with
  | non=>cases ry;exact PySem.EqNone.eq_bool_none (j4 I q (by simp))
  | bl j=>cases ry;exact eq_bool (j4 I q qnf)
  | str j=>obtain⟨t',rfl⟩:=ry;exact PySem.EqMixed.eq_bool_str (j4 I q (by simp))
  | _=>exact absurd (show false=true from hs) gy
 | int i=>
  obtain⟨t,rfl⟩:=rx;cases y with
  | non=>cases ry;exact PySem.EqNone.eq_int_none (j4 I q (by simp))
  | int j=>obtain⟨t',rfl⟩:=ry;exact eq_int (j4 I q qk1)
  | str j=>obtain⟨t',rfl⟩:=ry;exact PySem.EqMixed.eq_int_str (j4 I q (by simp))
  | _=>exact absurd (show false=true from hs) gy
 | str i=>
  obtain⟨t,rfl⟩:=rx;cases y with
  | non=>cases ry;exact PySem.EqNone.eq_str_none (j4 I q (by simp))
  | bl j=>cases ry;exact PySem.EqMixed.eq_str_bool (j4 I q (by simp))
  | int j=>obtain⟨t',rfl⟩:=ry;exact PySem.EqMixed.eq_str_int (j4 I q (by simp))
  | str j=>obtain⟨t',rfl⟩:=ry;exact eq_str (j4 I q qk2)
  | _=>exact absurd (show false=true from hs) gy
 | byt i=>
  obtain⟨t,rfl⟩:=rx;cases y with
  | byt j=>obtain⟨t',rfl⟩:=ry;exact PySem.W.eq_bytes (j4 I q qk3)
  | _=>exact absurd (show false=true from hs) gy
 | _=>cases y <;> exact absurd (show false=true from hs) gy
theorem qzy:OpR X (compareOp .NotEq) rNe:=by
 intro pins s σ H x y v u Q I rx ry h;obtain⟨hs,q⟩:=h;cases x with
 | non=>
  cases rx;cases y with
  | non=>cases ry;exact PySem.EqNone.ne_none_none (j4 I q (by simp))
  | bl j=>cases ry;exact PySem.EqNone.ne_none_bool (j4 I q (by simp))
  | int j=>obtain⟨t',rfl⟩:=ry;exact PySem.EqNone.ne_none_int (j4 I q (by simp))
  | str j=>obtain⟨t',rfl⟩:=ry;exact PySem.EqNone.ne_none_str (j4 I q (by simp))
  | _=>exact absurd (show false=true from hs) gy
 | bl i=>
  cases rx;cases y with
  | non=>cases ry;exact PySem.EqNone.ne_bool_none (j4 I q (by simp))
  | bl j=>cases ry;exact ne_bool (j4 I q (ui not qnf))
  | str j=>obtain⟨t',rfl⟩:=ry;exact PySem.EqMixed.ne_bool_str (j4 I q (by simp))
  | _=>exact absurd (show false=true from hs) gy
 | int i=>
  obtain⟨t,rfl⟩:=rx;cases y with
  | non=>cases ry;exact PySem.EqNone.ne_int_none (j4 I q (by simp))
  | int j=>obtain⟨t',rfl⟩:=ry;exact ne_int (j4 I q (ui not qk1))
  | str j=>obtain⟨t',rfl⟩:=ry;exact PySem.EqMixed.ne_int_str (j4 I q (by simp))
  | _=>exact absurd (show false=true from hs) gy
 | str i=>
  obtain⟨t,rfl⟩:=rx;cases y with
  | non=>cases ry;exact PySem.EqNone.ne_str_none (j4 I q (by simp))
  | bl j=>cases ry;exact PySem.EqMixed.ne_str_bool (j4 I q (by simp))
  | int j=>obtain⟨t',rfl⟩:=ry;exact PySem.EqMixed.ne_str_int (j4 I q (by simp))
  | str j=>obtain⟨t',rfl⟩:=ry;exact ne_str (j4 I q (ui not qk2))
  | _=>exact absurd (show false=true from hs) gy
 | byt i=>
  obtain⟨t,rfl⟩:=rx;cases y with
  | byt j=>obtain⟨t',rfl⟩:=ry;exact PySem.W.ne_bytes (j4 I q (ui not qk3))
  | _=>exact absurd (show false=true from hs) gy
 | _=>cases y <;> exact absurd (show false=true from hs) gy
theorem qzz:OpR X (compareOp .Lt) (rI0 fun i j=>.bl (decide (i<j))):=qlh fun _ _ _ _ _ _ _ q=>lt_int q
theorem z00:OpR X (compareOp .LtE) (rI0 fun i j=>.bl (decide (i<=j))):=qlh fun _ _ _ _ _ _ _ q=>le_int q
theorem z01:OpR X (compareOp .Gt) (rI0 fun i j=>.bl (decide (j<i))):=qlh fun _ _ _ _ _ _ _ q=>gt_int q
theorem z02:OpR X (compareOp .GtE) (rI0 fun i j=>.bl (decide (j<=i))):=qlh fun _ _ _ _ _ _ _ q=>ge_int q
theorem qk4{op:CmpOp}{r:R2}(ho:OpR X (compareOp op) r)(ha:PE X a ta)(hb:PE X b tb)(hm:behindInMarks op b=false): PE X (.Compare a [op] [b] pos) (tOp r ta tb):=by
 intro pins s σ H Q I h;exact wpAny_Compare1 (qq4 ha hb I h fun v u s2 x y H2 I2 rx ry q=>ho pins s2 σ H2 x y v u Q I2 rx ry q) hm
def z03(t:TE): TT:=fun σ H Q=>t σ H fun x H'=>∃k,x=.bl k/\Q k H'
theorem qk5{op:CmpOp}{r:R2}(ho:OpR X (compareOp op) r)(ha:PE X a ta)(hb:PE X b tb)(hm:behindInMarks op b=false): PT X (.Compare a [op] [b] pos) (z03 (tOp r ta tb)):=by
 intro pins s σ H Q I h;refine wpAny_isTrue_Compare1 (thn (ha pins s σ H _ I h) fun v s1 ⟨x,H1,I1,r1,q1⟩=>thn (hb pins s1 σ H1 _ I1 q1) fun u s2 ⟨y,H2,I2,r2,q2⟩=>
  thn (ho pins s2 σ H2 x y v u _ I2 r1 r2 q2) fun c s3 ⟨z,H3,I3,r3,k,e,q3⟩=>?_) hm
 subst e;cases r3;exact g0h ⟨H3,I3,q3⟩
def qng(r r':R2)(ta tb tc:TE): TE:=fun σ H Q=>ta σ H fun x H1=>tb σ H1 fun y H2=>r x y H2 fun z H3=>∃k,z=.bl k /\
 (if k=true then tc σ H3 fun w' H4=>r' y w' H4 Q else Q (.bl false) H3)
theorem qq6{op op':CmpOp}{r r':R2}(ho:OpR X (compareOp op) r)(ho':OpR X (compareOp op') r')(ha:PE X a ta)(hb:PE X b tb)(hc:PE X c tc)
  (hm:lastMarks [op,op'] [b,c]=false:=by with_unfolding_all rfl):PE X (.Compare a [op,op'] [b,c] pos) (qng r r' ta tb tc):=by
 intro pins s σ H Q I h;refine Compare_chain (thn (ha pins s σ H _ I h) fun v s1 ⟨x,H1,I1,r1,q1⟩=>chain_link (thn (hb pins s1 σ H1 _ I1 q1) fun u s2 ⟨y,H2,I2,r2,q2⟩=>
  thn (ho pins s2 σ H2 x y v u _ I2 r1 r2 q2) fun d s3 ⟨z,H3,I3,r3,k,e,q3⟩=>?_)) hm
 subst e;cases r3;refine g0h ?_;cases k with
 | false=>exact ite_ff ⟨.bl false,H3,I3,rfl,q3⟩
 | true=>exact ite_tt (chain_last (thn (hc pins s3 σ H3 _ I3 q3) fun w' s4 ⟨z',H4,I4,r4,q4⟩=>ho' pins s4 σ H4 y z' u w' Q I4 r2 r4 q4))
def qq7(K:PySem.W.Frag)(x:V)(H:Hp)(k:Bool): Prop:=
 match x with
 | .non=>k=false
 | .bl b=>k=b
 | .int i=>k=(i != 0)
 | .str y=>y.length<=sizeLine/\k=((y.length:Int) != 0)
 | .byt y=>y.size<=sizeLine/\k=((y.size:Int) != 0)
 | .ref p=>(∃xs,SqL K H p xs/\k = !xs.isEmpty)\/(∃xs,SqT K H p xs/\k = !xs.isEmpty)\/∃kvs,H p=some (.dK kvs)/\k = !kvs.isEmpty
 | _=>False
theorem qlj{κ : Type}{kvs:List (κ × V)}{vs:List (κ × Value)}(r:KV kvs vs): (!vs.isEmpty) = !kvs.isEmpty:=by
 cases r <;> rfl
theorem qb0{xs:List V}{its:List Value}(r:Vals xs its): (!its.toArray.isEmpty) = !xs.isEmpty:=by
 cases r <;> simp
theorem q4l:(sizeLine:Nat)<2 ^ 63:=by rw [g03];decide
theorem qx5:z1c X (fun x H Q=>∃k,qq7 X.K x H k/\Q k H):=by
 intro pins s σ H x v Q I rx h;obtain⟨k,e,q⟩:=h;have hl:=q4l;have hs:sizeLine=16777216:=g03;cases x with
 | non=>
  cases rx;have e':k=false:=e;subst e';exact truthy_none ⟨H,I,q⟩
 | bl b=>
  cases rx;have e':k=b:=e;subst e';exact g0h ⟨H,I,q⟩
 | int i=>
  obtain⟨t,rfl⟩:=rx;have e':k=(i != 0):=e;subst e';exact PySem.P.truthy_int ⟨H,I,q⟩
 | str y=>
  obtain⟨t,rfl⟩:=rx;obtain⟨hy,e'⟩:y.length<=sizeLine/\k=((y.length:Int) != 0):=e;subst e';exact PySem.P.truthy_str (by omega) ⟨H,I.tok _,q⟩
 | byt y=>
  obtain⟨t,rfl⟩:=rx;obtain⟨hy,e'⟩:y.size<=sizeLine/\k=((y.size:Int) != 0):=e;subst e';exact PySem.W.truthy_bytes (by omega) ⟨H,I.tok _,q⟩
 | ref p=>
  cases rx;have e':(∃xs,SqL X.K H p xs/\k = !xs.isEmpty)\/(∃xs,SqT X.K H p xs/\k = !xs.isEmpty)\/∃kvs,H p=some (.dK kvs)/\k = !kvs.isEmpty:=e;rcases e' with⟨xs,hx,e'⟩|⟨xs,hx,e'⟩|⟨kvs,hx,e'⟩
  ·subst e'
   obtain⟨its,r,pl,hz⟩:=I.list hx;have hlen:=r.length;exact wpAny_truthy_list pl.isList (by simp only [gq];omega) ⟨H,I.tok _,by rw [qb0 r];exact q⟩
  ·subst e'
   obtain⟨its,r,pl,hz⟩:=I.tuple hx;have hlen:=r.length;exact truthy_tuple pl (by simp only [gq];omega) ⟨H,I.tok _,by rw [qb0 r];exact q⟩
  ·subst e'
   obtain⟨hz,hS,vs,r,m⟩:kvs.length<=sizeLine/\(p==sysModules)=false/\∃vs,KV kvs vs/\s.heap.DictOf (mixKind X.prog X.w) p vs:=I.hok p _ hx;have hlen:kvs.length=vs.length:=g41 r;exact wpAny_truthy_dict hS m (by omega) ⟨H,I.tok _,by rw [qlj r];exact q⟩
 | _=>exact(show False from e).elim
theorem qg6(ha:PE X a ta)(he:∀whole,isTrue a X.env whole=(do let v <- whole;standAt a.pos;holding [v] (truthy v))):
  PT X a (fun σ H Q=>ta σ H fun x H'=>∃k,qq7 X.K x H' k/\Q k H'):=by
 intro pins s σ H Q I h;exact isTrue_plain (thn (ha pins s σ H _ I h) fun v s1 ⟨x,H1,I1,r1,q1⟩=>qx5 pins s1 σ H1 x v Q I1 r1 q1) (he _)
theorem vals1{x:V}{us:List Value}(r:Vals [x] us): ∃u,us=[u]/\RelV x u:=by
 cases r with
 | cons r1 r2=>cases r2;exact⟨_,rfl,r1⟩
theorem vals2{x y:V}{us:List Value}(r:Vals [x,y] us): ∃u w',us=[u,w']/\RelV x u/\RelV y w':=by
 cases r with
 | cons r1 r2=>
  cases r2 with
  | cons r3 r4=>cases r4;exact⟨_,_,rfl,r1,r3⟩
theorem qnh(hc:X.calm=true): xk X (.builtin "max") (fun xs H Q=>∃i j,xs=[.int i,.int j]/\Q (.int (if j>i then j else i)) H):=by
 intro pins s σ H xs us Q I r h;obtain⟨i,j,rfl,q⟩:=h;obtain⟨u,w',rfl,⟨t,rfl⟩,⟨t',rfl⟩⟩:=vals2 r;refine max_two_ints (I.ok.hd hc) fun h' tk k=>⟨_,H,I.kept k,?_,q⟩
 by_cases hj:j>i
 ·rw [gw hj,gw hj];exact⟨_,rfl⟩
 ·rw [mf hj,mf hj];exact⟨_,rfl⟩
theorem qni(hc:X.calm=true): xk X (.builtin "min") (fun xs H Q=>∃i j,xs=[.int i,.int j]/\Q (.int (if j<i then j else i)) H):=by
 intro pins s σ H xs us Q I r h;obtain⟨i,j,rfl,q⟩:=h;obtain⟨u,w',rfl,⟨t,rfl⟩,⟨t',rfl⟩⟩:=vals2 r;refine min_two_ints (I.ok.hd hc) fun h' tk k=>⟨_,H,I.kept k,?_,q⟩
 by_cases hj:j<i
 ·rw [gw hj,gw hj];exact⟨_,rfl⟩
 ·rw [mf hj,mf hj];exact⟨_,rfl⟩
def z1e(K:PySem.W.Frag)(x:V)(H:Hp)(n:Nat): Prop:=
 match x with
 | .str y=>y.length<=sizeLine/\n=y.length
 | .byt y=>y.size<=sizeLine/\n=y.size
 | .ref p=>(∃xs,SqL K H p xs/\n=xs.length)\/∃xs,SqT K H p xs/\n=xs.length
 | _=>False
theorem qq8:xk X (.builtin "len") (fun xs H Q=>∃x n,xs=[x]/\z1e X.K x H n/\Q (.int n) H):=by
 intro pins s σ H xs us Q I r h;obtain⟨x,n,rfl,e,q⟩:=h;obtain⟨u,rfl,rx⟩:=vals1 r;have hl:=q4l;have hs:sizeLine=16777216:=g03;cases x with
 | str y=>
  obtain⟨t,rfl⟩:=rx;obtain⟨hy,e'⟩:y.length<=sizeLine/\n=y.length:=e;subst e';exact len_str (by omega) ⟨.int _,H,I.tok _,⟨_,rfl⟩,q⟩
 | byt y=>
  obtain⟨t,rfl⟩:=rx;obtain⟨hy,e'⟩:y.size<=sizeLine/\n=y.size:=e;subst e';exact PySem.W.len_bytes (by omega) ⟨.int _,H,I.tok _,⟨_,rfl⟩,q⟩
 | ref p=>
  cases rx;have e':(∃xs,SqL X.K H p xs/\n=xs.length)\/∃xs,SqT X.K H p xs/\n=xs.length:=e;rcases e' with⟨xs,hx,e'⟩|⟨xs,hx,e'⟩
  ·subst e'
   obtain⟨its,r',pl,hz⟩:=I.list hx;have hlen:=r'.length;exact Calls.call_len_list pl.isList (by simp only [gq];omega) ⟨.int xs.length,H,I.tok _,⟨_,by simp only [gq];rw [hlen]⟩,q⟩
  ·subst e'
   obtain⟨its,r',pl,hz⟩:=I.tuple hx;have hlen:=r'.length;exact len_tuple pl (by simp only [gq];omega) ⟨.int xs.length,H,I.tok _,⟨_,by simp only [gq];rw [hlen]⟩,q⟩
 | _=>exact(show False from e).elim
end
structure ObjM(h:Heap)(x dx C:Addr)(mA:Tc): Prop where
 obj:h.get? x=some (PySem.W.instObj C dx)
 ns:h.Ns1 dx mA
 ne:dx≠x
theorem qnj{h:Heap}{dx:Addr}{mA:Tc}(n:h.Ns1 dx mA): ∃od,h.get? dx=some od/\∀name,PySem.W.lookIn name od=some (mA name):=by
 obtain⟨o,es,ep,ho,hd,hk,_,hm⟩:=n;refine⟨o,ho,fun name=>?_⟩;have e:=hm name;unfold nsFind findBy at e;rw [<- Array.find?_toList] at e;unfold PySem.W.lookIn;rw [hd];dsimp only
 split
 ·rename_i y q
  rw [q] at e;exact ui some e
 ·rename_i q
  rw [q] at e;have a:es.toList.any (·.refKey)=false:=by
   rw [List.any_eq_false];intro y hy;obtain⟨z,t,hkey⟩:=hk y (Array.mem_toList_iff.mp hy);simp [DictEntry.refKey,hkey]
  have a':¬es.toList.any (·.refKey)=true:=by rw [a];exact gy
  rw [mf a'];exact ui some e
theorem ObjM.look{h:Heap}{x dx C:Addr}{mA:Tc}(I:ObjM h x dx C mA): ∃od,PySem.W.InstAt h x (PySem.W.instObj C dx) C (some od)/\∀name,PySem.W.lookIn name od=some (mA name):=
 let⟨od,ho,hl⟩:=qnj I.ns
 ⟨od,⟨I.obj,rfl,rfl,ho⟩,hl⟩
section
variable{prog:Program}{w:World}{A:Around}{E:Ta}{s:Shared}{K:PySem.W.Frag}{x dx C f:Addr}{mA:Tc}{name:Str}{v:Value}
theorem get_map{expr:Bool}{Q:Ta}(X:K.In s.heap)(I:ObjM s.heap x dx C mA)(hg:PySem.W.plainGet K C name=true)(hh:PySem.W.hasDictIn K C=true)
  (ha:PySem.W.findIn K (.ref C) name=some none) (hv:mA name=some v) (hv':PySem.W.handedIn v=true) (h:Q v {s with toks:=s.toks+1}) :
  wpAny (model prog w) A (getAttr (.ref x) name expr) Q E s:=by
 obtain⟨od,J,hl⟩:=I.look;exact PySem.W.get_value X J (g3n hg).1 (PySem.W.findObj_own hh ha rfl (by rw [hl,hv])) hv' h
theorem qq9{pl:Sem Bool}{Q:Value×List Value->Shared->Prop}(X:K.In s.heap)(I:ObjM s.heap x dx C mA)(hg:PySem.W.plainGet K C name=true)
  (hf:PySem.W.findIn K (.ref C) name=some (some (.ref f))) (ht:PySem.W.isFn K (.ref f)=true) (hv:mA name=none) (h:Q (.ref f,[.ref x]) s) :
  wpAny (model prog w) A (getMethod (.ref x) name pl) Q E s:=by
 obtain⟨od,J,hl⟩:=I.look;exact PySem.W.method_fn X J (g3n hg).1 (g3n hg).2 hf (ux.mp ht) (by show(PySem.W.lookIn name od).map (·.isSome)=some false;rw [hl,hv];rfl) h
theorem quc{ns:List Str}{Q:Unit->Shared->Prop}(X:K.In s.heap)(I:ObjM s.heap x dx C mA)
  (hs:PySem.W.findIn K (.ref C) "__setattr__" = some (some (.builtin "object.__setattr__"))) (hp:PySem.W.plainOver K C=true) (ht:PySem.W.takerIn K C name=some none) (hh:PySem.W.hasDictIn K C=true)
  (hw:PySem.Within mA ns) (hsz:ns.length<=sizeLine)
  (h:∀h',ObjM h' x dx C (fun y=>if y=name then some v else mA y)->Heap.SameBut dx s.heap h'->Q () {s with heap:=h',toks:=s.toks+2}) :
  wpAny (model prog w) A (setAttr (.ref x) name v) Q E s:=by
 obtain⟨od,J,hl⟩:=I.look;refine PySem.W.set_plain X J hs (PySem.W.osa_open (s:={s with toks:=s.toks+1}) (r:=none) X J hp ht fun b=>?_);obtain⟨cd,hc,hd'⟩:=PySem.W.any_some hh;have hx:s.heap.get? x=some ⟨.ref C,some dx,.plain, #[]⟩:=I.obj;refine g9 (gf (g9 (g9 (wpAny_loadPart hx (g9 (g0s (s:={s with toks:=s.toks+1}) (PySem.W.looks_clsIn X hc) ?_))))));rw [hd'];refine gf (a:=some dx) (g9 (gf (g9 ?_)));refine wpAny_nsSet1 (s:={s with toks:=s.toks+1}) I.ns fun h' hn2 hs2=>?_;obtain⟨oD,esD,epD,hoD,hdD,hcD⟩:=hn2.count (PySem.Within.cons name v hw);refine g9 (wpAny_lookBehind hoD (by rw [hdD];exact pastItsLine_dict (mi hcD (by rw [mv];omega))) ?_);exact gf (h _ ⟨(hs2.2 _ (ml I.ne)).trans I.obj,hn2,I.ne⟩ hs2)
theorem qqa{R:Result->Shared->Prop}{vs:List Value}{kw:List (Str×Value)}(X:K.In s.heap)(hm:PySem.W.makesIn K C=true)
  (hi:PySem.W.findIn K (.ref C) "__init__" = some (some (.ref f))) (hf:PySem.W.typeIn K (.ref f)=some (.type "function"))
  (h:codeAny (model prog w) (A.under (.builtin "type.__call__" ⟨.ref C :: vs,kw⟩)) (.call (.ref f) ⟨.ref (s.heap.objs.size+1) :: vs,kw⟩) (PySem.W.InitBack (s.heap.objs.size+1) R)
   {s with heap:=(s.heap.push PySem.W.emptyDict).push (PySem.W.instObj C s.heap.objs.size)}) :
  codeAny (model prog w) A (.call (.ref C) ⟨vs,kw⟩) R s:=by
 obtain⟨hh,g,d,t,os⟩:=s;exact PySem.W.make_core (PySem.W.makes_of X hm) (PySem.W.looks_findIn X hi) (fun self=>PySem.W.bind_fn X self hf) (.inl rfl) h
end
def kf(f:Str)(v:V): List (Str×V)->List (Str×V)
 | []=>[(f,v)]
 | (g,x) :: r=>if g=f then(g,v) :: r else(g,x) :: kf f v r
theorem q92(f g:Str)(v:V): ∀fs:List (Str×V),(kf f v fs).lookup g=if g=f then some v else fs.lookup g
 | []=>by
  show List.lookup g [(f,v)]=_
  by_cases h:g=f
  ·have hb:(g==f)=true:=ux.mpr h
   simp only [List.lookup,hb,gw h]
  ·have hb:(g==f)=false:=g07.mpr h
   simp only [List.lookup,hb,mf h]
 | (k,x) :: r=>by
  have ih:=q92 f g v r;rw [show kf f v ((k,x) :: r)=(if k=f then(k,v) :: r else(k,x) :: kf f v r) from rfl]
  by_cases hk:k=f
  ·rw [gw hk]
   by_cases h:g=k
   ·have hb:(g==k)=true:=ux.mpr h
    simp only [List.lookup,hb,gw (h.trans hk)]
   ·have hb:(g==k)=false:=g07.mpr h
    simp only [List.lookup,hb,mf (fun e:g=f=>h (e.trans hk.symm))]
  ·rw [mf hk]
   by_cases h:g=k
   ·have hb:(g==k)=true:=ux.mpr h
    simp only [List.lookup,hb,mf (fun e:g=f=>hk (h.symm.trans e))]
   ·have hb:(g==k)=false:=g07.mpr h
    simp only [List.lookup,hb];exact ih
theorem q6z(f:Str)(v:V): ∀fs:List (Str×V),f∈(kf f v fs).map (·.1)/\∀g,g∈fs.map (·.1)->g∈(kf f v fs).map (·.1)
 | []=>⟨by simp [kf],fun g h=>by simp at h⟩
 | (k,x) :: r=>by
  obtain⟨i1,i2⟩:=q6z f v r;rw [show kf f v ((k,x) :: r)=(if k=f then(k,v) :: r else(k,x) :: kf f v r) from rfl]
  by_cases hk:k=f
  ·rw [gw hk]
   subst hk;exact⟨by simp,fun g h=>by simpa using h⟩
  ·rw [mf hk]
   refine⟨?_,fun g h=>?_⟩
   ·rw [m5]
    exact gz _ i1
   ·rw [m5] at h ⊢
    rcases mh.mp h with e|e
    ·exact mh.mpr (.inl e)
    ·exact gz _ (i2 g e)
theorem q93(f:Str)(v:V): ∀fs:List (Str×V),(kf f v fs).length<=fs.length+1
 | []=>by simp [kf]
 | (k,x) :: r=>by
  have ih:=q93 f v r;rw [show kf f v ((k,x) :: r)=(if k=f then(k,v) :: r else(k,x) :: kf f v r) from rfl]
  by_cases hk:k=f
  ·rw [gw hk,mv,mv];omega
  ·rw [mf hk,mv,mv];omega
theorem RelO.some_of{v:V}{o:Option Value}(r:RelO (some v) o): ∃u,o=some u/\RelV v u:=by
 cases o with
 | none=>exact(show False from r).elim
 | some u=>exact⟨u,rfl,r⟩
theorem RelO.none_of{o:Option Value}(r:RelO none o): o=none:=by
 cases o with
 | none=>rfl
 | some u=>exact(show False from r).elim
theorem qnk{v:V}{u:Value}(r:RelV v u): PySem.W.handedIn u=true:=by
 cases v with
 | non=>cases(show u=Value.none from r);rfl
 | bl b=>cases(show u=Value.bool b from r);rfl
 | int i=>obtain⟨t,e⟩:=(show ∃t,u=Value.int i t from r);cases e;rfl
 | str x=>obtain⟨t,e⟩:=(show ∃t,u=Value.str x t from r);cases e;rfl
 | byt b=>obtain⟨t,e⟩:=(show ∃t,u=Value.bytes b t from r);cases e;rfl
 | flt b=>obtain⟨t,e⟩:=(show ∃t,u=Value.float b t from r);cases e;rfl
 | ref a=>cases(show u=Value.ref a from r);rfl
 | ty n=>cases(show u=Value.type n from r);rfl
section
variable{P:Program}{w:World}{H H':Hp}{h h':Heap}{a C dx:Addr}{fs fs':List (Str×V)}
theorem q8i(hok:HOk P w H h)(e:H a=some (.ins C dx fs)): ∃mA,ObjM h a dx C mA/\(∀f,RelO (fs.lookup f) (mA f))/\PySem.Within mA (fs.map (·.1))/\fs.length<=1000/\H dx=some (.own a):=by
 obtain⟨d,z,ne,ob,mA,n,r,q⟩:=(show ObjOk P w H h a (.ins C dx fs) from hok a _ e)
 exact⟨mA,⟨ob,n,ne⟩,r,q,z,d⟩
end
structure Cls(K:PySem.W.Frag)(C:Addr): Prop where
 pg:PySem.W.plainGet K C Str.empty=true
 hd:PySem.W.hasDictIn K C=true
 po:PySem.W.plainOver K C=true
 sa:PySem.W.findIn K (.ref C) "__setattr__" = some (some (.builtin "object.__setattr__"))
theorem Cls.get{K:PySem.W.Frag}{C:Addr}(c:Cls K C)(f:Str): PySem.W.plainGet K C f=true:=c.pg
def NoAttr(K:PySem.W.Frag)(C:Addr)(f:Str): Prop:=PySem.W.findIn K (.ref C) f=some none
theorem NoAttr.taker{K:PySem.W.Frag}{C:Addr}{f:Str}(n:NoAttr K C f): PySem.W.takerIn K C f=some none:=by
 unfold PySem.W.takerIn;rw [show PySem.W.findIn K (.ref C) f=some none from n]
 rfl
structure Meth(K:PySem.W.Frag)(C:Addr)(m:Str)(f:Addr): Prop where
 at_:PySem.W.findIn K (.ref C) m=some (some (.ref f))
 fn:PySem.W.isFn K (.ref f)=true
 kp:PySem.W.keepIn K (.ref f)=true
section
variable{X:Cx}{pins:Td}{σ : St}{H:Hp}{s:Shared}{a C dx:Addr}{fs:List (Str×V)}{f:Str}{v:V}{A:Around}{E:Ta}
theorem qlk{b:Bool}{Q:Ta}(I:Inv X pins σ H s)(e:H a=some (.ins C dx fs))(c:Cls X.K C)(n:NoAttr X.K C f)(l:fs.lookup f=some v)
  (h:∀u s',Inv X pins σ H s'->RelV v u->Q u s'):wpAny (model X.prog X.w) A (getAttr (.ref a) f b) Q E s:=by
 obtain⟨mA,O,r,_,_,_⟩:=q8i I.hok e;obtain⟨u,hu,ru⟩:=RelO.some_of (v:=v) (o:=mA f) (by rw [<- l];exact r f);exact get_map I.kIn O (c.get f) c.hd n hu (qnk ru) (h u _ (I.tok _) ru)
theorem q5c{m:Str}{g:Addr}{pl:Sem Bool}{Q:Value×List Value->Shared->Prop}(I:Inv X pins σ H s)(e:H a=some (.ins C dx fs))(c:Cls X.K C)(k:Meth X.K C m g)(l:fs.lookup m=none)
  (h:Q (.ref g,[.ref a]) s):wpAny (model X.prog X.w) A (getMethod (.ref a) m pl) Q E s:=by
 obtain⟨mA,O,r,_,_,_⟩:=q8i I.hok e;have hn:mA m=none:=RelO.none_of (by rw [<- l];exact r m);exact qq9 I.kIn O (c.get m) k.at_ k.fn hn h
theorem qll{y:V}{u:Value}{Q:Unit->Shared->Prop}(I:Inv X pins σ H s)(e:H a=some (.ins C dx fs))(c:Cls X.K C)(n:NoAttr X.K C f)(hl:fs.length<1000)(ry:RelV y u)
  (h:∀s',Inv X pins σ (upd H a (.ins C dx (kf f y fs))) s'->Q () s'):wpAny (model X.prog X.w) A (setAttr (.ref a) f u) Q E s:=by
 obtain⟨mA,O,r,wi,_,ho⟩:=q8i I.hok e;have hz:(fs.map (·.1)).length<=sizeLine:=by rw [gv,g03];omega
 refine quc I.kIn O c.sa c.po n.taker c.hd wi hz fun h' O' sb=>h _ ?_;have hd:∃o,h'.get? dx=some o:=let⟨o,_,_,e',_⟩:=O'.ns; ⟨o,e'⟩
 refine I.write (x:=a) (e:=dx) (by rw [e];exact True.intro) (.inr ho) (fun b q hb z=>(sb.2 b hb).trans z) hd ?_;refine⟨by rw [qr O.ne];exact ho,?_,O.ne,O'.obj,_,O'.ns,fun g=>?_,fun g hg=>?_⟩
 ·have:=q93 f y fs;omega
 ·show RelO ((kf f y fs).lookup g) (if g=f then some u else mA g)
  rw [q92]
  by_cases q:g=f
  ·rw [gw q,gw q];exact ry
  ·rw [mf q,mf q];exact r g
 ·by_cases q:g=f
  ·rw [q];exact(q6z f y fs).1
  ·refine(q6z f y fs).2 g (wi g fun z=>hg ?_)
   show(if g=f then some u else mA g)=none;rw [mf q];exact z
theorem Inv.made(I:Inv X pins σ H s): Inv X pins σ (upd (upd H s.heap.objs.size (.own (s.heap.objs.size+1))) (s.heap.objs.size+1) (.ins C s.heap.objs.size []))
  {s with heap:=(s.heap.push PySem.W.emptyDict).push (PySem.W.instObj C s.heap.objs.size)}:=by
 have e1:(s.heap.push PySem.W.emptyDict).get? s.heap.objs.size=some PySem.W.emptyDict:=gs s.heap rfl;have e2:((s.heap.push PySem.W.emptyDict).push (PySem.W.instObj C s.heap.objs.size)).get? (s.heap.objs.size+1)=some (PySem.W.instObj C s.heap.objs.size):=by
  have:=gs (s.heap.push PySem.W.emptyDict) (o:=PySem.W.instObj C s.heap.objs.size) rfl;rwa [ph] at this
 have e3:(s.heap.push PySem.W.emptyDict).Ns s.heap.objs.size (fun _=>none):=⟨PySem.W.emptyDict, #[],_,e1,rfl,(fun e he=>absurd he (by simp)),fun _=>rfl⟩
 have I1:=I.laid (a:=s.heap.objs.size) (o:=.own (s.heap.objs.size+1)) (h':=s.heap.push PySem.W.emptyDict) (t':=s.toks) (fun b u q=>gh _ q) (m6 _) ⟨_,e1⟩;refine I1.laid (a:=s.heap.objs.size+1) (o:=.ins C s.heap.objs.size []) (t':=s.toks) (fun b u q=>gh _ q) (g5e (ph _ _)) ?_;have ne:s.heap.objs.size≠s.heap.objs.size+1:=m4 (t8 _);refine⟨by rw [qr ne,za],u6 _,ne,e2,fun _=>none,(Heap.Ns1.of_empty e3).at fun o q=>gh _ q,fun _=>True.intro,fun y hy=>absurd rfl hy⟩
theorem qud{prog:Program}{w:World}{env:Env}{e:Expr}{f:Str}{pos:Pos}{s:Shared}{Q:Ta}(hb:attributeBase e f env (eval e env)=eval e env)
  (h:wpAny (model prog w) A (eval e env) (fun o s₁=>wpAny (model prog w) A (getAttr o f true) Q E s₁) E s):wpAny (model prog w) A (eval (.Attribute e f pos) env) Q E s:=
 Attribute_any_ h (by rw [arm_eval_Attribute,hb])
end
def z1f(K:PySem.W.Frag)(ta:TE)(f:Str): TE:=fun σ H Q=>ta σ H fun x H1=>∃a C dx fs v,x=.ref a/\H1 a=some (.ins C dx fs)/\Cls K C/\NoAttr K C f/\fs.lookup f=some v/\Q v H1
def z1g(K:PySem.W.Frag)(ta tv:TE)(f:Str): TS:=fun D σ H=>tv σ H fun y H1=>ta σ H1 fun x H2=>∃a C dx fs,x=.ref a/\H2 a=some (.ins C dx fs)/\Cls K C/\NoAttr K C f/\fs.length<1000 /\
 D.nx σ (upd H2 a (.ins C dx (kf f y fs)))
section
variable{X:Cx}{o e value:Expr}{f:Str}{pos pos' tpos:Pos}{ta tv:TE}
theorem qx6(he:PE X e ta)(hb:attributeBase e f X.env (eval e X.env)=eval e X.env): PE X (.Attribute e f pos) (z1f X.K ta f):=by
 intro pins s σ H Q I h;refine qud hb (thn (he pins s σ H _ I h) fun u s1 ⟨x,H1,I1,rx,a,C,dx,fs,v,ex,ea,c,n,l,q⟩=>?_);subst ex;obtain rfl:u=Value.ref a:=rx;exact qlk I1 ea c n l fun u' s2 I2 ru=>⟨v,H1,I2,ru,q⟩
theorem qx7(ha:PE X o ta)(hv:PE X value tv)(hs:swapsWith value (some (.Attribute o f pos')) pos.line X.env=pure false): PS X (.Assign [.Attribute o f pos'] value pos) (z1g X.K ta tv f):=by
 intro pins s σ H D I h;refine g3a (thn (hv pins s σ H _ I h) fun u s1 ⟨y,H1,I1,ry,q⟩=>thn (ha pins s1 σ H1 _ I1 q) fun ov s2 ⟨x,H2,I2,rx,a,C,dx,fs,ex,ea,c,n,l,q2⟩=>?_) hs;subst ex;obtain rfl:ov=Value.ref a:=rx;exact qll I2 ea c n l ry fun s3 I3=>⟨σ,_,I3,q2⟩
end
section
variable{X:Cx}{pins:Td}{σ : St}{H:Hp}{s:Shared}{A:Around}{E:Ta}{Q:Ta}{c:Value}{b:Bool}
end
structure Room(k:Nat)(A:Around): Prop where
 hd:A.handled=none
 dp:A.depth+3*k+5<recursionLimit
 un:A.units+16*k+200<cLine
theorem Room.mono{j k:Nat}{A:Around}(r:Room k A)(h:j<=k): Room j A:=⟨r.hd,by have:=r.dp;omega,by have:=r.un;omega⟩
theorem Room.deeper{k:Nat}{A:Around}(r:Room (k+1) A)(env:Env): Room k (A.deeper env):=
 ⟨r.hd,by have:=r.dp;show A.depth+1+3*k+5<_;omega,by have:=r.un;show A.units+3+16*k+200<_;omega⟩
theorem Room.in1{k:Nat}{A:Around}(r:Room (k+1) A): Room k A.in1:=
 ⟨r.hd,by have:=r.dp;show A.depth+3*k+5<_;omega,by have:=r.un;show A.units+1+16*k+200<_;omega⟩
theorem qlm{A:Around}{C:Addr}{us:List Value}{kw:List (Str×Value)}: (A.under (.builtin "type.__call__" ⟨.ref C :: us,kw⟩)).depth=A.depth+1:=by
 first|rfl|simp [Around.under,Code.weight,Code.isCreation,Code.isGuard,Code.isCaller,Code.frames,Code.isFrame,guardIds]
theorem qln{A:Around}{C:Addr}{us:List Value}{kw:List (Str×Value)}: (A.under (.builtin "type.__call__" ⟨.ref C :: us,kw⟩)).units=A.units+1:=by
 first|rfl|simp [Around.under,Code.cUnits,Code.frames,Code.isFrame]
theorem Room.make{k:Nat}{A:Around}(r:Room (k+1) A)(C:Addr)(us:List Value)(kw:List (Str×Value)): Room k (A.under (.builtin "type.__call__" ⟨.ref C :: us,kw⟩)):=
 ⟨r.hd,by have:=r.dp;rw [qlm];omega,by have:=r.un;rw [qln];omega⟩
theorem Room.depth{k:Nat}{A:Around}(r:Room k A): A.depth<recursionLimit:=by have:=r.dp;omega
theorem Room.units{k:Nat}{A:Around}(r:Room k A): A.units+64<cLine:=by have:=r.un;omega
def tNil:TA:=fun _ H Q=>Q [] H
def z04(ta:TE)(tr:TA): TA:=fun σ H Q=>ta σ H fun x H1=>tr σ H1 fun xs H2=>Q (x :: xs) H2
section
variable{X:Cx}{e:Expr}{es:List Expr}{te:TE}{t:TA}{pos:Pos}
theorem wq:PA X [] tNil:=fun _ _ _ _ H Q I h=>g46 ⟨[],H,I,.nil,h⟩
theorem xm(ha:PE X e te)(hr:PA X es t)(hs:starEach (e :: es) X.env=(false,eval e X.env) :: starEach es X.env:=by rfl): PA X (e :: es) (z04 te t):=by
 intro pos pins s σ H Q I h;rw [hs];show wpAny _ _ (spliced ((false,eval e X.env) :: backTo pos (starEach es X.env))) _ _ s;refine g3u (thn (ha pins s σ H _ I h) fun u s1 ⟨x,H1,I1,r1,q1⟩=>?_);exact thn (hr pos pins s1 σ H1 _ I1 q1) fun us s2 ⟨xs,H2,I2,r2,q2⟩=>⟨x :: xs,H2,I2,.cons r1 r2,q2⟩
def z1h(t:TA): TE:=fun σ H Q=>t σ H fun xs H1=>xs.length<=sizeLine/\∀p,H1 p=none->Q (.ref p) (upd H1 p (.tup xs))
def z1i(t:TA): TE:=fun σ H Q=>t σ H fun xs H1=>xs.length<=sizeLine/\∀p,H1 p=none->Q (.ref p) (upd H1 p (.lst xs))
theorem qx8{x1}(h:PA X es t): PE X (.Tuple es x1 pos) (z1h t):=by
 intro pins s σ H Q I hq;refine wpAny_Tuple_spliced (thn (h pos pins s σ H _ I hq) fun us s1 ⟨xs,H1,I1,r,z,q⟩=>⟨by rw [<- r.length];exact z,?_⟩);have hf:H1 s1.heap.objs.size=none:=I1.hok.fresh (m6 _);refine⟨.ref s1.heap.objs.size,upd H1 s1.heap.objs.size (.tup xs),I1.laid (t':=s1.toks) (fun b u e=>gh _ e) (m6 _) ?_,rfl,q _ hf⟩;exact⟨z,us,r,⟨_,gs _ rfl,rfl,rfl,_,rfl⟩⟩
theorem qnl(h:PA X es t): PE X (.List es pos) (z1i t):=by
 intro pins s σ H Q I hq;refine wpAny_List_spliced (thn (h pos pins s σ H _ I hq) fun us s1 ⟨xs,H1,I1,r,z,q⟩=>⟨by rw [<- r.length];exact z,?_⟩);have hf:H1 s1.heap.objs.size=none:=I1.hok.fresh (m6 _);refine⟨.ref s1.heap.objs.size,upd H1 s1.heap.objs.size (.lst xs),I1.laid (t':=s1.toks) (fun b u e=>gh _ e) (m6 _) ?_,rfl,q _ hf⟩;exact⟨z,us,0,r,gs _ rfl⟩
end
abbrev Sp:=List V->Hp->VK->XK->Prop
abbrev CXT:=List Env->Hp->Shared->XK->Value->Shared->Prop
structure Env0(P:Program)(w:World)(K:PySem.W.Frag)(mg:Tc)(base:Heap)(A:Around)(outer:List Env)(s:Shared)(H:Hp): Prop where
 frames:A.frames=some outer
 mod:Mod K mg base
 bs:∀b o,base.get? b=some o->s.heap.get? b=some o/\H b=none
 bsz:base.objs.size<=s.heap.objs.size
 funs:s.heap.FunFrames base outer
 frf:∀b∈frs outer,H b=none
 hok:HOk P w H s.heap
 bare:AllBare s.gens
def CE(outer:List Env)(P:Program)(w:World)(H:Hp)(s:Shared)(Q:VK)(u:Value)(s':Shared): Prop:=
 ∃v H',s'.os=s.os/\AllBare s'.gens/\Un (frs outer) [] H H' s.heap s'.heap/\HOk P w H' s'.heap/\RelV v u/\Q v H'
def CR(CX:CXT)(outer:List Env)(P:Program)(w:World)(H:Hp)(s:Shared)(Q:VK)(E:XK)(r:Result)(s':Shared): Prop:=
 match r with
 | .ok (.ret u)=>CE outer P w H s Q u s'
 | .ok _=>False
 | .error e=>CX outer H s E e s'
structure FnOk(P:Program)(w:World)(K:PySem.W.Frag)(mg:Tc)(base:Heap)(CX:CXT)(k:Nat)(f:Addr)(fd:FuncData)(ps:List Str)(sp:Sp): Prop where
 len:∀vs H Q E,sp vs H Q E->vs.length=ps.length
 run:∀(A:Around) (outer:List Env) (s:Shared) (H:Hp) (args:Args) (us:List Value) (vs:List V) (Q:VK) (E:XK),Room k A->Env0 P w K mg base A outer s H->BindsTo s fd args (ps.zip us)->Vals vs us->sp vs H Q E ->
  codeAny (model P w) A (.call (.ref f) args) (CR CX outer P w H s Q E) s
theorem FnOk.imp{P:Program}{w:World}{K:PySem.W.Frag}{mg:Tc}{base:Heap}{CX:CXT}{k:Nat}{f:Addr}{fd:FuncData}{ps:List Str}{sp sp':Sp}(F:FnOk P w K mg base CX k f fd ps sp)
  (h:∀vs H Q E,sp' vs H Q E->sp vs H Q E):FnOk P w K mg base CX k f fd ps sp':=
 ⟨fun vs H Q E q=>F.len vs H Q E (h _ _ _ _ q),fun A outer s H args us vs Q E hr he hb hv hs=>F.run A outer s H args us vs Q E hr he hb hv (h _ _ _ _ hs)⟩
theorem Env0.make{P:Program}{w:World}{K:PySem.W.Frag}{mg:Tc}{base:Heap}{A:Around}{outer:List Env}{s:Shared}{H:Hp}(e:Env0 P w K mg base A outer s H)(C:Addr)(us:List Value)(kw:List (Str×Value)):
  Env0 P w K mg base (A.under (.builtin "type.__call__" ⟨.ref C :: us,kw⟩)) outer s H:=⟨by first|exact e.frames|(simpa [Around.under,Code.envs,Code.isFrame,pushEnvs] using e.frames),e.mod,e.bs,e.bsz,e.funs,e.frf,e.hok,e.bare⟩
section
variable{X:Cx}{pins:Td}{σ : St}{H:Hp}{s s':Shared}
theorem Inv.env0(I:Inv X pins σ H s): Env0 X.prog X.w X.K X.mg X.base X.A X.stack s H:=
 ⟨I.ok.frames,I.ok.mod,I.bs,mi I.ok.bsz I.sz,I.stack,I.stkFree,I.hok,I.bare⟩
theorem Inv.after{Q:VK}{u:Value}(I:Inv X pins σ H s)(h:CE X.stack X.prog X.w H s Q u s'): EP X pins σ Q u s':=by
 obtain⟨v,H',os,bare,un,hok,r,q⟩:=h;obtain⟨hh,g,d,t,os'⟩:=s';obtain rfl:os'=s.os:=os;exact⟨v,H',I.call (h':=hh) (g':=g) (d':=d) (t':=t) (ch:=[]) un hok bare (fun b z=>absurd z (by simp)),r,q⟩
end
def z05(sp:Sp)(dvs:List V)(E:XK)(t:TA): TE:=fun σ H Q=>t σ H fun vs H1=>sp (vs++dvs) H1 Q E
def qb1(C:Addr)(m:Str)(sp:Sp)(dvs:List V)(E:XK)(ta:TE)(t:TA): TE:=fun σ H Q=>ta σ H fun x H1=>∃a dx fs,x=.ref a/\H1 a=some (.ins C dx fs)/\fs.lookup m=none /\
 t σ H1 fun vs H2=>sp (x :: (vs++dvs)) H2 Q E
def z06(C:Addr)(sp:Sp)(dvs:List V)(E:XK)(t:TA): TE:=fun σ H Q=>t σ H fun vs H1=>∀x dx,H1 x=none->H1 dx=none->dx≠x ->
 sp (.ref x :: (vs++dvs)) (upd (upd H1 dx (.own x)) x (.ins C dx [])) (fun v H2=>v=.non/\Q (.ref x) H2) E
def Binds(K:PySem.W.Frag)(fd:FuncData)(ps:List Str)(ds:List Value): Prop:=
 ∀(s:Shared) (us:List Value),K.In s.heap->(us++ds).length=ps.length->BindsTo s fd ⟨us,[]⟩ (ps.zip (us++ds))
def q1s(CX:CXT)(X:Cx)(E:XK): Prop:=∀(pins:Td) (σ : St) (H:Hp) (s:Shared) (e:Value) (s':Shared),Inv X pins σ H s->CX X.stack H s E e s'->X.xe e s'
section
variable{X:Cx}{CX:CXT}{k:Nat}{f C:Addr}{fd:FuncData}{ps:List Str}{sp:Sp}{dvs:List V}{ds:List Value}{E:XK}{x m:Str}{p pos apos:Pos}{e o:Expr}{es:List Expr}{ta:TE}{t:TA}
theorem qg7{pins:Td}{σ : St}{H:Hp}{s:Shared}{Q:VK}{us:List Value}{vs:List V}(F:FnOk X.prog X.w X.K X.mg X.base CX k f fd ps sp)(hr:Room k X.A)(hb:Binds X.K fd ps ds)(hd:Vals dvs ds)(hx:q1s CX X E)
  (I:Inv X pins σ H s) (r:Vals vs us) (h:sp (vs++dvs) H Q E):wpAny (model X.prog X.w) X.A (call (.ref f) us) (EP X pins σ Q) X.xe s:=by
 have r2:Vals (vs++dvs) (us++ds):=r.append hd;have hl:(us++ds).length=ps.length:=by rw [<- r2.length];exact F.len _ _ _ _ h
 refine g0q (g0t (F.run X.A X.stack s H ⟨us,[]⟩ (us++ds) (vs++dvs) Q E hr I.env0 (hb s us I.kIn hl) r2 h) fun r s' hq=>?_);cases r with
 | error e=>exact hx pins σ H s e s' I hq
 | ok fl=>
  cases fl with
  | ret u=>exact I.after hq
  | next=>exact False.elim hq
  | brk=>exact False.elim hq
  | cont=>exact False.elim hq
theorem q8j(F:FnOk X.prog X.w X.K X.mg X.base CX k f fd ps sp)(hr:Room k X.A)(hg:Gl X x)(hm:X.mg x=some (.ref f))(hk:PySem.W.keepIn X.K (.ref f)=true)(hb:Binds X.K fd ps ds)(hd:Vals dvs ds)(hx:q1s CX X E)
  (ha:PA X (e :: es) t) (hdb:(x==("__debug__" : Str))=false:=by decide) (he:starEach (e :: es) X.env=(false,eval e X.env) :: starEach es X.env:=by rfl) (hpl:(backTo pos (starEach es X.env)).any (·.1)=false:=by rfl) :
  PE X (.Call (.Name x p) (e :: es) [] pos) (z05 sp dvs E t):=by
 intro pins s σ H Q I h;refine g0a (k9 I hg hm ?_ hdb);refine g1j (h₀:=X.base) I.ok.mod.kin hk (thn (ha pos pins s σ H _ I h) fun us s1 ⟨vs,H1,I1,r,q⟩=>⟨I1.kIn,?_⟩) he hpl;exact qg7 F hr hb hd hx I1 r q
theorem q8k{pl:Sem Bool}(he:PE X o ta)(c:Cls X.K C)(hm:Meth X.K C m f)(F:FnOk X.prog X.w X.K X.mg X.base CX k f fd ps sp)(hr:Room k X.A)(hb:Binds X.K fd ps ds)(hd:Vals dvs ds)(hx:q1s CX X E)(ha:PA X (e :: es) t)
  (hst:starEach (e :: es) X.env=(false,eval e X.env) :: starEach es X.env:=by rfl) (hpl:(backTo pos (starEach es X.env)).any (·.1)=false:=by rfl)
  (ht:eval (.Call (.Attribute o m apos) (e :: es) [] pos) X.env=(do
   let ov <- eval o X.env
   standAt apos.atName
   let(f,first) <- holding [ov] (getMethod ov m pl)
   callWith pos f first (backTo pos (starEach (e :: es) X.env)) (backToKw pos (keywordEach [] X.env))):=by rfl) :
  PE X (.Call (.Attribute o m apos) (e :: es) [] pos) (qb1 C m sp dvs E ta t):=by
 intro pins s σ H Q I h;refine g1v (pl:=pl) (thn (he pins s σ H _ I h) fun u s1 ⟨x,H1,I1,rx,a,dx,fs,ex,ea,l,q⟩=>?_) ht;subst ex;obtain rfl:u=Value.ref a:=rx;refine q5c I1 ea c hm l ?_;refine g1j (first:=[.ref a]) (h₀:=X.base) I.ok.mod.kin hm.kp (thn (ha pos pins s1 σ H1 _ I1 q) fun us s2 ⟨vs,H2,I2,r,q2⟩=>⟨I2.kIn,?_⟩) hst hpl;exact qg7 (us:=.ref a :: us) (vs:=.ref a :: vs) F hr hb hd hx I2 (.cons rfl r) q2
theorem qg8{pl:Sem Bool}(he:PE X o ta)(c:Cls X.K C)(hm:Meth X.K C m f)(F:FnOk X.prog X.w X.K X.mg X.base CX k f fd ps sp)(hr:Room k X.A)(hb:Binds X.K fd ps ds)(hd:Vals dvs ds)(hx:q1s CX X E)
  (ht:eval (.Call (.Attribute o m apos) [] [] pos) X.env=(do
   let ov <- eval o X.env
   standAt apos.atName
   let(f,first) <- holding [ov] (getMethod ov m pl)
   callWith pos f first (backTo pos (starEach [] X.env)) (backToKw pos (keywordEach [] X.env))):=by rfl) :
  PE X (.Call (.Attribute o m apos) [] [] pos) (qb1 C m sp dvs E ta tNil):=by
 intro pins s σ H Q I h;refine g1v (pl:=pl) (thn (he pins s σ H _ I h) fun u s1 ⟨x,H1,I1,rx,a,dx,fs,ex,ea,l,q⟩=>?_) ht;subst ex;obtain rfl:u=Value.ref a:=rx;refine q5c I1 ea c hm l ?_;exact PySem.W.callWith_K0 (first:=[.ref a]) I1.kIn hm.kp (qg7 (us:=[.ref a]) (vs:=[.ref a]) F hr hb hd hx I1 (.cons rfl .nil) q)
structure Mk(K:PySem.W.Frag)(C f:Addr): Prop where
 makes:PySem.W.makesIn K C=true
 init:PySem.W.findIn K (.ref C) "__init__" = some (some (.ref f))
 fn:PySem.W.isFn K (.ref f)=true
 kp:PySem.W.keepIn K (.ref C)=true
theorem qqb{pins:Td}{σ : St}{H:Hp}{s:Shared}{Q:VK}{us:List Value}{vs:List V}(M:Mk X.K C f)(F:FnOk X.prog X.w X.K X.mg X.base CX k f fd ps sp)(hr:Room (k+1) X.A)(hb:Binds X.K fd ps ds)(hd:Vals dvs ds)
  (hx:q1s CX X E) (I:Inv X pins σ H s) (r:Vals vs us)
  (h:∀x dx,H x=none->H dx=none->dx≠x->sp (.ref x :: (vs++dvs)) (upd (upd H dx (.own x)) x (.ins C dx [])) (fun v H2=>v=.non/\Q (.ref x) H2) E) :
  wpAny (model X.prog X.w) X.A (call (.ref C) us) (EP X pins σ Q) X.xe s:=by
 have hq:=h (s.heap.objs.size+1) s.heap.objs.size (I.hok.fresh (g1o _)) (I.hok.fresh (m6 _)) (m4 (t8 _));have I2:=Inv.made (C:=C) I;have r2:Vals (V.ref (s.heap.objs.size+1) :: (vs++dvs)) (Value.ref (s.heap.objs.size+1) :: (us++ds)):=.cons rfl (r.append hd);have hl:(Value.ref (s.heap.objs.size+1) :: us++ds).length=ps.length:=by
  have e:=r2.length;rw [F.len _ _ _ _ hq] at e;exact e.symm
 refine g0q (qqa (f:=f) I.kIn M.makes M.init (ux.mp M.fn) (g0t (F.run _ X.stack _ _ ⟨Value.ref (s.heap.objs.size+1) :: us,[]⟩ (Value.ref (s.heap.objs.size+1) :: (us++ds)) _ _ E (hr.make C us [])
  (I2.env0.make C us []) (hb _ (Value.ref (s.heap.objs.size+1) :: us) I2.kIn hl) r2 hq) fun r s' hq'=>?_))
 cases r with
 | error e=>exact hx pins σ _ _ e s' I2 hq'
 | ok fl=>
  cases fl with
  | ret u=>
   obtain⟨v,H',I3,rv,ev,q3⟩:=I2.after hq';subst ev;exact⟨rv,⟨V.ref (s.heap.objs.size+1),H',I3,rfl,q3⟩⟩
  | next=>exact False.elim hq'
  | brk=>exact False.elim hq'
  | cont=>exact False.elim hq'
theorem qk6(M:Mk X.K C f)(F:FnOk X.prog X.w X.K X.mg X.base CX k f fd ps sp)(hr:Room (k+1) X.A)(hg:Gl X x)(hm:X.mg x=some (.ref C))(hb:Binds X.K fd ps ds)(hd:Vals dvs ds)(hx:q1s CX X E)
  (ha:PA X (e :: es) t) (hdb:(x==("__debug__" : Str))=false:=by decide) (he:starEach (e :: es) X.env=(false,eval e X.env) :: starEach es X.env:=by rfl) (hpl:(backTo pos (starEach es X.env)).any (·.1)=false:=by rfl) :
  PE X (.Call (.Name x p) (e :: es) [] pos) (z06 C sp dvs E t):=by
 intro pins s σ H Q I h;refine g0a (k9 I hg hm ?_ hdb);refine g1j (h₀:=X.base) I.ok.mod.kin M.kp (thn (ha pos pins s σ H _ I h) fun us s1 ⟨vs,H1,I1,r,q⟩=>⟨I1.kIn,?_⟩) he hpl;exact qqb M F hr hb hd hx I1 r q
end
section
variable{X:Cx}{CX:CXT}{k:Nat}{f C:Addr}{fd:FuncData}{ps ks:List Str}{sp:Sp}{E:XK}{x m:Str}{p pos apos kpos:Pos}{e o:Expr}{es:List Expr}{kws:List Keyword}{te ta:TE}{t tk:TA}{nm:Option Str}
variable{g:List Value->List Value->List Value}{gV:List V->List V->List V}
end
structure FnScope(N P:List Str)(sc:Scope): Prop where
 kind:sc.kind=.function
 co:sc.isCoroutine=false
 gen:sc.isGenerator=false
 nd:N.Nodup
 pre:N.take P.length=P
 par:∀x∈P,sc.names.lookup x=some .local\/sc.names.lookup x=some .cell
 nofree:∀y∈sc.names,y.2 ≠ .free
theorem qe7{kindOf:Str->Option NameKind}{x:Str}: ∀ {binds:List (Str×Value)} {m:Tc},(∀v,(x,v)∉binds)->bindL kindOf binds m x=m x
 | [],_,_=>rfl
 | (n,v) :: r,m,h=>by
  unfold bindL;rw [qe7 fun w hw=>h w (gz _ hw)]
  split
  ·have:x≠n:=by rintro rfl;exact h v ma
   simp [this]
  ·rfl
theorem qe8{kindOf:Str->Option NameKind}{x:Str}: ∀ {binds:List (Str×Value)} {m:Tc},(∀v,(x,v)∉binds)->bindC kindOf binds m x=m x
 | [],_,_=>rfl
 | (n,v) :: r,m,h=>by
  unfold bindC;rw [qe8 fun w hw=>h w (gz _ hw)]
  split
  ·rfl
  ·have:x≠n:=by rintro rfl;exact h v ma
   simp [this]
theorem qe9{kindOf:Str->Option NameKind}{x:Str}{v:Value}: ∀ {P:List Str} {vs:List Value} {i:Nat} {m:Tc},P.Nodup->P[i]? = some x->vs[i]? = some v->kindOf x=some .local ->
  bindL kindOf (P.zip vs) m x=some v
 | [],_,_,_,_,h,_,_=>by simp at h
 | _ :: _,[],_,_,_,_,h,_=>by simp at h
 | p :: P,w :: vs,0,m,nd,h1,h2,hk=>by
  simp at h1 h2;subst h1;subst h2;show bindL kindOf ((p,w) :: P.zip vs) m p=_;unfold bindL;rw [qe7 fun v hv=>(uy.mp nd).1 (g4t hv).1,gw hk];simp
 | p :: P,w :: vs,i+1,m,nd,h1,h2,hk=>by
  show bindL kindOf ((p,w) :: P.zip vs) m x=_;unfold bindL;exact qe9 (i:=i) (uy.mp nd).2 (by simpa using h1) (by simpa using h2) hk
theorem qea{kindOf:Str->Option NameKind}{x:Str}{v:Value}: ∀ {P:List Str} {vs:List Value} {i:Nat} {m:Tc},P.Nodup->P[i]? = some x->vs[i]? = some v->kindOf x≠some .local ->
  bindC kindOf (P.zip vs) m x=some v
 | [],_,_,_,_,h,_,_=>by simp at h
 | _ :: _,[],_,_,_,_,h,_=>by simp at h
 | p :: P,w :: vs,0,m,nd,h1,h2,hk=>by
  simp at h1 h2;subst h1;subst h2;show bindC kindOf ((p,w) :: P.zip vs) m p=_;unfold bindC;rw [qe8 fun v hv=>(uy.mp nd).1 (g4t hv).1,mf hk];simp
 | p :: P,w :: vs,i+1,m,nd,h1,h2,hk=>by
  show bindC kindOf ((p,w) :: P.zip vs) m x=_;unfold bindC;exact qea (i:=i) (uy.mp nd).2 (by simpa using h1) (by simpa using h2) hk
def start(N:List Str)(vs:List V): St:=vs.map some++List.replicate (N.length-vs.length) none
def zx(CX:CXT)(P:Program)(w:World)(K:PySem.W.Frag)(mg:Tc)(base:Heap)(N:List Str)(qual:Str)(scope:Scope)(f:Addr)(cd:Value)(A:Around)(outer:List Env)(s:Shared)(H:Hp)(E:XK): Cx where
 prog:=P
 w:=w
 K:=K
 mg:=mg
 base:=base
 A:=A.deeper (envOfC qual scope s.heap.objs.size f cd)
 N:=N
 s₀:=s
 H₀:=H
 env:=envOfC qual scope s.heap.objs.size f cd
 outer:=outer
 stack:=envOfC qual scope s.heap.objs.size f cd :: outer
 ex:=[]
 calm:=true
 fn:=fun _=>true
 pn:=[]
 xe:=fun e s'=>wpAny (model P w) (A.deeper (envOfC qual scope s.heap.objs.size f cd)) (leaving (envOfC qual scope s.heap.objs.size f cd) e) (fun _ s''=>CX outer H s E e s'') (fun e' s''=>CX outer H s E e' s'') s'
theorem qg9{sc:Scope}{n:Nat}{x:Str}(h:sc.names.lookup x=some .cell): ∃c,(cellsFrom n sc.names []).lookup x=some c:=by
 have q:=g4z sc.names n [] (.inl h);exact g1a.mp q
theorem qnm{CX:CXT}{P:Program}{w:World}{K:PySem.W.Frag}{mg:Tc}{base:Heap}{N ps:List Str}{qual:Str}{scope:Scope}{f:Addr}{cd:Value}{A:Around}{outer:List Env}{s s1:Shared}{H:Hp}{E:XK}{us:List Value}{vs:List V}
  (S:FnScope N ps scope) (hd:A.handled=none) (e0:Env0 P w K mg base A outer s H) (hl:vs.length=ps.length) (r:Vals vs us)
  (x:InCallC s s.heap.objs.size (bindL (envOfC qual scope s.heap.objs.size f cd).kindOf (ps.zip us) fun _=>none) (cellsFrom (s.heap.objs.size+1) scope.names []) (bindC (envOfC qual scope s.heap.objs.size f cd).kindOf (ps.zip us) fun _=>none) s1) :
  Inv (zx CX P w K mg base N qual scope f cd A outer s H E) [] (start N vs) H s1:=by
 have hpl:ps.length<=N.length:=by have:=ui List.length S.pre;rw [u9] at this;omega
 obtain⟨h1,tk,rfl,hk⟩:=x.done;have noA:∀b:Addr,b∉(zx CX P w K mg base N qual scope f cd A outer s H E).ex:=fun b z=>absurd (show b∈([]:List Addr) from z) (by simp);refine⟨⟨e0.mod,S.kind,rfl,rfl,m6 _,fun y z c h1 h2=>?_,fun y hy=>?_,fun y c _ h=>?_,fun _=>hd,Around.frames_deeper e0.frames,.inr ⟨rfl,rfl⟩,fun b z=>absurd z (noA b),e0.bs,e0.bsz,fun b _ _=>noA b,fun b z=>absurd z (noA b),e0.funs,e0.frf⟩,
  rfl,e0.bare,Un.kept hk,⟨_,x.toInCall.ns,fun i y v h1 h2 h3=>?_⟩,fun y c h=>⟨_,x.cell y c h⟩,e0.hok.fresh (m6 _),fun y c h=>?_,fun p hp=>absurd (show p∈([]:Td) from hp) (by simp),e0.hok.kept hk,?_⟩
 ·exact name_of_addr x.apart (g1d h1) (g1d h2)
 ·have hy:scope.names.lookup y=some .cell\/scope.names.lookup y=some .free:=hy
  rcases hy with hy|hy
  ·exact qg9 hy
  ·exact absurd rfl (S.nofree _ (g1d hy))
 ·exact g3b (x.above y c (g1d h))
 ·have hi:i<vs.length:=by
   unfold start at h2
   by_cases hi:i<vs.length
   ·exact hi
   ·rw [tx (by simpa using hi)] at h2
    rw [ug] at h2
    split at h2 <;> cases h2
  have ha:vs[i]? = some v:=by
   unfold start at h2;rw [pf (by simpa using hi),mq] at h2;cases e:vs[i]? with
   | none=>rw [e] at h2;cases h2
   | some a=>rw [e] at h2;cases h2;rfl
  obtain⟨u,hu,rv⟩:=r.get ha;have hp:ps[i]? = some y:=by
   rw [<- S.pre,g2d (by omega)];exact h1
  have ndP:ps.Nodup:=by rw [<- S.pre];exact S.nd.sublist (List.take_sublist _ _)
  refine⟨u,rv,?_⟩;rcases S.par y (uj hp) with k|k
  ·exact .inl ⟨k,qe9 ndP hp hu k⟩
  ·obtain⟨c,e⟩:=qg9 (n:=s.heap.objs.size+1) k
   refine .inr ⟨.inl k,c,e,?_⟩;have q:=x.cell y c e;rw [qea ndP hp hu (by show scope.names.lookup y≠_;rw [k];decide)] at q;exact q
 ·exact e0.hok.fresh (g3b (x.above y c (g1d h)))
 ·unfold start
  show _=N.length;rw [ng,gv,g36];omega
theorem qfm{CX:CXT}{P:Program}{w:World}{K:PySem.W.Frag}{mg:Tc}{base:Heap}{k:Nat}{f:Addr}{name qual:Str}{params:Arguments}{body:List Stmt}{scope:Scope}{dV kV doc pm cdv ct oc:Value}{an od:Option Addr}
  {osl:Tg} {N ps:List Str} {sp:Sp} (lk:K.lookup f=some ⟨oc,od,.func (PySem.W.fnOf name qual params body scope dV kV doc pm an cdv ct),osl⟩) (hcd:PySem.W.codeIn K cdv qual=true) (S:FnScope N ps scope)
  (len:∀vs H Q E,sp vs H Q E->vs.length=ps.length)
  (hbody:∀(A:Around) (outer:List Env) (s:Shared) (H:Hp) (vs:List V) (Q:VK) (E:XK),Room k (A.deeper (envOfC qual scope s.heap.objs.size f cdv))->sp vs H Q E ->
   ∃t,PSs (zx CX P w K mg base N qual scope f cdv A outer s H E) body t/\t {nx:=fun _ H'=>Q .non H',rt:=Q} (start N vs) H) :
  FnOk P w K mg base CX (k+1) f (PySem.W.fnOf name qual params body scope dV kV doc pm an cdv ct) ps sp:=by
 refine⟨len,fun A outer s H args us vs Q E hr e0 hb r hsp=>?_⟩;have hl:=len _ _ _ _ hsp;have KX:K.In s.heap:=e0.mod.kin.keeps fun b o e=>(e0.bs b o e).1;have lim:s.heap.NoLimit:=e0.mod.nolimit.keeps fun b o e=>(e0.bs b o e).1;have hkind:∀y∈ps.zip us,scope.names.lookup y.1=some .local\/(scope.names.lookup y.1=some .cell/\((cellsFrom (s.heap.objs.size+1) scope.names []).lookup y.1).isSome=true):=fun⟨n,v⟩ hy=>by
  rcases S.par n (g4t hy).1 with q|q
  ·exact .inl q
  ·exact .inr ⟨q,g4z _ _ _ (.inl q)⟩
 refine codeAny_call_function hr.depth (KX _ _ lk) rfl S.co S.gen rfl (PySem.W.codeRec_of KX hcd) (hb _ _ _ _ ?_);refine wpAny_newFunctionEnv_cells S.kind hkind fun env he s1 x=>?_;subst he;refine⟨lim.keeps x.toInCall.keep,codeAny_func ?_⟩;obtain⟨t,ht,hq⟩:=hbody A outer s H vs Q E (hr.deeper _) hsp;have I:Inv (zx CX P w K mg base N qual scope f cdv A outer s H E) [] (start N vs) H s1:=qnm S hr.hd e0 hl r x;refine nu (ht [] s1 (start N vs) H _ I hq) (fun fl s' hs=>?_) fun e s' hs=>hs;have fin:∀ {σ':St} {H':Hp} {v:V} {u:Value},Inv (zx CX P w K mg base N qual scope f cdv A outer s H E) [] σ' H' s'->RelV v u->Q v H'->CE outer P w H s Q u s':=
  fun {σ' H' v u} J rv q=>⟨v,H',J.os,J.bare,J.base,J.hok,rv,q⟩
 cases fl with
 | ret u=>
  obtain⟨v, σ',H',J,rv,q⟩:=hs;exact fin J rv q
 | next=>
  obtain⟨σ',H',J,q⟩:=hs;exact fin (v:=V.non) (u:=Value.none) J rfl q
 | brk=>
  obtain⟨_,_,_,q⟩:=hs;exact False.elim q
 | cont=>
  obtain⟨_,_,_,q⟩:=hs;exact False.elim q
section
variable{X:Cx}{x:Str}{p pos:Pos}{e:Expr}{es:List Expr}{t:TA}{id T:String}{r:List V->Hp->VK->Prop}
def tCB(r:List V->Hp->VK->Prop)(t:TA): TE:=fun σ H Q=>t σ H fun vs H1=>r vs H1 Q
theorem q9u(hc:xk X (.builtin id) r)(hg:Gl X x)(hm:X.mg x=none)(hv:bootBuiltins x=some (.builtin id))(ha:PA X (e :: es) t)(hn:x≠"__name__" :=by decide)(hdb:(x==("__debug__" : Str))=false:=by decide)
  (he:starEach (e :: es) X.env=(false,eval e X.env) :: starEach es X.env:=by rfl) (hpl:(backTo pos (starEach es X.env)).any (·.1)=false:=by rfl):PE X (.Call (.Name x p) (e :: es) [] pos) (tCB r t):=by
 intro pins s σ H Q I h;refine g0a (q0n I hg hm hv ?_ hn hdb);exact g3c (thn (ha pos pins s σ H _ I h) fun us s1 ⟨vs,H1,I1,r1,q1⟩=>hc pins s1 σ H1 vs us Q I1 r1 q1) he hpl
theorem q70(hc:xk X (.type T) r)(hg:Gl X x)(hm:X.mg x=none)(hv:bootBuiltins x=some (.type T))(ha:PA X (e :: es) t)(hn:x≠"__name__" :=by decide)(hdb:(x==("__debug__" : Str))=false:=by decide)
  (he:starEach (e :: es) X.env=(false,eval e X.env) :: starEach es X.env:=by rfl) (hpl:(backTo pos (starEach es X.env)).any (·.1)=false:=by rfl):PE X (.Call (.Name x p) (e :: es) [] pos) (tCB r t):=by
 intro pins s σ H Q I h;refine g0a (q0n I hg hm hv ?_ hn hdb);exact uf (thn (ha pos pins s σ H _ I h) fun us s1 ⟨vs,H1,I1,r1,q1⟩=>hc pins s1 σ H1 vs us Q I1 r1 q1) he hpl
end
end L2
namespace HT
open PySem PyProof.Rows
section
open PySem.SeqAt
open PySem.AutoSeq1 (wpAny_loadPart')
open PySem.MeetsSeq PySem.MeetsSeq2 PySem.MeetsSeq3
end
section
variable{prog:Program}{w:World}{A:Around}{E:Ta}{s:Shared}
theorem cat_tup{t b:Addr}{vs ws:List Value}{Q:Ta}(ht:IsTup s.heap t vs.toArray)(hb:IsTup s.heap b ws.toArray)(hv:vs≠[])
  (h1:ws=[]->Q (.ref t) s) (h2:ws≠[]->Q (.ref s.heap.objs.size) {s with heap:=s.heap.push {cls:=.type "tuple",data:=.seq (vs++ws).toArray} })
  (hsz:vs.length+ws.length<=sizeLine):wpAny (model prog w) A (binaryOp .Add (.ref t) (.ref b)) Q E s:=by
 obtain⟨⟨cls,dd,data,sl⟩,ho,hc,n,hd⟩:=id ht;obtain⟨⟨cls2,dd2,data2,sl2⟩,ho2,hc2,n2,hd2⟩:=id hb;simp only at hc hd hc2 hd2;subst hc hd hc2 hd2;have e:vs.toArray++ws.toArray=(vs++ws).toArray:=by simp
 by_cases hw:ws=[]
 ·exact g4h ⟨_,ho,rfl⟩ ⟨_,ho2,rfl⟩ g4i seq_tuple_add g2w g2p (g2e _ _)
   (tuple_addW1 t b vs.toArray ws.toArray n n2 dd dd2 sl sl2 (by simpa using hv) (by simp [hw])) ⟨ho,ho2,h1 hw⟩
 ·refine g4h ⟨_,ho,rfl⟩ ⟨_,ho2,rfl⟩ g4i seq_tuple_add g2w g2p (g2e _ _)
   (tuple_addW2 t b vs.toArray ws.toArray n n2 dd dd2 sl sl2 (by simpa using hv) (by simpa using hw) (by rw [gq,gq];exact hsz)) ⟨ho,ho2,?_⟩
  rw [e];exact h2 hw
def sIx(n d:Nat): Option Int->Nat
 | none=>d
 | some v=>if v<0 then(v+(n:Int)).toNat else min v.toNat n
theorem sIx_none(n d:Nat): sIx n d none=d:=rfl
theorem sIx_nat(n d k:Nat): sIx n d (some (k:Int))=min k n:=by
 show(if(k:Int)<0 then((k:Int)+(n:Int)).toNat else min (k:Int).toNat n)=min k n;rw [mf (by omega),uq]
theorem qx9(n d:Nat)(hd:d<=n)(o:Option Int): sIx n d o<=n:=by
 cases o with
 | none=>exact hd
 | some v=>
  show(if v<0 then(v+(n:Int)).toNat else min v.toNat n)<=n
  by_cases hv:v<0
  ·rw [gw hv];omega
  ·rw [mf hv];exact Nat.min_le_right _ _
theorem qk7(v:Int)(n d:Nat): (if v<0 then max (v+(n:Int)) 0 else min v (n:Int))=((sIx n d (some v):Nat):Int):=by
 show(if v<0 then max (v+(n:Int)) 0 else min v (n:Int))=(((if v<0 then(v+(n:Int)).toNat else min v.toNat n):Nat):Int)
 by_cases hv:v<0
 ·simp only [gw hv];omega
 ·simp only [mf hv];omega
theorem qlo(lo hi:Option Int)(n:Nat): Builtin.Slice.sliceAdjust lo hi 1 (n:Int)=(((sIx n 0 lo:Nat):Int),((sIx n n hi:Nat):Int)):=by
 have h1:¬((1:Int)<0):=by omega
 unfold Builtin.Slice.sliceAdjust;simp only [h1,g11];refine Prod.ext ?_ ?_
 ·cases lo with
  | none=>rfl
  | some v=>exact qk7 v n 0
 ·cases hi with
  | none=>rfl
  | some v=>exact qk7 v n n
theorem qlp(i j:Nat): Builtin.Slice.slicePlaces (i:Int) (j:Int) 1=j-i:=by
 unfold Builtin.Slice.slicePlaces;have h1:(1:Int)>0:=by omega
 simp only [h1,uh,Int.ediv_one]
 split <;> omega
theorem qb2{v:Value}{o:Option Int}{Q:Option Int->Shared->Prop}(p:IsPart v o)(h:Q o s): wpAny (model prog w) A (Builtin.Slice.slicePartIndex v) Q E s:=by
 cases p with
 | none=>exact slicePart_none h
 | int i t=>exact slicePart_int h
theorem sliceApplied_gen{sl:Addr}{vl vu:Value}{lo hi:Option Int}{n:Nat}{Q:Int×Int×Nat->Shared->Prop}(hs:s.heap.IsSliceOf sl vl vu .none)(pl:IsPart vl lo)(pu:IsPart vu hi)
  (h:Q (((sIx n 0 lo:Nat):Int),1,sIx n n hi-sIx n 0 lo) s):wpAny (model prog w) A (Builtin.Slice.sliceApplied (.ref sl) (pure (n:Int))) Q E s:=by
 obtain⟨os,hos,hcs,hds⟩:=id hs;unfold Builtin.Slice.sliceApplied Builtin.Slice.sliceFields;refine g9 (g9 (pz hos hds (x:=vl) rfl (g9 (pz hos hds (x:=vu) rfl (g9 (pz hos hds (x:=.none) rfl (gf ?_)))))));refine g9 (slicePart_none ?_);show wpAny _ _ (if((1:Int)==0)=true then _ else _) _ _ s;rw [mf (by decide)];refine g9 (qb2 pl (g9 (qb2 pu (g9 (gf ?_)))));show wpAny _ _ (match Builtin.Slice.sliceAdjust lo hi 1 (n:Int) with|(lo,hi)=>pure (lo,(1:Int),Builtin.Slice.slicePlaces lo hi 1)) _ _ s;rw [qlo lo hi n];show wpAny _ _ (pure (((sIx n 0 lo:Nat):Int),(1:Int),Builtin.Slice.slicePlaces ((sIx n 0 lo:Nat):Int) ((sIx n n hi:Nat):Int) 1)) _ _ s;rw [qlp];exact gf h
theorem qqc(xs:Array Value)(i k:Nat): ((List.range k).filterMap fun(m:Nat)=>xs[((i:Int)+(m:Int)*1).toNat]?).toArray=((xs.toList.drop i).take k).toArray:=by
 have e:(fun(m:Nat)=>xs[((i:Int)+(m:Int)*1).toNat]?)=fun m=>xs[i+m]? :=by
  funext m
  have:((i:Int)+(m:Int)*1).toNat=i+m:=by omega
  rw [this]
 rw [e];have:=pick_run xs i k;rw [g2f] at this;have e2:((fun x=>xs[x]?) ∘ fun x=>i+x)=fun m=>xs[i+m]? :=rfl;rw [e2] at this;rw [this]
theorem getItem_tuple_cut{t sl:Addr}{items:Array Value}{vl vu:Value}{lo hi:Option Int}{Q:Ta}(ht:IsTup s.heap t items)(hs:s.heap.IsSliceOf sl vl vu .none)(pl:IsPart vl lo)(pu:IsPart vu hi)
  (hw:¬(sIx items.size 0 lo=0/\sIx items.size items.size hi=items.size))
  (h:Q (.ref s.heap.objs.size) {s with heap:=s.heap.push {cls:=.type "tuple",data:=.seq ((items.toList.drop (sIx items.size 0 lo)).take (sIx items.size items.size hi-sIx items.size 0 lo)).toArray} })
  (hsz:items.size<=sizeLine):wpAny (model prog w) A (getItem (.ref t) (.ref sl)) Q E s:=by
 have htake:sizeOk (.seq ((items.toList.drop (sIx items.size 0 lo)).take (sIx items.size items.size hi-sIx items.size 0 lo)).toArray):=by
  show((items.toList.drop (sIx items.size 0 lo)).take (sIx items.size items.size hi-sIx items.size 0 lo)).toArray.size<=sizeLine;rw [gq,u9,g31,g0l];omega
 have hj:sIx items.size items.size hi<=items.size:=qx9 _ _ (m6 _) hi;obtain⟨os,hos,hcs,hds⟩:=id hs;have hTs:s.TypeIs (.ref sl) "slice" :=⟨os,hos,hcs⟩
 unfold getItem
 try with_reducible refine nr ?_
 first|refine g9 (gf ?_)|skip
 refine g9 (wpAny_sequenceKey ht.typeIs (by decide) ?_);refine g9 (tw (name:=Str.ofString "__getitem__") ht.typeIs tq
  (pj tq ht.typeIs entry_tuple_getitem ?_ (args_tuple_getitem _ _)))
 show wpAny _ _ (Builtin.Tuple.tupleItemsOf (.ref t) >>= _) _ _ s;refine g9 (tupleItemsOf_ ht ?_);refine g9 (g08 hTs ?_);rw [gw (by decide)];refine g9 (sliceApplied_gen hs pl pu ?_);have hno:¬((((sIx items.size 0 lo:Nat):Int)==0&&(1:Int)==1&&(sIx items.size items.size hi-sIx items.size 0 lo)==items.size)=true):=by
  intro q;rw [mn,mn] at q;have q1:((sIx items.size 0 lo:Nat):Int)=0:=eq_of_beq q.1.1;have q2:sIx items.size items.size hi-sIx items.size 0 lo=items.size:=eq_of_beq q.2;exact hw ⟨by omega,by omega⟩
 show wpAny _ _ (if(((sIx items.size 0 lo:Nat):Int)==0&&(1:Int)==1&&(sIx items.size items.size hi-sIx items.size 0 lo)==items.size)=true then _ else _) _ _ s;rw [mf hno,qqc]
 first
  | exact g9 (m:=Builtin.Tuple.tupleExact _) (pb (gf ⟨_,rfl,gf h⟩) htake)
  | exact g9 (m:=Builtin.Tuple.tupleExact _) (pb (g9 (gf (gf ⟨_,rfl,gf h⟩))) htake)
  | exact g9 (g9 (m:=Builtin.Tuple.tupleExact _) (pb (gf (gf ⟨_,rfl,gf h⟩)) htake))
  | exact g9 (g9 (m:=Builtin.Tuple.tupleExact _) (pb (gf ⟨_,rfl,gf h⟩) htake))
end
end HT
namespace L2
open PySem PySem.Spec PyProof.Rows
abbrev TO:=St->Hp->(Option Int->Hp->Prop)->Prop
def PO(X:Cx)(e:Option Expr)(t:TO): Prop:=
 ∀(pins:Td) (s:Shared) (σ : St) (H:Hp) (Q:Option Int->Hp->Prop),Inv X pins σ H s->t σ H Q ->
  wpAny (model X.prog X.w) X.A (evalPart e X.env) (fun u s'=>∃o H',Inv X pins σ H' s'/\IsPart u o/\Q o H') X.xe s
def tNoPart:TO:=fun _ H Q=>Q none H
def z07(t:TE): TO:=fun σ H Q=>t σ H fun x H1=>∃i,x=.int i/\Q (some i) H1
theorem intsAre_of{ns:List Int}: ∀ {us:List Value},Vals (ns.map V.int) us->IntsAre us ns:=by
 induction ns with
 | nil=>intro us r;rw [g0u] at r;cases r;exact .nil
 | cons n ns ih=>
  intro us r;rw [m5] at r;cases r with
  | cons r1 r2=>
   obtain⟨t,e⟩:=r1;subst e;exact .cons n t (ih r2)
section
variable{X:Cx}{e:Expr}{te:TE}{lo hi:Option Expr}{tl th:TO}{pos p2:Pos}
theorem que:PO X none tNoPart:=by
 intro pins s σ H Q I h;rw [evalPart_none];exact gf ⟨none,H,I,.none,h⟩
theorem quf(h:PE X e te): PO X (some e) (z07 te):=by
 intro pins s σ H Q I hw;rw [evalPart_some];refine thn (h pins s σ H _ I hw) fun u s1 ⟨x,H1,I1,r1,q1⟩=>?_;obtain⟨i,rfl,q⟩:=q1;obtain⟨t,rfl⟩:=r1;exact⟨some i,H1,I1,.int i t,q⟩
def SlR(X:Cx)(r:V->Option Int->Option Int->Hp->VK->Prop): Prop:=
 ∀(pins:Td) (s:Shared) (σ : St) (H:Hp) (x:V) (v vl vu:Value) (lo hi:Option Int) (sl:Addr) (Q:VK),Inv X pins σ H s->RelV x v->s.heap.IsSliceOf sl vl vu .none->IsPart vl lo->IsPart vu hi->r x lo hi H Q ->
  ∃T id,typeLookup (.type T) "__getitem__" = pure (some (.builtin id))/\s.TypeIs v T/\wpAny (model X.prog X.w) X.A (getItem v (.ref sl)) (EP X pins σ Q) X.xe s
theorem SlR.or{r r':V->Option Int->Option Int->Hp->VK->Prop}(h:SlR X r)(h':SlR X r'): SlR X (fun x lo hi H Q=>r x lo hi H Q\/r' x lo hi H Q):=by
 intro pins s σ H x v vl vu lo hi sl Q I rx hs pl pu q;rcases q with q|q
 ·exact h pins s σ H x v vl vu lo hi sl Q I rx hs pl pu q
 ·exact h' pins s σ H x v vl vu lo hi sl Q I rx hs pl pu q
def tSl(r:V->Option Int->Option Int->Hp->VK->Prop)(te:TE)(tl th:TO): TE:=fun σ H Q=>te σ H fun x H1=>tl σ H1 fun l H2=>th σ H2 fun u H3=>r x l u H3 Q
theorem qqd{r:V->Option Int->Option Int->Hp->VK->Prop}(hr:SlR X r)(he:PE X e te)(hl:PO X lo tl)(hu:PO X hi th): PE X (.Subscript e (.Slice lo hi none p2) pos) (tSl r te tl th):=by
 intro pins s σ H Q I h;refine Subscript_ (thn (he pins s σ H _ I h) fun v s1 ⟨x,H1,I1,r1,q1⟩=>?_);refine wpAny_Slice (thn (hl pins s1 σ H1 _ I1 q1) fun vl s2 ⟨l,H2,I2,pl,q2⟩=>thn (hu pins s2 σ H2 _ I2 q2) fun vu s3 ⟨u,H3,I3,pu,q3⟩=>?_);rw [evalPart_none];refine gf ?_;have I4:Inv X pins σ H3 {s3 with heap:=s3.heap.push {cls:=.type "slice",data:=.fields #[vl,vu,.none]} }:=I3.kept (t':=s3.toks) fun b ob q=>gh _ q;obtain⟨T,id,hT,ht,hg⟩:=hr pins {s3 with heap:=s3.heap.push {cls:=.type "slice",data:=.fields #[vl,vu,.none]} } σ H3 x v vl vu l u s3.heap.objs.size Q I4 r1 (Heap.IsSliceOf.new ..) pl pu q3;show wpAny (model X.prog X.w) X.A (subscriptTail e (.Slice lo hi none p2) v (.ref s3.heap.objs.size)) (EP X pins σ Q) X.xe {s3 with heap:=s3.heap.push {cls:=.type "slice",data:=.fields #[vl,vu,.none]} };exact tail_any (ops:=[.ref s3.heap.objs.size,v]) ht hT hg (by with_unfolding_all rfl)
def q1y(xs:List V)(lo hi:Option Int): List V:=(xs.drop (HT.sIx xs.length 0 lo)).take (HT.sIx xs.length xs.length hi-HT.sIx xs.length 0 lo)
theorem q94(xs:List V)(lo hi:Option Int): (q1y xs lo hi).length<=xs.length:=by
 unfold q1y;rw [u9,g31];omega
def z1j(K:PySem.W.Frag): V->Option Int->Option Int->Hp->VK->Prop:=fun x lo hi H Q=>∃a xs,x=.ref a/\SqT K H a xs /\
 ¬(HT.sIx xs.length 0 lo=0/\HT.sIx xs.length xs.length hi=xs.length)/\∀p,H p=none->Q (.ref p) (upd H p (.tup (q1y xs lo hi)))
theorem sl_tup:SlR X (z1j X.K):=by
 intro pins s σ H x v vl vu lo hi sl Q I rx hs pl pu h;obtain⟨a,xs,rfl,hx,hw,q⟩:=h;cases rx;obtain⟨its,r,ht,hz⟩:=I.tuple hx;have hlen:its.toArray.size=xs.length:=by rw [gq];exact r.length.symm
 refine⟨"tuple",_,tq.lookup,ht.typeIs,?_⟩;refine HT.getItem_tuple_cut ht hs pl pu (by rw [hlen];exact hw) ?_ (by rw [hlen];exact hz);rw [hlen];refine⟨.ref s.heap.objs.size,_,I.laid (t':=s.toks) (o:=.tup (q1y xs lo hi)) (fun b ob q=>gh _ q) (m6 _) ?_,rfl,q _ (I.hok.fresh (m6 _))⟩;exact⟨mi (q94 xs lo hi) hz,_,(r.drop (HT.sIx xs.length 0 lo)).take (HT.sIx xs.length xs.length hi-HT.sIx xs.length 0 lo),TupX.new _ _⟩
def z08(K:PySem.W.Frag): R2:=fun x y H Q=>∃a b xs ys,x=.ref a/\y=.ref b/\SqT K H a xs/\SqT K H b ys/\xs≠[]/\xs.length+ys.length<=sizeLine /\
 (ys=[]->Q (.ref a) H)/\(ys≠[]->∀p,H p=none->Q (.ref p) (upd H p (.tup (xs++ys))))
theorem Vals.nil_iff{xs:List V}{us:List Value}(r:Vals xs us): us=[]↔xs=[]:=by
 cases r with
 | nil=>simp
 | cons _ _=>simp
theorem qug:OpR X (binaryOp .Add) (z08 X.K):=by
 intro pins s σ H x y v u Q I rx ry h;obtain⟨a,b,xs,ys,rfl,rfl,ha,hb,hx,hz,q1,q2⟩:=h;cases rx;cases ry;obtain⟨its,r1,p1,_⟩:=I.tuple ha;obtain⟨its2,r2,p2,_⟩:=I.tuple hb;refine HT.cat_tup p1 p2 (fun z=>hx (r1.nil_iff.mp z)) (fun z=>⟨.ref a,H,I,rfl,q1 (r2.nil_iff.mp z)⟩) (fun z=>?_) (by rw [<- r1.length, <- r2.length];exact hz);refine⟨.ref s.heap.objs.size,_,I.laid (t':=s.toks) (o:=.tup (xs++ys)) (fun b ob q=>gh _ q) (m6 _) ?_,rfl,q2 (fun w=>z (r2.nil_iff.mpr w)) _ (I.hok.fresh (m6 _))⟩;exact⟨by rw [ng];exact hz,_,r1.append r2,TupX.new _ _⟩
end
def ixN(n:Nat)(i:Int): Option Nat:=if 0<=i then(if i<n then some i.toNat else none) else if -(n:Int)<=i then some (i+n).toNat else none
def atI{α : Type}(xs:List α)(i:Int): Option α :=(ixN xs.length i).bind fun j=>xs[j]?
theorem qk8{n:Nat}{i:Int}{j:Nat}(h:ixN n i=some j): seqIndex? i n=some j/\j<n /\ -(n:Int)<=i/\i<n:=by
 unfold ixN at h
 by_cases h0:0<=i
 ·rw [gw h0] at h
  by_cases h1:i<n
  ·rw [gw h1] at h
   have e:i.toNat=j:=mr h;exact⟨by rw [seqIndex_of h0 h1,e],by omega,by omega,h1⟩
  ·rw [mf h1] at h;cases h
 ·rw [mf h0] at h
  by_cases h1 : -(n:Int)<=i
  ·rw [gw h1] at h
   have e:(i+n).toNat=j:=mr h;exact⟨by rw [seqIndex_neg (by omega) h1,e],by omega,h1,by omega⟩
  ·rw [mf h1] at h;cases h
theorem qd4{α : Type}{xs:List α}{i:Int}{v : α}(h:atI xs i=some v): ∃j,seqIndex? i xs.length=some j/\xs[j]? = some v/\j<xs.length /\ -(xs.length:Int)<=i/\i<xs.length:=by
 unfold atI at h;cases e:ixN xs.length i with
 | none=>rw [e] at h;cases h
 | some j=>
  rw [e] at h;obtain⟨h1,h2,h3,h4⟩:=qk8 e;exact⟨j,h1,h,h2,h3,h4⟩
def q2k(b:Expr): Prop:=∀o i,subscripted b false o i=operate [o,i] (getItem o i)
def IxR(X:Cx)(r:R2): Prop:=
 ∀(value slice:Expr) (pins:Td) (s:Shared) (σ : St) (H:Hp) (x y:V) (v u:Value) (Q:VK),Inv X pins σ H s->RelV x v->RelV y u->r x y H Q ->
  subscripted slice false v u=operate [v,u] (getItem v u)->wpAny (model X.prog X.w) X.A (subscriptTail value slice v u) (EP X pins σ Q) X.xe s
def MtR(X:Cx)(id:String)(r:V->List V->Hp->VK->Prop): Prop:=
 ∀(pins:Td) (s:Shared) (σ : St) (H:Hp) (x:V) (xs:List V) (v:Value) (us:List Value) (Q:VK),Inv X pins σ H s->RelV x v->Vals xs us->r x xs H Q ->
  wpAny (model X.prog X.w) X.A (call (.builtin id) (v :: us)) (EP X pins σ Q) X.xe s
section
variable{X:Cx}{a b:Expr}{ta tb:TE}{pos:Pos}
theorem IxR.or{r r':R2}(h:IxR X r)(h':IxR X r'): IxR X (fun x y H Q=>r x y H Q\/r' x y H Q):=by
 intro value slice pins s σ H x y v u Q I rx ry q hs;rcases q with q|q
 ·exact h value slice pins s σ H x y v u Q I rx ry q hs
 ·exact h' value slice pins s σ H x y v u Q I rx ry q hs
theorem qb3{r:R2}(hr:IxR X r)(ha:PE X a ta)(hb:PE X b tb)(hs:q2k b): PE X (.Subscript a b pos) (tOp r ta tb):=by
 intro pins s σ H Q I h;exact Subscript_ (qq4 ha hb I h fun v u s2 x y H2 I2 rx ry q=>hr a b pins s2 σ H2 x y v u Q I2 rx ry q (hs _ _))
def qxa(K:PySem.W.Frag): R2:=fun x y H Q=>∃p xs i v,x=.ref p/\y=.int i/\SqL K H p xs/\atI xs i=some v/\Q v H
def qxb(K:PySem.W.Frag): R2:=fun x y H Q=>∃p xs i v,x=.ref p/\y=.int i/\SqT K H p xs/\atI xs i=some v/\Q v H
def rIxS:R2:=fun x y H Q=>∃z i c,x=.str z/\y=.int i/\z.length<=sizeLine/\atI z.cps.toList i=some c/\Q (.str ⟨#[c]⟩) H
theorem ix_list:IxR X (qxa X.K):=by
 intro value slice pins s σ H x y v u Q I rx ry h hs;obtain⟨p,xs,i,z,rfl,rfl,hq,he,q⟩:=h;cases rx;obtain⟨t,rfl⟩:=ry;obtain⟨its,r,pl,hz⟩:=I.list hq;obtain⟨j,h1,h2,h3,h4,h5⟩:=qd4 he;obtain⟨w,ew,rw'⟩:=r.get h2;have hl:=r.length;have hn:=q4l;have fin:EP X pins σ Q w s:=⟨z,H,I,rw',q⟩
 by_cases h0:0<=i
 ·have hj:i.toNat=j:=by
   rw [seqIndex_of h0 h5] at h1;exact mr h1
  exact item_listR pl.isList h0 (by omega) (by rw [hj];simpa using ew) fin hs
 ·have hj:(i+(its.toArray.size:Int)).toNat=j:=by
   rw [seqIndex_neg (by omega) h4] at h1;rw [gq, <- hl];exact mr h1
  exact subscriptTail_builtinR (x:=w) pl.isList.typeIs slot_list_getitem.lookup
   (wpAny_getItem_list_neg (Q:=fun r s'=>r=w/\EP X pins σ Q r s') pl.isList (by omega) (by rw [gq] <;> omega) (by omega) (by rw [hj];simpa using ew) ⟨rfl,fin⟩) hs
theorem ix_tup:IxR X (qxb X.K):=by
 intro value slice pins s σ H x y v u Q I rx ry h hs;obtain⟨p,xs,i,z,rfl,rfl,hq,he,q⟩:=h;cases rx;obtain⟨t,rfl⟩:=ry;obtain⟨its,r,pl,hz⟩:=I.tuple hq;obtain⟨j,h1,h2,h3,h4,h5⟩:=qd4 he;obtain⟨w,ew,rw'⟩:=r.get h2;have hl:=r.length;have hn:=q4l;have fin:EP X pins σ Q w s:=⟨z,H,I,rw',q⟩
 exact subscriptTail_builtinR (x:=w) pl.typeIs slot_tuple_getitem.lookup
  (getItem_tuple (j:=j) (Q:=fun r s'=>r=w/\EP X pins σ Q r s') pl (by omega) (by omega) (by rw [gq, <- hl];exact h1) (by simpa using ew) ⟨rfl,fin⟩) hs
theorem qxc:IxR X rIxS:=by
 intro value slice pins s σ H x y v u Q I rx ry h hs;obtain⟨z,i,c,rfl,rfl,hz,he,q⟩:=h;obtain⟨t,rfl⟩:=rx;obtain⟨t',rfl⟩:=ry;obtain⟨j,h1,h2,h3,h4,h5⟩:=qd4 he;have hl:z.cps.toList.length=z.length:=by simp [Str.length]
 rw [hl] at h1 h4 h5;have hn:=q4l;exact tail_any (typeIs_str s z t) slot_str_getitem.lookup (getItem_str (c:=c) (by
  have e1:decide (i < -(2 ^ 63:Int))=false:=mm (by omega);have e2:decide (i>=2 ^ 63)=false:=mm (by omega);rw [e1,e2,Bool.or_false]) (by rw [h1];simpa using h2) ⟨.str ⟨#[c]⟩,H,I.tok _,⟨_,rfl⟩,q⟩) hs
def rIx(K:PySem.W.Frag): R2:=fun x y H Q=>qxa K x y H Q\/qxb K x y H Q\/rIxS x y H Q
theorem qb4:IxR X (rIx X.K):=ix_list.or (ix_tup.or qxc)
theorem qlq(its:List Value)(n j:Nat)(u:Value): Obj.mapSeq (·.setIfInBounds j u) {cls:=.type "list",data:=.seq its.toArray n} = {cls:=.type "list",data:=.seq (its.set j u).toArray n}:=by
 simp [Obj.mapSeq]
theorem Inv.lst{pins:Td}{σ : St}{H:Hp}{s:Shared}{p:Addr}{xs:List V}(I:Inv X pins σ H s)(h:H p=some (.lst xs)):
  ∃(its:List Value) (n:Nat),Vals xs its/\s.heap.get? p=some {cls:=.type "list",data:=.seq its.toArray n}/\xs.length<=sizeLine:=by
 obtain⟨z,its,n,r,e⟩:=I.hok p _ h;exact⟨its,n,r,e,z⟩
theorem Inv.lstUpd{pins:Td}{σ : St}{H:Hp}{s:Shared}{p:Addr}{xs ys:List V}{its its':List Value}{n n':Nat}{f:Obj->Obj}(I:Inv X pins σ H s)(h:H p=some (.lst xs))
  (ho:s.heap.get? p=some {cls:=.type "list",data:=.seq its.toArray n}) (hf:f {cls:=.type "list",data:=.seq its.toArray n} = {cls:=.type "list",data:=.seq its'.toArray n'}) (r:Vals ys its') (hz:ys.length<=sizeLine) (t:Nat) :
  Inv X pins σ (upd H p (.lst ys)) {s with heap:=s.heap.update p f,toks:=t}:=by
 have e:(s.heap.update p f).get? p=some {cls:=.type "list",data:=.seq its'.toArray n'}:=by
  rw [pk f ho (by rw [hf] <;> rfl),hf]
 refine I.write (x:=p) (e:=p) (by rw [h];trivial) (.inl rfl) (fun b u hb q=>(ni _ _ (ml hb)).trans q) ⟨_,e⟩ ?_;exact⟨hz,its',n',r,e⟩
def rSetL:V->V->V->Hp->(Hp->Prop)->Prop:=fun o i v H Q=>∃p xs k j,o=.ref p/\i=.int k/\H p=some (.lst xs)/\ixN xs.length k=some j/\Q (upd H p (.lst (xs.set j v)))
theorem set_list:qwo X rSetL:=by
 intro pins s σ H o i v ov iv u Q I ro ri rv h;obtain⟨p,xs,k,j,rfl,rfl,hp,hj,q⟩:=h;cases ro;obtain⟨t,rfl⟩:=ri;obtain⟨its,n,r,ho,hz⟩:=I.lst hp;obtain⟨h1,h2,h3,h4⟩:=qk8 hj;have hl:=r.length;have hn:=q4l;have I':Inv X pins σ (upd H p (.lst (xs.set j v))) {s with heap:=s.heap.update p (Obj.mapSeq (·.setIfInBounds j u))}:=
  I.lstUpd hp ho (qlq its n j u) (r.set rv j) (by rw [ue];exact hz) s.toks
 by_cases h0:0<=k
 ·have hk:k.toNat=j:=by
   rw [seqIndex_of h0 h4] at h1;exact mr h1
  exact PySem.W.ki_setAt ho h0 (by omega) (by rw [gq, <- hl];exact h4) (by rw [hk];exact⟨_,I',q⟩)
 ·have hk:(k+(its.toArray.size:Int)).toNat=j:=by
   rw [seqIndex_neg (by omega) h3] at h1;rw [gq, <- hl];exact mr h1
  exact PySem.W.ki_setBack ho (by omega) (by rw [gq, <- hl];exact h3) (by omega) (by rw [hk];exact⟨_,I',q⟩)
theorem qga(lo hi:Option Int)(n:Nat): (sliceBounds lo hi none n).1=((HT.sIx n 0 lo:Nat):Int)/\(sliceBounds lo hi none n).2.1=((HT.sIx n n hi:Nat):Int)/\(sliceBounds lo hi none n).2.2=1:=by
 refine⟨?_,?_,rfl⟩
 ·cases lo with
  | none=>simp [sliceBounds,HT.sIx]
  | some i=>
   simp only [sliceBounds,HT.sIx,Option.getD_none,show(1:Int)>0 by decide,uh]
   by_cases h:i<0
   ·simp only [h,uh] <;> omega
   ·simp only [h,g11] <;> omega
 ·cases hi with
  | none=>simp [sliceBounds,HT.sIx]
  | some i=>
   simp only [sliceBounds,HT.sIx,Option.getD_none,show(1:Int)>0 by decide,uh]
   by_cases h:i<0
   ·simp only [h,uh] <;> omega
   ·simp only [h,g11] <;> omega
theorem qf4(its:List Value)(lo hi:Option Int): slicePick its.toArray lo hi none=((its.drop (HT.sIx its.length 0 lo)).take (HT.sIx its.length its.length hi-HT.sIx its.length 0 lo)).toArray:=by
 obtain⟨h1,h2,h3⟩:=qga lo hi its.toArray.size;unfold slicePick;rw [h1,h2,h3];simp only [sliceRange_one,pick_run,gq] <;> rfl
def z1k(K:PySem.W.Frag): V->Option Int->Option Int->Hp->VK->Prop:=fun x lo hi H Q=>∃a xs,x=.ref a/\SqL K H a xs/\∀p,H p=none->Q (.ref p) (upd H p (.lst (q1y xs lo hi)))
theorem sl_list:SlR X (z1k X.K):=by
 intro pins s σ H x v vl vu lo hi sl Q I rx hs pl pu h;obtain⟨a,xs,rfl,hx,q⟩:=h;cases rx;obtain⟨its,r,ht,hz⟩:=I.list hx;have hlen:=r.length;refine⟨"list",_,slot_list_getitem.lookup,ht.isList.typeIs,?_⟩;refine wpAny_getItem_list_slice ht.isList hs pl pu .none (by simp) ?_ (by rw [gq] <;> omega);rw [qf4, <- hlen];refine⟨.ref s.heap.objs.size,_,I.laid (t':=s.toks) (o:=.lst (q1y xs lo hi)) (fun b ob q=>gh _ q) (m6 _) ?_,rfl,q _ (I.hok.fresh (m6 _))⟩;exact⟨mi (q94 xs lo hi) hz,_,0,(r.drop (HT.sIx xs.length 0 lo)).take (HT.sIx xs.length xs.length hi-HT.sIx xs.length 0 lo),gs _ rfl⟩
def q04:V->Bool
 | .non=>true
 | .bl _=>true
 | .int _=>true
 | .str _=>true
 | _=>false
def eqV:V->V->Bool
 | .non,.non=>true
 | .bl a,.bl b=>a==b
 | .bl a,.int b=>(if a then 1 else 0)==b
 | .int a,.bl b=>a==(if b then 1 else 0)
 | .int a,.int b=>a==b
 | .str a,.str b=>a==b
 | _,_=>false
theorem qnn{A:Around}{s:Shared}{y x:V}{u v:Value}(ry:RelV y u)(rx:RelV x v)(fy:q04 y=true)(fx:q04 x=true): SeqAt.EqAt A s u v (eqV y x):=by
 cases y with
 | non=>
  cases ry;cases x with
  | non=>cases rx;exact g4u _
  | bl b=>cases rx;exact SeqAt.EqAt.none_bool b
  | int b=>obtain⟨t,rfl⟩:=rx;exact SeqAt.EqAt.none_int b t
  | str b=>obtain⟨t,rfl⟩:=rx;exact SeqAt.EqAt.none_str b t
  | _=>exact absurd (show false=true from fx) gy
 | bl a=>
  cases ry;cases x with
  | non=>cases rx;exact SeqAt.EqAt.bool_none a
  | bl b=>cases rx;exact SeqAt.EqAt.bool_bool a b
  | int b=>obtain⟨t,rfl⟩:=rx;exact SeqAt.EqAt.bool_int a b t
  | str b=>obtain⟨t,rfl⟩:=rx;exact SeqAt.EqAt.bool_str a b t
  | _=>exact absurd (show false=true from fx) gy
 | int a=>
  obtain⟨t',rfl⟩:=ry;cases x with
  | non=>cases rx;exact SeqAt.EqAt.int_none a t'
  | bl b=>cases rx;exact SeqAt.EqAt.int_bool a t' b
  | int b=>obtain⟨t,rfl⟩:=rx;exact SeqAt.EqAt.int_int a t' b t
  | str b=>obtain⟨t,rfl⟩:=rx;exact SeqAt.EqAt.int_str a t' b t
  | _=>exact absurd (show false=true from fx) gy
 | str a=>
  obtain⟨t',rfl⟩:=ry;cases x with
  | non=>cases rx;exact SeqAt.EqAt.str_none a t'
  | bl b=>cases rx;exact SeqAt.EqAt.str_bool a t' b
  | int b=>obtain⟨t,rfl⟩:=rx;exact SeqAt.EqAt.str_int a t' b t
  | str b=>obtain⟨t,rfl⟩:=rx;exact SeqAt.EqAt.str_str a t' b t
  | _=>exact absurd (show false=true from fx) gy
 | _=>exact absurd (show false=true from fy) gy
def eqU(x:V)(u:Value): Bool:=match u with
 | .none=>eqV .non x
 | .bool b=>eqV (.bl b) x
 | .int i _=>eqV (.int i) x
 | .str z _=>eqV (.str z) x
 | _=>false
theorem qno{x y:V}{u:Value}(r:RelV y u)(f:q04 y=true): eqU x u=eqV y x:=by
 cases y with
 | non=>cases r;rfl
 | bl b=>cases r;rfl
 | int i=>obtain⟨t,rfl⟩:=r;rfl
 | str z=>obtain⟨t,rfl⟩:=r;rfl
 | _=>exact absurd (show false=true from f) gy
theorem q4m{x:V}: ∀ {xs:List V} {us:List Value},Vals xs us->xs.all q04=true->us.any (eqU x)=xs.any fun y=>eqV y x
 | _,_,.nil,_=>rfl
 | y :: xs,u :: us,.cons r t,f=>by
  rw [g2z,mn] at f;rw [List.any_cons,List.any_cons,qno r f.1,q4m t f.2]
theorem q2p{A:Around}{s:Shared}{x:V}{v:Value}(rx:RelV x v)(fx:q04 x=true): ∀ {xs:List V} {us:List Value},Vals xs us->xs.all q04=true->∀u∈us,SeqAt.EqAt A s u v (eqU x u)
 | _,_,.nil,_=>fun u hu=>by cases hu
 | y :: xs,u :: us,.cons r t,f=>fun u' hu=>by
  rw [g2z,mn] at f;rcases mh.mp hu with rfl|hu
  ·rw [qno r f.1];exact qnn r rx f.1 fx
  ·exact q2p rx fx t f.2 u' hu
def inV(x:V)(xs:List V): Bool:=xs.any fun y=>eqV y x
def rIn(K:PySem.W.Frag)(neg:Bool): R2:=fun x y H Q=>∃p xs,y=.ref p/\(SqL K H p xs\/SqT K H p xs)/\q04 x=true/\xs.all q04=true/\Q (.bl (if neg then !inV x xs else inV x xs)) H
theorem qnp:OpR X (compareOp .In) (rIn X.K false):=by
 intro pins s σ H x y v u Q I rx ry h;obtain⟨p,xs,rfl,hq,fx,fs,q⟩:=h;cases ry;rcases hq with hq|hq
 ·obtain⟨its,r,pl,hz⟩:=I.list hq
  refine SeqAt.in_listAt (eqU x) pl.isList (fun w hw=>q2p rx fx r fs w (by simpa using hw)) ⟨.bl _,H,I,rfl,?_⟩;rw [show its.toArray.any (eqU x)=its.any (eqU x) by simp,q4m r fs];exact q
 ·obtain⟨its,r,pl,hz⟩:=I.tuple hq
  refine SeqAt.in_tupleAt (eqU x) pl (fun w hw=>q2p rx fx r fs w (by simpa using hw)) ⟨.bl _,H,I,rfl,?_⟩;rw [show its.toArray.any (eqU x)=its.any (eqU x) by simp,q4m r fs];exact q
theorem qgb:OpR X (compareOp .NotIn) (rIn X.K true):=by
 intro pins s σ H x y v u Q I rx ry h;obtain⟨p,xs,rfl,hq,fx,fs,q⟩:=h;cases ry;rcases hq with hq|hq
 ·obtain⟨its,r,pl,hz⟩:=I.list hq
  refine SeqAt.notIn_listAt (eqU x) pl.isList (fun w hw=>q2p rx fx r fs w (by simpa using hw)) ⟨.bl _,H,I,rfl,?_⟩;rw [show its.toArray.any (eqU x)=its.any (eqU x) by simp,q4m r fs];exact q
 ·obtain⟨its,r,pl,hz⟩:=I.tuple hq
  refine SeqAt.notIn_tupleAt (eqU x) pl (fun w hw=>q2p rx fx r fs w (by simpa using hw)) ⟨.bl _,H,I,rfl,?_⟩;rw [show its.toArray.any (eqU x)=its.any (eqU x) by simp,q4m r fs];exact q
theorem qf5:xk X (.type "tuple") (fun xs H Q=>∃p ys,xs=[.ref p]/\((SqL X.K H p ys/\∀l,H l=none->Q (.ref l) (upd H l (.tup ys)))\/(SqT X.K H p ys/\Q (.ref p) H))):=by
 intro pins s σ H xs us Q I r h;obtain⟨p,ys,rfl,h⟩:=h;obtain⟨u,rfl,rx⟩:=vals1 r;cases rx;rcases h with⟨hq,q⟩|⟨hq,q⟩
 ·obtain⟨its,r',pl,hz⟩:=I.list hq
  have hlen:=r'.length;refine call_tuple_list pl.isList (fun h' kp=>?_) (by simp only [gq] <;> omega);have I1:Inv X pins σ H {s with heap:=h'}:=I.kept (t':=s.toks) kp;have I2:Inv X pins σ (upd H h'.objs.size (.tup ys)) {s with heap:=h'.push {cls:=.type "tuple",data:=.seq its.toArray} }:=
   I1.laid (t':=s.toks) (fun b o e=>gh _ e) (m6 _) (show ObjOk X.prog X.w _ _ _ (.tup ys) from⟨hz,its,r',TupX.new _ _⟩)
  exact⟨.ref h'.objs.size,_,I2,rfl,q _ (I1.hok.fresh (m6 _))⟩
 ·obtain⟨its,r',pl,hz⟩:=I.tuple hq
  exact call_tuple_same pl ⟨.ref p,H,I,rfl,q⟩
def tyV(K:PySem.W.Frag)(T:String)(x:V)(H:Hp): Prop:=match x with
 | .str _=>T="str"
 | .int _=>T="int"
 | .ref p=>(T="list" /\ ∃xs,SqL K H p xs)\/(T="tuple" /\ ∃o,K.lookup p=some o/\o.cls=.type "tuple" /\ o.dict=none) \/
   (T="dict" /\ ((∃kvs,H p=some (.dK kvs))\/∃kvs,H p=some (.dT kvs)))\/(T="set" /\ ∃S n,H p=some (.set S n))
 | _=>False
theorem qnq{pins:Td}{σ : St}{H:Hp}{s:Shared}{T:String}{x:V}{v:Value}(I:Inv X pins σ H s)(r:RelV x v)(ty:tyV X.K T x H):
  s.TypeIs v T/\∀a,v=.ref a->∃ob,s.heap.get? a=some ob/\ob.dict=none:=by
 cases x with
 | str z=>
  obtain⟨t,rfl⟩:=r;cases(show T="str" from ty);exact⟨typeIs_str s z t,fun _ e=>nomatch e⟩
 | int i=>
  obtain⟨t,rfl⟩:=r;cases(show T="int" from ty);exact⟨typeIs_int s i t,fun _ e=>nomatch e⟩
 | ref p=>
  cases r;rcases ty with⟨rfl,xs,hq⟩|⟨rfl,o,hk,hc,hd⟩|⟨rfl,hk⟩|⟨rfl,S,n,hk⟩
  ·obtain⟨its,_,pl,_⟩:=I.list hq
   refine⟨pl.isList.typeIs,fun a e=>?_⟩;cases e;obtain⟨o,n,e,c,hd,_⟩:=pl;exact⟨o,e,hd⟩
  ·refine⟨⟨o,I.kIn p o hk,hc⟩,fun a e=>?_⟩
   cases e;exact⟨o,I.kIn _ o hk,hd⟩
  ·have z:∃o,s.heap.get? p=some o/\o.ExactDict:=by
    rcases hk with⟨kvs,hk⟩|⟨kvs,hk⟩
    ·obtain⟨_,_,_,_,o,_,_,e,ex,_⟩:=I.hok p _ hk
     exact⟨o,e,ex⟩
    ·obtain⟨_,_,_,_,o,_,_,e,ex,_⟩:=I.hok p _ hk
     exact⟨o,e,ex⟩
   obtain⟨o,e,ex⟩:=z;refine⟨⟨o,e,ex.1⟩,fun a e2=>?_⟩;cases e2;exact⟨o,e,ex.2.1⟩
  ·obtain⟨o,_,_,_,e,ex,_⟩:=I.hok p _ hk
   refine⟨⟨o,e,ex.1⟩,fun a e2=>?_⟩;cases e2;exact⟨o,e,ex.2.1⟩
 | _=>exact False.elim ty
def z1l(K:PySem.W.Frag)(T:String)(r:V->List V->Hp->VK->Prop)(to:TE): TE:=fun σ H Q=>to σ H fun x H1=>tyV K T x H1/\r x [] H1 Q
def tBM(K:PySem.W.Frag)(T:String)(r:V->List V->Hp->VK->Prop)(to:TE)(t:TA): TE:=fun σ H Q=>to σ H fun x H1=>tyV K T x H1/\t σ H1 fun xs H2=>r x xs H2 Q
variable{o e:Expr}{es:List Expr}{to:TE}{t:TA}{name:Str}{apos cpos:Pos}{T id:String}{r:V->List V->Hp->VK->Prop}
theorem qxd(pa:PlainAttrs T)(slot:Slot T name id)(hty:typeOf (.builtin id)=pure (.type "method_descriptor"))(hm:MtR X id r)(ho:PE X o to)
  (hbase:attributeBase o name X.env (eval o X.env)=eval o X.env:=by rfl) (hline:(apos.endLine==cpos.line)=true:=by rfl):PE X (.Call (.Attribute o name apos) [] [] cpos) (z1l X.K T r to):=by
 intro pins s σ H Q I h;refine wpAny_Call_method0_late hbase hline (thn (ho pins s σ H _ I h) fun v s1 ⟨x,H1,I1,r1,ty,q1⟩=>?_);obtain⟨h1,h2⟩:=qnq I1 r1 ty;exact⟨T,id,pa,slot,hty,h1,h2,g2x rfl (PySem.evalArgs_none (hm pins s1 σ H1 x [] v [] Q I1 r1 .nil q1))⟩
theorem qte(pa:PlainAttrs T)(slot:Slot T name id)(hty:typeOf (.builtin id)=pure (.type "method_descriptor"))(hm:MtR X id r)(ho:PE X o to)(ha:PA X (e :: es) t)
  (hbase:attributeBase o name X.env (eval o X.env)=eval o X.env:=by rfl)
  (hfew:((backTo cpos (starEach (e :: es) X.env)).all (fun x=> !x.1)&&(backToKw cpos (keywordEach [] X.env)).all (fun x=>x.1.isSome)
   && decide ((e :: es).length+([]:List Keyword).length+(if([]:List Keyword).isEmpty then 0 else 1)<30))=true:=by rfl)
  (hline:(apos.endLine==cpos.line)=true:=by rfl) (hs:starEach (e :: es) X.env=(false,eval e X.env) :: starEach es X.env:=by rfl) (hplain:(backTo cpos (starEach es X.env)).any (·.1)=false:=by rfl) :
  PE X (.Call (.Attribute o name apos) (e :: es) [] cpos) (tBM X.K T r to t):=by
 intro pins s σ H Q I h;refine wpAny_Call_method_late hbase hfew hline rfl (thn (ho pins s σ H _ I h) fun v s1 ⟨x,H1,I1,r1,ty,q1⟩=>?_);obtain⟨h1,h2⟩:=qnq I1 r1 ty;refine⟨T,id,pa,slot,hty,h1,h2,?_⟩;have hA:=ha cpos pins s1 σ H1 _ I1 q1;rw [hs] at hA ⊢;refine g2x (by show(false || (backTo cpos (starEach es X.env)).any (·.1))=false;rw [hplain] <;> rfl) (g3d ?_);exact thn hA fun us s2 ⟨vs,H2,I2,r2,q2⟩=>hm pins s2 σ H2 x vs v us Q I2 r1 r2 q2
end
def MtM(X:Cx)(id:String)(r:V->List V->Hp->VK->Prop): Prop:=
 ∀(pins:Td) (s:Shared) (σ : St) (H:Hp) (x:V) (xs:List V) (v:Value) (us:List Value) (Q:VK),Inv X pins σ H s->RelV x v->Vals xs us->r x xs H Q ->
  wpAny (model X.prog X.w) X.A (call (.builtin id) (v :: us)) (EP X pins σ Q) X.xe s
theorem Vals.one:∀ {x:V} {us:List Value},Vals [x] us->∃u,us=[u]/\RelV x u
 | _,_,.cons r .nil=>⟨_,rfl,r⟩
theorem Vals.two:∀ {x y:V} {us:List Value},Vals [x,y] us->∃u v,us=[u,v]/\RelV x u/\RelV y v
 | _,_,_,.cons r (.cons q .nil)=>⟨_,_,rfl,r,q⟩
section
variable{X:Cx}{pins:Td}{σ : St}{H:Hp}{s:Shared}{l b:Addr}{xs ys zs:List V}
theorem Inv.lset{its its':List Value}{n:Nat}{f:Array Value->Array Value}{t':Nat}(I:Inv X pins σ H s)(hH:H l=some (.lst xs))
  (e:s.heap.get? l=some {cls:=.type "list",data:=.seq its.toArray n}) (hf:f its.toArray=its'.toArray) (hv:Vals ys its') (hz:ys.length<=sizeLine) :
  Inv X pins σ (upd H l (.lst ys)) {s with heap:=s.heap.update l (Obj.mapSeq f),toks:=t'}:=by
 have q:=PySem.IsL.update e f;rw [hf] at q;refine I.write (x:=l) (e:=l) (by rw [hH];exact trivial) (.inl rfl) (fun b' u hb hu=>(ni s.heap (Obj.mapSeq f) (ml hb)).trans hu) ⟨_,q⟩ ?_;exact⟨hz,its',_,hv,q⟩
theorem Inv.lnew{its:List Value}{t':Nat}(I:Inv X pins σ H s)(hv:Vals ys its)(hz:ys.length<=sizeLine):
  Inv X pins σ (upd H s.heap.objs.size (.lst ys)) {s with heap:=s.heap.push {cls:=.type "list",data:=.seq its.toArray},toks:=t'}:=
 I.laid (fun _ _ q=>gh _ q) (m6 _) ⟨hz,its,0,hv,gs _ rfl⟩
theorem Inv.fresh(I:Inv X pins σ H s): H s.heap.objs.size=none:=I.hok.fresh (m6 _)
theorem Inv.lstM(I:Inv X pins σ H s)(hH:H l=some (.lst xs)): xs.length<=sizeLine/\∃(its:List Value) (n:Nat),Vals xs its/\xs.length=its.length/\s.heap.get? l=some {cls:=.type "list",data:=.seq its.toArray n}:=by
 obtain⟨z,its,n,r,e⟩:=I.hok l _ hH;exact⟨z,its,n,r,r.length,e⟩
theorem qqe{n:Nat}(h:n<=sizeLine): Builtin.List.listTooLong n=false:=by
 unfold Builtin.List.listTooLong;exact mm (by omega)
end
section
variable{X:Cx}
def rAppend:V->List V->Hp->VK->Prop:=fun x vs H Q=>∃l xs y,x=.ref l/\vs=[y]/\H l=some (.lst xs)/\xs.length<sizeLine/\Q .non (upd H l (.lst (xs++[y])))
theorem qeb:MtM X "list.append" rAppend:=by
 intro pins s σ H x vs v us Q I rx rv h;obtain⟨l,xs,y,rfl,rfl,hH,hz,q⟩:=h;cases rx;obtain⟨u,rfl,ru⟩:=rv.one;obtain⟨z,its,n,r,hl,e⟩:=I.lstM hH;refine g3e F.slot_list_append ⟨_,e,rfl⟩ F.entry_list_append (F.args_list_append_2 _ _) (PySem.list_append l its.toArray n u (by rw [gq];omega)) ⟨e,?_⟩;refine⟨.non,_,I.lset (its':=its++[u]) hH e (by simp) (r.append (.cons ru .nil)) ?_,rfl,q⟩;rw [ng,g37];omega
end
section
variable{prog:Program}{w:World}{A:Around}{E:Ta}{s:Shared}
end
section
variable{X:Cx}
end
end L2
namespace Att
open PySem PySem.W PySem.Calls PyProof.Rows
theorem qb5{P:Params}{h:Heap}: ∀(ns:List Int) (vs:List Value),WellAll P h vs (ns.map WData.int)->IntsAre vs ns:=by
 intro ns
 induction ns with
 | nil=>
  intro vs w;rw [g0u] at w;cases w;exact .nil
 | cons n ns ih=>
  intro vs w;rw [m5] at w;cases w with
  | cons a b=>
   cases a;exact .cons _ _ (ih _ b)
theorem qnr{l:OpenLaw}{n:Nat}(hn:l.most=some n){P:Params}{h:Heap}{args:List WData}{vals:List Value}
  (hpre:l.row.toRowW.claim.pre args=true) (hwl:WellAll P h vals args) :
  ∃a vs ns,vals=[Value.ref a]/\args=[WData.list (ns.map WData.int)]/\h.get? a=some {cls:=.type "list",data:=.seq vs.toArray}/\IntsAre vs ns/\ns.length<=n:=by
 have hsh:WShape.hasAll [] args [.list .int]=true:=(pre_splitW hpre).1;have hc:l.pre.holds [] {args:=args}=true:=(pre_splitW hpre).2;obtain⟨d,r,rfl,h1,h2⟩:=hasAllW_cons hsh;obtain rfl:=hasAllW_nil h2;obtain⟨xs,rfl,h3⟩:=hasW_list h1;obtain⟨ns,rfl⟩:=items_int h3;have hlen:ns.length<=n:=by
  unfold OpenLaw.pre at hc;have h4:(WTm.not (.lt (.lit (.int (n:Int))) (.len (.arg 0)))).holds [] {args:=[.list (ns.map .int)]}=true:=by
   have h4:=(holds_andW hc).1;rw [hn] at h4;exact h4
  have h5:=condW_of h4 (w_not (w_lt w_lit (w_len_list (w_arg rfl))));rw [gv] at h5;refine Nat.le_of_not_lt fun q=>?_;have q':(n:Int)<((ns.length:Nat):Int):=by omega
  first
   | (rw [mj q'] at h5;exact absurd h5 (by decide))
   | (simp at h5;omega)
 cases hwl with
 | cons w1 w2=>
  cases w2;cases w1 with
  | list ho hall=>exact⟨_,_,ns,rfl,rfl,ho,qb5 ns _ hall,hlen⟩
theorem qns(l:OpenLaw)(args:List WData): l.row.toRowW.claim.post args (.bool true) args=true:=
 postW_of (r:=l.row.toRowW) (X:=(true==true))
  (show WShape.has [] (.bool true) .bool=true by first|rfl|decide|simp [WShape.has,WShape.arms,WShape.armsAll])
  (show(WTm.eq .res (.lit (.bool true))).value [] {args:=args,res:=some (.bool true),after:=args}=some (.bool (true==true)) from w_eq_bool (w_res rfl) w_lit) rfl
theorem attach_call{l:OpenLaw}{n:Nat}{q:Program}{loose:List Str}{XP:(Tc)->Heap->Prop}{YP:World->Heap->Prop}{d:DefRec}
  (hn:l.most=some n) (hdf:d.params.defaults=[])
  (call:∀(w:World) (s₀ s₁:Shared) (mg mb:Tc) (fa:Addr) (o:Obj) (pm cd doc:Value) (a:Addr) (vs:List Value) (ns:List Int),
   Ground q loose [] XP w s₀ mg mb s₁.heap->YP w s₁.heap ->
   s₁.heap.get? fa=some o->o.data=.func (docDef d.name d.params d.body d.scope pm cd doc)->s₁.heap.CodeRec cd d.name->mg d.name=some (.ref fa) ->
   s₁.heap.get? a=some {cls:=.type "list",data:=.seq vs.toArray}->IntsAre vs ns->ns.length<=n->s₁.gens = #[] ->
   codeAny (model l.prog w) callerA (.call (.ref fa) ⟨[.ref a],[]⟩) (fun r s'=>r=.ok (.ret (.bool true))/\OldK s₁.heap s'.heap/\s'.os=s₁.os/\AllBare s'.gens) s₁) :
  WalkO q loose XP YP l.row.toRowW d [] (fun f vs=>PySem.call f vs):=by
 intro w s₀ s₁ mg mb G Y fa o pm cd doc dV kV ho hd hcd hD hmg hg args vals as hpre hlay hrd hwl hlo;obtain rfl:dV=.none:=Dflts.none hD hdf;obtain rfl:kV=.none:=Dflts.noKw hD;obtain⟨a,vs,ns,rfl,rfl,hobj,hints,hlen⟩:=qnr hn hpre hwl;refine enter_call (g0t (call w s₀ s₁ mg mb fa o pm cd doc a vs ns G Y ho (fd_plain hd) hcd hmg hobj hints hlen hg) fun r s' hq=>?_);obtain⟨rfl,h2,h3,h4⟩:=hq;exact⟨.inl ⟨.bool true,.bool true,[],rfl,fun _=>rfl,.bool true,qns l _,fun _=>⟨List.Pairwise.nil,fun _ hm=>(nomatch hm)⟩⟩,h2,h3,h4⟩
section
variable{prog:Program}{w:World}{A:Around}{E:Ta}{s:Shared}{K:Frag}
end
end Att
namespace L2
open PySem PySem.Spec PyProof.Rows
theorem q1t:∀ {vs:List Value} {ns:List Int},IntsAre vs ns->Vals (ns.map V.int) vs
 | _,_,.nil=>.nil
 | _,_,.cons n t h=>.cons ⟨t,rfl⟩ (q1t h)
def qqf(H:Hp): Prop:=∀b,H b=none\/∃o xs,H b=some (.frz o (.lst xs))
theorem qqg{P:Program}{w:World}{K:PySem.W.Frag}{mg mb:Tc}{CX:CXT}{k:Nat}{fa a:Addr}{fd:FuncData}{x:Str}{sp:Sp}{s₁:Shared}{vs:List Value}{ns:List Int}
  (KX:K.In s₁.heap) (hns:s₁.heap.Ns mainGlobals mg) (hb:s₁.heap.Ns builtinsNs mb) (hbb:∀x:Str,x≠"__name__" -> mb x=bootBuiltins x) (hlim:s₁.heap.NoLimit) (hg:s₁.gens = #[])
  (ha:s₁.heap.get? a=some {cls:=.type "list",data:=.seq vs.toArray}) (hi:IntsAre vs ns) (hl:ns.length<=sizeLine) (hr:Room k callerA)
  (F:∀base:Heap,K.In base->base.Ns mainGlobals mg->FnOk P w K mg base CX k fa fd [x] sp) (hbind:∀(s:Shared) (u:Value),BindsTo s fd ⟨[u],[]⟩ [(x,u)])
  (hsp:∀H:Hp,qqf H->SqL K H a (ns.map V.int)->sp [.ref a] H (fun v _=>v=.bl true) fun _ _ _=>False)
  (hCX:∀H e s',CX [] H s₁ (fun _ _ _=>False) e s'->False) :
  codeAny (model P w) callerA (.call (.ref fa) ⟨[.ref a],[]⟩) (fun r s'=>r=.ok (.ret (.bool true))/\OldK s₁.heap s'.heap/\s'.os=s₁.os/\AllBare s'.gens) s₁:=by
 have rv:=q1t hi;have lenV:=hi.length
 -- from an abstract heap in which nothing but the script may be tracked
 have core:∀H:Hp,qqf H->SqL K H a (ns.map V.int)->HOk P w H s₁.heap->(∀b,H b≠none->b=a)->(H a≠none->K.lookup a=none) ->
   codeAny (model P w) callerA (.call (.ref fa) ⟨[.ref a],[]⟩) (fun r s'=>r=.ok (.ret (.bool true))/\OldK s₁.heap s'.heap/\s'.os=s₁.os/\AllBare s'.gens) s₁:=by
  intro H hO hS hok hA hK;have base_of:∀ {b:Addr} {o:Obj},s₁.heap.get? b=some o->H b=none->(q59 s₁.heap H).get? b=some o:=fun e n=>qpz e n;have noA:∀ {b:Addr} {o:Obj} {es:Array DictEntry} {ep:Nat},s₁.heap.get? b=some o->o.data=.dict es ep->H b=none:=fun {b o es ep} e d=>by
   cases q:H b with
   | none=>rfl
   | some u=>
    have e':b=a:=hA b (by rw [q];simp);subst e';rw [ha] at e;cases e;have d':Data.seq vs.toArray _=Data.dict es ep:=d;cases d'
  have nsK:∀ {b:Addr} {m:Tc},s₁.heap.Ns b m->(q59 s₁.heap H).Ns b m:=fun {b m} ⟨o,es,ep,e,d,r⟩=>⟨o,es,ep,base_of e (noA e d),d,r⟩
  have hKb:K.In (q59 s₁.heap H):=fun b o e=>base_of (KX b o e) (by
   cases q:H b with
   | none=>rfl
   | some u=>
    have e':b=a:=hA b (by rw [q];simp);subst e';rw [hK (by rw [q];simp)] at e;cases e)
  have hM:Mod K mg (q59 s₁.heap H):=⟨hKb,nsK hns,⟨mb,nsK hb,hbb⟩,let⟨mc,h1,h2⟩:=hlim; ⟨mc,nsK h1,h2⟩⟩
  have e0:Env0 P w K mg (q59 s₁.heap H) callerA [] s₁ H:=⟨rfl,hM,fun b o e=>qu3 e,g5e (qn3 _ _),trivial,fun b hb=>absurd (show b∈([]:List Addr) from hb) (by simp),hok,.of_eq hg⟩
  refine g0t ((F _ hKb (nsK hns)).run callerA [] s₁ H ⟨[.ref a],[]⟩ [.ref a] [.ref a] _ _ hr e0 (hbind s₁ (.ref a)) (.cons rfl .nil) (hsp H hO hS)) fun r s' h=>?_;cases r with
  | error e=>exact(hCX H e s' h).elim
  | ok fl=>
   cases fl with
   | next=>exact False.elim h
   | brk=>exact False.elim h
   | cont=>exact False.elim h
   | ret u=>
    obtain⟨v,H',os,bare,un,hok',r',q⟩:=h;have q':v=.bl true:=q;subst q';obtain rfl:u=Value.bool true:=r';refine⟨rfl,OldK.of_keep fun b o e=>?_,os,bare⟩;cases q:H b with
    | none=>exact un.keep b o e q (by intro z;exact absurd (show b∈([]:List Addr) from z) (by simp)) (by simp)
    | some u=>
     rcases hO b with z|⟨ob,xs,z⟩
     ·rw [q] at z;cases z
     ·have z2:=un.frzs b ob _ z
      obtain⟨e1,_⟩:=hok b _ z;obtain⟨e2,_⟩:=hok' b _ z2;rw [e] at e1;cases e1;exact e2
 cases hk:K.lookup a with
 | some o=>
  -- the script is one of the module's own objects
  have e:=KX a o hk;rw [ha] at e;cases e;refine core (fun _=>none) (fun _=>.inl rfl) (.inr ⟨_,vs.toArray,_,hk,rfl,rfl,rfl,by rw [gq,lenV];exact hl,by simpa using rv⟩) (fun b u z=>by have z':(none:Option HO)=some u:=z;cases z') (fun b z=>absurd rfl z) fun z=>absurd rfl z
 | none=>
  refine core (fun b=>if b=a then some (.frz {cls:=.type "list",data:=.seq vs.toArray} (.lst (ns.map V.int))) else none) (fun b=>?_) (.inl (.inr ⟨{cls:=.type "list",data:=.seq vs.toArray},gw rfl⟩)) (fun b u z=>?_) (fun b z=>?_) fun _=>hk
  ·by_cases hb:b=a
   ·exact .inr ⟨_,_,gw hb⟩
   ·exact .inl (mf hb)
  ·by_cases hb:b=a
   ·have z':=(gw hb).symm.trans z
    cases z';subst hb;exact⟨ha,by rw [gv];exact hl,vs,_,rv,ha⟩
   ·have z':=(mf hb).symm.trans z
    cases z'
  ·by_cases hb:b=a
   ·exact hb
   ·exact absurd (mf hb) z
theorem quh{l:PySem.W.OpenLaw}{n k:Nat}{q:Program}{loose:List Str}{XP:(Tc)->Heap->Prop}{YP:World->Heap->Prop}{d:DefRec}{K:Params->PySem.W.Frag}{CX:World->CXT}{sp:World->Sp}{x:Str}
  (hn:l.most=some n) (hn2:n<=sizeLine) (hdf:d.params.defaults=[]) (hr:Room k callerA)
  (hY:∀(w:World) (h:Heap),YP w h->(K w.params).In h)
  (F:∀(w:World) (mg:Tc) (fa:Addr) (h:Heap),(K w.params).In h->h.Ns mainGlobals mg->mg d.name=some (.ref fa) ->
   ∃fd:FuncData,(∀(s:Shared) (u:Value),BindsTo s fd ⟨[u],[]⟩ [(x,u)]) /\
    ∀base:Heap,(K w.params).In base->base.Ns mainGlobals mg->FnOk l.prog w (K w.params) mg base (CX w) k fa fd [x] (sp w))
  (hsp:∀(w:World) (H:Hp) (a:Addr) (ns:List Int),ns.length<=n->qqf H->SqL (K w.params) H a (ns.map V.int)->sp w [.ref a] H (fun v _=>v=.bl true) fun _ _ _=>False)
  (hCX:∀(w:World) (H:Hp) (s:Shared) (e:Value) (s':Shared),CX w [] H s (fun _ _ _=>False) e s'->False) :
  PySem.W.WalkO q loose XP YP l.row.toRowW d [] (fun f vs=>PySem.call f vs):=by
 refine Att.attach_call hn hdf fun w s₀ s₁ mg mb fa o pm cd doc a vs ns G Y ho hd hcd hmg hobj hints hlen hg=>?_;have KX:=hY w _ Y;obtain⟨fd,hb,hF⟩:=F w mg fa _ KX G.T.g hmg;exact qqg KX G.T.g G.T.b G.T.builtins G.T.nolimit hg hobj hints (mi hlen hn2) hr hF hb (fun H hO hS=>hsp w H a ns hlen hO hS) fun H e s'=>hCX w H s₁ e s'
def q2l(s:Stmt): Arguments:=match s with
 | .FunctionDef _ a _ _ _ _ _ _ _ _=>a
 | _=>{posonlyargs:=[],args:=[],vararg:=none,kwonlyargs:=[],kw_defaults:=[],kwarg:=none,defaults:=[]}
def ja(s:Stmt): List Stmt:=match s with
 | .FunctionDef _ _ b _ _ _ _ _ _ _=>b
 | _=>[]
def qj(s:Stmt): Scope:=match s with
 | .FunctionDef _ _ _ _ _ _ sc _ _ _=>sc
 | _=>{kind:=.function,names:=[],isGenerator:=false,isCoroutine:=false}
abbrev CX0:CXT:=fun _ _ _ _ _ _=>False
abbrev E0:XK:=fun _ _ _=>False
theorem q0o{X:Cx}: q1s CX0 X E0:=fun _ _ _ _ _ _ _ h=>h.elim
section
variable{P:Program}{w:World}{K:PySem.W.Frag}{mg:Tc}{base:Heap}
end
section
variable{X:Cx}
theorem pv(i:Nat){x:Str}{pos:Pos}(hN:X.N[i]? = some x:=by rfl)(hv:Vis X.env.scope x:=by first|exact Or.inl rfl|exact Or.inr (Or.inl rfl)|exact Or.inr (Or.inr rfl))(hd:(x==("__debug__" : Str))=false:=by decide)
  (hcd:(x==("__classdict__" : Str))=false:=by decide):PE X (.Name x pos) (vp i):=qwj hN hv hd hcd
end
theorem qqh{A B:Prop}(h:B): if false=true then A else B:=by
 rw [mf gy];exact h
theorem qqi{A B:Prop}(h:A): if true=true then A else B:=by
 rw [gw rfl];exact h
def Same(H H':Hp): Prop:=∀b o,H b=some o->H' b=some o
theorem Same.refl(H:Hp): Same H H:=fun _ _ h=>h
theorem Same.trans{H H1 H2:Hp}(a:Same H H1)(b:Same H1 H2): Same H H2:=fun c o h=>b c o (a c o h)
theorem Same.free{H H':Hp}(e:Same H H'){l:Addr}(h:H' l=Option.none): H l=Option.none:=by
 cases q:H l with
 | none=>rfl
 | some o=>
  rw [e l o q] at h;cases h
theorem Same.seq{K:PySem.W.Frag}{H H':Hp}{a:Addr}{xs:List V}(e:Same H H')(h:SqL K H a xs): SqL K H' a xs:=by
 rcases h with(h|⟨o,h⟩)|h
 ·exact .inl (.inl (e _ _ h))
 ·exact .inl (.inr ⟨o,e _ _ h⟩)
 ·exact .inr h
theorem q2q(env:Env): ∀(names:List (Str×NameKind)) (acc:List (Str×Addr)),
  (∀y∈names,y.2=.free->∃c,env.cells.lookup y.1=some c)->(∀x c,acc.lookup x=some c->env.cells.lookup x=some c) ->
  ∃ cl,(forIn names acc (fun(x:Str×NameKind) (r:List (Str×Addr))=>(do
    if x.2==NameKind.free then do
     let a <- cellOf env x.1
     pure (ForInStep.yield ((x.1,a) :: r))
    else pure (ForInStep.yield r):Sem (ForInStep (List (Str×Addr))))):Sem (List (Str×Addr)))=pure cl /\
   (∀x c,cl.lookup x=some c->env.cells.lookup x=some c)/\(∀x c,acc.lookup x=some c->∃d,cl.lookup x=some d)/\(∀y∈names,y.2=.free->∃c,cl.lookup y.1=some c)
 | [],acc,_,h2=>⟨acc,rfl,h2,fun x c h=>⟨c,h⟩,fun y hy=>by cases hy⟩
 | (n,k) :: r,acc,h1,h2=>by
  by_cases hk:k=NameKind.free
  ·subst hk
   obtain⟨c,hc⟩:=h1 (n,.free) ma rfl;have h2':∀x d,((n,c) :: acc).lookup x=some d->env.cells.lookup x=some d:=fun x d e=>by
    rw [nk] at e
    split at e
    ·rename_i q
     have q':x=n:=by simpa using q
     subst q';cases e;exact hc
    ·exact h2 x d e
   obtain⟨cl,e,a1,a2,a3⟩:=q2q env r ((n,c) :: acc) (fun y hy=>h1 y (gz _ hy)) h2';refine⟨cl,?_,a1,fun x d e2=>?_,fun y hy hf=>?_⟩
   ·rw [g1k]
    simp only [g32,uh];have hco:cellOf env n=pure c:=by unfold cellOf;rw [hc]
    rw [hco];exact e
   ·by_cases q:x=n
    ·subst q
     exact a2 x c (by rw [nk];simp)
    ·exact a2 x d (by rw [nk,show(x==n)=false by simpa using q];exact e2)
   ·rcases mh.mp hy with rfl|hy
    ·exact a2 n c (by rw [nk];simp)
    ·exact a3 y hy hf
  ·obtain⟨cl,e,a1,a2,a3⟩:=q2q env r acc (fun y hy=>h1 y (gz _ hy)) h2
   refine⟨cl,?_,a1,a2,fun y hy hf=>?_⟩
   ·rw [g1k]
    have hb:(k==NameKind.free)=false:=by simpa using hk
    simp only [hb,my,g11];exact e
   ·rcases mh.mp hy with rfl|hy
    ·exact absurd hf hk
    ·exact a3 y hy hf
theorem qb6{scope:Scope}{env:Env}(h:∀y∈scope.names,y.2=.free->∃c,env.cells.lookup y.1=some c):
  ∃cl,closureFor scope env=pure cl/\(∀x c,cl.lookup x=some c->env.cells.lookup x=some c)/\(∀y∈scope.names,y.2=.free->∃c,cl.lookup y.1=some c):=by
 obtain⟨cl,e,a1,_,a3⟩:=q2q env scope.names [] h (fun x c q=>by cases q);refine⟨cl,?_,a1,a3⟩;unfold closureFor;exact(ui (fun m=>m >>= fun r=>(pure r:Sem (List (Str×Addr)))) e).trans rfl
abbrev qnt(ifs:List Expr)(env:Env): Sem Bool:=
 forIn ifs true fun c r=>if r=true then do let ok <- isTrue c env (eval c env);pure (ForInStep.yield ok) else pure (ForInStep.yield r)
def q1z(X:Cx)(ifs:List Expr)(t:TT): Prop:=
 ∀(pins:Td) (s:Shared) (σ : St) (H:Hp) (Q:Bool->Hp->Prop),Inv X pins σ H s->t σ H Q->wpAny (model X.prog X.w) X.A (qnt ifs X.env) (TP X pins σ Q) X.xe s
def tTrue:TT:=fun _ H Q=>Q true H
theorem qqj{X:Cx}: q1z X [] tTrue:=fun pins s σ H Q I h=>wpAny_tests_nil ⟨H,I,h⟩
theorem qqk{X:Cx}{c:Expr}{t:TT}(h:PT X c t): q1z X [c] t:=fun pins s σ H Q I hq=>wpAny_tests_one (h pins s σ H Q I hq)
section
variable{prog:Program}{w:World}{A:Around}{R:Result->Shared->Prop}{s:Shared}
theorem qj6{elt target iter:Expr}{ifs:List Expr}{scope:Scope}{pos:Pos}{it acc:Value}{env:Env}(I:Nat->Shared->Prop)
  (turn:∀n s,I n s->wpAny (model prog w) A (pyNext it) (fun r s₁=>match r with
   | none=>R (.ok .next) s₁
   | some v=>wpAny (model prog w) A (letOwnedTupleGo target it v) (fun _ s'=>wpAny (model prog w) A (assign target env v) (fun _ s₂=>
     wpAny (model prog w) A (qnt ifs env) (fun ok s₃=>
      if ok=true then wpAny (model prog w) A (eval elt env) (fun x s₄=>
       wpAny (model prog w) A (call (.builtin "list.append") [acc,x]) (fun _ s₅=>∃m,m<n/\I m s₅) (fun _ _=>False) s₄) (fun _ _=>False) s₃
      else ∃m,m<n/\I m s₃) (fun _ _=>False) s₂) (fun _ _=>False) s') (fun _ _=>False) s₁) (fun _ _=>False) s)
  (n:Nat) (h:I n s) :
  codeAny (model prog w) A (.compLoop (.ListComp elt [⟨target,iter,ifs,0⟩] scope pos) 0 it acc env) R s:=by
 refine codeAny_loop rfl I (fun n s hI=>?_) n h;show wpAny _ A ((compTurn (.ListComp elt [⟨target,iter,ifs,0⟩] scope pos) 0 it acc env).onRaise (fun x=>do noteFrame x env;theTreesLotGoes x)) _ _ s;refine wpAny_noted ?_;rw [compTurn_list];refine g9 (g2y (g9 (nu (turn n s hI) (fun r s₁ h₁=>?_) fun _ _ h'=>h'.elim)));cases r with
 | none=>exact gf h₁
 | some v=>
  refine g9 (nu h₁ (fun _ s' h'=>?_) fun _ _ h'=>h'.elim);refine g9 (nu h' (fun _ s₂ h₂=>g9 (nu h₂ (fun ok s₃ h₃=>?_) fun _ _ h'=>h'.elim)) fun _ _ h'=>h'.elim);cases ok with
  | false=>exact gf ⟨rfl,h₃⟩
  | true=>
   exact g9 (g9 (nu h₃ (fun x s₄ h₄=>g9 (nu h₄ (fun _ s₅ h₅=>gf (gf ⟨rfl,h₅⟩)) fun _ _ h'=>h'.elim)) fun _ _ h'=>h'.elim))
end
def qd5(cap:Te)(σ : St): St:=cap.map fun o=>o.bind fun j=>(σ[j]?).join
theorem lookup_mem{α β : Type}[BEq α][LawfulBEq α]{l:List (α × β)}{a : α}{b : β}(h:l.lookup a=some b): (a,b)∈l:=by
 induction l with
 | nil=>cases h
 | cons p r ih=>
  obtain⟨x,y⟩:=p;rw [nk] at h
  split at h
  ·rename_i q
   have q':a=x:=by simpa using q
   subst q';cases h;exact ma
  ·exact gz _ (ih h)
theorem q2r{env:Env}: ∀ {names:List (Str×NameKind)} {x:Str} {k:NameKind},(names.map fun(n,k)=>if(k==NameKind.free&&env.scope.kind == .function&&env.kindOf n==some .cell) then(n,NameKind.cell) else(n,k)).lookup x=some k ->
  (names.lookup x=some k)\/(k=.cell/\names.lookup x=some .free)
 | [],_,_,h=>by cases h
 | (n,k0) :: r,x,k,h=>by
  have ih:=@q2r env r x k;have h':List.lookup x ((if(k0==NameKind.free&&env.scope.kind == .function&&env.kindOf n==some .cell)=true then(n,NameKind.cell) else(n,k0)) :: _)=some k:=h
  by_cases hc:(k0==NameKind.free&&env.scope.kind == .function&&env.kindOf n==some .cell)=true
  ·rw [gw hc,nk] at h'
   have hf:k0=.free:=by
    simp only [mn,ux] at hc;exact hc.1.1
   cases q:x==n with
   | true=>rw [q] at h';cases h';exact .inr ⟨rfl,by rw [nk,q,hf]⟩
   | false=>rw [q] at h';rw [nk,q];exact ih h'
  ·rw [mf hc,nk] at h'
   cases q:x==n with
   | true=>rw [q] at h';rw [nk,q];exact .inl h'
   | false=>rw [q] at h';rw [nk,q];exact ih h'
theorem q71{env:Env}: ∀ {names:List (Str×NameKind)} {x:Str},names.lookup x=some .free ->
  (names.map fun(n,k)=>if(k==NameKind.free&&env.scope.kind == .function&&env.kindOf n==some .cell) then(n,NameKind.cell) else(n,k)).lookup x=some .cell \/
  (names.map fun(n,k)=>if(k==NameKind.free&&env.scope.kind == .function&&env.kindOf n==some .cell) then(n,NameKind.cell) else(n,k)).lookup x=some .free
 | [],_,h=>by cases h
 | (n,k0) :: r,x,h=>by
  have ih:=@q71 env r x;show List.lookup x ((if(k0==NameKind.free&&env.scope.kind == .function&&env.kindOf n==some .cell)=true then(n,NameKind.cell) else(n,k0)) :: _)=_\/List.lookup x ((if(k0==NameKind.free&&env.scope.kind == .function&&env.kindOf n==some .cell)=true then(n,NameKind.cell) else(n,k0)) :: _)=_;rw [nk] at h
  by_cases hc:(k0==NameKind.free&&env.scope.kind == .function&&env.kindOf n==some .cell)=true
  ·rw [gw hc,nk]
   cases q:x==n with
   | true=>exact .inl rfl
   | false=>rw [q] at h;exact ih h
  ·rw [mf hc,nk]
   cases q:x==n with
   | true=>rw [q] at h;exact .inr h
   | false=>rw [q] at h;exact ih h
section
variable{X:Cx}{pins:Td}{σ : St}{H:Hp}{s:Shared}{N':List Str}{scope:Scope}{cap:Te}{cl:List (Str×Addr)}{fp:List Addr}
end
def qxe(J:It)(cap:Te)(g:TG)(tc:TT)(te:TE)(σ : St)(H1:Hp)(p:Addr)(K:Hp->Prop): Prop:=
 ∃ W:Nat->Nat->St->Hp->Prop,(∃m,W 0 m (qd5 cap σ) (upd H1 p (.lst [])))/\∀i m σ' H',W i m σ' H' ->
  (J.stop i H'/\K H')\/(J.go i H'/\∀x H'',J.yld i H' x H''->g x σ' H'' fun σ2 H2=>tc σ2 H2 fun b H3=>
   if b=true then te σ2 H3 fun y H4=>∃xs,H4 p=some (.lst xs)/\xs.length<sizeLine/\∃m',m'<m/\W (i+1) m' σ2 (upd H4 p (.lst (xs++[y])))
   else ∃m',m'<m/\W (i+1) m' σ2 H3)
def qlr(wi:TI)(cap:Te)(g:TG)(tc:TT)(te:TE): TE:=fun σ H Q=>wi σ H fun J H1=>∀p,H1 p=none->qxe J cap g tc te σ H1 p (Q (.ref p))
section
variable{X:Cx}{N':List Str}{scope:Scope}{cap:Te}{tg iter elt:Expr}{ifs:List Expr}{wi:TI}{g:TG}{tc:TT}{te:TE}{pos:Pos}
end
section
variable{X:Cx}{N':List Str}{scope:Scope}{cap:Te}{tg iter elt:Expr}{ifs:List Expr}{wi:TI}{g:TG}{tc:TT}{te:TE}{pos:Pos}
end
end L2
namespace DL
open PySem PySem.Spec PyProof.Rows L2
structure ExcC(K:PySem.W.Frag)(D:Addr): Prop where
 ga:PySem.W.findIn K (.ref D) "__getattribute__" = some (some (.builtin "BaseException.__getattribute__"))
 gk:PySem.W.findIn K (.ref D) "__getattr__" = some none
 cc:PySem.W.findIn K (.ref D) "__class__" = some (some (.builtin "object.__class__"))
 cs:PySem.W.specialIn K (.builtin "object.__class__") "__get__" = some (some (.builtin "getset_descriptor.__get__"))
 ct:PySem.W.takesIn K (.builtin "object.__class__")=some true
 cm:PySem.W.mroIn K D (.type "object")=some true
 cb:PySem.W.mroIn K D (.type "BaseException")=some true
section
variable{prog:Program}{w:World}{A:Around}{E:Ta}{K:PySem.W.Frag}{s:Shared}{x D:Addr}{od:Option Addr}{ox:Obj}
open PySem.W in
theorem qk9(c:ExcC K D): (clsIn K D).isSome=true:=by
 have:=c.cm;unfold mroIn at this;cases q:clsIn K D with
 | none=>rw [q] at this;cases this
 | some cd=>rfl
def XE(a C:Addr)(od:Option Addr)(h:Heap): Prop:=∃o vs,h.get? a=some o/\o.cls=.ref C/\o.dict=od/\o.data=.fields vs
open PySem.W in
theorem q2m{M:Model}{a C:Addr}{od:Option Addr}{h:Heap}(e:XE a C od h): Looks M h (typeOf (.ref a)) (.ref C):=by
 obtain⟨o,vs,e1,e2,_,e3⟩:=e;exact e2 ▸ (Looks.ld e1).andThen .now
open PySem.W Builtin.ObjectAttr in
theorem qui{M:Model}{h:Heap}(c:ExcC K D)(X:K.In h): Looks M h (find (.ref x) (.ref D) "__class__") (.bind (.builtin "getset_descriptor.__get__") (.builtin "object.__class__")):=by
 refine(looks_findIn (M:=M) X c.cc).andThen ((looks_specialIn (M:=M) X c.cs).andThen ?_);exact(show Looks M h (dataDescriptor? (some (.builtin "object.__class__")) (some (.builtin "getset_descriptor.__get__"))) (some (.builtin "getset_descriptor.__get__",.builtin "object.__class__")) from(looks_takesIn (M:=M) X c.ct).andThen .now).andThen (Looks.tag .now)
open PySem.W Builtin Builtin.ObjectAttr Builtin.Getset_descriptor in
theorem qxf{tp:Value}{R:Result->Shared->Prop}(c:ExcC K D)(X:K.In s.heap)(I:XE x D od s.heap)(h:R (.ok (.ret (.ref D))) s):
  codeAny (model prog w) A (.call (.builtin "getset_descriptor.__get__") ⟨[.builtin "object.__class__",.ref x,tp],[]⟩) R s:=by
 obtain⟨hh,g,dr,t,os⟩:=s;have L0:=q2m (M:=model prog w) I;have L1:=looks_mroIn (M:=model prog w) X c.cm;refine g0e KF.slot_gs.plain KF.entry_gs (KF.slot_gs.check _ _ _ _ _ _ _ _ KF.type_class (KF.args_gs _ _ _) ?_);unfold Builtin.«getset_descriptor.__get__» descrGet;rw [dga_obj];refine g9 (gf ?_);unfold descrGetter descrCheckInstance descrNameAndClass isInstance;simp only [KF.owner_class]
 repeat lk
 refine⟨g2g _ (by decide +kernel),pq KF.entry_class ?_⟩;unfold Builtin.«object.__class__» shownTypeOf
 repeat lk
 exact h
open PySem.W in
theorem qql{tk:Tok}{Q:Fin->Shared->Prop}(c:ExcC K D)(X:K.In s.heap)(I:XE x D od s.heap)(hq:Q (.done (.ret (.ref D))) s):
  wpAny (model prog w) A (Builtin.«object.__getattribute__» ⟨[.ref x,.str "__class__" tk],[]⟩) Q E s:=by
 obtain⟨hh,g,dr,t,os⟩:=s;have L0:=q2m (M:=model prog w) I;have L1:=qui (x:=x) (M:=model prog w) c X;unfold Builtin.«object.__getattribute__»;refine g9 (gf (g9 (gf (g9 (L0.at (g9 (L1.at ?_)))))));show wpAny _ _ (Builtin.ObjectAttr.bindTo _ _ _ _) _ _ _;unfold Builtin.ObjectAttr.bindTo;refine g9 (nr (g0q (qxf c X I ?_)));exact gf hq
open PySem.W in
theorem qqm{M:Model}{nameV:Value}{Q:Unit->Shared->Prop}(c:ExcC K D)(X:K.In s.heap)(I:XE x D od s.heap)(hq:Q () s): wpAny M A (checkBuiltinCall "BaseException.__getattribute__" ⟨[.ref x,nameV],[]⟩) Q E s:=by
 obtain⟨hh,g,dr,t,os⟩:=s;have L0:=q2m (M:=M) I;have L1:=looks_mroIn (M:=M) X c.cb;have hk:builtinKind "BaseException.__getattribute__" = some .slot:=by decide +kernel
 have hsplit:splitId "BaseException.__getattribute__" = some ("BaseException","__getattribute__"):=by decide +kernel
 have ha:=F.args_bexc_ga (.ref x) nameV;simp only [checkBuiltinCall,hk,hsplit];refine g9 ?_;unfold isInstance;refine g9 (L0.at (L1.at ?_))
 repeat (first|wp_step)
 exact hq
open PySem.W in
theorem qqn{Q:Option Value->Shared->Prop}(c:ExcC K D)(X:K.In s.heap)(I:XE x D od s.heap)(h:Q (some (.ref D)) {s with toks:=s.toks+1}): wpAny (model prog w) A (getAttr? (.ref x) "__class__") Q E s:=by
 obtain⟨hh,g,dr,t,os⟩:=s;have L0:=q2m (M:=model prog w) I;have L1:=looks_findIn (M:=model prog w) X c.ga;have L2:=looks_findIn (M:=model prog w) X c.gk;have f3:=g3v.ga.bind (.ref x);unfold getAttr? getAttrBy? getAttrBy;refine g9 (wpAny_mkText (g9 (g1i (nr (g9 (L0.at (g9 (L1.at ?_))))))));show wpAny _ _ (getAttrByItsOwn _ _ _ _ _ _) _ _ _;unfold getAttrByItsOwn hookBefore;rw [gw (show onTheHeap (Value.ref D)=true from rfl)];refine g9 (L2.at ?_);refine g9 (g1i (nr ?_));unfold callGetattribute boundAndCalled;rw [mf (by decide)];rw [f3];refine g9 (gf ?_);refine g0q (g0e g3v.ga.plain F.entry_bexc_ga (qqm c X I (qql c X I ?_)));dsimp only;exact handed_on rfl (gf h)
theorem qqo(c:ExcC K D): PySem.W.KitX K (.ref x) (.ref D) (XE x D od) where
 ty:=fun M h _ e=>q2m e
 it:=fun _ _ X _=>by
  obtain⟨cdD,hcD⟩:=g1a.mp (qk9 c);unfold PySem.W.clsIn at hcD
  split at hcD
  ·rename_i c' d' cd' sl' ho
   intro A' Q' E' s' k q;unfold isType loadHead;exact g9 (wpAny_loadPart (k _ _ (X _ _ ho)) (gf q))
  ·cases hcD
 ne:=fun h tp dd its n sl X htp=>by
  obtain⟨cdD,hcD⟩:=g1a.mp (qk9 c);refine Bool.eq_false_iff.mpr fun q=>?_;have e:D=tp:=Value.ref.inj (ux.mp q);subst e;unfold PySem.W.clsIn at hcD
  split at hcD
  ·rename_i c' d' cd' sl' ho
   have z:=(X _ _ ho).symm.trans htp;cases z
  ·cases hcD
 ca:=fun X e k=>qqn c X e k
end
def qls(K:PySem.W.Frag)(C:Addr): Prop:=ExcC K C/\∀T:String,T∈["int","bool","tuple","list","str","dict"]->PySem.W.kitOne K (.ref C) (.type T)=some false
inductive D where
 | non
 | bl (b:Bool)
 | int (i:Int)
 | str (x:Str)
 | tup (ds:List D)
 | lst (ds:List D)
 | dct (ks:List Key) (vs:List D)
 | dtt (ks:List (List Int)) (vs:List D)
 | dt2 (ks:List (List Int×List Int))
 | obj (x:Str)
 | exc (x:Str) (f:Option (Str×Int))
abbrev Frag:=PySem.W.Frag
abbrev St:=L2.St
def qqp(K:Frag)(C:Addr): Prop:=PySem.W.plainGet K C "__class__" = true/\PySem.W.hasDictIn K C=true/\PySem.W.findIn K (.ref C) "__class__" = some (some (.builtin "object.__class__")) /\
 PySem.W.specialIn K (.builtin "object.__class__") "__get__" = some (some (.builtin "getset_descriptor.__get__"))/\PySem.W.takesIn K (.builtin "object.__class__")=some true/\PySem.W.mroIn K C (.type "object")=some true /\
 ∀T:String,T∈["int","bool","tuple","list","str","dict"]->PySem.W.kitOne K (.ref C) (.type T)=some false
def z1m(x:List Int×Addr×Value): DictEntry:=⟨reduceHash (Builtin.Tuple.tupleHashOf (x.1.map hashInt)),.ref x.2.1,x.2.2⟩
def DE(a:Addr)(xs:List (List Int×Addr×Value))(ep:Nat)(h:Heap): Prop:=∃o es,h.get? a=some o/\o.ExactDict/\o.data=.dict es ep/\es.toList=xs.map z1m
def z1n(x:(List Int×List Int)×Addr×Value): DictEntry:=⟨reduceHash (Builtin.Tuple.tupleHashOf [reduceHash (Builtin.Tuple.tupleHashOf (x.1.1.map hashInt)),reduceHash (Builtin.Tuple.tupleHashOf (x.1.2.map hashInt))]),.ref x.2.1,x.2.2⟩
def DE2(a:Addr)(xs:List ((List Int×List Int)×Addr×Value))(ep:Nat)(h:Heap): Prop:=∃o es,h.get? a=some o/\o.ExactDict/\o.data=.dict es ep/\es.toList=xs.map z1n
def SqP(K:Frag)(H:Hp)(a:Addr)(k:List Int×List Int): Prop:=∃p q,SqT K H a [.ref p,.ref q]/\SqT K H p (k.1.map V.int)/\SqT K H q (k.2.map V.int)
def XF(H:Hp): Option Addr->Option (Str×Int)->Prop
 | none,none=>True
 | some dx,some p=>H dx=some (.xd [(p.1,.int p.2)])
 | _,_=>False
theorem XF.mono{H H':Hp}(e:Same H H'): ∀ {od:Option Addr} {f:Option (Str×Int)},XF H od f->XF H' od f
 | none,none,_=>trivial
 | some _,some _,h=>e _ _ h
 | none,some _,h=>h
 | some _,none,h=>h
mutual
/-- v stands for the datum in the heap H -/
def Rep(K:Frag)(H:Hp): D->V->Prop
 | .non,v=>v=.non
 | .bl b,v=>v=.bl b
 | .int i,v=>v=.int i
 | .str x,v=>v=.str x
 | .tup ds,v=>∃a xs,v=.ref a/\SqT K H a xs/\RepL K H ds xs
 | .lst ds,v=>∃a xs,v=.ref a/\SqL K H a xs/\RepL K H ds xs
 | .dct ks vs,v=>∃a xs,v=.ref a/\H a=some (.dK (ks.zip xs))/\ks.length=xs.length/\RepL K H vs xs
 | .dtt ks vs,v=>∃a xs ys ep,v=.ref a/\H a=some (.ext (DE a xs ep))/\xs.map (·.1)=ks/\ks.Nodup/\xs.length<=sizeLine/\(a==sysModules)=false/\(∀x∈xs,SqT K H x.2.1 (x.1.map V.int))/\Vals ys (xs.map fun x=>x.2.2)/\RepL K H vs ys
 | .dt2 ks,v=>∃a xs ep,v=.ref a/\H a=some (.ext (DE2 a xs ep))/\xs.map (·.1)=ks/\ks.Nodup/\xs.length<=sizeLine/\(a==sysModules)=false/\∀x∈xs,SqP K H x.2.1 x.1
 | .obj x,v=>∃a dx C,v=.ref a/\H a=some (.ins C dx [])/\PySem.W.nsIn K mainGlobals x=some (some (.ref C))/\qqp K C
 | .exc x f,v=>∃a C,v=.ref a/\(∃od,H a=some (.ext (XE a C od))/\XF H od f)/\PySem.W.nsIn K mainGlobals x=some (some (.ref C))/\qls K C
def RepL(K:Frag)(H:Hp): List D->List V->Prop
 | [],xs=>xs=[]
 | d :: ds,xs=>∃x r,xs=x :: r/\Rep K H d x/\RepL K H ds r
end
theorem z0{K:Frag}{H H':Hp}{a:Addr}{xs:List V}(e:Same H H')(h:SqT K H a xs): SqT K H' a xs:=by
 rcases h with(h|⟨o,h⟩)|h
 ·exact .inl (.inl (e _ _ h))
 ·exact .inl (.inr ⟨o,e _ _ h⟩)
 ·exact .inr h
theorem SqP.mono{K:Frag}{H H':Hp}{a:Addr}{k:List Int×List Int}(e:Same H H')(h:SqP K H a k): SqP K H' a k:=by
 obtain⟨p,q,h1,h2,h3⟩:=h;exact⟨p,q,z0 e h1,z0 e h2,z0 e h3⟩
mutual
theorem Rep.mono{K:Frag}{H H':Hp}(e:Same H H'): ∀ {d:D} {v:V},Rep K H d v->Rep K H' d v
 | .non,v,h=>by simpa only [Rep] using h
 | .bl b,v,h=>by simpa only [Rep] using h
 | .int i,v,h=>by simpa only [Rep] using h
 | .str x,v,h=>by simpa only [Rep] using h
 | .tup ds,v,h=>by
  simp only [Rep] at h ⊢;obtain⟨a,xs,e1,e2,e3⟩:=h;exact⟨a,xs,e1,z0 e e2,RepL.mono e e3⟩
 | .lst ds,v,h=>by
  simp only [Rep] at h ⊢;obtain⟨a,xs,e1,e2,e3⟩:=h;exact⟨a,xs,e1,e.seq e2,RepL.mono e e3⟩
 | .dct ks vs,v,h=>by
  simp only [Rep] at h ⊢;obtain⟨a,xs,e1,e2,e3,e4⟩:=h;exact⟨a,xs,e1,e _ _ e2,e3,RepL.mono e e4⟩
 | .dtt ks vs,v,h=>by
  simp only [Rep] at h ⊢;obtain⟨a,xs,ys,ep,e1,e2,e3,e4,e5,e6,e7,e8,e9⟩:=h;exact⟨a,xs,ys,ep,e1,e _ _ e2,e3,e4,e5,e6,fun x hx=>z0 e (e7 x hx),e8,RepL.mono e e9⟩
 | .dt2 ks,v,h=>by
  simp only [Rep] at h ⊢;obtain⟨a,xs,ep,e1,e2,e3,e4,e5,e6,e7⟩:=h;exact⟨a,xs,ep,e1,e _ _ e2,e3,e4,e5,e6,fun x hx=>(e7 x hx).mono e⟩
 | .obj x,v,h=>by
  simp only [Rep] at h ⊢;obtain⟨a,dx,C,e1,e2,e3⟩:=h;exact⟨a,dx,C,e1,e _ _ e2,e3⟩
 | .exc x f,v,h=>by
  simp only [Rep] at h ⊢;obtain⟨a,C,e1,⟨od,e2,e4⟩,e3⟩:=h;exact⟨a,C,e1,⟨od,e _ _ e2,e4.mono e⟩,e3⟩
theorem RepL.mono{K:Frag}{H H':Hp}(e:Same H H'): ∀ {ds:List D} {xs:List V},RepL K H ds xs->RepL K H' ds xs
 | [],xs,h=>by simpa only [RepL] using h
 | d :: ds,xs,h=>by
  simp only [RepL] at h ⊢;obtain⟨x,r,e1,e2,e3⟩:=h;exact⟨x,r,e1,Rep.mono e e2,RepL.mono e e3⟩
end
section
variable{K:Frag}{H:Hp}
theorem RepL.nil:RepL K H [] []:=by simp only [RepL]
theorem RepL.cons{d:D}{ds:List D}{x:V}{xs:List V}(h:Rep K H d x)(t:RepL K H ds xs): RepL K H (d :: ds) (x :: xs):=by
 simp only [RepL];exact⟨x,xs,rfl,h,t⟩
theorem RepL.nil_inv{xs:List V}(h:RepL K H [] xs): xs=[]:=by simpa only [RepL] using h
theorem RepL.cons_inv{d:D}{ds:List D}{xs:List V}(h:RepL K H (d :: ds) xs): ∃x r,xs=x :: r/\Rep K H d x/\RepL K H ds r:=by simpa only [RepL] using h
theorem RepL.length:∀ {ds:List D} {xs:List V},RepL K H ds xs->ds.length=xs.length
 | [],xs,h=>by rw [h.nil_inv];rfl
 | d :: ds,xs,h=>by
  obtain⟨x,r,rfl,_,t⟩:=h.cons_inv;simp [RepL.length t]
theorem RepL.append:∀ {ds es:List D} {xs ys:List V},RepL K H ds xs->RepL K H es ys->RepL K H (ds++es) (xs++ys)
 | [],es,xs,ys,h,t=>by rw [h.nil_inv];exact t
 | d :: ds,es,xs,ys,h,t=>by
  obtain⟨x,r,rfl,h1,h2⟩:=h.cons_inv;exact .cons h1 (RepL.append h2 t)
theorem RepL.get:∀ {ds:List D} {xs:List V} {i:Nat} {d:D},RepL K H ds xs->ds[i]? = some d->∃x,xs[i]? = some x/\Rep K H d x
 | [],xs,i,d,h,e=>by simp at e
 | d :: ds,xs,0,d',h,e=>by
  obtain⟨x,r,rfl,h1,h2⟩:=h.cons_inv;simp at e;subst e;exact⟨x,rfl,h1⟩
 | d :: ds,xs,i+1,d',h,e=>by
  obtain⟨x,r,rfl,h1,h2⟩:=h.cons_inv;obtain⟨y,e1,e2⟩:=RepL.get (i:=i) h2 (by simpa using e);exact⟨y,by simpa using e1,e2⟩
theorem RepL.take:∀ {ds:List D} {xs:List V} (n:Nat),RepL K H ds xs->RepL K H (ds.take n) (xs.take n)
 | _,_,0,_=>by simp only [List.take_zero];exact .nil
 | [],xs,n+1,h=>by rw [h.nil_inv];exact .nil
 | d :: ds,xs,n+1,h=>by
  obtain⟨x,r,rfl,h1,h2⟩:=h.cons_inv;exact .cons h1 (RepL.take n h2)
theorem RepL.drop:∀ {ds:List D} {xs:List V} (n:Nat),RepL K H ds xs->RepL K H (ds.drop n) (xs.drop n)
 | ds,xs,0,h=>by simpa only [g57] using h
 | [],xs,n+1,h=>by rw [h.nil_inv];exact .nil
 | d :: ds,xs,n+1,h=>by
  obtain⟨x,r,rfl,h1,h2⟩:=h.cons_inv;exact RepL.drop n h2
theorem RepL.ints:∀ {ns:List Int} {xs:List V},RepL K H (ns.map D.int) xs↔xs=ns.map V.int
 | [],xs=>by simp only [g0u,RepL]
 | n :: ns,xs=>by
  simp only [m5,RepL]
  constructor
  ·rintro⟨x,r,rfl,h1,h2⟩
   simp only [Rep] at h1;rw [h1,RepL.ints.mp h2]
  ·rintro rfl
   exact⟨_,_,rfl,by simp only [Rep],RepL.ints.mpr rfl⟩
theorem rep_int{i:Int}{v:V}: Rep K H (.int i) v↔v=.int i:=by simp only [Rep]
theorem rep_bl{i:Bool}{v:V}: Rep K H (.bl i) v↔v=.bl i:=by simp only [Rep]
theorem rep_str{i:Str}{v:V}: Rep K H (.str i) v↔v=.str i:=by simp only [Rep]
theorem rep_non{v:V}: Rep K H .non v↔v=.non:=by simp only [Rep]
theorem rep_tup{ds:List D}{v:V}: Rep K H (.tup ds) v↔∃a xs,v=.ref a/\SqT K H a xs/\RepL K H ds xs:=by simp only [Rep]
theorem rep_lst{ds:List D}{v:V}: Rep K H (.lst ds) v↔∃a xs,v=.ref a/\SqL K H a xs/\RepL K H ds xs:=by simp only [Rep]
theorem rep_dct{ks:List Key}{vs:List D}{v:V}: Rep K H (.dct ks vs) v↔∃a xs,v=.ref a/\H a=some (.dK (ks.zip xs))/\ks.length=xs.length/\RepL K H vs xs:=by simp only [Rep]
theorem rep_dtt{ks:List (List Int)}{vs:List D}{v:V}: Rep K H (.dtt ks vs) v↔∃a xs ys ep,v=.ref a/\H a=some (.ext (DE a xs ep))/\xs.map (·.1)=ks/\ks.Nodup/\xs.length<=sizeLine/\(a==sysModules)=false/\(∀x∈xs,SqT K H x.2.1 (x.1.map V.int))/\Vals ys (xs.map fun x=>x.2.2)/\RepL K H vs ys:=by simp only [Rep]
theorem rep_dt2{ks:List (List Int×List Int)}{v:V}: Rep K H (.dt2 ks) v↔∃a xs ep,v=.ref a/\H a=some (.ext (DE2 a xs ep))/\xs.map (·.1)=ks/\ks.Nodup/\xs.length<=sizeLine/\(a==sysModules)=false/\∀x∈xs,SqP K H x.2.1 x.1:=by simp only [Rep]
theorem rep_exc{x:Str}{f:Option (Str×Int)}{v:V}: Rep K H (.exc x f) v↔∃a C,v=.ref a/\(∃od,H a=some (.ext (XE a C od))/\XF H od f)/\PySem.W.nsIn K mainGlobals x=some (some (.ref C))/\qls K C:=by simp only [Rep]
theorem rep_obj{x:Str}{v:V}: Rep K H (.obj x) v↔∃a dx C,v=.ref a/\H a=some (.ins C dx [])/\PySem.W.nsIn K mainGlobals x=some (some (.ref C))/\qqp K C:=by simp only [Rep]
end
class Lam where
 tab:List (Addr×Str)
class Pin where
 pin:Option Addr
instance (priority:=low) pin0:Pin:=⟨none⟩
variable[Lam][Pin]
def Tab(H:Hp): Prop:=∀p∈Lam.tab,∃ps,H p.1=some (.tbl ps)/\TriplesOk ps.toList/\∀pos cv,codeAmong pos ps.toList=some cv->∃c φ,cv=.ref c/\H c=some (.ext φ)/\∀h, φ h->h.CodeRec (.ref c) p.2
def qqq(F:Hp): Prop:=∀p∈Lam.tab,F p.1=none
theorem Tab.updG{H:Hp}(t:Tab H){p:Addr}{o:HO}(h:∀u,H p=some u->(∀ps,u ≠ .tbl ps)/\∀ φ,u ≠ .ext φ): Tab (upd H p o):=fun q hq=>by
 obtain⟨ps,e,ht,k⟩:=t q hq;refine⟨ps,by rw [qr (fun z=>by subst z;exact(h _ e).1 ps rfl)];exact e,ht,fun pos cv z=>?_⟩;obtain⟨c, φ,e1,e2,e3⟩:=k pos cv z;exact⟨c, φ,e1,by rw [qr (fun z=>by subst z;exact(h _ e2).2 φ rfl)];exact e2,e3⟩
theorem Tab.upd{H:Hp}(t:Tab H){p:Addr}{o:HO}(h:H p=none\/∃xs,H p=some (.lst xs)): Tab (upd H p o):=t.updG fun u e=>by
 rcases h with h|⟨xs,h⟩
 ·rw [h] at e;cases e
 ·rw [h] at e;cases e;exact⟨nofun,nofun⟩
abbrev KO:=(Addr×Addr×List (Str×V)) ⊕ List (Key×V)
def KO.ho:KO->HO
 | .inl u=>.ins u.1 u.2.1 u.2.2
 | .inr k=>.dK k
structure Kept(H H':Hp): Prop where
 lst:∀b xs,H b=some (.lst xs)->H' b=some (.lst xs)
 ext:∀b φ,H b=some (.ext φ)->H' b=some (.ext φ)
 free:∀ {b},H' b=none->H b=none
 tb:Tab H->Tab H'
 dk:∀b (u:KO),H b=some u.ho->H' b=some u.ho
theorem Kept.refl(H:Hp): Kept H H:=⟨fun _ _ e=>e,fun _ _ e=>e,fun e=>e,fun t=>t,fun _ _ e=>e⟩
theorem Kept.trans{H H1 H2:Hp}(a:Kept H H1)(b:Kept H1 H2): Kept H H2:=⟨fun c xs e=>b.lst c xs (a.lst c xs e),fun c φ e=>b.ext c φ (a.ext c φ e),fun e=>a.free (b.free e),fun t=>b.tb (a.tb t),fun c kvs e=>b.dk c kvs (a.dk c kvs e)⟩
theorem Kept.new{H:Hp}{p:Addr}{o:HO}(hp:H p=none): Kept H (upd H p o):=⟨fun b xs e=>by rw [qr (jt e hp)];exact e,fun b φ e=>by rw [qr (jt e hp)];exact e,fun {b} e=>by
 by_cases z:b=p
 ·subst z;exact hp
 ·rw [qr z] at e;exact e,fun t=>t.upd (.inl hp),fun b kvs e=>by rw [qr (jt e hp)];exact e⟩
structure SameT(F H:Hp): Prop where
 s:Same F H
 t:Tab H
 f:qqq F
structure Grow(F H F' H':Hp): Prop where
 ff:Same F F'
 hh:Kept H H'
 fh:Same F' H'
 nw:∀b,F' b≠none->F b≠none\/H b=none
theorem Grow.refl{F H:Hp}(h:Same F H): Grow F H F H:=⟨.refl _,.refl _,h,fun _ h=>.inl h⟩
theorem Grow.trans{F H F1 H1 F2 H2:Hp}(a:Grow F H F1 H1)(b:Grow F1 H1 F2 H2): Grow F H F2 H2:=
 ⟨a.ff.trans b.ff,a.hh.trans b.hh,b.fh,fun c h=>(b.nw c h).elim (fun z=>a.nw c z) fun z=>.inr (a.hh.free z)⟩
theorem q5d{H:Hp}{p:Addr}{o:HO}(h:H p=none): Same H (upd H p o):=fun b u q=>by rw [qr (jt q h)];exact q
theorem qnu{F H:Hp}{p:Addr}{o:HO}(h:Same F H): Same (upd F p o) (upd H p o):=fun b u q=>by
 unfold upd at q ⊢
 split
 ·rename_i z;rw [gw z] at q;exact q
 ·rename_i z;rw [mf z] at q;exact h _ _ q
theorem Grow.new{F H:Hp}{p:Addr}{o:HO}(h:Same F H)(hp:H p=none): Grow F H (upd F p o) (upd H p o):=
 ⟨q5d (h.free hp),.new hp,qnu h,fun b hb=>by
  by_cases e:b=p
  ·subst e;exact .inr hp
  ·rw [qr e] at hb;exact .inl hb⟩
theorem Grow.own{F H:Hp}{p:Addr}{o:HO}(h:Same F H)(hp:H p=none): Grow F H F (upd H p o):=
 ⟨.refl _,.new hp,h.trans (q5d hp),fun _ h=>.inl h⟩
inductive OV where
 | one (o:Str×List (Str×D))
 | many (l:List (Str×List (Str×D)))
instance:Coe (Str×List (Str×D)) OV:=⟨.one⟩
inductive B where
 | fz (d:D)
 | ow (ds:List D)
 | od (kvs:OV)
abbrev Rho:=List (Option B)
def FsR(K:Frag)(F:Hp): List (Str×D)->List (Str×V)->Prop
 | [],vs=>vs=[]
 | p :: fs,vs=>∃v r,vs=(p.1,v) :: r/\Rep K F p.2 v/\FsR K F fs r
omit [Lam] [Pin] in
theorem FsR.mono{K:Frag}{F F':Hp}(s:Same F F'): ∀ {fs:List (Str×D)} {vs:List (Str×V)},FsR K F fs vs->FsR K F' fs vs
 | [],_,h=>h
 | p :: fs,_,⟨v,r,e,h1,h2⟩=>⟨v,r,e,h1.mono s,FsR.mono s h2⟩
structure OB0(K:Frag)(F H H0:Hp)(a:Addr)(o:Str×List (Str×D)): Prop where
 ex:∃C dx vs,H a=some (.ins C dx vs)/\PySem.W.nsIn K mainGlobals o.1=some (some (.ref C))/\FsR K F o.2 vs
 f:F a=none
 z:H0 a=none
def OBs(K:Frag)(F H H0:Hp): List Addr->List (Str×List (Str×D))->Prop
 | [],l=>l=[]
 | a :: as,l=>∃o r,l=o :: r/\OB0 K F H H0 a o/\OBs K F H H0 as r
def ODx(K:Frag)(F H H0:Hp)(a:Addr)(bs:List Addr): OV->Prop
 | .one o=>bs=[]/\OB0 K F H H0 a o
 | .many l=>bs=[a]/\∃as,H a=some (.lst (as.map .ref))/\F a=none/\H0 a=none/\as.Nodup/\OBs K F H H0 as l
structure ODt(K:Frag)(F H H0:Hp)(a:Addr)(bs:List Addr)(kvs:OV): Prop where
 x:ODx K F H H0 a bs kvs
 pn:∀p,Pin.pin=some p->a=p
structure RS(K:Frag)(F0 H0 F H:Hp)(σ : St)(ρ : Rho): Prop where
 t0:Tab H0/\qqq F0
 g:Grow F0 H0 F H
 len : σ.length = ρ.length
 fz:∀(i:Nat) (d:D), ρ[i]? = some (some (.fz d))->∃v, σ[i]? = some (some v)/\Rep K F d v
 ow:∀(i:Nat) (ds:List D), ρ[i]? = some (some (.ow ds))->∃a xs, σ[i]? = some (some (.ref a))/\H a=some (.lst xs)/\F a=none/\H0 a=none/\RepL K F ds xs
 dj:∀(i j:Nat) (ds es:List D) (a:Addr),i≠j -> ρ[i]? = some (some (.ow ds)) -> ρ[j]? = some (some (.ow es)) -> σ[i]? = some (some (.ref a)) -> σ[j]? ≠ some (some (.ref a))
 od:∀(i:Nat) (kvs:OV), ρ[i]? = some (some (.od kvs))->∃a bs, σ[i]? = some (some (.ref a))/\ODt K F H H0 a bs kvs/\∀(j:Nat) (es:List D) (b:Addr), ρ[j]? = some (some (.ow es))->b∈bs -> σ[j]? ≠ some (some (.ref b))
 o1:∀(i j:Nat) (k1 k2:OV), ρ[i]? = some (some (.od k1)) -> ρ[j]? = some (some (.od k2))->i=j
theorem q2n{F H F' H':Hp}{a:Addr}{o:HO}(g:Grow F H F' H')(h1:F a=none)(h2:H a=some o): F' a=none:=by
 cases q:F' a with
 | none=>rfl
 | some o=>
  rcases g.nw a (by rw [q];simp) with z|z
  ·exact absurd h1 z
  ·rw [h2] at z;cases z
section
variable{K:Frag}{F H F' H' H0:Hp}{a p:Addr}{bs:List Addr}{kvs:OV}{u:HO}
theorem OB0.grow{o}(x:OB0 K F H H0 a o)(g:Grow F H F' H'): OB0 K F' H' H0 a o:=by
 obtain⟨C,dx,vs,e1,e2,e3⟩:=x.ex;exact⟨⟨C,dx,vs,g.hh.dk a (.inl (C,dx,_)) e1,e2,e3.mono g.ff⟩,q2n g x.f e1,x.z⟩
theorem OB0.other{o}{xs:List V}(x:OB0 K F H H0 a o)(h:H p=some (.lst xs)): OB0 K F (upd H p u) H0 a o:=by
 obtain⟨C,dx,vs,e1,e2,e3⟩:=x.ex;exact⟨⟨C,dx,vs,by rw [qr (fun z=>by subst z;rw [h] at e1;cases e1)];exact e1,e2,e3⟩,x.f,x.z⟩
theorem OB0.otherF{o}{xs:List V}(x:OB0 K F H H0 a o)(hs:Same F (upd F p u))(h:H p=some (.lst xs)): OB0 K (upd F p u) H H0 a o:=by
 obtain⟨C,dx,vs,e1,e2,e3⟩:=x.ex;exact⟨⟨C,dx,vs,e1,e2,e3.mono hs⟩,by rw [qr (fun z=>by subst z;rw [h] at e1;cases e1)];exact x.f,x.z⟩
theorem OBs.imp{F1 H1:Hp}(f:∀a o,OB0 K F H H0 a o->OB0 K F1 H1 H0 a o): ∀ {as:List Addr} {l},OBs K F H H0 as l->OBs K F1 H1 H0 as l
 | [],_,h=>h
 | _ :: _,_,⟨o,r,e,h1,h2⟩=>⟨o,r,e,f _ _ h1,h2.imp f⟩
theorem ODt.mem(o:ODt K F H H0 a bs kvs){b:Addr}(h:b∈bs): ∃xs,H b=some (.lst xs)/\F b=none/\H0 b=none:=by
 cases kvs with
 | one v=>rw [o.x.1] at h;cases h
 | many l=>
  obtain⟨e,as,h1,h2,h3,_⟩:=o.x;rw [e] at h;obtain rfl:=g00.mp h;exact⟨_,h1,h2,h3⟩
theorem ODt.ne(o:ODt K F H H0 a bs kvs){xs:List V}(h:H p=some (.lst xs))(h2:p∉bs): p≠a:=fun z=>by
 subst z;cases kvs with
 | one v=>
  obtain⟨C,dx,vs,e,_⟩:=o.x.2.ex;rw [h] at e;cases e
 | many l=>rw [o.x.1] at h2;exact h2 (.head _)
theorem ODt.grow(o:ODt K F H H0 a bs kvs)(g:Grow F H F' H'): ODt K F' H' H0 a bs kvs:=⟨by
 cases kvs with
 | one v=>exact⟨o.x.1,o.x.2.grow g⟩
 | many l=>
  obtain⟨e,as,h1,h2,h3,h4,h5⟩:=o.x;exact⟨e,as,g.hh.lst _ _ h1,q2n g h2 h1,h3,h4,h5.imp fun _ _ z=>z.grow g⟩,o.pn⟩
theorem ODt.other(o:ODt K F H H0 a bs kvs){xs:List V}(h:H p=some (.lst xs))(h2:p∉bs): ODt K F (upd H p u) H0 a bs kvs:=⟨by
 have n:=o.ne h h2;cases kvs with
 | one v=>exact⟨o.x.1,o.x.2.other h⟩
 | many l=>
  obtain⟨e,as,h1,h2,h3,h4,h5⟩:=o.x;exact⟨e,as,by rw [qr (ml n)];exact h1,h2,h3,h4,h5.imp fun _ _ z=>z.other h⟩,o.pn⟩
theorem ODt.otherF(o:ODt K F H H0 a bs kvs)(hs:Same F (upd F p u)){xs:List V}(h:H p=some (.lst xs))(h2:p∉bs): ODt K (upd F p u) H H0 a bs kvs:=⟨by
 have n:=o.ne h h2;cases kvs with
 | one v=>exact⟨o.x.1,o.x.2.otherF hs h⟩
 | many l=>
  obtain⟨e,as,h1,h2,h3,h4,h5⟩:=o.x;exact⟨e,as,h1,by rw [qr (ml n)];exact h2,h3,h4,h5.imp fun _ _ z=>z.otherF hs h⟩,o.pn⟩
section
variable{o:Str×List (Str×D)}
theorem ODt.nb(t:ODt K F H H0 a bs (.one o)): bs=[]:=t.x.1
theorem ODt.ob(t:ODt K F H H0 a bs (.one o)): OB0 K F H H0 a o:=t.x.2
theorem ODt.ex(t:ODt K F H H0 a bs (.one o)): ∃C dx vs,H a=some (.ins C dx vs)/\PySem.W.nsIn K mainGlobals o.1=some (some (.ref C))/\FsR K F o.2 vs:=t.x.2.ex
theorem ODt.f(t:ODt K F H H0 a bs (.one o)): F a=none:=t.x.2.f
theorem ODt.z(t:ODt K F H H0 a bs (.one o)): H0 a=none:=t.x.2.z
end
end
section
variable{K:Frag}{F0 H0 F H F' H':Hp}{σ : St}{ρ : Rho}
theorem RS.fh(r:RS K F0 H0 F H σ ρ): Same F H:=r.g.fh
theorem RS.tab(r:RS K F0 H0 F H σ ρ): Tab H:=r.g.hh.tb r.t0.1
theorem RS.tabF(r:RS K F0 H0 F H σ ρ): qqq F:=fun p hp=>by
 cases q:F p.1 with
 | none=>rfl
 | some o=>
  rcases r.g.nw p.1 (by rw [q];simp) with z|z
  ·exact absurd (r.t0.2 p hp) z
  ·obtain⟨ps,e,_⟩:=r.t0.1 p hp
   rw [e] at z;cases z
theorem RS.grow(r:RS K F0 H0 F H σ ρ)(g:Grow F H F' H'): RS K F0 H0 F' H' σ ρ where
 t0:=r.t0
 g:=r.g.trans g
 len:=r.len
 fz:=fun i d e=>let⟨v,e1,e2⟩:=r.fz i d e; ⟨v,e1,e2.mono g.ff⟩
 ow:=fun i ds e=>by
  obtain⟨a,xs,e1,e2,e3,e4,e5⟩:=r.ow i ds e;refine⟨a,xs,e1,g.hh.lst _ _ e2,?_,e4,e5.mono g.ff⟩;cases q:F' a with
  | none=>rfl
  | some o=>
   rcases g.nw a (by rw [q];simp) with z|z
   ·exact absurd e3 z
   ·rw [e2] at z;cases z
 dj:=r.dj
 od:=fun i kvs e=>let⟨a,bs,e1,e2,e3⟩:=r.od i kvs e; ⟨a,bs,e1,e2.grow g,e3⟩
 o1:=r.o1
theorem RS.sameT(r:RS K F0 H0 F H σ ρ)(g:Grow F H F' H'): SameT F' H':=⟨g.fh,(r.grow g).tab,(r.grow g).tabF⟩
theorem z5{α : Type}{l:List α}{i:Nat}{x y : α}(h:(l.set i x)[i]? = some y): y=x/\i<l.length:=by
 rw [g2r] at h;simp only [uh] at h
 split at h
 ·exact⟨(mr h).symm,by assumption⟩
 ·cases h
theorem RS.set(r:RS K F0 H0 F H σ ρ){d:D}{v:V}(i:Nat)(h:Rep K F d v): RS K F0 H0 F H (σ.set i (some v)) (ρ.set i (some (.fz d))) where
 t0:=r.t0
 g:=r.g
 len:=by rw [ue,ue];exact r.len
 fz:=fun j e h1=>by
  by_cases q:j=i
  ·subst q
   obtain⟨z,l⟩:=z5 h1;cases z;exact⟨v,by rw [g2r];simp [r.len,l],h⟩
  ·rw [gr (ml q)] at h1 ⊢
   exact r.fz j e h1
 ow:=fun j ds h1=>by
  by_cases q:j=i
  ·subst q
   obtain⟨z,l⟩:=z5 h1;cases z
  ·rw [gr (ml q)] at h1 ⊢
   exact r.ow j ds h1
 dj :=fun j k ds es a hjk h1 h2 h3=>by
  by_cases q:j=i
  ·subst q
   obtain⟨z,l⟩:=z5 h1;cases z
  ·by_cases q2:k=i
   ·subst q2
    obtain⟨z,l⟩:=z5 h2;cases z
   ·rw [gr (ml q)] at h1 h3
    rw [gr (ml q2)] at h2 ⊢;exact r.dj j k ds es a hjk h1 h2 h3
 od :=fun j kvs h1=>by
  by_cases q:j=i
  ·subst q
   obtain⟨z,l⟩:=z5 h1;cases z
  ·rw [gr (ml q)] at h1 ⊢
   obtain⟨a,bs,e1,e2,e3⟩:=r.od j kvs h1;refine⟨a,bs,e1,e2,fun k es b h2 h3=>?_⟩
   by_cases q2:k=i
   ·subst q2
    obtain⟨z,l⟩:=z5 h2;cases z
   ·rw [gr (ml q2)] at h2 ⊢
    exact e3 k es b h2 h3
 o1 :=fun j k k1 k2 h1 h2=>by
  by_cases q:j=i
  ·subst q
   obtain⟨z,l⟩:=z5 h1;cases z
  ·by_cases q2:k=i
   ·subst q2
    obtain⟨z,l⟩:=z5 h2;cases z
   ·rw [gr (ml q)] at h1
    rw [gr (ml q2)] at h2;exact r.o1 j k k1 k2 h1 h2
theorem RS.setO(r:RS K F0 H0 F H σ ρ){ds:List D}{xs:List V}{a:Addr}(i:Nat)(h1:H a=some (.lst xs))(h2:F a=none)(h3:H0 a=none)(h4:RepL K F ds xs)
  (h5:∀(j:Nat) (es:List D), ρ[j]? = some (some (.ow es)) -> σ[j]? ≠ some (some (.ref a)))
  (h6:∀(j:Nat) (kvs:OV), ρ[j]? = some (some (.od kvs))->∃a' bs, σ[j]? = some (some (.ref a'))/\ODt K F H H0 a' bs kvs/\a∉bs/\∀(j':Nat) (es:List D) (b:Addr), ρ[j']? = some (some (.ow es))->b∈bs -> σ[j']? ≠ some (some (.ref b))):RS K F0 H0 F H (σ.set i (some (.ref a))) (ρ.set i (some (.ow ds))) where
 t0:=r.t0
 g:=r.g
 len:=by rw [ue,ue];exact r.len
 fz:=fun j e q1=>by
  by_cases q:j=i
  ·subst q
   obtain⟨z,l⟩:=z5 q1;cases z
  ·rw [gr (ml q)] at q1 ⊢
   exact r.fz j e q1
 ow:=fun j es q1=>by
  by_cases q:j=i
  ·subst q
   obtain⟨z,l⟩:=z5 q1;cases z;exact⟨a,xs,by rw [g2r];simp [r.len,l],h1,h2,h3,h4⟩
  ·rw [gr (ml q)] at q1 ⊢
   exact r.ow j es q1
 dj :=fun j k ds' es b hjk q1 q2 q3=>by
  by_cases q:j=i
  ·subst q
   have e3:=z5 q3;have eb:b=a:=by have:=e3.1;simpa using this
   subst eb;rw [gr hjk] at q2 ⊢;exact h5 k es q2
  ·rw [gr (ml q)] at q1 q3
   by_cases q4:k=i
   ·subst q4
    intro z;have eb:b=a:=by have:=(z5 z).1;simpa using this
    subst eb;exact h5 j ds' q1 q3
   ·rw [gr (ml q4)] at q2 ⊢
    exact r.dj j k ds' es b hjk q1 q2 q3
 od :=fun j kvs q1=>by
  by_cases q:j=i
  ·subst q
   obtain⟨z,l⟩:=z5 q1;cases z
  ·rw [gr (ml q)] at q1 ⊢
   obtain⟨a',bs,e1,e2,e3,e4⟩:=h6 j kvs q1;refine⟨a',bs,e1,e2,fun k es b p1 p2 p3=>?_⟩
   by_cases q2:k=i
   ·subst q2
    have eb:b=a:=by have:=(z5 p3).1;simpa using this
    exact e3 (eb ▸ p2)
   ·rw [gr (ml q2)] at p1 p3
    exact e4 k es b p1 p2 p3
 o1 :=fun j k k1 k2 p1 p2=>by
  by_cases q:j=i
  ·subst q
   obtain⟨z,l⟩:=z5 p1;cases z
  ·by_cases q2:k=i
   ·subst q2
    obtain⟨z,l⟩:=z5 p2;cases z
   ·rw [gr (ml q)] at p1
    rw [gr (ml q2)] at p2;exact r.o1 j k k1 k2 p1 p2
theorem RS.wrt(r:RS K F0 H0 F H σ ρ){ds es:List D}{ys:List V}{a:Addr}{i:Nat}(h1 : ρ[i]? = some (some (.ow ds)))(h2 : σ[i]? = some (some (.ref a)))(h4:RepL K F es ys):
  RS K F0 H0 F (upd H a (.lst ys)) σ (ρ.set i (some (.ow es))):=by
 obtain⟨a',xs,e1,e2,e3,e4,e5⟩:=r.ow i ds h1;rw [h2] at e1;obtain rfl:a=a':=by simpa using e1
 have nF:∀b o,F b=some o->b≠a:=fun b o e z=>by subst z;rw [e3] at e;cases e
 exact {
  t0:=r.t0
  g :=⟨r.g.ff,⟨fun b o e=>by rw [qr (fun z=>by subst z;rw [e4] at e;cases e)];exact r.g.hh.lst b o e,fun b o e=>by rw [qr (fun z=>by subst z;rw [e4] at e;cases e)];exact r.g.hh.ext b o e,fun {b} e=>by
    by_cases z:b=a
    ·subst z;exact e4
    ·rw [qr z] at e;exact r.g.hh.free e,fun t=>(r.g.hh.tb t).upd (.inr ⟨_,e2⟩),fun b o e=>by rw [qr (fun z=>by subst z;rw [e4] at e;cases e)];exact r.g.hh.dk b o e⟩,fun b o e=>by rw [qr (nF b o e)];exact r.g.fh b o e,r.g.nw⟩
  len:=by rw [ue];exact r.len
  fz:=fun j e q1=>by
   by_cases q:j=i
   ·subst q
    obtain⟨z,l⟩:=z5 q1;cases z
   ·rw [gr (ml q)] at q1
    exact r.fz j e q1
  ow :=fun j es' q1=>by
   by_cases q:j=i
   ·subst q
    obtain⟨z,l⟩:=z5 q1;cases z;exact⟨a,ys,h2,za,e3,e4,h4⟩
   ·rw [gr (ml q)] at q1
    obtain⟨b,zs,f1,f2,f3,f4,f5⟩:=r.ow j es' q1;have hb:b≠a:=fun z=>by
     subst z;exact r.dj i j ds es' b (ml q) h1 q1 h2 f1
    exact⟨b,zs,f1,by rw [qr hb];exact f2,f3,f4,f5⟩
  dj:=fun j k ds' es' b hjk q1 q2 q3=>by
   have back:∀(l:Nat) (us:List D),(ρ.set i (some (.ow es)))[l]? = some (some (.ow us))->∃ws, ρ[l]? = some (some (.ow ws)):=fun l us z=>by
    by_cases q:l=i
    ·subst q;exact⟨ds,h1⟩
    ·rw [gr (ml q)] at z;exact⟨us,z⟩
   obtain⟨w1,z1⟩:=back j ds' q1;obtain⟨w2,z2⟩:=back k es' q2;exact r.dj j k w1 w2 b hjk z1 z2 q3
  od:=fun j kvs q1=>by
   by_cases q:j=i
   ·subst q
    obtain⟨z,l⟩:=z5 q1;cases z
   ·rw [gr (ml q)] at q1
    obtain⟨a',bs,f1,f2,f3⟩:=r.od j kvs q1;refine⟨a',bs,f1,f2.other e2 fun z=>f3 i ds a h1 z h2,fun k es' b p1 p2=>?_⟩
    by_cases q2:k=i
    ·subst q2;exact f3 k ds b h1 p2
    ·rw [gr (ml q2)] at p1;exact f3 k es' b p1 p2
  o1 :=fun j k k1 k2 p1 p2=>by
   have back:∀(l:Nat) (us),(ρ.set i (some (.ow es)))[l]? = some (some (.od us)) -> ρ[l]? = some (some (.od us)):=fun l us z=>by
    by_cases q:l=i
    ·subst q
     obtain⟨z',_⟩:=z5 z;cases z'
    ·rw [gr (ml q)] at z;exact z
   exact r.o1 j k k1 k2 (back _ _ p1) (back _ _ p2)}
theorem RS.freeze(r:RS K F0 H0 F H σ ρ){ds:List D}{i:Nat}(h1 : ρ[i]? = some (some (.ow ds))): ∃F',Same F F'/\RS K F0 H0 F' H σ (ρ.set i (some (.fz (.lst ds)))):=by
 obtain⟨a,xs,e1,e2,e3,e4,e5⟩:=r.ow i ds h1;have sF:Same F (upd F a (.lst xs)):=q5d e3;refine⟨upd F a (.lst xs),sF,?_⟩;exact {
  t0:=r.t0
  g :=⟨r.g.ff.trans sF,r.g.hh,fun b o e=>by
    by_cases q:b=a
    ·subst q;rw [za] at e;cases e;exact e2
    ·rw [qr q] at e;exact r.g.fh b o e,fun b hb=>by
    by_cases q:b=a
    ·subst q;exact .inr e4
    ·rw [qr q] at hb;exact r.g.nw b hb⟩
  len:=by rw [ue];exact r.len
  fz:=fun j e q1=>by
   by_cases q:j=i
   ·subst q
    obtain⟨z,l⟩:=z5 q1;cases z;exact⟨_,e1,rep_lst.mpr ⟨a,xs,rfl,SqL.of za,e5.mono sF⟩⟩
   ·rw [gr (ml q)] at q1
    obtain⟨v,z1,z2⟩:=r.fz j e q1;exact⟨v,z1,z2.mono sF⟩
  ow :=fun j es' q1=>by
   by_cases q:j=i
   ·subst q
    obtain⟨z,l⟩:=z5 q1;cases z
   ·rw [gr (ml q)] at q1
    obtain⟨b,zs,f1,f2,f3,f4,f5⟩:=r.ow j es' q1;have hb:b≠a:=fun z=>by
     subst z;exact r.dj i j ds es' b (ml q) h1 q1 e1 f1
    exact⟨b,zs,f1,f2,by rw [qr hb];exact f3,f4,f5.mono sF⟩
  dj :=fun j k ds' es' b hjk q1 q2 q3=>by
   have back:∀(l:Nat) (us:List D),(ρ.set i (some (.fz (.lst ds))))[l]? = some (some (.ow us)) -> ρ[l]? = some (some (.ow us)):=fun l us z=>by
    by_cases q:l=i
    ·subst q
     obtain⟨z',_⟩:=z5 z;cases z'
    ·rw [gr (ml q)] at z;exact z
   exact r.dj j k ds' es' b hjk (back _ _ q1) (back _ _ q2) q3
  od:=fun j kvs q1=>by
   by_cases q:j=i
   ·subst q
    obtain⟨z,l⟩:=z5 q1;cases z
   ·rw [gr (ml q)] at q1
    obtain⟨a',bs,f1,f2,f3⟩:=r.od j kvs q1;refine⟨a',bs,f1,f2.otherF sF e2 fun z=>f3 i ds a h1 z e1,fun k es' b p1 p2=>?_⟩
    by_cases q2:k=i
    ·subst q2;exact f3 k ds b h1 p2
    ·rw [gr (ml q2)] at p1;exact f3 k es' b p1 p2
  o1 :=fun j k k1 k2 p1 p2=>by
   have back:∀(l:Nat) (us),(ρ.set i (some (.fz (.lst ds))))[l]? = some (some (.od us)) -> ρ[l]? = some (some (.od us)):=fun l us z=>by
    by_cases q:l=i
    ·subst q
     obtain⟨z',_⟩:=z5 z;cases z'
    ·rw [gr (ml q)] at z;exact z
   exact r.o1 j k k1 k2 (back _ _ p1) (back _ _ p2)}
end
end DL
namespace DL
open PySem PySem.Spec PyProof.Rows L2
variable[Lam][Pin]
abbrev lim:Nat:=1000000
theorem xn{n:Nat}(h:n<=lim): n<=sizeLine:=mi h (by decide)
theorem qec{n:Nat}(h:n<lim): n<sizeLine:=gx h (by decide)
abbrev FE:=Rho->Option D
abbrev FT:=Rho->Option Bool
abbrev FA:=Rho->Option (List D)
inductive Fl where
 | nx|bk|ct
 | rt (d:D)
abbrev FS:=Rho->Option (Fl×Rho)
def tD(K:Frag)(f:FE): TE:=fun σ H Q=>∃F0 H0 F ρ d,RS K F0 H0 F H σ ρ /\ f ρ = some d/\∀v F' H',Grow F H F' H'->Rep K F' d v->Q v H'
def tL(K:Frag)(f:FA): TE:=fun σ H Q=>∃F0 H0 F ρ ds,RS K F0 H0 F H σ ρ /\ f ρ = some ds/\∀a xs F' H',Grow F H F' H'->F' a=none->H a=none->H' a=some (.lst xs)->RepL K F' ds xs->Q (.ref a) H'
def tDT(K:Frag)(f:FT): TT:=fun σ H Q=>∃F0 H0 F ρ b,RS K F0 H0 F H σ ρ /\ f ρ = some b/\∀F' H',Grow F H F' H'->Q b H'
def tDA(K:Frag)(f:FA): TA:=fun σ H Q=>∃F0 H0 F ρ ds,RS K F0 H0 F H σ ρ /\ f ρ = some ds/\∀vs F' H',Grow F H F' H'->RepL K F' ds vs->Q vs H'
def qfn(K:Frag)(F0 H0 F:Hp)(D:Ends)(fl:Fl)(ρ':Rho): Prop:=match fl with
 | .nx=>∀ σ' F' H',Same F F'->RS K F0 H0 F' H' σ' ρ'->D.nx σ' H'
 | .bk=>∀ σ' F' H',Same F F'->RS K F0 H0 F' H' σ' ρ'->D.bk σ' H'
 | .ct=>∀ σ' F' H',Same F F'->RS K F0 H0 F' H' σ' ρ'->D.ct σ' H'
 | .rt d=>∀v σ' F' H',RS K F0 H0 F' H' σ' ρ'->Rep K F' d v->D.rt v H'
def tDS(K:Frag)(f:FS): TS:=fun D σ H=>∃F0 H0 F ρ fl ρ',RS K F0 H0 F H σ ρ /\ f ρ = some (fl, ρ')/\qfn K F0 H0 F D fl ρ'
section
variable{X:Cx}{e:Expr}{pos:Pos}
theorem zr{t t':TE}(h:PE X e t)(i:∀ σ H Q,t' σ H Q->t σ H Q): PE X e t':=fun pins s σ H Q I q=>h pins s σ H Q I (i σ H Q q)
theorem q4n{t t':TT}(h:PT X e t)(i:∀ σ H Q,t' σ H Q->t σ H Q): PT X e t':=fun pins s σ H Q I q=>h pins s σ H Q I (i σ H Q q)
theorem qb7{es:List Expr}{t t':TA}(h:PA X es t)(i:∀ σ H Q,t' σ H Q->t σ H Q): PA X es t':=fun pos pins s σ H Q I q=>h pos pins s σ H Q I (i σ H Q q)
theorem je{st:Stmt}{t t':TS}(h:PS X st t)(i:∀D σ H,t' D σ H->t D σ H): PS X st t':=fun pins s σ H D I q=>h pins s σ H D I (i D σ H q)
theorem q8l{st:List Stmt}{t t':TS}(h:PSs X st t)(i:∀D σ H,t' D σ H->t D σ H): PSs X st t':=fun pins s σ H D I q=>h pins s σ H D I (i D σ H q)
def eV(i:Nat): FE:=fun ρ =>match ρ[i]? with
 | some (some (.fz d))=>some d
 | _=>none
def eC(d:D): FE:=fun _=>some d
theorem qka{i:Nat}{ρ : Rho}{d:D}(h:eV i ρ = some d): ρ[i]? = some (some (.fz d)):=by
 unfold eV at h
 split at h
 ·rename_i e;rw [e,mr h]
 ·cases h
theorem qa{K:Frag}{i:Nat}(h:PE X e (vp i)): PE X e (tD K (eV i)):=zr h fun σ H Q ⟨F0,H0,F, ρ,d,r,hf,q⟩=>by
 obtain⟨v,e1,e2⟩:=r.fz i d (qka hf);exact⟨v,e1,q v F H (.refl r.fh) e2⟩
theorem q5e{K:Frag}{v:V}{d:D}(h:PE X e (tC v))(hd:∀H,Rep K H d v): PE X e (tD K (eC d)):=zr h fun σ H Q ⟨F0,H0,F, ρ,d',r,hf,q⟩=>by
 cases hf;exact q v F H (.refl r.fh) (hd F)
theorem qi{K:Frag}{i j}: PE X (.Constant (.int i) j pos) (tD K (eC (.int i))):=q5e qwk fun _=>rep_int.mpr rfl
theorem q05{K:Frag}{b j}: PE X (.Constant (.bool b) j pos) (tD K (eC (.bl b))):=q5e qzq fun _=>rep_bl.mpr rfl
theorem q72{K:Frag}{j}: PE X (.Constant .none j pos) (tD K (eC .non)):=q5e qwl fun _=>rep_non.mpr rfl
def rD(K:Frag)(op:D->D->Option D): R2:=fun x y H Q=>∃F d1 d2 d,Same F H/\Rep K F d1 x/\Rep K F d2 y/\op d1 d2=some d/\∀v F' H',Grow F H F' H'->Rep K F' d v->Q v H'
def eOp(op:D->D->Option D)(f g:FE): FE:=fun ρ =>(f ρ).bind fun x=>(g ρ).bind fun y=>op x y
theorem two{K:Frag}{f g:FE}{op:D->D->Option D}{σ : St}{H:Hp}{Q:VK}(h:tD K (eOp op f g) σ H Q): tD K f σ H fun x H1=>tD K g σ H1 fun y H2=>rD K op x y H2 Q:=by
 obtain⟨F0,H0,F, ρ,d,r,hf,q⟩:=h;obtain⟨d1,h1,hf⟩:=gc.mp hf;obtain⟨d2,h2,h3⟩:=gc.mp hf;refine⟨F0,H0,F, ρ,d1,r,h1,fun v F1 H1 g1 r1=>⟨F0,H0,F1, ρ,d2,r.grow g1,h2,fun u F2 H2 g2 r2=>?_⟩⟩;exact⟨F2,d1,d2,d,g2.fh,r1.mono g2.ff,r2,h3,fun w F3 H3 g3 r3=>q w F3 H3 (g1.trans (g2.trans g3)) r3⟩
variable{a b:Expr}{f g:FE}
theorem qp{op:Operator}{o:D->D->Option D}(ho:OpR X (binaryOp op) (rD X.K o))(ha:PE X a (tD X.K f))(hb:PE X b (tD X.K g)): PE X (.BinOp a op b pos) (tD X.K (eOp o f g)):=
 zr (qtd ho ha hb) fun σ H Q h=>two h
theorem q19{f:Value->Value->Sem Value}{r r':R2}(h:OpR X f r)(i:∀x y H Q,r' x y H Q->r x y H Q): OpR X f r':=fun pins s σ H x y v u Q I rx ry q=>h pins s σ H x y v u Q I rx ry (i x y H Q q)
theorem qb8{f:Value->Value->Sem Value}{K:Frag}{o o':D->D->Option D}(h:OpR X f (rD K o))(h':OpR X f (rD K o')): OpR X f (rD K fun x y=>(o x y).or (o' x y)):=fun pins s σ H x y v u Q I rx ry q=>by
 obtain⟨F,d1,d2,d,q1,q2,q3,q4,q5⟩:=q;have q4:(o d1 d2).or (o' d1 d2)=some d:=q4;cases e:o d1 d2 with
 | some d'=>rw [e] at q4;cases q4;exact h pins s σ H x y v u Q I rx ry ⟨F,d1,d2,_,q1,q2,q3,e,q5⟩
 | none=>rw [e] at q4;exact h' pins s σ H x y v u Q I rx ry ⟨F,d1,d2,d,q1,q2,q3,q4,q5⟩
def oI(C:Int->Int->Bool)(z:Int->Int->Int): D->D->Option D
 | .int i,.int j=>if C i j then some (.int (z i j)) else none
 | _,_=>none
def oB(z:Int->Int->Bool): D->D->Option D
 | .int i,.int j=>some (.bl (z i j))
 | _,_=>none
theorem qd6{C:Int->Int->Bool}{z:Int->Int->Int}{d1 d2 d:D}(h:oI C z d1 d2=some d): ∃i j,d1=.int i/\d2=.int j/\C i j=true/\d=.int (z i j):=by
 cases d1 <;> cases d2 <;> simp only [oI] at h <;> first|(cases h;done)|skip
 split at h
 ·exact⟨_,_,rfl,rfl,by assumption,(mr h).symm⟩
 ·cases h
theorem quj{z:Int->Int->Bool}{d1 d2 d:D}(h:oB z d1 d2=some d): ∃i j,d1=.int i/\d2=.int j/\d=.bl (z i j):=by
 cases d1 <;> cases d2 <;> simp only [oB] at h <;> first|(cases h;done)|skip
 exact⟨_,_,rfl,rfl,(mr h).symm⟩
theorem q5f{fv:Value->Value->Sem Value}{P:Int->Int->Prop}{C:Int->Int->Bool}{z:Int->Int->Int}(h:OpR X fv (rI P fun i j=>.int (z i j)))(hC:∀i j,C i j=true->P i j): OpR X fv (rD X.K (oI C z)):=
 q19 h fun x y H Q ⟨F,d1,d2,d,q1,q2,q3,q4,q5⟩=>by
  obtain⟨i,j,rfl,rfl,c,rfl⟩:=qd6 q4;exact⟨i,j,rep_int.mp q2,rep_int.mp q3,hC i j c,q5 _ F H (.refl q1) (rep_int.mpr rfl)⟩
theorem qgc{fv:Value->Value->Sem Value}{z:Int->Int->Int}(h:OpR X fv (rI0 fun i j=>.int (z i j))): OpR X fv (rD X.K (oI (fun _ _=>true) z)):=
 q19 h fun x y H Q ⟨F,d1,d2,d,q1,q2,q3,q4,q5⟩=>by
  obtain⟨i,j,rfl,rfl,c,rfl⟩:=qd6 q4;exact⟨i,j,rep_int.mp q2,rep_int.mp q3,q5 _ F H (.refl q1) (rep_int.mpr rfl)⟩
theorem qb9{fv:Value->Value->Sem Value}{z:Int->Int->Bool}(h:OpR X fv (rI0 fun i j=>.bl (z i j))): OpR X fv (rD X.K (oB z)):=
 q19 h fun x y H Q ⟨F,d1,d2,d,q1,q2,q3,q4,q5⟩=>by
  obtain⟨i,j,rfl,rfl,rfl⟩:=quj q4;exact⟨i,j,rep_int.mp q2,rep_int.mp q3,q5 _ F H (.refl q1) (rep_bl.mpr rfl)⟩
abbrev oAdd:=oI (fun _ _=>true) fun i j=>i+j
abbrev oSub:=oI (fun _ _=>true) fun i j=>i-j
abbrev oMul:=oI (fun i j=>(decide (-(2 ^ 64)<i)&&decide (i<2 ^ 64)) || (decide (-(2 ^ 64)<j)&&decide (j<2 ^ 64))) fun i j=>i*j
abbrev oDiv:=oI (fun _ j=>decide (0<j)&&decide (j<1073741824)) fun i j=>i / j
abbrev oMod:=oI (fun _ j=>decide (0<j)) fun i j=>i%j
abbrev oShr:=oI (fun _ j=>decide (0<=j)) fun i j=>i / 2 ^ j.toNat
theorem q0f{p q:Prop}[Decidable p][Decidable q](h:(decide p&&decide q)=true): p/\q:=by simpa using h
theorem qxg:OpR X (binaryOp .Add) (rD X.K oAdd):=qgc qwx
theorem vj:OpR X (binaryOp .Sub) (rD X.K oSub):=qgc qwy
theorem qxh:OpR X (binaryOp .Mult) (rD X.K oMul):=q5f qwz fun i j h=>by
 rcases g3f _ _ ▸ h with z|z
 ·exact .inl (q0f z)
 ·exact .inr (q0f z)
theorem va:OpR X (binaryOp .FloorDiv) (rD X.K oDiv):=q5f qub fun i j h=>q0f h
theorem zt:OpR X (binaryOp .Mod) (rD X.K oMod):=q5f qx0 fun i j h=>ur h
theorem qxi:OpR X (binaryOp .RShift) (rD X.K oShr):=q5f qx3 fun i j h=>ur h
abbrev oShl:=oI (fun i j=>decide (0<=j)&&(decide (j<=1000000)&&decide (i.natAbs<2 ^ 64))) fun i j=>i*2 ^ j.toNat
abbrev oPow:=oI (fun i j=>decide (0<=j)&&(decide (j<=1000000)&&decide (i.natAbs<2 ^ 64))) fun i j=>i ^ j.toNat
theorem qgd{p q r:Prop}[Decidable p][Decidable q][Decidable r](h:(decide p&&(decide q&&decide r))=true): p/\q/\r:=by simpa using h
theorem qnv:OpR X (binaryOp .LShift) (rD X.K oShl):=q5f qx2 fun i j h=>qgd h
theorem q4o:OpR X (binaryOp .Pow) (rD X.K oPow):=q5f qx1 fun i j h=>qgd h
abbrev oLt:=oB fun i j=>decide (i<j)
abbrev oLe:=oB fun i j=>decide (i<=j)
abbrev oGt:=oB fun i j=>decide (j<i)
abbrev oGe:=oB fun i j=>decide (j<=i)
theorem z09:OpR X (compareOp .Lt) (rD X.K oLt):=qb9 qzz
theorem qtf:OpR X (compareOp .LtE) (rD X.K oLe):=qb9 z00
theorem q8m:OpR X (compareOp .Gt) (rD X.K oGt):=qb9 z01
theorem qlt:OpR X (compareOp .GtE) (rD X.K oGe):=qb9 z02
def flD:D->Option V
 | .non=>some .non
 | .bl b=>some (.bl b)
 | .int i=>some (.int i)
 | .str x=>some (.str x)
 | _=>none
theorem q8n{K:Frag}{H:Hp}{d:D}{v u:V}(h:flD d=some u)(r:Rep K H d v): v=u:=by
 cases d <;> simp only [flD] at h <;> first|(cases h;done)|skip
 ·cases h;exact rep_non.mp r
 ·cases h;exact rep_bl.mp r
 ·cases h;exact rep_int.mp r
 ·cases h;exact rep_str.mp r
def qqr:D->D->Option D:=fun d e=>(flD d).bind fun x=>(flD e).bind fun y=>if qd3 x y then some (.bl (decide (x=y))) else none
def q20:D->D->Option D:=fun d e=>(flD d).bind fun x=>(flD e).bind fun y=>if qd3 x y then some (.bl (!decide (x=y))) else none
theorem qxj:OpR X (compareOp .Eq) (rD X.K qqr):=q19 qzx fun x y H Q ⟨F,d1,d2,d,q1,q2,q3,q4,q5⟩=>by
 obtain⟨u,h1,q4⟩:=gc.mp q4;obtain⟨w,h2,q4⟩:=gc.mp q4;cases q8n h1 q2;cases q8n h2 q3
 split at q4
 ·rename_i z
  cases q4;exact⟨z,q5 _ F H (.refl q1) (rep_bl.mpr rfl)⟩
 ·cases q4
theorem qge:OpR X (compareOp .NotEq) (rD X.K q20):=q19 qzy fun x y H Q ⟨F,d1,d2,d,q1,q2,q3,q4,q5⟩=>by
 obtain⟨u,h1,q4⟩:=gc.mp q4;obtain⟨w,h2,q4⟩:=gc.mp q4;cases q8n h1 q2;cases q8n h2 q3
 split at q4
 ·rename_i z
  cases q4;exact⟨z,q5 _ F H (.refl q1) (rep_bl.mpr rfl)⟩
 ·cases q4
theorem q1u{op:CmpOp}{o:D->D->Option D}(ho:OpR X (compareOp op) (rD X.K o))(ha:PE X a (tD X.K f))(hb:PE X b (tD X.K g))(hm:behindInMarks op b=false:=by first|exact q5b _ (by decide) (by decide)|rfl):
  PE X (.Compare a [op] [b] pos) (tD X.K (eOp o f g)):=zr (qk4 ho ha hb hm) fun σ H Q h=>two h
def q9v:D->Option Bool
 | .non=>some false
 | .bl b=>some b
 | .int i=>some (i != 0)
 | .tup ds=>some (!ds.isEmpty)
 | .lst ds=>some (!ds.isEmpty)
 | .str x=>if x.length<=lim then some ((x.length:Int) != 0) else none
 | _=>none
def bT(f:FE): FT:=fun ρ =>(f ρ).bind q9v
theorem qnw{K:Frag}{F H:Hp}{d:D}{b:Bool}{v:V}(h:q9v d=some b)(fh:Same F H)(r:Rep K F d v): qq7 K v H b:=by
 cases d with
 | non=>cases h;rw [rep_non.mp r];rfl
 | bl c=>cases h;rw [rep_bl.mp r];rfl
 | int i=>cases h;rw [rep_int.mp r];rfl
 | str x=>
  simp only [q9v] at h
  split at h
  ·rename_i z
   cases h;rw [rep_str.mp r];exact⟨xn z,rfl⟩
  ·cases h
 | tup ds=>
  cases h;obtain⟨p,xs,rfl,q1,q2⟩:=rep_tup.mp r;refine .inr (.inl ⟨xs,z0 fh q1,?_⟩);cases ds with
  | nil=>rw [q2.nil_inv];rfl
  | cons d ds=>obtain⟨y,r',rfl,_⟩:=q2.cons_inv;rfl
 | lst ds=>
  cases h;obtain⟨p,xs,rfl,q1,q2⟩:=rep_lst.mp r;refine .inl ⟨xs,fh.seq q1,?_⟩;cases ds with
  | nil=>rw [q2.nil_inv];rfl
  | cons d ds=>obtain⟨y,r',rfl,_⟩:=q2.cons_inv;rfl
 | dct _ _=>cases h
 | dtt _ _=>cases h
 | dt2 _=>cases h
 | obj _=>cases h
 | exc _ _=>cases h
theorem yc(ha:PE X a (tD X.K f))(he:∀whole,isTrue a X.env whole=(do let v <- whole;standAt a.pos;holding [v] (truthy v)):=by intro _;rfl): PT X a (tDT X.K (bT f)):=
 q4n (qg6 ha he) fun σ H Q ⟨F0,H0,F, ρ,b,r,hf,q⟩=>by
  obtain⟨d,h1,h2⟩:=gc.mp hf;exact⟨F0,H0,F, ρ,d,r,h1,fun v F' H' g' r'=>⟨b,qnw h2 g'.fh r',q F' H' g'⟩⟩
def isB:D->Option Bool
 | .bl b=>some b
 | _=>none
def zl(o:D->D->Option D)(f g:FE): FT:=fun ρ =>(eOp o f g ρ).bind isB
theorem zp{op:CmpOp}{o:D->D->Option D}(ho:OpR X (compareOp op) (rD X.K o))(ha:PE X a (tD X.K f))(hb:PE X b (tD X.K g))(hm:behindInMarks op b=false:=by first|exact q5b _ (by decide) (by decide)|rfl):
  PT X (.Compare a [op] [b] pos) (tDT X.K (zl o f g)):=q4n (qk5 ho ha hb hm) fun σ H Q ⟨F0,H0,F, ρ,c,r,hf,q⟩=>by
 obtain⟨d,h1,h2⟩:=gc.mp hf;refine two ⟨F0,H0,F, ρ,d,r,h1,fun v F' H' g' r'=>?_⟩;cases d <;> simp only [isB] at h2 <;> first|(cases h2;done)|skip
 cases h2;exact⟨_,rep_bl.mp r',q F' H' g'⟩
def q21(t:FT): FT:=fun ρ =>(t ρ).map not
def q22(t u:FT): FT:=fun ρ =>(t ρ).bind fun c=>if c then u ρ else some false
def bOr(t u:FT): FT:=fun ρ =>(t ρ).bind fun c=>if c then some true else u ρ
variable{t u:FT}{rest:List Expr}
theorem q2s(ha:PT X a (tDT X.K t)): PT X (.UnaryOp .Not a pos) (tDT X.K (q21 t)):=q4n (qn6 ha) fun σ H Q ⟨F0,H0,F, ρ,c,r,hf,q⟩=>by
 obtain⟨d,h1,h2⟩:=gp.mp hf;subst h2;exact⟨F0,H0,F, ρ,d,r,h1,fun F' H' g'=>q F' H' g'⟩
theorem qgf{t t':TT}(h:PW X a t)(i:∀ σ H Q,t' σ H Q->t σ H Q): PW X a t':=fun wh pins s σ H Q I q=>h wh pins s σ H Q I (i σ H Q q)
theorem q8o(ha:PT X a (tDT X.K t)): PW X (.BoolOp .And [a] pos) (tDT X.K t):=qu7 ha
theorem qnx(ha:PT X a (tDT X.K t)): PW X (.BoolOp .Or [a] pos) (tDT X.K t):=qn5 ha
theorem qba(ha:PT X a (tDT X.K t))(hb:PW X (.BoolOp .And (b :: rest) pos) (tDT X.K u)): PW X (.BoolOp .And (a :: b :: rest) pos) (tDT X.K (q22 t u)):=qgf (qwm ha hb) fun σ H Q ⟨F0,H0,F, ρ,c,r,hf,q⟩=>by
 obtain⟨d,h1,h2⟩:=gc.mp hf;refine⟨F0,H0,F, ρ,d,r,h1,fun F' H' g'=>?_⟩;cases d with
 | true=>rw [gw rfl] at h2 ⊢;exact⟨F0,H0,F', ρ,c,r.grow g',h2,fun F2 H2 g2=>q F2 H2 (g'.trans g2)⟩
 | false=>rw [mf gy] at h2 ⊢;cases h2;exact q F' H' g'
theorem qtg(ha:PT X a (tDT X.K t))(hb:PW X (.BoolOp .Or (b :: rest) pos) (tDT X.K u)): PW X (.BoolOp .Or (a :: b :: rest) pos) (tDT X.K (bOr t u)):=qgf (qtc ha hb) fun σ H Q ⟨F0,H0,F, ρ,c,r,hf,q⟩=>by
 obtain⟨d,h1,h2⟩:=gc.mp hf;refine⟨F0,H0,F, ρ,d,r,h1,fun F' H' g'=>?_⟩;cases d with
 | false=>rw [mf gy] at h2 ⊢;exact⟨F0,H0,F', ρ,c,r.grow g',h2,fun F2 H2 g2=>q F2 H2 (g'.trans g2)⟩
 | true=>rw [gw rfl] at h2 ⊢;cases h2;exact q F' H' g'
def q5g(f g:FE): FE:=fun ρ =>(f ρ).bind fun x=>(isB x).bind fun c=>if c then g ρ else some (.bl false)
def eOr(f g:FE): FE:=fun ρ =>(f ρ).bind fun x=>(isB x).bind fun c=>if c then some (.bl true) else g ρ
def q9w(f:FE): FE:=fun ρ =>(f ρ).bind fun x=>(isB x).map fun c=>.bl (!c)
def eIf(t:FT)(f g:FE): FE:=fun ρ =>(t ρ).bind fun c=>if c then f ρ else g ρ
theorem q5h{d:D}{c:Bool}(h:isB d=some c): d=.bl c:=by
 cases d <;> simp only [isB] at h <;> first|(cases h;done)|skip
 rw [mr h]
theorem q73{op}(h:PE X a (tD X.K f)): PE X (.BoolOp op [a] pos) (tD X.K f):=qn7 h
theorem q2t(ha:PE X a (tD X.K f))(hb:PE X (.BoolOp .And (b :: rest) pos) (tD X.K g)): PE X (.BoolOp .And (a :: b :: rest) pos) (tD X.K (q5g f g)):=zr (qn8 ha hb) fun σ H Q ⟨F0,H0,F, ρ,d,r,hf,q⟩=>by
 obtain⟨x,h1,hf⟩:=gc.mp hf;obtain⟨c,h2,h3⟩:=gc.mp hf;refine⟨F0,H0,F, ρ,x,r,h1,fun v F' H' g' r'=>?_⟩;rw [q5h h2] at r';refine⟨c,rep_bl.mp r',?_⟩;cases c with
 | true=>rw [gw rfl] at h3 ⊢;exact⟨F0,H0,F', ρ,d,r.grow g',h3,fun w F2 H2 g2 r2=>q w F2 H2 (g'.trans g2) r2⟩
 | false=>rw [mf gy] at h3 ⊢;cases h3;exact q _ F' H' g' (rep_bl.mpr rfl)
theorem qgg(ha:PE X a (tD X.K f)): PE X (.UnaryOp .Not a pos) (tD X.K (q9w f)):=zr (qwn ha) fun σ H Q ⟨F0,H0,F, ρ,d,r,hf,q⟩=>by
 obtain⟨x,h1,hf⟩:=gc.mp hf;obtain⟨c,h2,h3⟩:=gp.mp hf;subst h3;refine⟨F0,H0,F, ρ,x,r,h1,fun v F' H' g' r'=>?_⟩;rw [q5h h2] at r';exact⟨c,rep_bl.mp r',q _ F' H' g' (rep_bl.mpr rfl)⟩
theorem qlu{c:Expr}(hc:PT X c (tDT X.K t))(ha:PE X a (tD X.K f))(hb:PE X b (tD X.K g)): PE X (.IfExp c a b pos) (tD X.K (eIf t f g)):=zr (qq0 hc ha hb) fun σ H Q ⟨F0,H0,F, ρ,d,r,hf,q⟩=>by
 obtain⟨x,h1,h2⟩:=gc.mp hf;refine⟨F0,H0,F, ρ,x,r,h1,fun F' H' g'=>?_⟩;cases x with
 | true=>rw [gw rfl] at h2 ⊢;exact⟨F0,H0,F', ρ,d,r.grow g',h2,fun w F2 H2 g2 r2=>q w F2 H2 (g'.trans g2) r2⟩
 | false=>rw [mf gy] at h2 ⊢;exact⟨F0,H0,F', ρ,d,r.grow g',h2,fun w F2 H2 g2 r2=>q w F2 H2 (g'.trans g2) r2⟩
end
section
variable{X:Cx}{e:Expr}{es:List Expr}{pos:Pos}{f g:FE}{fa:FA}
def notStar:Expr->Bool
 | .Starred _ _=>false
 | _=>true
theorem q4p{e:Expr}{es:List Expr}{env:Env}(h:notStar e=true): starEach (e :: es) env=(false,eval e env) :: starEach es env:=by
 cases e <;> first|rfl|cases h
def qh:FA:=fun _=>some []
def qc(f:FE)(fa:FA): FA:=fun ρ =>(f ρ).bind fun d=>(fa ρ).map fun ds=>d :: ds
theorem qg:PA X [] (tDA X.K qh):=qb7 wq fun σ H Q ⟨F0,H0,F, ρ,ds,r,hf,q⟩=>by
 cases hf;exact q [] F H (.refl r.fh) .nil
theorem qkb(ha:PE X e (tD X.K f))(hr:PA X es (tDA X.K fa))(hs:starEach (e :: es) X.env=(false,eval e X.env) :: starEach es X.env:=by first|exact q4p rfl|rfl): PA X (e :: es) (tDA X.K (qc f fa)):=
 qb7 (xm ha hr hs) fun σ H Q ⟨F0,H0,F, ρ,ds,r,hf,q⟩=>by
  obtain⟨d,h1,hf⟩:=gc.mp hf;obtain⟨ds',h2,h3⟩:=gp.mp hf;subst h3;refine⟨F0,H0,F, ρ,d,r,h1,fun v F1 H1 g1 r1=>⟨F0,H0,F1, ρ,ds',r.grow g1,h2,fun vs F2 H2 g2 r2=>?_⟩⟩;exact q _ F2 H2 (g1.trans g2) (.cons (r1.mono g2.ff) r2)
def jd(fa:FA): FE:=fun ρ =>(fa ρ).bind fun ds=>if ds.length<=lim then some (.tup ds) else none
def ye(fa:FA): FA:=fun ρ =>(fa ρ).bind fun ds=>if ds.length<=lim then some ds else none
theorem jf{x1}(h:PA X es (tDA X.K fa)): PE X (.Tuple es x1 pos) (tD X.K (jd fa)):=zr (qx8 h) fun σ H Q ⟨F0,H0,F, ρ,d,r,hf,q⟩=>by
 obtain⟨ds,h1,h2⟩:=gc.mp hf
 split at h2
 ·rename_i hl
  cases h2;refine⟨F0,H0,F, ρ,ds,r,h1,fun vs F1 H1 g1 r1=>⟨xn (by rw [<- r1.length];exact hl),fun p hp=>?_⟩⟩;have gn:Grow F1 H1 (upd F1 p (.tup vs)) (upd H1 p (.tup vs)):=Grow.new g1.fh hp;exact q _ _ _ (g1.trans gn) (rep_tup.mpr ⟨p,vs,rfl,SqT.of za,r1.mono gn.ff⟩)
 ·cases h2
theorem vm(h:PA X es (tDA X.K fa)): PE X (.List es pos) (tL X.K (ye fa)):=zr (qnl h) fun σ H Q ⟨F0,H0,F, ρ,ds,r,hf,q⟩=>by
 obtain⟨ds',h1,h2⟩:=gc.mp hf
 split at h2
 ·rename_i hl
  cases h2;refine⟨F0,H0,F, ρ,ds,r,h1,fun vs F1 H1 g1 r1=>⟨xn (by rw [<- r1.length];exact hl),fun p hp=>?_⟩⟩;exact q p vs F1 (upd H1 p (.lst vs)) (g1.trans (Grow.own g1.fh hp)) (g1.fh.free hp) (g1.hh.free hp) za r1
 ·cases h2
def eL(fa:FA): FE:=fun ρ =>(fa ρ).map .lst
theorem jc(h:PE X e (tL X.K fa)): PE X e (tD X.K (eL fa)):=zr h fun σ H Q ⟨F0,H0,F, ρ,d,r,hf,q⟩=>by
 obtain⟨ds,h1,h2⟩:=gp.mp hf;subst h2;refine⟨F0,H0,F, ρ,ds,r,h1,fun a xs F1 H1 g1 fa' ha' hl r1=>?_⟩;have sF:Same F1 (upd F1 a (.lst xs)):=q5d fa';refine q _ (upd F1 a (.lst xs)) H1 ⟨g1.ff.trans sF,g1.hh,fun b o z=>?_,fun b hb=>?_⟩ (rep_lst.mpr ⟨a,xs,rfl,SqL.of za,r1.mono sF⟩)
 ·by_cases q':b=a
  ·subst q';rw [za] at z;cases z;exact hl
  ·rw [qr q'] at z;exact g1.fh b o z
 ·by_cases q':b=a
  ·subst q';exact .inr ha'
  ·rw [qr q'] at hb;exact g1.nw b hb
abbrev Ti:=List D->Option D
def rC(K:Frag)(op:Ti): List V->Hp->VK->Prop:=fun xs H Q=>∃F ds d,Same F H/\RepL K F ds xs/\op ds=some d/\∀v F' H',Grow F H F' H'->Rep K F' d v->Q v H'
def qk(op:Ti)(fa:FA): FE:=fun ρ =>(fa ρ).bind op
theorem q3g{f:Value}{r r':List V->Hp->VK->Prop}(h:xk X f r)(i:∀xs H Q,r' xs H Q->r xs H Q): xk X f r':=fun pins s σ H xs us Q I rv q=>h pins s σ H xs us Q I rv (i xs H Q q)
theorem qny{K:Frag}{op:Ti}{σ : St}{H:Hp}{Q:VK}(h:tD K (qk op fa) σ H Q): tDA K fa σ H fun vs H1=>rC K op vs H1 Q:=by
 obtain⟨F0,H0,F, ρ,d,r,hf,q⟩:=h;obtain⟨ds,h1,h2⟩:=gc.mp hf;exact⟨F0,H0,F, ρ,ds,r,h1,fun vs F1 H1 g1 r1=>⟨F1,ds,d,g1.fh,r1,h2,fun v F2 H2 g2 r2=>q v F2 H2 (g1.trans g2) r2⟩⟩
theorem zd{x:Str}{p:Pos}{id:String}{op:Ti}(hc:xk X (.builtin id) (rC X.K op))(hg:Gl X x)(hm:X.mg x=none)(hv:bootBuiltins x=some (.builtin id))(ha:PA X (e :: es) (tDA X.K fa))
  (hn:x≠"__name__" :=by decide) (hdb:(x==("__debug__" : Str))=false:=by decide)
  (he:starEach (e :: es) X.env=(false,eval e X.env) :: starEach es X.env:=by rfl) (hpl:(backTo pos (starEach es X.env)).any (·.1)=false:=by rfl):PE X (.Call (.Name x p) (e :: es) [] pos) (tD X.K (qk op fa)):=
 zr (q9u hc hg hm hv ha hn hdb he hpl) fun σ H Q h=>qny h
theorem jh{x:Str}{p:Pos}{T:String}{op:Ti}(hc:xk X (.type T) (rC X.K op))(hg:Gl X x)(hm:X.mg x=none)(hv:bootBuiltins x=some (.type T))(ha:PA X (e :: es) (tDA X.K fa))
  (hn:x≠"__name__" :=by decide) (hdb:(x==("__debug__" : Str))=false:=by decide)
  (he:starEach (e :: es) X.env=(false,eval e X.env) :: starEach es X.env:=by rfl) (hpl:(backTo pos (starEach es X.env)).any (·.1)=false:=by rfl):PE X (.Call (.Name x p) (e :: es) [] pos) (tD X.K (qk op fa)):=
 zr (q70 hc hg hm hv ha hn hdb he hpl) fun σ H Q h=>qny h
def spD(K:Frag)(ar:Nat)(op:Ti): Sp:=fun vs H Q _=>∃F ds d,SameT F H/\RepL K F ds vs/\ds.length=ar/\op ds=some d/\∀v F' H',Grow F H F' H'->Rep K F' d v->Q v H'
theorem SameT.grow{F H F' H':Hp}(s:SameT F H)(g:Grow F H F' H'): SameT F' H':=⟨g.fh,g.hh.tb s.t,fun p hp=>by
 cases q:F' p.1 with
 | none=>rfl
 | some o=>
  rcases g.nw p.1 (by rw [q];simp) with z|z
  ·exact absurd (s.f p hp) z
  ·obtain⟨ps,e,_⟩:=s.t p hp
   rw [e] at z;cases z⟩
def qt(ar:Nat)(dds:List D)(op:Ti): Ti:=fun ds=>if(ds++dds).length=ar then op (ds++dds) else none
theorem quk{k ar:Nat}{fn:Addr}{fd:FuncData}{ps:List Str}{op:Ti}{x:Str}{p:Pos}{dvs:List V}{dds:List D}{dv:List Value}(F:FnOk X.prog X.w X.K X.mg X.base CX0 k fn fd ps (spD X.K ar op))(hr:Room k X.A)(hg:Gl X x)(hm:X.mg x=some (.ref fn))(hk:PySem.W.keepIn X.K (.ref fn)=true)
  (hb:Binds X.K fd ps dv) (hd:Vals dvs dv) (hdd:∀H,RepL X.K H dds dvs) (ha:PA X (e :: es) (tDA X.K fa)) (hdb:(x==("__debug__" : Str))=false:=by decide)
  (he:starEach (e :: es) X.env=(false,eval e X.env) :: starEach es X.env:=by rfl) (hpl:(backTo pos (starEach es X.env)).any (·.1)=false:=by rfl) :
  PE X (.Call (.Name x p) (e :: es) [] pos) (tD X.K (qk (qt ar dds op) fa)):=
 zr (q8j F hr hg hm hk hb hd q0o ha hdb he hpl) fun σ H Q ⟨F0,H0,Fz, ρ,d,r,hf,q⟩=>by
  obtain⟨ds,h1,h2⟩:=gc.mp hf;unfold qt at h2
  split at h2
  ·rename_i hl
   exact⟨F0,H0,Fz, ρ,ds,r,h1,fun vs F1 H1 g1 r1=>⟨F1,ds++dds,d,r.sameT g1,r1.append (hdd F1),hl,h2,fun v F2 H2 g2 r2=>q v F2 H2 (g1.trans g2) r2⟩⟩
  ·cases h2
end
section
variable{X:Cx}{st:Stmt}{rest:List Stmt}{e:Expr}{pos:Pos}{f:FE}{fa:FA}{t:FT}{u w:FS}
def j9:FS:=fun ρ =>some (.nx, ρ)
def qz(u w:FS): FS:=fun ρ =>(u ρ).bind fun r=>match r with
 | (.nx, ρ')=>w ρ'
 | (fl, ρ')=>some (fl, ρ')
def sIf(t:FT)(u w:FS): FS:=fun ρ =>(t ρ).bind fun c=>if c then u ρ else w ρ
def zj(i:Nat)(f:FE): FS:=fun ρ =>(f ρ).map fun d=>(.nx, ρ.set i (some (.fz d)))
def q0p(i:Nat)(fa:FA): FS:=fun ρ =>(fa ρ).map fun ds=>(.nx, ρ.set i (some (.ow ds)))
def ze(f:FE): FS:=fun ρ =>(f ρ).map fun d=>(.rt d, ρ)
def z0a:FS:=fun ρ =>some (.rt .non, ρ)
def z1o:FS:=fun ρ =>some (.bk, ρ)
def z1p:FS:=fun ρ =>some (.ct, ρ)
def z0b(f:FE): FS:=fun ρ =>(f ρ).map fun _=>(.nx, ρ)
theorem j6:PSs X [] (tDS X.K j9):=q8l qu8 fun D σ H ⟨F0,H0,F, ρ,fl, ρ',r,hf,q⟩=>by
 cases hf;exact q σ F H (.refl _) r
theorem q0a{K:Frag}{F0 H0 F F':Hp}{D:Ends}{fl:Fl}{ρ':Rho}(s:Same F F')(h:qfn K F0 H0 F D fl ρ'): qfn K F0 H0 F' D fl ρ':=by
 cases fl with
 | nx=>exact fun σ' F2 H2 s2 r=>h σ' F2 H2 (s.trans s2) r
 | bk=>exact fun σ' F2 H2 s2 r=>h σ' F2 H2 (s.trans s2) r
 | ct=>exact fun σ' F2 H2 s2 r=>h σ' F2 H2 (s.trans s2) r
 | rt d=>exact h
theorem qm(h1:PS X st (tDS X.K u))(h2:PSs X rest (tDS X.K w)): PSs X (st :: rest) (tDS X.K (qz u w)):=q8l (qg4 h1 h2) fun D σ H ⟨F0,H0,F, ρ,fl, ρ',r,hf,q⟩=>by
 obtain⟨⟨fl1, ρ1⟩,h3,h4⟩:=gc.mp hf;refine⟨F0,H0,F, ρ,fl1, ρ1,r,h3,?_⟩;cases fl1 with
 | nx=>exact fun σ' F' H' s r'=>⟨F0,H0,F', ρ1,fl, ρ',r',h4,q0a s q⟩
 | bk=>cases h4;exact q
 | ct=>cases h4;exact q
 | rt d=>cases h4;exact q
theorem qo(h1:PS X st (tDS X.K u)): PSs X [st] (tDS X.K u):=qd2 h1
theorem ju{c:Expr}{a b:List Stmt}(hc:PT X c (tDT X.K t))(ha:PSs X a (tDS X.K u))(hb:PSs X b (tDS X.K w)): PS X (.If c a b pos) (tDS X.K (sIf t u w)):=je (qfl hc ha hb) fun D σ H ⟨F0,H0,F, ρ,fl, ρ',r,hf,q⟩=>by
 obtain⟨c,h1,h2⟩:=gc.mp hf;refine⟨F0,H0,F, ρ,c,r,h1,fun F' H' g'=>?_⟩;cases c with
 | true=>rw [gw rfl] at h2 ⊢;exact⟨F0,H0,F', ρ,fl, ρ',r.grow g',h2,q0a g'.ff q⟩
 | false=>rw [mf gy] at h2 ⊢;exact⟨F0,H0,F', ρ,fl, ρ',r.grow g',h2,q0a g'.ff q⟩
theorem z8(he:PE X e (tD X.K f)): PS X (.Return (some e) pos) (tDS X.K (ze f)):=je (qn9 he) fun D σ H ⟨F0,H0,F, ρ,fl, ρ',r,hf,q⟩=>by
 obtain⟨d,h1,h2⟩:=gp.mp hf;cases h2;exact⟨F0,H0,F, ρ,d,r,h1,fun v F' H' g' r'=>q v σ F' H' (r.grow g') r'⟩
theorem z0c{K:Frag}{i:Nat}{D:Ends}{σ : St}{H:Hp}(h:tDS K (zj i f) D σ H): tD K f σ H fun x H1=>q8h i x σ H1 D.nx:=by
 obtain⟨F0,H0,F, ρ,fl, ρ',r,hf,q⟩:=h;obtain⟨d,h1,h2⟩:=gp.mp hf;cases h2;exact⟨F0,H0,F, ρ,d,r,h1,fun v F' H' g' r'=>q _ F' H' g'.ff ((r.grow g').set i r')⟩
theorem qth{K:Frag}{i:Nat}{D:Ends}{σ : St}{H:Hp}(h:tDS K (q0p i fa) D σ H): tL K fa σ H fun x H1=>q8h i x σ H1 D.nx:=by
 obtain⟨F0,H0,F, ρ,fl, ρ',r,hf,q⟩:=h;obtain⟨ds,h1,h2⟩:=gp.mp hf;cases h2;refine⟨F0,H0,F, ρ,ds,r,h1,fun a xs F' H' g' fa' ha' hl r'=>q _ F' H' g'.ff ((r.grow g').setO i hl fa' (r.g.hh.free ha') r' (fun j es z1 z2=>?_) fun j kvs z1=>?_)⟩
 ·obtain⟨b,ys,e1,e2,_⟩:=r.ow j es z1
  rw [z2] at e1;obtain rfl:a=b:=by simpa using e1
  rw [ha'] at e2;cases e2
 ·obtain⟨b,bs,e1,e2,e3⟩:=r.od j kvs z1
  refine⟨b,bs,e1,e2.grow g',fun z=>?_,e3⟩;obtain⟨xs,f,_⟩:=e2.mem z;rw [ha'] at f;cases f
theorem zb{i:Nat}{x:Str}{px:Pos}(hN:X.N.Nodup)(hi:X.N[i]? = some x)(hx:Loc X.env.scope x)(he:PE X e (tD X.K f))(hs:swapsWith e (some (.Name x px)) pos.line X.env=pure false:=by rfl)(hf:X.fn x=true\/X.env.scope.names.lookup x=some .local:=by first|exact .inl rfl|exact .inr rfl|assumption):
  PS X (.Assign [.Name x px] e pos) (tDS X.K (zj i f)):=je (qaz hN hi hx he hs hf) fun D σ H h=>z0c h
theorem q2u{i:Nat}{x:Str}{px:Pos}(hN:X.N.Nodup)(hi:X.N[i]? = some x)(hx:Loc X.env.scope x)(he:PE X e (tL X.K fa))(hs:swapsWith e (some (.Name x px)) pos.line X.env=pure false:=by rfl)(hf:X.fn x=true\/X.env.scope.names.lookup x=some .local:=by first|exact .inl rfl|exact .inr rfl|assumption):
  PS X (.Assign [.Name x px] e pos) (tDS X.K (q0p i fa)):=je (qaz hN hi hx he hs hf) fun D σ H h=>qth h
def q23(i:Nat)(ρ : Rho): Option (List D):=match ρ[i]? with
 | some (some (.ow ds))=>some ds
 | _=>none
theorem q3h{i:Nat}{ρ : Rho}{ds:List D}(h:q23 i ρ = some ds): ρ[i]? = some (some (.ow ds)):=by
 unfold q23 at h
 split at h
 ·rename_i e;rw [e,mr h]
 ·cases h
def q5i(i:Nat)(f:FE): FS:=fun ρ =>(q23 i ρ).bind fun ds=>(f ρ).bind fun d=>if ds.length<lim then some (.nx, ρ.set i (some (.ow (ds++[d])))) else none
theorem q74{i:Nat}{x:Str}{px apos cpos:Pos}(hv:PE X (.Name x px) (vp i))(he:PE X e (tD X.K f))
  (hbase:attributeBase (.Name x px) "append" X.env (eval (.Name x px) X.env)=eval (.Name x px) X.env:=by rfl)
  (hfew:((backTo cpos (starEach [e] X.env)).all (fun x=> !x.1)&&(backToKw cpos (keywordEach [] X.env)).all (fun x=>x.1.isSome)&&decide ([e].length+([]:List Keyword).length+(if([]:List Keyword).isEmpty then 0 else 1)<30))=true:=by rfl)
  (hline:(apos.endLine==cpos.line)=true:=by rfl) (hse:starEach [e] X.env=(false,eval e X.env) :: starEach [] X.env:=by rfl)
  (hs:swapsWith (.Call (.Attribute (.Name x px) "append" apos) [e] [] cpos) none pos.line X.env=pure false:=by rfl):PS X (.Expr (.Call (.Attribute (.Name x px) "append" apos) [e] [] cpos) pos) (tDS X.K (q5i i f)):=
 je (q4j (qte g4s PySem.F.slot_list_append PySem.F.type_list_append qeb hv (xm he wq hse) hbase hfew hline hse rfl) hs) fun D σ H ⟨F0,H0,F, ρ,fl, ρ',r,hf,q⟩=>by
  obtain⟨ds,h1,hf⟩:=gc.mp hf;obtain⟨d,h2,h3⟩:=gc.mp hf;have h1:=q3h h1
  split at h3
  ·rename_i hl
   cases h3;obtain⟨a,xs,e1,e2,e3,e4,e5⟩:=r.ow i ds h1;refine⟨.ref a,e1,.inl ⟨rfl,xs,SqL.of e2⟩,F0,H0,F, ρ,d,r,h2,fun v F' H' g' r'=>?_⟩;have r2:=r.grow g';refine⟨a,xs,v,rfl,rfl,g'.hh.lst _ _ e2,qec (by rw [<- e5.length];exact hl),?_⟩;exact q _ F' _ g'.ff (r2.wrt h1 e1 ((e5.mono g'.ff).append (.cons r' .nil)))
  ·cases h3
def frz(i:Nat)(ρ : Rho): Rho:=match ρ[i]? with
 | some (some (.ow ds))=> ρ.set i (some (.fz (.lst ds)))
 | _=> ρ
def q1a(i:Nat)(u:FS): FS:=fun ρ =>u (frz i ρ)
theorem qxk{K:Frag}{F0 H0 F H:Hp}{σ : St}{ρ : Rho}(i:Nat)(r:RS K F0 H0 F H σ ρ): ∃F',Same F F'/\RS K F0 H0 F' H σ (frz i ρ):=by
 unfold frz
 split
 ·rename_i ds h
  exact r.freeze h
 ·exact⟨F,.refl _,r⟩
theorem q0q(i:Nat){sts:List Stmt}(h:PSs X sts (tDS X.K u)): PSs X sts (tDS X.K (q1a i u)):=q8l h fun D σ H ⟨F0,H0,F, ρ,fl, ρ',r,hf,q⟩=>by
 obtain⟨F',s',r'⟩:=qxk i r;exact⟨F0,H0,F',frz i ρ,fl, ρ',r',hf,q0a s' q⟩
end
def zf(n:Nat)(u:FS)(ds:List D): Option D:=match u (ds.map (fun d=>some (.fz d))++List.replicate (n-ds.length) none) with
 | some (.rt d,_)=>some d
 | some (.nx,_)=>some .non
 | _=>none
theorem qnz{N:List Str}{vs:List V}{i:Nat}{v:V}(h:vs[i]? = some v): (L2.start N vs)[i]? = some (some v):=by
 unfold L2.start;have hi:i<vs.length:=(nj.mp h).1;rw [pf (by simpa using hi),mq,h];rfl
theorem qxl{P:Program}{w:World}{K:Frag}{H:Hp}{vs:List V}{Q:VK}{N:List Str}{u:FS}{ar:Nat}{E:XK}(hl:ar<=N.length)(h:spD K ar (zf N.length u) vs H Q E): tDS K u {nx:=fun _ H'=>Q .non H',rt:=Q} (L2.start N vs) H:=by
 obtain⟨F,ds,d,fh,rl,el,hd,q⟩:=h;have hlen:=rl.length;have r:RS K F H F H (L2.start N vs) (ds.map (fun d=>some (.fz d))++List.replicate (N.length-ds.length) none):={
  t0:=⟨fh.t,fh.f⟩
  g:=.refl fh.s
  len:=by unfold L2.start;simp only [ng,gv,g36];omega
  fz :=fun i e h1=>by
   by_cases hi:i<ds.length
   ·rw [pf (by simpa using hi),mq] at h1
    cases z:ds[i]? with
    | none=>rw [z] at h1;cases h1
    | some d'=>
     rw [z] at h1;cases h1;obtain⟨v,e1,e2⟩:=rl.get z;exact⟨v,qnz e1,e2⟩
   ·rw [tx (by simpa using hi),ug] at h1
    split at h1 <;> cases h1
  ow:=fun i es h1=>by
   by_cases hi:i<ds.length
   ·rw [pf (by simpa using hi),mq] at h1
    cases z:ds[i]? with
    | none=>rw [z] at h1;cases h1
    | some d'=>rw [z] at h1;cases h1
   ·rw [tx (by simpa using hi),ug] at h1
    split at h1 <;> cases h1
  dj:=fun i j us es a _ h1=>by
   by_cases hi:i<ds.length
   ·rw [pf (by simpa using hi),mq] at h1
    cases z:ds[i]? with
    | none=>rw [z] at h1;cases h1
    | some d'=>rw [z] at h1;cases h1
   ·rw [tx (by simpa using hi),ug] at h1
    split at h1 <;> cases h1
  od:=fun i kvs h1=>by
   by_cases hi:i<ds.length
   ·rw [pf (by simpa using hi),mq] at h1
    cases z:ds[i]? with
    | none=>rw [z] at h1;cases h1
    | some d'=>rw [z] at h1;cases h1
   ·rw [tx (by simpa using hi),ug] at h1
    split at h1 <;> cases h1
  o1:=fun i j k1 k2 h1=>by
   by_cases hi:i<ds.length
   ·rw [pf (by simpa using hi),mq] at h1
    cases z:ds[i]? with
    | none=>rw [z] at h1;cases h1
    | some d'=>rw [z] at h1;cases h1
   ·rw [tx (by simpa using hi),ug] at h1
    split at h1 <;> cases h1}
 unfold zf at hd;cases z:u (ds.map (fun d=>some (.fz d))++List.replicate (N.length-ds.length) none) with
 | none=>rw [z] at hd;cases hd
 | some p=>
  obtain⟨fl, ρ'⟩:=p;rw [z] at hd;refine⟨F,H,F,_,fl, ρ',r,z,?_⟩;cases fl with
  | nx=>cases hd;exact fun σ' F' H' s' r'=>q .non F' H' r'.g (rep_non.mpr rfl)
  | bk=>cases hd
  | ct=>cases hd
  | rt d'=>cases hd;exact fun v σ' F' H' g' r'=>q v F' H' g'.g r'
theorem z0d{P:Program}{w:World}{K:Frag}{mg:Tc}{base:Heap}{k:Nat}{f:Addr}{name qual:Str}{params:Arguments}{body:List Stmt}{scope:Scope}{dV kV doc pm cdv ct oc:Value}{an od:Option Addr}
  {osl:Tg} {N ps:List Str} {u:FS} (lk:K.lookup f=some ⟨oc,od,.func (PySem.W.fnOf name qual params body scope dV kV doc pm an cdv ct),osl⟩) (hcd:PySem.W.codeIn K cdv qual=true) (S:FnScope N ps scope)
  (hb:∀(A:Around) (outer:List Env) (s:Shared) (H:Hp) (E:XK),Room k (A.deeper (envOfC qual scope s.heap.objs.size f cdv))->PSs (zx CX0 P w K mg base N qual scope f cdv A outer s H E).nox body (tDS K u)) :
  FnOk P w K mg base CX0 (k+1) f (PySem.W.fnOf name qual params body scope dV kV doc pm an cdv ct) ps (spD K ps.length (zf N.length u)):=by
 have hpl:ps.length<=N.length:=by have:=ui List.length S.pre;rw [u9] at this;omega
 refine qfm lk hcd S (fun vs H Q E h=>?_) fun A outer s H vs Q E hr hsp=>⟨_,(hb A outer s H E hr).nox,qxl (P:=P) (w:=w) hpl hsp⟩
 obtain⟨F,ds,d,_,rl,el,_⟩:=h;rw [<- rl.length];exact el
structure ItD(K:Frag)(F:Hp)(ds:List D)(J:It): Prop where
 go:∀(i:Nat) (F' H:Hp),Same F F'->Same F' H->i<ds.length->J.go i H
 yld:∀(i:Nat) (d:D) (F' H:Hp) (x:V) (H':Hp),Same F F'->Same F' H->ds[i]? = some d->J.yld i H x H'->∃F'',Grow F' H F'' H'/\Rep K F'' d x
 stop:∀(i:Nat) (F' H:Hp),Same F F'->Same F' H->ds.length<=i->J.stop i H
def tDI(K:Frag)(f:FA): TI:=fun σ H R=>∃F0 H0 F ρ ds,RS K F0 H0 F H σ ρ /\ f ρ = some ds/\∀J F' H',Grow F H F' H'->ItD K F' ds J->R J H'
abbrev FB:=D->Rho->Option Rho
abbrev FBs:=List D->Rho->Option Rho
def tDG(K:Frag)(b:FB): TG:=fun v σ H Q=>∃F0 H0 F ρ d ρ',RS K F0 H0 F H σ ρ /\ Rep K F d v/\b d ρ = some ρ'/\∀ σ',RS K F0 H0 F H σ' ρ'->Q σ' H
def qlv(K:Frag)(b:FBs): TGs:=fun vs σ H Q=>∃F0 H0 F ρ ds ρ',RS K F0 H0 F H σ ρ /\ RepL K F ds vs/\b ds ρ = some ρ'/\∀ σ',RS K F0 H0 F H σ' ρ'->Q σ' H
section
variable{X:Cx}{tg e:Expr}{es:List Expr}{pos:Pos}
theorem qbb{t t':TI}(h:PI X tg e t)(i:∀ σ H R,t' σ H R->t σ H R): PI X tg e t':=fun pins s σ H R I q=>h pins s σ H R I (i σ H R q)
theorem qo0{t t':TG}(h:PG X e t)(i:∀v σ H Q,t' v σ H Q->t v σ H Q): PG X e t':=fun pins s σ H v u Q I r q=>h pins s σ H v u Q I r (i v σ H Q q)
theorem qkc{t t':TGs}(h:PGs X es t)(i:∀v σ H Q,t' v σ H Q->t v σ H Q): PGs X es t':=fun pins s σ H v u Q I r q=>h pins s σ H v u Q I r (i v σ H Q q)
def bN(i:Nat): FB:=fun d ρ =>some (ρ.set i (some (.fz d)))
def xi:FBs:=fun ds ρ =>if ds.isEmpty then some ρ else none
def zh(b:FB)(bs:FBs): FBs:=fun ds ρ =>match ds with
 | d :: r=>(b d ρ).bind fun ρ'=>bs r ρ'
 | []=>none
def xj(n:Nat)(bs:FBs): FB:=fun d ρ =>match d with
 | .tup ds=>if ds.length=n then bs ds ρ else none
 | _=>none
theorem z9{i:Nat}{x:Str}(hN:X.N.Nodup)(hi:X.N[i]? = some x)(hx:Loc X.env.scope x)(hf:X.fn x=true\/X.env.scope.names.lookup x=some .local:=by first|exact .inl rfl|exact .inr rfl|assumption): PG X (.Name x pos) (tDG X.K (bN i)):=
 qo0 (qu9 hN hi hx hf) fun v σ H Q ⟨F0,H0,F, ρ,d, ρ',r,hr,hb,q⟩=>by
  cases hb;exact q _ (r.set i hr)
theorem wt:PGs X [] (qlv X.K xi):=qkc qua fun vs σ H Q ⟨F0,H0,F, ρ,ds, ρ',r,hr,hb,q⟩=>by
 unfold xi at hb
 split at hb
 ·rename_i z
  cases hb;have z':ds=[]:=by simpa using z
  subst z';exact⟨hr.nil_inv,q σ r⟩
 ·cases hb
theorem jg{b:FB}{bs:FBs}(h1:PG X e (tDG X.K b))(h2:PGs X es (qlv X.K bs))(hs:(assignEach (e :: es) X.env).map (·.2)=assign e X.env :: (assignEach es X.env).map (·.2):=by rfl): PGs X (e :: es) (qlv X.K (zh b bs)):=
 qkc (qq1 h1 h2 hs) fun vs σ H Q ⟨F0,H0,F, ρ,ds, ρ',r,hr,hb,q⟩=>by
  cases ds with
  | nil=>cases hb
  | cons d ds=>
   obtain⟨v,vr,rfl,h3,h4⟩:=hr.cons_inv;obtain⟨ρ1,h5,h6⟩:=gc.mp hb;exact⟨v,vr,rfl,F0,H0,F, ρ,d, ρ1,r,h3,h5,fun σ' r'=>⟨F0,H0,F, ρ1,ds, ρ',r',h4,h6,q⟩⟩
theorem wu{k n:Nat}{bs:FBs}(hc:X.calm=true)(h:PGs X es (qlv X.K bs))(hn:(assignEach es X.env).length=n:=by rfl)(hst:(assignEach es X.env).findIdx? (·.1)=none:=by rfl): PG X (.Tuple es k pos) (tDG X.K (xj n bs)):=
 qo0 (qwp hc h hn hst) fun v σ H Q ⟨F0,H0,F, ρ,d, ρ',r,hr,hb,q⟩=>by
  cases d <;> simp only [xj] at hb <;> first|(cases hb;done)|skip
  rename_i ds
  split at hb
  ·rename_i hl
   obtain⟨a,xs,rfl,h1,h2⟩:=rep_tup.mp hr;exact⟨a,xs,rfl,z0 r.fh h1,by rw [<- h2.length];exact hl,F0,H0,F, ρ,ds, ρ',r,h2,hb,q⟩
  ·cases hb
def qbc(f:FE)(b:FB): FS:=fun ρ =>(f ρ).bind fun d=>(b d ρ).map fun ρ'=>(.nx, ρ')
theorem qul{f:FE}{b:FB}{ts:Expr}(he:PE X e (tD X.K f))(hg:PG X ts (tDG X.K b))(hs:swapsWithSole [ts] e pos.line X.env=pure false:=by rfl)(hw:swappedStores [ts] e X.env=pure none:=by rfl)
  (h1:(assignEach [ts] X.env).map (·.2)=[assign ts X.env]:=by rfl):PS X (.Assign [ts] e pos) (tDS X.K (qbc f b)):=je (qna he hg hs hw h1) fun D σ H ⟨F0,H0,F, ρ,fl, ρ',r,hf,q⟩=>by
 obtain⟨d,h2,h3⟩:=gc.mp hf;obtain⟨ρ1,h4,h5⟩:=gp.mp h3;cases h5;exact⟨F0,H0,F, ρ,d,r,h2,fun v F' H' g' r'=>⟨F0,H0,F', ρ,d, ρ',r.grow g',r',h4,fun σ' r2=>q σ' F' H' g'.ff r2⟩⟩
theorem qqs{K:Frag}{F:Hp}{a:Addr}{xs:List V}{ds:List D}(h:SqL K F a xs)(hd:RepL K F ds xs): ItD K F ds (Itl K a) where
 go:=fun i F' H s1 s2 hi=>⟨xs,xs[i]'(by rw [<- hd.length];exact hi),(s1.trans s2).seq h,by simp⟩
 yld:=fun i d F' H x H' s1 s2 hi ⟨e,y⟩=>by
  subst e;obtain⟨z,h1,h2⟩:=hd.get hi;have:=y xs ((s1.trans s2).seq h);rw [h1] at this;cases this;exact⟨F',.refl s2,h2.mono s1⟩
 stop:=fun i F' H s1 s2 hi=>⟨xs,(s1.trans s2).seq h,by rw [<- hd.length];exact hi⟩
theorem qum{K:Frag}{F:Hp}{a:Addr}{xs:List V}{ds:List D}(h:SqT K F a xs)(hd:RepL K F ds xs): ItD K F ds (Itt K a) where
 go:=fun i F' H s1 s2 hi=>⟨xs,xs[i]'(by rw [<- hd.length];exact hi),z0 (s1.trans s2) h,by simp⟩
 yld:=fun i d F' H x H' s1 s2 hi ⟨e,y⟩=>by
  subst e;obtain⟨z,h1,h2⟩:=hd.get hi;have:=y xs (z0 (s1.trans s2) h);rw [h1] at this;cases this;exact⟨F',.refl s2,h2.mono s1⟩
 stop:=fun i F' H s1 s2 hi=>⟨xs,z0 (s1.trans s2) h,by rw [<- hd.length];exact hi⟩
def zy(lo:Int)(n:Nat): List D:=(List.range n).map fun i:Nat=>.int (lo+i)
theorem qed{K:Frag}{F:Hp}(lo:Int)(n:Nat): ItD K F (zy lo n) (Itr lo n) where
 go:=fun i F' H s1 s2 hi=>by show i<n;simpa [zy] using hi
 yld:=fun i d F' H x H' s1 s2 hi ⟨e,y⟩=>by
  subst e y;simp only [zy,mq] at hi;cases q:(List.range n)[i]? with
  | none=>rw [q] at hi;cases hi
  | some j=>
   rw [q] at hi;cases hi;have:j=i:=by
    have h2:=nj.mp q;obtain⟨h3,h4⟩:=h2;rw [List.getElem_range] at h4;exact h4.symm
   subst this;exact⟨F',.refl s2,rep_int.mpr rfl⟩
 stop:=fun i F' H s1 s2 hi=>by show n<=i;simpa [zy] using hi
def q5j:D->Option (List D)
 | .tup ds=>some ds
 | .lst ds=>some ds
 | _=>none
def jm(f:FE): FA:=fun ρ =>(f ρ).bind q5j
theorem z0e{l:Expr}{tl:TE}(hl:PE X l tl): PI X tg l (fun σ H R=>tl σ H fun x H1=>(∃a,x=.ref a/\(∃xs,SqL X.K H1 a xs)/\R (Itl X.K a) H1)\/(∃a,x=.ref a/\(∃xs,SqT X.K H1 a xs)/\R (Itt X.K a) H1)):=by
 intro pins s σ H R I h;refine thn (hl pins s σ H _ I h) fun v s1 ⟨x,H1,I1,r1,q1⟩=>?_;rcases q1 with⟨a,e,⟨xs,hq⟩,q⟩|⟨a,e,⟨xs,hq⟩,q⟩
 ·subst e
  cases r1;obtain⟨its,rv,p,hz⟩:=I1.list hq;refine g1q p.isList ?_;refine⟨s1.heap.objs.size,[s1.heap.objs.size],_,_,H1,rfl,I1.kept (t':=s1.toks) fun b o e=>gh _ e,qnb a _,⟨_,gs _ rfl,rfl,rfl⟩,fun b hb=>?_,q⟩;have e:b=s1.heap.objs.size:=by simpa using hb
  subst e;exact I1.fpOk (m6 _) (I1.hok.fresh (m6 _))
 ·subst e
  cases r1;obtain⟨its,rv,p,hz⟩:=I1.tuple hq;refine g2h (show s1.heap.IsTuple a its.toArray from p) ?_;refine⟨s1.heap.objs.size,[s1.heap.objs.size],_,_,H1,rfl,I1.kept (t':=s1.toks) fun b o e=>gh _ e,qlf a _,⟨_,gs _ rfl,rfl,rfl⟩,fun b hb=>?_,q⟩;have e:b=s1.heap.objs.size:=by simpa using hb
  subst e;exact I1.fpOk (m6 _) (I1.hok.fresh (m6 _))
theorem j8{f:FE}(h:PE X e (tD X.K f)): PI X tg e (tDI X.K (jm f)):=qbb (z0e h) fun σ H R ⟨F0,H0,F, ρ,ds,r,hf,q⟩=>by
 obtain⟨d,h1,h2⟩:=gc.mp hf;refine⟨F0,H0,F, ρ,d,r,h1,fun v F' H' g' r'=>?_⟩;cases d <;> simp only [q5j] at h2 <;> first|(cases h2;done)|skip
 ·cases h2
  obtain⟨a,xs,rfl,h3,h4⟩:=rep_tup.mp r';exact .inr ⟨a,rfl,⟨xs,z0 g'.fh h3⟩,q _ F' H' g' (qum h3 h4)⟩
 ·cases h2
  obtain⟨a,xs,rfl,h3,h4⟩:=rep_lst.mp r';exact .inl ⟨a,rfl,⟨xs,g'.fh.seq h3⟩,q _ F' H' g' (qqs h3 h4)⟩
def iR1(fa:FA): FA:=fun ρ =>(fa ρ).bind fun ds=>match ds with
 | [.int j]=>if decide (-(2 ^ 62)<=j)&&decide (j<2 ^ 62) then some (zy 0 j.toNat) else none
 | _=>none
def iR2(fa:FA): FA:=fun ρ =>(fa ρ).bind fun ds=>match ds with
 | [.int i,.int j]=>if(decide (-(2 ^ 62)<=i)&&decide (i<2 ^ 62))&&(decide (-(2 ^ 62)<=j)&&decide (j<2 ^ 62)) then some (zy i (j-i).toNat) else none
 | _=>none
theorem q0g{a:Expr}{fa:FA}{p:Pos}(hg:Gl X "range")(hm:X.mg "range" = none)(ha:PA X [a] (tDA X.K fa))(hs:starEach [a] X.env=[(false,eval a X.env)]:=by rfl): PI X tg (.Call (.Name "range" p) [a] [] pos) (tDI X.K (iR1 fa)):=
 qbb (qnc hg hm ha hs) fun σ H R ⟨F0,H0,F, ρ,ds,r,hf,q⟩=>by
  obtain⟨es,h1,h2⟩:=gc.mp hf;refine⟨F0,H0,F, ρ,es,r,h1,fun vs F' H' g' r'=>?_⟩
  split at h2
  ·rename_i j
   split at h2
   ·rename_i z
    cases h2;obtain⟨x,t,rfl,h3,h4⟩:=r'.cons_inv;cases h4.nil_inv;obtain⟨z1,z2⟩:=q0f z;exact⟨j,by rw [rep_int.mp h3],z1,z2,q _ F' H' g' (qed 0 _)⟩
   ·cases h2
  ·cases h2
theorem qo1{a b:Expr}{fa:FA}{p:Pos}(hg:Gl X "range")(hm:X.mg "range" = none)(ha:PA X [a,b] (tDA X.K fa))(hs:starEach [a,b] X.env=[(false,eval a X.env),(false,eval b X.env)]:=by rfl)(hs2:starEach [b] X.env=[(false,eval b X.env)]:=by rfl):
  PI X tg (.Call (.Name "range" p) [a,b] [] pos) (tDI X.K (iR2 fa)):=
 qbb (qnd hg hm ha hs hs2) fun σ H R ⟨F0,H0,F, ρ,ds,r,hf,q⟩=>by
  obtain⟨es,h1,h2⟩:=gc.mp hf;refine⟨F0,H0,F, ρ,es,r,h1,fun vs F' H' g' r'=>?_⟩
  split at h2
  ·rename_i i j
   split at h2
   ·rename_i z
    cases h2;obtain⟨x,t,rfl,h3,h4⟩:=r'.cons_inv;obtain⟨x2,t2,rfl,h5,h6⟩:=h4.cons_inv;cases h6.nil_inv;rw [mn] at z;obtain⟨z1,z2⟩:=q0f z.1;obtain⟨z3,z4⟩:=q0f z.2;exact⟨i,j,by rw [rep_int.mp h3,rep_int.mp h5],⟨z1,z2,z3,z4⟩,q _ F' H' g' (qed _ _)⟩
   ·cases h2
  ·cases h2
def runFor(b:FB)(body:FS): List D->Rho->Option (Fl×Rho)
 | [], ρ =>some (.nx, ρ)
 | d :: ds, ρ =>(b d ρ).bind fun ρ1=>(body ρ1).bind fun r=>match r with
  | (.nx, ρ2)=>runFor b body ds ρ2
  | (.ct, ρ2)=>runFor b body ds ρ2
  | (.bk, ρ2)=>some (.nx, ρ2)
  | (.rt v, ρ2)=>some (.rt v, ρ2)
def q41(it:FA)(b:FB)(body:FS): FS:=fun ρ =>(it ρ).bind fun ds=>runFor b body ds ρ
theorem q4q{iter:Expr}{body:List Stmt}{it:FA}{b:FB}{u:FS}(hp:PassesOwn (model X.prog X.w) X.A X.env X.xe)(hc:X.calm=true)(hi:PI X tg iter (tDI X.K it))(hg:PG X tg (tDG X.K b))(hb:PSs X body (tDS X.K u))
  (hs:∀x,foldedSetIterable iter X.env x=pure x:=by intro _;rfl):PS X (.For tg iter body [] pos) (tDS X.K (q41 it b u)):=je (qwv hp hc hi hg hb hs) fun D σ H ⟨F0,H0,F, ρ,fl, ρ',r,hf,q⟩=>by
 obtain⟨ds,h1,h2⟩:=gc.mp hf;refine⟨F0,H0,F, ρ,ds,r,h1,fun J F1 H1 g1 itd=>?_⟩;refine⟨fun i m σ H=>m=ds.length-i/\i<=ds.length/\∃F' ρi,Same F1 F'/\RS X.K F0 H0 F' H σ ρi/\runFor b u (ds.drop i) ρi=some (fl, ρ'),⟨ds.length,by simp,u6 _,F1, ρ,.refl _,r.grow g1,by simpa using h2⟩,?_⟩
 rintro i m σ H ⟨rfl,hi,F', ρi,s1,r1,h3⟩
 by_cases hlt:i<ds.length
 ·have hd:ds.drop i=ds[i] :: ds.drop (i+1):=g2a hlt
  rw [hd] at h3;obtain⟨ρ1,h4,h5⟩:=gc.mp h3;obtain⟨⟨fl1, ρ2⟩,h6,h7⟩:=gc.mp h5;refine .inr ⟨itd.go i F' H s1 r1.fh hlt,fun σ' H'=>∃F',Same F1 F'/\RS X.K F0 H0 F' H' σ' ρ2/\runFor b u (ds.drop (i+1)) ρ2=some (fl, ρ'),fun σ' H' ⟨F',z1,z2,z3⟩=>⟨ds.length-(i+1),by omega,rfl,hlt,F', ρ2,z1,z2,z3⟩,fun x H' y=>?_⟩;obtain⟨F2,g2,r2⟩:=itd.yld i ds[i] F' H x H' s1 r1.fh (by simp [hlt]) y;refine⟨F0,H0,F2, ρi,ds[i], ρ1,r1.grow g2,r2,h4,fun σ' r3=>⟨F0,H0,F2, ρ1,fl1, ρ2,r3,h6,?_⟩⟩;cases fl1 with
  | nx=>exact fun σ2 F3 H3 s3 r4=>⟨F3,(s1.trans g2.ff).trans s3,r4,h7⟩
  | ct=>exact fun σ2 F3 H3 s3 r4=>⟨F3,(s1.trans g2.ff).trans s3,r4,h7⟩
  | bk=>cases h7;exact fun σ2 F3 H3 s3 r4=>q σ2 F3 H3 ((g1.ff.trans (s1.trans g2.ff)).trans s3) r4
  | rt d=>cases h7;exact q
 ·have e:i=ds.length:=by omega
  subst e;rw [g4j] at h3;cases h3;exact .inl ⟨itd.stop _ F' H s1 r1.fh (m6 _),q σ F' H (g1.ff.trans s1) r1⟩
def yn(t:FT)(body:FS): Nat->Rho->Option (Fl×Rho)
 | 0,_=>none
 | n+1, ρ =>(t ρ).bind fun c=>if c then(body ρ).bind fun r=>match r with
   | (.nx, ρ2)=>yn t body n ρ2
   | (.ct, ρ2)=>yn t body n ρ2
   | (.bk, ρ2)=>some (.nx, ρ2)
   | (.rt v, ρ2)=>some (.rt v, ρ2)
  else some (.nx, ρ)
theorem qqt{c:Expr}{body:List Stmt}{t:FT}{u:FS}(n:Nat)(hp:PassesOwn (model X.prog X.w) X.A X.env X.xe)(hc:PT X c (tDT X.K t))(hb:PSs X body (tDS X.K u)): PS X (.While c body [] pos) (tDS X.K (yn t u n)):=
 je (qq3 hp hc hb) fun D σ H ⟨F0,H0,F, ρ,fl, ρ',r,hf,q⟩=>by
  refine⟨fun m σ H=>∃F' ρi,Same F F'/\RS X.K F0 H0 F' H σ ρi/\yn t u m ρi=some (fl, ρ'),⟨n,F, ρ,.refl _,r,hf⟩,?_⟩
  rintro m σ H ⟨F', ρi,s1,r1,h1⟩
  cases m with
  | zero=>cases h1
  | succ m=>
   obtain⟨c,h2,h3⟩:=gc.mp h1;refine⟨F0,H0,F', ρi,c,r1,h2,fun F2 H2 g2=>?_⟩;cases c with
   | false=>rw [mf gy] at h3 ⊢;cases h3;exact q σ F2 H2 (s1.trans g2.ff) (r1.grow g2)
   | true=>
    rw [gw rfl] at h3 ⊢;obtain⟨⟨fl1, ρ2⟩,h6,h7⟩:=gc.mp h3;refine⟨fun σ' H'=>∃F',Same F F'/\RS X.K F0 H0 F' H' σ' ρ2/\yn t u m ρ2=some (fl, ρ'),fun σ' H' ⟨F',z1,z2,z3⟩=>⟨m,t8 _,F', ρ2,z1,z2,z3⟩,F0,H0,F2, ρi,fl1, ρ2,r1.grow g2,h6,?_⟩;cases fl1 with
    | nx=>exact fun σ2 F3 H3 s3 r4=>⟨F3,(s1.trans g2.ff).trans s3,r4,h7⟩
    | ct=>exact fun σ2 F3 H3 s3 r4=>⟨F3,(s1.trans g2.ff).trans s3,r4,h7⟩
    | bk=>cases h7;exact fun σ2 F3 H3 s3 r4=>q σ2 F3 H3 ((s1.trans g2.ff).trans s3) r4
    | rt d=>cases h7;exact q
end
def qxm:Option B->Option B
 | some (.fz d)=>some (.fz d)
 | _=>none
def ku(cap:Te)(ρ : Rho): Rho:=cap.map fun o=>o.bind fun j=>qxm (ρ[j]?).join
structure Sub(ρ ρ':Rho): Prop where
 len : ρ.length = ρ'.length
 sub:∀(i:Nat) (b:B), ρ[i]? = some (some b) -> ρ'[i]? = some (some b)
theorem RS.weak{K:Frag}{F0 H0 F H:Hp}{σ : St}{ρ ρ':Rho}(r:RS K F0 H0 F H σ ρ')(s:Sub ρ ρ'): RS K F0 H0 F H σ ρ where
 t0:=r.t0
 g:=r.g
 len:=by rw [s.len];exact r.len
 fz:=fun i d e=>r.fz i d (s.sub i _ e)
 ow:=fun i ds e=>r.ow i ds (s.sub i _ e)
 dj:=fun i j ds es a h e1 e2=>r.dj i j ds es a h (s.sub i _ e1) (s.sub j _ e2)
 od:=fun i kvs e=>let⟨a,bs,e1,e2,e3⟩:=r.od i kvs (s.sub i _ e); ⟨a,bs,e1,e2,fun j es b h=>e3 j es b (s.sub j _ h)⟩
 o1:=fun i j k1 k2 e1 e2=>r.o1 i j k1 k2 (s.sub i _ e1) (s.sub j _ e2)
def q2d(ρ : Rho): Prop:=∀(i:Nat) (b:B), ρ[i]? = some (some b)->∃d,b=.fz d
theorem q5k{ρ : Rho}(no:q2d ρ){i:Nat}{ds:List D}(h : ρ[i]? = some (some (.ow ds))): False:=let⟨_,e⟩:=no i _ h;nomatch e
theorem q5l{ρ : Rho}(no:q2d ρ){i:Nat}{ds}(h : ρ[i]? = some (some (.od ds))): False:=let⟨_,e⟩:=no i _ h;nomatch e
theorem yk(cap:Te)(ρ : Rho): q2d (ku cap ρ):=fun i ds h=>by
 unfold ku at h;rw [mq] at h;cases q:cap[i]? with
 | none=>rw [q] at h;cases h
 | some o=>
  rw [q] at h;cases o with
  | none=>cases h
  | some j=>
   simp only [mx,gj,g2s] at h;generalize (ρ[j]?).join=z at h;cases z with
   | none=>cases h
   | some b=>cases b with
    | fz d=>cases h;exact⟨d,rfl⟩
    | ow _=>cases h
    | od _=>cases h
theorem qxn{K:Frag}{F0 H0 F H:Hp}{σ : St}{ρ : Rho}(cap:Te)(r:RS K F0 H0 F H σ ρ): RS K F H F H (qd5 cap σ) (ku cap ρ) where
 t0:=⟨r.tab,r.tabF⟩
 g:=.refl r.fh
 len:=by unfold qd5 ku;rw [gv,gv]
 fz := fun i d h=>by
  unfold ku at h;rw [mq] at h;cases q:cap[i]? with
  | none=>rw [q] at h;cases h
  | some o=>
   rw [q] at h;cases o with
   | none=>cases h
   | some j=>
    simp only [mx,gj,g2s] at h;have e : ρ[j]? = some (some (.fz d)):=by
     cases z : ρ[j]? with
     | none=>rw [z] at h;cases h
     | some b=>
      rw [z] at h;cases b with
      | none=>cases h
      | some b=>cases b with
       | fz d'=>cases h;rfl
       | ow _=>cases h
       | od _=>cases h
    obtain⟨v,e1,e2⟩:=r.fz j d e;refine⟨v,?_,e2⟩;unfold qd5;rw [mq,q];simp only [mx,gj,e1,g33]
 ow:=fun i ds h=>(q5k (yk cap ρ) h).elim
 dj:=fun i j ds es a _ h=>(q5k (yk cap ρ) h).elim
 od:=fun i ds h=>(q5l (yk cap ρ) h).elim
 o1:=fun i j ds es h=>(q5l (yk cap ρ) h).elim
theorem RS.other{K:Frag}{F0 H0 F H:Hp}{σ : St}{ρ : Rho}(r:RS K F0 H0 F H σ ρ)(no:q2d ρ){p:Addr}{o:HO}(h1:F p=none)(h2:H0 p=none)(h3:H p=none\/∃xs,H p=some (.lst xs)): RS K F0 H0 F (upd H p o) σ ρ where
 t0:=r.t0
 g :=⟨r.g.ff,⟨fun b u e=>by rw [qr (fun z=>by subst z;rw [h2] at e;cases e)];exact r.g.hh.lst b u e,fun b u e=>by rw [qr (fun z=>by subst z;rw [h2] at e;cases e)];exact r.g.hh.ext b u e,fun {b} e=>by
   by_cases z:b=p
   ·subst z;exact h2
   ·rw [qr z] at e;exact r.g.hh.free e,fun t=>(r.g.hh.tb t).upd h3,fun b u e=>by rw [qr (fun z=>by subst z;rw [h2] at e;cases e)];exact r.g.hh.dk b u e⟩,fun b u e=>by rw [qr (fun z=>by subst z;rw [h1] at e;cases e)];exact r.g.fh b u e,r.g.nw⟩
 len:=r.len
 fz:=r.fz
 ow:=fun i ds h=>(q5k no h).elim
 dj:=fun i j ds es a _ h=>(q5k no h).elim
 od:=fun i ds h=>(q5l no h).elim
 o1:=fun i j ds es h=>(q5l no h).elim
theorem q75{F H F' H':Hp}{p:Addr}(g:Grow F H F' H')(h1:F p=none){o:HO}(h2:H p=some o): F' p=none:=by
 cases q:F' p with
 | none=>rfl
 | some u=>
  rcases g.nw p (by rw [q];simp) with z|z
  ·exact absurd h1 z
  ·rw [h2] at z;cases z
def zg(b:FB)(c:FT)(f:FE)(ρ : Rho): List D->Option (List D)
 | []=>some []
 | d :: ds=>(b d ρ).bind fun ρ1=>(c ρ1).bind fun t=>if t then(f ρ1).bind fun y=>(zg b c f ρ ds).map fun ys=>y :: ys else zg b c f ρ ds
def zu:FT:=fun _=>some true
def zi(it:FA)(cap:Te)(b:FB)(c:FT)(f:FE): FA:=fun ρ =>(it ρ).bind fun ds=>if ds.length<=lim then zg b c f (ku cap ρ) ds else none
def qbd(b:FB)(cap:Te): Prop:=∀ ρ d ρ',b d (ku cap ρ)=some ρ'->Sub (ku cap ρ) ρ'/\q2d ρ'
section
variable{X:Cx}
theorem qqu{ifs:List Expr}{t t':TT}(h:q1z X ifs t)(i:∀ σ H Q,t' σ H Q->t σ H Q): q1z X ifs t':=fun pins s σ H Q I q=>h pins s σ H Q I (i σ H Q q)
theorem xt:q1z X [] (tDT X.K zu):=qqu qqj fun σ H Q ⟨F0,H0,F, ρ,b,r,hf,q⟩=>by cases hf;exact q F H (.refl r.fh)
theorem k7{c:Expr}{t:FT}(h:PT X c (tDT X.K t)): q1z X [c] (tDT X.K t):=qqk h
theorem qo2{K:Frag}{it:FA}{cap:Te}{b:FB}{c:FT}{f:FE}{σ : St}{H:Hp}{Q:VK}(fr:qbd b cap)(h:tL K (zi it cap b c f) σ H Q): qlr (tDI K it) cap (tDG K b) (tDT K c) (tD K f) σ H Q:=by
 obtain⟨F0,H0,F, ρ,zs,r,hf,q⟩:=h;obtain⟨ds,h1,h2⟩:=gc.mp hf;have hlim:ds.length<=lim:=Decidable.byContradiction fun z=>by rw [mf z] at h2;cases h2
 rw [gw hlim] at h2;refine⟨F0,H0,F, ρ,ds,r,h1,fun J F1 H1 g1 itd p hp=>?_⟩;have rc:=qxn cap (r.grow g1);have hF1:F1 p=none:=g1.fh.free hp;refine⟨fun i m σ H=>m=ds.length-i/\i<=ds.length/\∃F' xs ys us,Same F1 F'/\RS K F1 H1 F' H σ (ku cap ρ)/\H p=some (.lst xs)/\F' p=none/\RepL K F' ys xs/\zg b c f (ku cap ρ) (ds.drop i)=some us/\ys++us=zs/\ys.length<=i,
  ⟨ds.length,by simp,u6 _,F1,[],[],zs,.refl _,rc.other (yk cap ρ) hF1 hp (.inl hp),za,hF1,.nil,by simpa using h2,rfl,m6 _⟩,?_⟩
 rintro i m σ' H' ⟨rfl,hi,F',xs,ys,us,s1,r1,hl,hn,ry,h3,h4,hyi⟩
 by_cases hlt:i<ds.length
 ·have hd:ds.drop i=ds[i] :: ds.drop (i+1):=g2a hlt
  rw [hd] at h3;obtain⟨ρ1,h5,h3⟩:=gc.mp h3;obtain⟨t,h6,h3⟩:=gc.mp h3;obtain⟨sb,no1⟩:=fr ρ _ _ h5;refine .inr ⟨itd.go i F' H' s1 r1.fh hlt,fun x H'' y=>?_⟩;obtain⟨F2,g2,r2⟩:=itd.yld i ds[i] F' H' x H'' s1 r1.fh (by simp [hlt]) y;refine⟨F1,H1,F2,ku cap ρ,ds[i], ρ1,r1.grow g2,r2,h5,fun σ2 r3=>⟨F1,H1,F2, ρ1,t,r3,h6,fun F3 H3 g3=>?_⟩⟩;have r4:=r3.grow g3;have hl2:=g2.hh.lst _ _ hl;have hn2:=q75 g2 hn hl;have hl3:=g3.hh.lst _ _ hl2;have hn3:=q75 g3 hn2 hl2;cases t with
  | false=>
   rw [mf gy] at h3;exact qqh ⟨ds.length-(i+1),by omega,rfl,hlt,F3,xs,ys,us,(s1.trans g2.ff).trans g3.ff,r4.weak sb,hl3,hn3,ry.mono (g2.ff.trans g3.ff),h3,h4,Nat.le_succ_of_le hyi⟩
  | true=>
   rw [gw rfl] at h3;obtain⟨yd,h7,h3⟩:=gc.mp h3;obtain⟨us',h8,h9⟩:=gp.mp h3;refine qqi ⟨F1,H1,F3, ρ1,yd,r4,h7,fun v F4 H4 g4 r5=>?_⟩;have hl4:=g4.hh.lst _ _ hl3;have hn4:=q75 g4 hn3 hl3;have ss:Same F' F4:=(g2.ff.trans g3.ff).trans g4.ff;refine⟨xs,hl4,qec (by have:=ry.length;omega),ds.length-(i+1),by omega,rfl,hlt,F4,xs++[v],ys++[yd],us',(s1.trans ss),?_,za,hn4,(ry.mono ss).append (.cons r5 .nil),h8,?_,?_⟩
   ·exact((r4.grow g4).weak sb).other (yk cap ρ) hn4 hp (.inr ⟨_,hl4⟩)
   ·rw [td,List.singleton_append,h9];exact h4
   ·rw [ng,g37];omega
 ·have e:i=ds.length:=by omega
  subst e;rw [g4j] at h3;cases h3;rw [ny] at h4;subst h4;have gg:Grow F1 H1 F' H':=r1.g;exact .inl ⟨itd.stop _ F' H' s1 r1.fh (m6 _),q p xs F' H' (g1.trans gg) hn (g1.hh.free hp) hl ry⟩
variable{N':List Str}{scope:Scope}{cap:Te}{tg iter elt:Expr}{ifs:List Expr}{it:FA}{b:FB}{c:FT}{f:FE}{pos:Pos}
end
theorem qgh{cap:Te}{ρ : Rho}{i:Nat}(h:cap[i]? = some none): (ku cap ρ)[i]? = some none:=by
 unfold ku;rw [mq,h];rfl
theorem qkd{ρ ρ':Rho}{i:Nat}{b:Option B}(s:Sub ρ ρ')(h : ρ[i]? = some none): Sub ρ (ρ'.set i b):=
 ⟨by rw [ue];exact s.len,fun j c e=>by
  by_cases q:j=i
  ·subst q;rw [h] at e;cases e
  ·rw [gr (ml q)];exact s.sub j c e⟩
theorem qee{ρ : Rho}{i:Nat}{d:D}(h:q2d ρ): q2d (ρ.set i (some (.fz d))):=fun j ds e=>by
 by_cases q:j=i
 ·subst q
  obtain⟨z,_⟩:=z5 e;cases z;exact⟨d,rfl⟩
 ·rw [gr (ml q)] at e;exact h j ds e
theorem Sub.refl(ρ : Rho): Sub ρ ρ :=⟨rfl,fun _ _ h=>h⟩
theorem zk{cap:Te}{i:Nat}(h:cap[i]? = some none): qbd (bN i) cap:=fun ρ d ρ' e=>by
 cases e;exact⟨qkd (.refl _) (qgh h),qee (yk cap ρ)⟩
def qbe(bs:FBs)(cap:Te): Prop:=∀ ρ ds ρ1 ρ',Sub (ku cap ρ) ρ1->q2d ρ1->bs ds ρ1=some ρ'->Sub (ku cap ρ) ρ'/\q2d ρ'
theorem wg{cap:Te}: qbe xi cap:=fun ρ ds ρ1 ρ' s n e=>by
 unfold xi at e
 split at e
 ·cases e;exact⟨s,n⟩
 ·cases e
theorem jl{cap:Te}{i:Nat}{bs:FBs}(h:cap[i]? = some none)(t:qbe bs cap): qbe (zh (bN i) bs) cap:=fun ρ ds ρ1 ρ' s n e=>by
 cases ds with
 | nil=>cases e
 | cons d ds=>exact t ρ ds _ ρ' (qkd s (qgh h)) (qee n) e
theorem q0h{cap:Te}{n:Nat}{bs:FBs}(t:qbe bs cap): qbd (xj n bs) cap:=fun ρ d ρ' e=>by
 cases d <;> simp only [xj] at e <;> first|(cases e;done)|skip
 split at e
 ·exact t ρ _ _ ρ' (.refl _) (yk cap ρ) e
 ·cases e
section
variable{X:Cx}{e:Expr}{es:List Expr}{pos:Pos}{f g:FE}{fa:FA}
inductive Ty where
 | int|bool|tuple|list|str|dict
def Ty.name:Ty->String
 | .int=>"int" | .bool=>"bool" | .tuple=>"tuple" | .list=>"list" | .str=>"str" | .dict=>"dict"
def j3:Ty->D->Bool
 | .int,.int _=>true
 | .int,.bl _=>true
 | .bool,.bl _=>true
 | .tuple,.tup _=>true
 | .list,.lst _=>true
 | .str,.str _=>true
 | .dict,.dct _ _=>true
 | .dict,.dtt _ _=>true
 | .dict,.dt2 _=>true
 | _,_=>false
theorem qqv{prog:Program}{w:World}{A:Around}{E:Ta}{s:Shared}{Q:Ta}{K:Frag}{T:String}{b:Bool}(hk:K.In s.heap)(h:∀tk,Q (.bool b) {s with toks:=tk})(hT:PySem.W.kitOne K (.type "NoneType") (.type T)=some b):
  wpAny (model prog w) A (call (.builtin "isinstance") [.none,.type T]) Q E s:=g4v PySem.W.kitx_none hk True.intro hT (fun z=>nomatch z) h
theorem qqw(T:Ty): xk X (.builtin "isinstance") (fun xs H Q=>∃x F d,xs=[x,.ty T.name]/\Same F H/\Rep X.K F d x/\Q (.bl (j3 T d)) H):=by
 intro pins s σ H xs us Q I r h;obtain⟨x,F,d,rfl,fh,rd,q⟩:=h;obtain⟨u,w',rfl,rx,rt⟩:=r.two;obtain rfl:w'=Value.type T.name:=rt;have fin:∀ {b:Bool},Q (.bl b) H->EP X pins σ Q (.bool b) s:=fun q=>⟨.bl _,H,I,rfl,q⟩
 have fin1:∀ {b:Bool},Q (.bl b) H->EP X pins σ Q (.bool b) {s with toks:=s.toks+1}:=fun q=>⟨.bl _,H,I.tok _,rfl,q⟩
 cases d with
 | non=>
  cases rep_non.mp rd;cases rx;cases T <;> exact qqv I.kIn (fun tk=>⟨.bl _,H,I.tok _,rfl,q⟩) (by rfl)
 | bl b=>
  cases rep_bl.mp rd;cases rx;cases T
  ·exact IsiPair.bool_int (fin q)
  ·exact IsiPair.bool_bool (fin q)
  ·exact IsiPair.bool_tuple (fin1 q)
  ·exact IsiPair.bool_list (fin1 q)
  ·exact IsiPair.bool_str (fin1 q)
  ·exact IsiPair.bool_dict (fin1 q)
 | int i=>
  cases rep_int.mp rd;obtain⟨t,rfl⟩:=rx;cases T
  ·exact IsiPair.int_int (fin q)
  ·exact IsiPair.int_bool (fin1 q)
  ·exact IsiPair.int_tuple (fin1 q)
  ·exact IsiPair.int_list (fin1 q)
  ·exact IsiPair.int_str (fin1 q)
  ·exact IsiPair.int_dict (fin1 q)
 | str z=>
  cases rep_str.mp rd;obtain⟨t,rfl⟩:=rx;cases T
  ·exact IsiPair.str_int (fin1 q)
  ·exact IsiPair.str_bool (fin1 q)
  ·exact IsiPair.str_tuple (fin1 q)
  ·exact IsiPair.str_list (fin1 q)
  ·exact IsiPair.str_str (fin q)
  ·exact IsiPair.str_dict (fin1 q)
 | tup ds=>
  obtain⟨a,ys,rfl,h1,h2⟩:=rep_tup.mp rd;cases rx;obtain⟨its,_,⟨o,ho,hc,_⟩,_⟩:=I.tuple (z0 fh h1);cases T
  ·exact IsiPair.tuple_int ho hc (fin1 q)
  ·exact IsiPair.tuple_bool ho hc (fin1 q)
  ·exact IsiPair.tuple_tuple ho hc (fin q)
  ·exact IsiPair.tuple_list ho hc (fin1 q)
  ·exact IsiPair.tuple_str ho hc (fin1 q)
  ·exact IsiPair.tuple_dict ho hc (fin1 q)
 | lst ds=>
  obtain⟨a,ys,rfl,h1,h2⟩:=rep_lst.mp rd;cases rx;obtain⟨its,_,⟨o,n,ho,hc,_⟩,_⟩:=I.list (fh.seq h1);cases T
  ·exact IsiPair.list_int ho hc (fin1 q)
  ·exact IsiPair.list_bool ho hc (fin1 q)
  ·exact IsiPair.list_tuple ho hc (fin1 q)
  ·exact IsiPair.list_list ho hc (fin q)
  ·exact IsiPair.list_str ho hc (fin1 q)
  ·exact IsiPair.list_dict ho hc (fin1 q)
 | dct ks vs=>
  obtain⟨a,ys,rfl,h1,h2,h3⟩:=rep_dct.mp rd;cases rx;obtain⟨_,_,vs',_,o,es',ep,ho,hc,_⟩:=(show ObjOk X.prog X.w H s.heap a _ from I.hok a _ (fh _ _ h1))
  cases T
  ·exact g4k ho hc.1 (fin1 q)
  ·exact g47 ho hc.1 (fin1 q)
  ·exact g3w ho hc.1 (fin1 q)
  ·exact g48 ho hc.1 (fin1 q)
  ·exact g4l ho hc.1 (fin1 q)
  ·exact g49 ho hc.1 (fin q)
 | dtt ks vs=>
  obtain⟨a,xs',ys,ep,rfl,h1,_⟩:=rep_dtt.mp rd;cases rx;obtain⟨⟨o,es',ho,hc,_⟩,_,_⟩:=(show ObjOk X.prog X.w H s.heap a _ from I.hok a _ (fh _ _ h1))
  cases T
  ·exact g4k ho hc.1 (fin1 q)
  ·exact g47 ho hc.1 (fin1 q)
  ·exact g3w ho hc.1 (fin1 q)
  ·exact g48 ho hc.1 (fin1 q)
  ·exact g4l ho hc.1 (fin1 q)
  ·exact g49 ho hc.1 (fin q)
 | dt2 ks=>
  obtain⟨a,xs',ep,rfl,h1,_⟩:=rep_dt2.mp rd;cases rx;obtain⟨⟨o,es',ho,hc,_⟩,_,_⟩:=(show ObjOk X.prog X.w H s.heap a _ from I.hok a _ (fh _ _ h1))
  cases T
  ·exact g4k ho hc.1 (fin1 q)
  ·exact g47 ho hc.1 (fin1 q)
  ·exact g3w ho hc.1 (fin1 q)
  ·exact g48 ho hc.1 (fin1 q)
  ·exact g4l ho hc.1 (fin1 q)
  ·exact g49 ho hc.1 (fin q)
 | obj x=>
  obtain⟨a,dx,C,rfl,h1,_,c1,c2,c3,c4,c5,c6,c7⟩:=rep_obj.mp rd;cases rx;obtain⟨mA,O,_⟩:=q8i I.hok (fh _ _ h1);obtain⟨od,J,_⟩:=O.look;cases T <;> exact g4v (PySem.W.kitx_own c1 c2 c3 c4 c5 c6) I.kIn J (c7 _ (by decide)) (fun z=>nomatch z) (fun tk=>⟨.bl _,H,I.tok _,rfl,q⟩)
 | exc x f=>
  obtain⟨a,C,rfl,⟨od,h1,_⟩,_,c1,c2⟩:=rep_exc.mp rd;cases rx;obtain⟨J,_,_⟩:=(show ObjOk X.prog X.w H s.heap a _ from I.hok a _ (fh _ _ h1))
  cases T <;> exact g4v (qqo c1) I.kIn J (c2 _ (by decide)) (fun z=>nomatch z) (fun tk=>⟨.bl _,H,I.tok _,rfl,q⟩)
def q76(T:Ty)(f:FE): FE:=fun ρ =>(f ρ).map fun d=>.bl (j3 T d)
theorem qqx:bootBuiltins "isinstance" = some (.builtin "isinstance"):=by decide +kernel
theorem q4r{x:Str}{p px:Pos}(T:Ty)(hg:Gl X "isinstance")(hm:X.mg "isinstance" = none)(hgT:Gl X x)(hmT:X.mg x=none)(hvT:bootBuiltins x=some (.type T.name))(ha:PE X e (tD X.K f))
  (hnT:x≠"__name__" :=by decide) (hdT:(x==("__debug__" : Str))=false:=by decide) (he2:starEach [e,.Name x px] X.env=(false,eval e X.env) :: starEach [.Name x px] X.env:=by rfl) :
  PE X (.Call (.Name "isinstance" p) [e,.Name x px] [] pos) (tD X.K (q76 T f)):=
 zr (q9u (qqw T) hg hm qqx (xm ha (xm (qu6 (v:=.ty T.name) hgT hmT hvT rfl hnT hdT) wq) he2) (by decide) (by decide) he2 rfl) fun σ H Q ⟨F0,H0,F, ρ,d,r,hf,q⟩=>by
  obtain⟨d',h1,h2⟩:=gp.mp hf;subst h2;exact⟨F0,H0,F, ρ,d',r,h1,fun v F' H' g' r'=>⟨v,F',d',rfl,g'.fh,r',q _ F' H' g' (rep_bl.mpr rfl)⟩⟩
def jq:List D->Option (List Int)
 | []=>some []
 | .int i :: r=>(jq r).map fun is=>i :: is
 | _ :: _=>none
def q2v:List D->Option (List Bool)
 | []=>some []
 | .bl i :: r=>(q2v r).map fun is=>i :: is
 | _ :: _=>none
theorem q0r:∀ {ds:List D} {ns:List Int},jq ds=some ns->ds=ns.map D.int
 | [],ns,h=>by cases h;rfl
 | d :: r,ns,h=>by
  cases d <;> simp only [jq] at h <;> first|(cases h;done)|skip
  obtain⟨is,h1,h2⟩:=gp.mp h;subst h2;rw [q0r h1];rfl
omit [Lam] [Pin] in
theorem kx:∀(ns:List Int),jq (ns.map D.int)=some ns
 | []=>rfl
 | n :: r=>by simp only [m5,jq,kx r,mx]
theorem q42:∀ {ds:List D} {bs:List Bool},q2v ds=some bs->ds=bs.map D.bl
 | [],ns,h=>by cases h;rfl
 | d :: r,ns,h=>by
  cases d <;> simp only [q2v] at h <;> first|(cases h;done)|skip
  obtain⟨is,h1,h2⟩:=gp.mp h;subst h2;rw [q42 h1];rfl
omit [Lam] [Pin] in
theorem q5m:∀(ns:List Bool),q2v (ns.map D.bl)=some ns
 | []=>rfl
 | n :: r=>by simp only [m5,q2v,q5m r,mx]
theorem RepL.bools{K:Frag}{H:Hp}: ∀ {bs:List Bool} {xs:List V},RepL K H (bs.map D.bl) xs->xs=bs.map V.bl
 | [],xs,h=>h.nil_inv
 | b :: bs,xs,h=>by
  obtain⟨x,r,rfl,h1,h2⟩:=h.cons_inv;rw [rep_bl.mp h1,RepL.bools h2];rfl
def o1L(z:Ti): Ti
 | [.lst ds]=>z ds
 | _=>none
theorem q9x{z:Ti}{es:List D}{d:D}(h:o1L z es=some d): ∃ds,es=[.lst ds]/\z ds=some d:=by
 unfold o1L at h
 split at h
 ·exact⟨_,rfl,h⟩
 ·cases h
theorem rep1{K:Frag}{F:Hp}{d:D}{xs:List V}(h:RepL K F [d] xs): ∃x,xs=[x]/\Rep K F d x:=by
 obtain⟨x,r,rfl,h1,h2⟩:=h.cons_inv;cases h2.nil_inv;exact⟨x,rfl,h1⟩
abbrev q43:Ti:=o1L fun ds=>(jq ds).map fun ns=>.int ns.sum
abbrev q44:Ti:=o1L fun ds=>(q2v ds).map fun bs=>.bl (bs.all id)
abbrev qlw:Ti:=o1L fun ds=>(q2v ds).map fun bs=>.bl (bs.any id)
theorem q4s(hc:X.calm=true): xk X (.builtin "sum") (rC X.K q43):=by
 intro pins s σ H xs us Q I r h;obtain⟨F,ds,d,fh,rl,ho,q⟩:=h;obtain⟨es,rfl,h1⟩:=q9x ho;obtain⟨ns,h2,h3⟩:=gp.mp h1;subst h3;cases q0r h2;obtain⟨x,rfl,rx⟩:=rep1 rl;obtain⟨u,rfl,ru⟩:=r.one;obtain⟨a,ys,rfl,k1,k2⟩:=rep_lst.mp rx;cases ru;cases RepL.ints.mp k2;obtain⟨its,rv,pl,_⟩:=I.list (fh.seq k1);have hi:=intsAre_of rv;obtain⟨zs,hz⟩:=hi.allInts.items;have hl:s.heap.IsList a (intItems zs):=hz ▸ pl.isList;refine sum_intListG (I.ok.hd hc) hl fun h' tk t' hk=>?_;have e1:ns=zs.toList.map (·.1):=by
  rw [<- nums_intItems, <- hz];exact(show numsOf its.toArray.toList=ns from hi.numsOf).symm
 have e2:preSum (numAt zs) zs.size=ns.sum:=by
  rw [preSum_eq,g0r (by simp),e1]
 rw [e2];exact⟨.int ns.sum,H,I.kept hk,⟨_,rfl⟩,q _ F H (.refl fh) (rep_int.mpr rfl)⟩
theorem q5n:∀ {bs:List Bool} {us:List Value},Vals (bs.map V.bl) us->us=bs.map Value.bool
 | [],us,h=>by cases h;rfl
 | b :: bs,us,h=>by
  rw [m5] at h;cases h with
  | cons r t=>
   cases(show _=Value.bool b from r);rw [q5n t];rfl
theorem q77(hc:X.calm=true): xk X (.builtin "all") (rC X.K q44):=by
 intro pins s σ H xs us Q I r h;obtain⟨F,ds,d,fh,rl,ho,q⟩:=h;obtain⟨es,rfl,h1⟩:=q9x ho;obtain⟨bs,h2,h3⟩:=gp.mp h1;subst h3;cases q42 h2;obtain⟨x,rfl,rx⟩:=rep1 rl;obtain⟨u,rfl,ru⟩:=r.one;obtain⟨a,ys,rfl,k1,k2⟩:=rep_lst.mp rx;cases ru;cases k2.bools;obtain⟨its,rv,pl,_⟩:=I.list (fh.seq k1);cases q5n rv;have hlt:a<s.heap.objs.size:=by obtain⟨_,e,_⟩:=pl.isList;exact gu e
 refine call_all_walk (g1q pl.isList ?_);refine⟨s.heap.objs.size,[s.heap.objs.size,a],[s.heap.objs.size],(bs.map Value.bool).toArray.size,_,_,fun i=>(bs[i]?).getD true,rfl,Walks.list (A:=X.A.in1) (I.ok.hd hc) _ a (m4 hlt) (bs.map Value.bool).toArray,
  ⟨⟨_,gs _ rfl,rfl,rfl⟩,pl.isList.push _⟩,fun i v s' Q' E' hP hQ=>?_,fun h' tk hk=>?_⟩
 ·have hP':(bs.map Value.bool)[i]? = some v:=by simpa using hP
  rw [mq] at hP';cases z:bs[i]? with
  | none=>rw [z] at hP';cases hP'
  | some b=>
   rw [z] at hP';cases hP';simp only [z,Option.getD_some] at hQ;exact g0h hQ
 ·have e:((List.range (bs.map Value.bool).toArray.size).all fun i=>(bs[i]?).getD true)=bs.all id:=by
   rw [gq,gv];exact LSm.range_all bs
  rw [e];exact⟨.bl _,H,I.kept (LSm.kept_iter hk),rfl,q _ F H (.refl fh) (rep_bl.mpr rfl)⟩
theorem qxo(hc:X.calm=true): xk X (.builtin "any") (rC X.K qlw):=by
 intro pins s σ H xs us Q I r h;obtain⟨F,ds,d,fh,rl,ho,q⟩:=h;obtain⟨es,rfl,h1⟩:=q9x ho;obtain⟨bs,h2,h3⟩:=gp.mp h1;subst h3;cases q42 h2;obtain⟨x,rfl,rx⟩:=rep1 rl;obtain⟨u,rfl,ru⟩:=r.one;obtain⟨a,ys,rfl,k1,k2⟩:=rep_lst.mp rx;cases ru;cases k2.bools;obtain⟨its,rv,pl,_⟩:=I.list (fh.seq k1);cases q5n rv;have hlt:a<s.heap.objs.size:=by obtain⟨_,e,_⟩:=pl.isList;exact gu e
 refine call_any_walk (g1q pl.isList ?_);refine⟨s.heap.objs.size,[s.heap.objs.size,a],[s.heap.objs.size],(bs.map Value.bool).toArray.size,_,_,fun i=>(bs[i]?).getD false,rfl,Walks.list (A:=X.A.in1) (I.ok.hd hc) _ a (m4 hlt) (bs.map Value.bool).toArray,
  ⟨⟨_,gs _ rfl,rfl,rfl⟩,pl.isList.push _⟩,fun i v s' Q' E' hP hQ=>?_,fun h' tk hk=>?_⟩
 ·have hP':(bs.map Value.bool)[i]? = some v:=by simpa using hP
  rw [mq] at hP';cases z:bs[i]? with
  | none=>rw [z] at hP';cases hP'
  | some b=>
   rw [z] at hP';cases hP';simp only [z,Option.getD_some] at hQ;exact g0h hQ
 ·have e:((List.range (bs.map Value.bool).toArray.size).any fun i=>(bs[i]?).getD false)=bs.any id:=by
   rw [gq,gv];exact LSm.range_any bs
  rw [e];exact⟨.bl _,H,I.kept (LSm.kept_iter hk),rfl,q _ F H (.refl fh) (rep_bl.mpr rfl)⟩
theorem boot_sum:bootBuiltins "sum" = some (.builtin "sum"):=by decide +kernel
theorem boot_all:bootBuiltins "all" = some (.builtin "all"):=by decide +kernel
theorem boot_any:bootBuiltins "any" = some (.builtin "any"):=by decide +kernel
theorem boot_min:bootBuiltins "min" = some (.builtin "min"):=by decide +kernel
theorem boot_max:bootBuiltins "max" = some (.builtin "max"):=by decide +kernel
theorem vg:bootBuiltins "len" = some (.builtin "len"):=by decide +kernel
theorem boot_tuple:bootBuiltins "tuple" = some (.type "tuple"):=by decide +kernel
theorem boot_int:bootBuiltins "int" = some (.type "int"):=by decide +kernel
theorem boot_bool:bootBuiltins "bool" = some (.type "bool"):=by decide +kernel
theorem boot_dict:bootBuiltins "dict" = some (.type "dict"):=by decide +kernel
def o2I(z:Int->Int->Int): Ti
 | [.int i,.int j]=>some (.int (z i j))
 | _=>none
theorem qgi{z:Int->Int->Int}{es:List D}{d:D}(h:o2I z es=some d): ∃i j,es=[.int i,.int j]/\d=.int (z i j):=by
 unfold o2I at h
 split at h
 ·cases h;exact⟨_,_,rfl,rfl⟩
 ·cases h
theorem qti{K:Frag}{F:Hp}{i j:Int}{xs:List V}(h:RepL K F [.int i,.int j] xs): xs=[.int i,.int j]:=RepL.ints (ns:=[i,j]).mp h
abbrev oMin:=o2I fun i j=>if j<i then j else i
abbrev oMax:=o2I fun i j=>if j>i then j else i
theorem q78(hc:X.calm=true): xk X (.builtin "min") (rC X.K oMin):=q3g (qni hc) fun xs H Q ⟨F,ds,d,fh,rl,ho,q⟩=>by
 obtain⟨i,j,rfl,rfl⟩:=qgi ho;exact⟨i,j,qti rl,q _ F H (.refl fh) (rep_int.mpr rfl)⟩
theorem q79(hc:X.calm=true): xk X (.builtin "max") (rC X.K oMax):=q3g (qnh hc) fun xs H Q ⟨F,ds,d,fh,rl,ho,q⟩=>by
 obtain⟨i,j,rfl,rfl⟩:=qgi ho;exact⟨i,j,qti rl,q _ F H (.refl fh) (rep_int.mpr rfl)⟩
def yo:Ti
 | [.tup ds]=>some (.int ds.length)
 | [.lst ds]=>some (.int ds.length)
 | [.str x]=>if x.length<=lim then some (.int x.length) else none
 | _=>none
theorem wx:xk X (.builtin "len") (rC X.K yo):=q3g qq8 fun xs H Q ⟨F,ds,d,fh,rl,ho,q⟩=>by
 unfold yo at ho
 split at ho
 ·cases ho
  obtain⟨x,rfl,rx⟩:=rep1 rl;obtain⟨a,ys,rfl,k1,k2⟩:=rep_tup.mp rx;exact⟨_,ys.length,rfl,.inr ⟨ys,z0 fh k1,rfl⟩,by rw [<- k2.length];exact q _ F H (.refl fh) (rep_int.mpr rfl)⟩
 ·cases ho
  obtain⟨x,rfl,rx⟩:=rep1 rl;obtain⟨a,ys,rfl,k1,k2⟩:=rep_lst.mp rx;exact⟨_,ys.length,rfl,.inl ⟨ys,fh.seq k1,rfl⟩,by rw [<- k2.length];exact q _ F H (.refl fh) (rep_int.mpr rfl)⟩
 ·split at ho
  ·rename_i z
   cases ho;obtain⟨x,rfl,rx⟩:=rep1 rl;cases rep_str.mp rx;exact⟨_,_,rfl,⟨xn z,rfl⟩,q _ F H (.refl fh) (rep_int.mpr rfl)⟩
  ·cases ho
 ·cases ho
def xu:Ti
 | [.tup ds]=>some (.tup ds)
 | [.lst ds]=>some (.tup ds)
 | _=>none
theorem v8:xk X (.type "tuple") (rC X.K xu):=q3g qf5 fun xs H Q ⟨F,ds,d,fh,rl,ho,q⟩=>by
 unfold xu at ho
 split at ho
 ·cases ho
  obtain⟨x,rfl,rx⟩:=rep1 rl;obtain⟨a,ys,rfl,k1,k2⟩:=rep_tup.mp rx;exact⟨a,ys,rfl,.inr ⟨z0 fh k1,q _ F H (.refl fh) rx⟩⟩
 ·cases ho
  obtain⟨x,rfl,rx⟩:=rep1 rl;obtain⟨a,ys,rfl,k1,k2⟩:=rep_lst.mp rx;refine⟨a,ys,rfl,.inl ⟨fh.seq k1,fun l hl=>?_⟩⟩;have gn:Grow F H (upd F l (.tup ys)) (upd H l (.tup ys)):=Grow.new fh hl;exact q _ _ _ gn (rep_tup.mpr ⟨l,ys,rfl,SqT.of za,k2.mono gn.ff⟩)
 ·cases ho
def qlx(op:List D->Option (List D))(fa:FA): FA:=fun ρ =>(fa ρ).bind op
def qtj:List D->Option (List D)
 | [.tup ds]=>some ds
 | [.lst ds]=>some ds
 | _=>none
theorem qd7{K:Frag}{H:Hp}{ds:List D}{xs:List V}{i:Int}{d:D}(h:RepL K H ds xs)(e:atI ds i=some d): ∃x,atI xs i=some x/\Rep K H d x:=by
 unfold atI at e ⊢;rw [<- h.length];cases q:ixN ds.length i with
 | none=>rw [q] at e;cases e
 | some j=>
  rw [q] at e;exact h.get e
def oIx:D->D->Option D
 | .tup ds,.int i=>atI ds i
 | .lst ds,.int i=>atI ds i
 | _,_=>none
theorem jn{a b:Expr}(ha:PE X a (tD X.K f))(hb:PE X b (tD X.K g))(hs:q2k b:=by intro _ _;rfl): PE X (.Subscript a b pos) (tD X.K (eOp oIx f g)):=zr (qb3 qb4 ha hb hs) fun σ H Q h=>by
 have h':=two h;obtain⟨F0,H0,F, ρ,d,r,hf,q⟩:=h';refine⟨F0,H0,F, ρ,d,r,hf,fun v F1 H1 g1 r1=>?_⟩;obtain⟨F0',H0',F', ρ',d',r',hf',q'⟩:=q v F1 H1 g1 r1;refine⟨F0',H0',F', ρ',d',r',hf',fun v2 F2 H2 g2 r2=>?_⟩;obtain⟨F3,d1,d2,d3,fh,k1,k2,k3,k4⟩:=q' v2 F2 H2 g2 r2;unfold oIx at k3
 split at k3
 ·obtain⟨p,ys,rfl,z1,z2⟩:=rep_tup.mp k1
  obtain⟨y,z3,z4⟩:=qd7 z2 k3;exact .inr (.inl ⟨p,ys,_,y,rfl,rep_int.mp k2,z0 fh z1,z3,k4 y F3 H2 (.refl fh) z4⟩)
 ·obtain⟨p,ys,rfl,z1,z2⟩:=rep_lst.mp k1
  obtain⟨y,z3,z4⟩:=qd7 z2 k3;exact .inl ⟨p,ys,_,y,rfl,rep_int.mp k2,fh.seq z1,z3,k4 y F3 H2 (.refl fh) z4⟩
 ·cases k3
def oBits:D->Option D
 | .int i=>some (.int (Builtin.Int.intBits i))
 | _=>none
def eUn(o:D->Option D)(f:FE): FE:=fun ρ =>(f ρ).bind o
theorem qun:MtR X "int.bit_length" (fun x xs H Q=>∃i,x=.int i/\xs=[]/\Q (.int (Builtin.Int.intBits i)) H):=by
 intro pins s σ H x xs v us Q I rx rv h;obtain⟨i,rfl,rfl,q⟩:=h;obtain⟨t,rfl⟩:=rx;cases rv;exact call_int_bit_length ⟨.int _,H,I.tok _,⟨_,rfl⟩,q⟩
theorem quo{o:Expr}{apos cpos:Pos}(ho:PE X o (tD X.K f))(hbase:attributeBase o "bit_length" X.env (eval o X.env)=eval o X.env:=by rfl)(hline:(apos.endLine==cpos.line)=true:=by rfl):
  PE X (.Call (.Attribute o "bit_length" apos) [] [] cpos) (tD X.K (eUn oBits f)):=zr (qxd PySem.F.plainAttrs_int PySem.F.slot_int_bit_length PySem.F.type_int_bit_length qun ho hbase hline) fun σ H Q ⟨F0,H0,F, ρ,d,r,hf,q⟩=>by
 obtain⟨d',h1,h2⟩:=gc.mp hf;refine⟨F0,H0,F, ρ,d',r,h1,fun v F1 H1 g1 r1=>?_⟩;cases d' <;> simp only [oBits] at h2 <;> first|(cases h2;done)|skip
 cases h2;cases rep_int.mp r1;exact⟨rfl,_,rfl,rfl,q _ F1 H1 g1 (rep_int.mpr rfl)⟩
end
section
variable{prog:Program}{w:World}{A:Around}{E:Ta}{s:Shared}
theorem qf6{t sl:Addr}{items:Array Value}{vl vu:Value}{lo hi:Option Int}{Q:Ta}(ht:IsTup s.heap t items)(hs:s.heap.IsSliceOf sl vl vu .none)
  (pl:IsPart vl lo) (pu:IsPart vu hi) (w1:HT.sIx items.size 0 lo=0) (w2:HT.sIx items.size items.size hi=items.size) (h:Q (.ref t) s) :
  wpAny (model prog w) A (getItem (.ref t) (.ref sl)) Q E s:=by
 obtain⟨os,hos,hcs,hds⟩:=id hs;have hTs:s.TypeIs (.ref sl) "slice" :=⟨os,hos,hcs⟩
 unfold getItem
 try with_reducible refine nr ?_
 first|refine g9 (gf ?_)|skip
 refine g9 (wpAny_sequenceKey ht.typeIs (by decide) (g9 (tw (name:=Str.ofString "__getitem__") ht.typeIs tq
  (pj tq ht.typeIs entry_tuple_getitem ?_ (args_tuple_getitem _ _)))))
 show wpAny _ _ (Builtin.Tuple.tupleItemsOf (.ref t) >>= _) _ _ s;refine g9 (tupleItemsOf_ ht (g9 (g08 hTs ?_)));rw [gw (by decide)];refine g9 (HT.sliceApplied_gen hs pl pu ?_);rw [w1,w2];show wpAny _ _ (if(((0:Nat):Int)==0&&(1:Int)==1&&(items.size-0)==items.size)=true then _ else _) _ _ s;rw [gw (by simp)];refine g9 ?_;unfold Builtin.Tuple.tupleIsExact;refine g9 (g08 ht.typeIs (gf ?_))
 first
  | rw [gw (by decide)]
  | skip
 first
  | exact g9 (g0f (g9 (gf (gf ⟨_,rfl,gf h⟩))))
  | exact g9 (g0f (gf ⟨_,rfl,gf h⟩))
  | exact g9 (g9 (g0f (gf (gf ⟨_,rfl,gf h⟩))))
end
section
variable{X:Cx}{e:Expr}{es:List Expr}{pos:Pos}{f g:FE}{fa:FA}
def z1q(K:Frag): V->Option Int->Option Int->Hp->VK->Prop:=fun x lo hi H Q=>∃a xs,x=.ref a/\SqT K H a xs/\HT.sIx xs.length 0 lo=0/\HT.sIx xs.length xs.length hi=xs.length/\Q (.ref a) H
theorem qqy:SlR X (z1q X.K):=by
 intro pins s σ H x v vl vu lo hi sl Q I rx hs pl pu h;obtain⟨a,xs,rfl,hx,w1,w2,q⟩:=h;cases rx;obtain⟨its,r,ht,hz⟩:=I.tuple hx;have hlen:its.toArray.size=xs.length:=by rw [gq];exact r.length.symm
 exact⟨"tuple",_,tq.lookup,ht.typeIs,qf6 ht hs pl pu (by rw [hlen];exact w1) (by rw [hlen];exact w2) ⟨.ref a,H,I,rfl,q⟩⟩
def cutD(ds:List D)(lo hi:Option Int): List D:=(ds.drop (HT.sIx ds.length 0 lo)).take (HT.sIx ds.length ds.length hi-HT.sIx ds.length 0 lo)
def oSl:D->Option Int->Option Int->Option D
 | .tup ds,lo,hi=>some (.tup (cutD ds lo hi))
 | .lst ds,lo,hi=>some (.lst (cutD ds lo hi))
 | _,_,_=>none
abbrev FO:=Rho->Option (Option Int)
def oNo:FO:=fun _=>some none
def oAt(f:FE): FO:=fun ρ =>(f ρ).bind fun d=>match d with
 | .int i=>some (some i)
 | _=>none
def tDO(K:Frag)(f:FO): TO:=fun σ H Q=>∃F0 H0 F ρ i,RS K F0 H0 F H σ ρ /\ f ρ = some i/\∀F' H',Grow F H F' H'->Q i H'
theorem qo3{o:Option Expr}{t t':TO}(h:PO X o t)(i:∀ σ H Q,t' σ H Q->t σ H Q): PO X o t':=fun pins s σ H Q I q=>h pins s σ H Q I (i σ H Q q)
theorem q9y:PO X none (tDO X.K oNo):=qo3 que fun σ H Q ⟨F0,H0,F, ρ,i,r,hf,q⟩=>by cases hf;exact q F H (.refl r.fh)
theorem q9z(h:PE X e (tD X.K f)): PO X (some e) (tDO X.K (oAt f)):=qo3 (quf h) fun σ H Q ⟨F0,H0,F, ρ,i,r,hf,q⟩=>by
 obtain⟨d,h1,h2⟩:=gc.mp hf;cases d <;> simp only at h2 <;> first|(cases h2;done)|skip
 cases h2;exact⟨F0,H0,F, ρ,_,r,h1,fun v F' H' g' r'=>⟨_,rep_int.mp r',q F' H' g'⟩⟩
def eSl(f:FE)(lo hi:FO): FE:=fun ρ =>(f ρ).bind fun d=>(lo ρ).bind fun l=>(hi ρ).bind fun h=>oSl d l h
theorem qa0{a:Expr}{lo hi:Option Expr}{fl fh:FO}{p2:Pos}(ha:PE X a (tD X.K f))(hl:PO X lo (tDO X.K fl))(hh:PO X hi (tDO X.K fh)): PE X (.Subscript a (.Slice lo hi none p2) pos) (tD X.K (eSl f fl fh)):=
 zr (qqd (sl_list.or (sl_tup.or qqy)) ha hl hh) fun σ H Q ⟨F0,H0,F, ρ,d,r,hf,q⟩=>by
  obtain⟨x,h1,hf⟩:=gc.mp hf;obtain⟨l,h2,hf⟩:=gc.mp hf;obtain⟨u,h3,h4⟩:=gc.mp hf;refine⟨F0,H0,F, ρ,x,r,h1,fun v F1 H1 g1 r1=>⟨F0,H0,F1, ρ,l,r.grow g1,h2,fun F2 H2 g2=>⟨F0,H0,F2, ρ,u,(r.grow g1).grow g2,h3,fun F3 H3 g3=>?_⟩⟩⟩;have gg:=g1.trans (g2.trans g3);have r3:Rep X.K F3 x v:=r1.mono (g2.ff.trans g3.ff);cases x with
  | tup ds=>
   cases h4;obtain⟨p,xs,rfl,k1,k2⟩:=rep_tup.mp r3;have hlen:=k2.length
   by_cases wh:HT.sIx xs.length 0 l=0/\HT.sIx xs.length xs.length u=xs.length
   ·refine .inr (.inr ⟨p,xs,rfl,z0 g3.fh k1,wh.1,wh.2,q _ F3 H3 gg ?_⟩)
    have e:cutD ds l u=ds:=by
     unfold cutD;rw [hlen,wh.1,wh.2,g57,Nat.sub_zero, <- hlen,g4m]
    rw [e];exact r3
   ·refine .inr (.inl ⟨p,xs,rfl,z0 g3.fh k1,wh,fun p' hp=>?_⟩)
    have gn:Grow F3 H3 (upd F3 p' (.tup (q1y xs l u))) (upd H3 p' (.tup (q1y xs l u))):=Grow.new g3.fh hp;refine q _ _ _ (gg.trans gn) (rep_tup.mpr ⟨p',_,rfl,SqT.of za,?_⟩);unfold cutD q1y;rw [hlen];exact((k2.mono gn.ff).drop _).take _
  | lst ds=>
   cases h4;obtain⟨p,xs,rfl,k1,k2⟩:=rep_lst.mp r3;have hlen:=k2.length;refine .inl ⟨p,xs,rfl,g3.fh.seq k1,fun p' hp=>?_⟩;have gn:Grow F3 H3 (upd F3 p' (.lst (q1y xs l u))) (upd H3 p' (.lst (q1y xs l u))):=Grow.new g3.fh hp;refine q _ _ _ (gg.trans gn) (rep_lst.mpr ⟨p',_,rfl,SqL.of za,?_⟩);unfold cutD q1y;rw [hlen];exact((k2.mono gn.ff).drop _).take _
  | _=>cases h4
def qa1:D->D->Option D
 | .tup xs,.tup ys=>if xs.length+ys.length<=lim then some (.tup (xs++ys)) else none
 | .lst xs,.lst ys=>if xs.length+ys.length<=lim then some (.lst (xs++ys)) else none
 | _,_=>none
theorem qxp:OpR X (binaryOp .Add) (rD X.K qa1):=by
 intro pins s σ H x y v u Q I rx ry h;obtain⟨F,d1,d2,d,fh,r1,r2,ho,q⟩:=h;unfold qa1 at ho
 split at ho
 ·rename_i ds es
  split at ho
  ·rename_i hl
   cases ho;obtain⟨a,xs,rfl,k1,k2⟩:=rep_tup.mp r1;obtain⟨b,ys,rfl,k3,k4⟩:=rep_tup.mp r2
   by_cases hd:ds=[]
   ·subst hd
    cases k2.nil_inv;cases rx;cases ry;obtain⟨i1,v1,⟨⟨c1,dd1,dt1,sl1⟩,o1,e1,n1,t1⟩,_⟩:=I.tuple (z0 fh k1);obtain⟨i2,v2,⟨⟨c2,dd2,dt2,sl2⟩,o2,e2,n2,t2⟩,_⟩:=I.tuple (z0 fh k3);simp only at e1 t1 e2 t2;subst e1 t1 e2 t2;cases v1;exact g4h ⟨_,o1,rfl⟩ ⟨_,o2,rfl⟩ g4i seq_tuple_add g2w g2p (g2e _ _)
     (tuple_addW0 a b #[] i2.toArray n1 n2 dd1 dd2 sl1 sl2 rfl) ⟨o1,o2,⟨.ref b,H,I,rfl,q _ F H (.refl fh) (by simpa using r2)⟩⟩
   ·refine qug pins s σ H _ _ v u Q I rx ry ⟨a,b,xs,ys,rfl,rfl,z0 fh k1,z0 fh k3,fun z=>hd ?_,xn (by rw [<- k2.length, <- k4.length];exact hl),fun z=>?_,fun z p hp=>?_⟩
    ·have:=k2.length;rw [z] at this;exact g3m this
    ·have e:es=[]:=by have:=k4.length;rw [z] at this;exact g3m this
     subst e;rw [ny] at q;exact q _ F H (.refl fh) r1
    ·have gn:Grow F H (upd F p (.tup (xs++ys))) (upd H p (.tup (xs++ys))):=Grow.new fh hp
     exact q _ _ _ gn (rep_tup.mpr ⟨p,_,rfl,SqT.of za,(k2.mono gn.ff).append (k4.mono gn.ff)⟩)
  ·cases ho
 ·rename_i ds es
  split at ho
  ·rename_i hl
   cases ho;obtain⟨a,xs,rfl,k1,k2⟩:=rep_lst.mp r1;obtain⟨b,ys,rfl,k3,k4⟩:=rep_lst.mp r2;cases rx;cases ry;obtain⟨i1,v1,⟨⟨c1,dd1,dt1,sl1⟩,n1,o1,e1,g1,t1⟩,_⟩:=I.list (fh.seq k1);obtain⟨i2,v2,⟨⟨c2,dd2,dt2,sl2⟩,n2,o2,e2,g2,t2⟩,_⟩:=I.list (fh.seq k3);simp only at e1 t1 e2 t2;subst e1 t1 e2 t2;have hz:xs.length+ys.length<=sizeLine:=xn (by rw [<- k2.length, <- k4.length];exact hl);refine g4h ⟨_,o1,rfl⟩ ⟨_,o2,rfl⟩ noFill_list_add seq_list_add PySem.F.slot_list_add PySem.F.entry_list_add (PySem.F.args_list_add_2 _ _)
    (list_addW a b i1.toArray i2.toArray n1 n2 dd1 dd2 sl1 sl2 (by rw [gq,gq, <- v1.length, <- v2.length];exact hz)) ⟨o1,o2,?_⟩
   have ea:i1.toArray++i2.toArray=(i1++i2).toArray:=by simp
   rw [ea];have gn:Grow F H (upd F s.heap.objs.size (.lst (xs++ys))) (upd H s.heap.objs.size (.lst (xs++ys))):=Grow.new fh I.fresh;exact⟨.ref _,_,I.lnew (t':=s.toks) (v1.append v2) (by rw [ng];exact hz),rfl,q _ _ _ gn (rep_lst.mpr ⟨_,_,rfl,SqL.of za,(k2.mono gn.ff).append (k4.mono gn.ff)⟩)⟩
  ·cases ho
 ·cases ho
abbrev zw:D->D->Option D:=fun x y=>(oAdd x y).or (qa1 x y)
theorem jb:OpR X (binaryOp .Add) (rD X.K zw):=qb8 qxg qxp
def flat(d:D): Bool:=(flD d).isSome
def eqF:D->D->Bool
 | .non,.non=>true
 | .bl a,.bl b=>a==b
 | .bl a,.int b=>(if a then 1 else 0)==b
 | .int a,.bl b=>a==(if b then 1 else 0)
 | .int a,.int b=>a==b
 | .str a,.str b=>a==b
 | _,_=>false
def inF(d:D)(ds:List D): Bool:=ds.any fun e=>eqF e d
theorem qfo{K:Frag}{H:Hp}{d e:D}{x y:V}(h1:flat d=true)(h2:flat e=true)(r1:Rep K H d x)(r2:Rep K H e y): eqV x y=eqF d e/\q04 x=true/\q04 y=true:=by
 cases d <;> first|(cases h1;done)|skip
 all_goals (cases e <;> first|(cases h2;done)|skip)
 all_goals (first|(cases rep_non.mp r1)|(cases rep_bl.mp r1)|(cases rep_int.mp r1)|(cases rep_str.mp r1))
 all_goals (first|(cases rep_non.mp r2)|(cases rep_bl.mp r2)|(cases rep_int.mp r2)|(cases rep_str.mp r2))
 all_goals exact⟨rfl,rfl,rfl⟩
theorem qly{K:Frag}{H:Hp}{d:D}{x:V}(h1:flat d=true)(r1:Rep K H d x): ∀ {ds:List D} {xs:List V},ds.all flat=true->RepL K H ds xs->inV x xs=inF d ds/\q04 x=true/\xs.all q04=true
 | [],xs,_,r=>by cases r.nil_inv;exact⟨rfl,(qfo h1 h1 r1 r1).2.1,rfl⟩
 | e :: ds,xs,h2,r=>by
  obtain⟨y,ys,rfl,k1,k2⟩:=r.cons_inv;rw [g2z,mn] at h2;obtain⟨z1,z2,z3⟩:=qly h1 r1 h2.2 k2;obtain⟨w1,w2,w3⟩:=qfo h2.1 h1 k1 r1;refine⟨?_,z2,?_⟩
  ·show(eqV y x || inV x ys)=(eqF e d || inF d ds)
   rw [w1,z1]
  ·rw [g2z,w2,z3];rfl
def oIn(neg:Bool): D->D->Option D
 | d,.tup ds=>if flat d&&ds.all flat then some (.bl (if neg then !inF d ds else inF d ds)) else none
 | d,.lst ds=>if flat d&&ds.all flat then some (.bl (if neg then !inF d ds else inF d ds)) else none
 | _,_=>none
theorem qtk{K:Frag}{neg:Bool}{x y:V}{H:Hp}{Q:VK}(h:rD K (oIn neg) x y H Q): rIn K neg x y H Q:=by
 obtain⟨F,d1,d2,d,fh,r1,r2,ho,q⟩:=h;cases d2 <;> simp only [oIn] at ho <;> first|(cases ho;done)|skip
 ·split at ho
  ·rename_i hc
   cases ho;rw [mn] at hc;obtain⟨p,xs,rfl,k1,k2⟩:=rep_tup.mp r2;obtain⟨z1,z2,z3⟩:=qly hc.1 r1 hc.2 k2;exact⟨p,xs,rfl,.inr (z0 fh k1),z2,z3,by rw [z1];exact q _ F H (.refl fh) (rep_bl.mpr rfl)⟩
  ·cases ho
 ·split at ho
  ·rename_i hc
   cases ho;rw [mn] at hc;obtain⟨p,xs,rfl,k1,k2⟩:=rep_lst.mp r2;obtain⟨z1,z2,z3⟩:=qly hc.1 r1 hc.2 k2;exact⟨p,xs,rfl,.inl (fh.seq k1),z2,z3,by rw [z1];exact q _ F H (.refl fh) (rep_bl.mpr rfl)⟩
  ·cases ho
theorem z0f:OpR X (compareOp .In) (rD X.K (oIn false)):=q19 qnp fun x y H Q h=>qtk h
theorem qgj:OpR X (compareOp .NotIn) (rD X.K (oIn true)):=q19 qgb fun x y H Q h=>qtk h
end
mutual
def eqD:D->D->Bool
 | .tup ds,.tup es=>eqL ds es
 | .lst ds,.lst es=>eqL ds es
 | d,e=>eqF d e
def eqL:List D->List D->Bool
 | [],[]=>true
 | d :: ds,e :: es=>eqD d e&&eqL ds es
 | _,_=>false
end
mutual
def okE:D->D->Bool
 | .tup ds,.tup es=>xo ds es
 | .lst ds,.lst es=>xo ds es
 | d,e=>flat d&&flat e
def xo:List D->List D->Bool
 | d :: ds,e :: es=>okE d e&&xo ds es
 | _,_=>true
end
mutual
def kg:D->Nat
 | .tup ds=>xp ds+1
 | .lst ds=>xp ds+1
 | _=>0
def xp:List D->Nat
 | []=>0
 | d :: ds=>max (kg d) (xp ds)
end
def eqJ(ds es:List D)(j:Nat): Bool:=match ds[j]?,es[j]? with
 | some d,some e=>eqD d e
 | _,_=>true
theorem yl:∀(ds es:List D),((List.range (min ds.length es.length)).all (eqJ ds es)&&ds.length==es.length)=eqL ds es
 | [],[]=>by simp [eqL]
 | [],e :: es=>by simp [eqL]
 | d :: ds,[]=>by simp [eqL]
 | d :: ds,e :: es=>by
  have ih:=yl ds es;have e1:min (d :: ds).length (e :: es).length=min ds.length es.length+1:=by simp only [mv];lia
  rw [e1,g1p,g2z,List.all_map];have e2:(eqJ (d :: ds) (e :: es) ∘ Nat.succ)=eqJ ds es:=by funext j;simp [eqJ]
  have e3:eqJ (d :: ds) (e :: es) 0=eqD d e:=by simp [eqJ]
  have e4:((d :: ds).length==(e :: es).length)=(ds.length==es.length):=by simp
  rw [e2,e3,e4,Bool.and_assoc,ih];simp only [eqL]
theorem qgk{d e:D}(h1:flat d=true)(h2:flat e=true): eqD d e=eqF d e:=by
 cases d <;> first|(cases h1;done)|skip
 all_goals (cases e <;> first|(cases h2;done)|skip)
 all_goals simp only [eqD]
section
variable{X:Cx}{pins:Td}{σ : St}{F H:Hp}{s:Shared}
theorem qo4{A:Around}{d e:D}{x y:V}{u v:Value}(h1:flat d=true)(h2:flat e=true)(r1:Rep X.K F d x)(r2:Rep X.K F e y)(q1:RelV x u)(q2:RelV y v): SeqAt.EqAt A s u v (eqD d e):=by
 obtain⟨z1,z2,z3⟩:=qfo h1 h2 r1 r2;rw [qgk h1 h2, <- z1];exact qnn q1 q2 z2 z3
theorem qgl{d e:D}(h:okE d e=true): (∃ds es,d=.tup ds/\e=.tup es/\xo ds es=true)\/(∃ds es,d=.lst ds/\e=.lst es/\xo ds es=true)\/(flat d=true/\flat e=true):=by
 cases d <;> cases e <;> simp only [okE,mn] at h <;> first
  | exact .inl ⟨_,_,rfl,rfl,h⟩
  | exact .inr (.inl ⟨_,_,rfl,rfl,h⟩)
  | exact .inr (.inr h)
theorem qke(I:Inv X pins σ H s)(fh:Same F H): ∀ {d e:D} {x:V},okE d e=true->Rep X.K F d x->Rep X.K F e x->eqD d e=true:=by
 suffices hh:∀n,(∀d e x,sizeOf d<n->okE d e=true->Rep X.K F d x->Rep X.K F e x->eqD d e=true) from fun {d e x}=>hh (sizeOf d+1) d e x (t8 _)
 intro n
 induction n with
 | zero=>intro d e x h;exact absurd h (t7 _)
 | succ n ih=>
  intro d e x hn ok r1 r2;have seq:∀(ds es:List D) (xs:List V),sizeOf ds<n->xo ds es=true->RepL X.K F ds xs->RepL X.K F es xs->eqL ds es=true:=by
   intro ds
   induction ds with
   | nil=>
    intro es xs _ _ k1 k2;cases k1.nil_inv;cases es with
    | nil=>simp only [eqL]
    | cons e es=>obtain⟨_,_,z,_⟩:=k2.cons_inv;cases z
   | cons d ds ihd=>
    intro es xs hs ho k1 k2;obtain⟨x,r,rfl,a1,a2⟩:=k1.cons_inv;cases es with
    | nil=>cases k2.nil_inv
    | cons e es=>
     obtain⟨x',r',z,b1,b2⟩:=k2.cons_inv;cases z;simp only [xo,mn] at ho;have hs1:sizeOf d<n:=by simp only [g1w] at hs;lia
     have hs2:sizeOf ds<n:=by simp only [g1w] at hs;lia
     simp only [eqL,mn];exact⟨ih d e x hs1 ho.1 a1 b1,ihd es r hs2 ho.2 a2 b2⟩
  rcases qgl ok with⟨ds,es,rfl,rfl,ho⟩|⟨ds,es,rfl,rfl,ho⟩|⟨h1,h2⟩
  ·obtain⟨a,xs,rfl,k1,k2⟩:=rep_tup.mp r1
   obtain⟨b,ys,z,k3,k4⟩:=rep_tup.mp r2;cases z;cases I.tuple_inj (z0 fh k1) (z0 fh k3);simp only [eqD];exact seq ds es xs (by simp only [D.tup.sizeOf_spec] at hn;lia) ho k2 k4
  ·obtain⟨a,xs,rfl,k1,k2⟩:=rep_lst.mp r1
   obtain⟨b,ys,z,k3,k4⟩:=rep_lst.mp r2;cases z;cases I.list_inj (fh.seq k1) (fh.seq k3);simp only [eqD];exact seq ds es xs (by simp only [D.lst.sizeOf_spec] at hn;lia) ho k2 k4
  ·obtain⟨z1,_⟩:=qfo h1 h2 r1 r2
   rw [qgk h1 h2, <- z1];cases d <;> first|(cases h1;done)|skip
   ·cases rep_non.mp r1;rfl
   ·cases rep_bl.mp r1;simp [eqV]
   ·cases rep_int.mp r1;simp [eqV]
   ·cases rep_str.mp r1;simp [eqV]
theorem qbf (I:Inv X pins σ H s) (fh:Same F H):∀ {d e:D} {x y:V} {u v:Value} (A:Around),okE d e=true->A.units+kg d<cLine->Rep X.K F d x->Rep X.K F e y->RelV x u->RelV y v->SeqAt.EqAt A s u v (eqD d e):=by
 suffices hh:∀n,(∀d e x y u v (A:Around),sizeOf d<n->okE d e=true->A.units+kg d<cLine->Rep X.K F d x->Rep X.K F e y->RelV x u->RelV y v->SeqAt.EqAt A s u v (eqD d e)) from
  fun {d e x y u v} A=>hh (sizeOf d+1) d e x y u v A (t8 _)
 intro n
 induction n with
 | zero=>intro d e x y u v A h;exact absurd h (t7 _)
 | succ n ih=>
  intro d e x y u v A hn ok hu r1 r2 q1 q2;have seq:∀(ds es:List D) (xs ys:List V) (us vs:List Value) (A:Around),sizeOf ds<n->xo ds es=true->A.units+xp ds<cLine->RepL X.K F ds xs->RepL X.K F es ys->Vals xs us->Vals ys vs ->
    ∀j (h1:j<us.length) (h2:j<vs.length),SeqAt.EqAt A s us[j] vs[j] (eqJ ds es j):=by
   intro ds
   induction ds with
   | nil=>
    intro es xs ys us vs A _ _ _ k1 _ w1 _ j h1;cases k1.nil_inv;cases w1;exact absurd h1 (t7 _)
   | cons d ds ihd=>
    intro es xs ys us vs A hs ho hu k1 k2 w1 w2 j h1 h2;obtain⟨x,r,rfl,a1,a2⟩:=k1.cons_inv;cases w1 with
    | cons p1 p2=>
     cases es with
     | nil=>cases k2.nil_inv;cases w2;exact absurd h2 (t7 _)
     | cons e es=>
      obtain⟨y,r',rfl,b1,b2⟩:=k2.cons_inv;cases w2 with
      | cons p3 p4=>
       simp only [xo,mn] at ho;have hs1:sizeOf d<n:=by simp only [g1w] at hs;lia
       have hs2:sizeOf ds<n:=by simp only [g1w] at hs;lia
       simp only [xp] at hu;cases j with
       | zero=>
        have e0:eqJ (d :: ds) (e :: es) 0=eqD d e:=by simp [eqJ]
        rw [e0];exact ih d e x y _ _ A hs1 ho.1 (by lia) a1 b1 p1 p3
       | succ j=>
        have e0:eqJ (d :: ds) (e :: es) (j+1)=eqJ ds es j:=by simp [eqJ]
        rw [e0];exact ihd es r r' _ _ A hs2 ho.2 (by lia) a2 b2 p2 p4 j (by simpa using h1) (by simpa using h2)
  rcases qgl ok with⟨ds,es,rfl,rfl,ho⟩|⟨ds,es,rfl,rfl,ho⟩|⟨h1,h2⟩
  ·have rr:=qke I fh ok r1
   obtain⟨a,xs,rfl,k1,k2⟩:=rep_tup.mp r1;obtain⟨b,ys,rfl,k3,k4⟩:=rep_tup.mp r2;cases q1;cases q2
   by_cases hab:a=b
   ·subst hab
    rw [rr r2];exact g4u _
   ·obtain⟨i1,v1,t1,_⟩:=I.tuple (z0 fh k1)
    obtain⟨i2,v2,t2,_⟩:=I.tuple (z0 fh k3);simp only [kg] at hu;refine SeqAt.EqAt.of_refs hab ?_;have hq:=seq ds es xs ys i1 i2 A.in1 (by simp only [D.tup.sizeOf_spec] at hn;lia) ho (by show A.units+1+xp ds<cLine;lia) k2 k4 v1 v2;have:=SeqAt.RcAt.tuples (A:=A) (e:=eqJ ds es) (show s.heap.IsTuple a i1.toArray from t1) (show s.heap.IsTuple b i2.toArray from t2) (by lia) (fun j h1 h2=>by simpa using hq j (by simpa using h1) (by simpa using h2));simp only [gq, <- v1.length, <- v2.length, <- k2.length, <- k4.length,yl] at this
    simpa only [eqD] using this
  ·have rr:=qke I fh ok r1
   obtain⟨a,xs,rfl,k1,k2⟩:=rep_lst.mp r1;obtain⟨b,ys,rfl,k3,k4⟩:=rep_lst.mp r2;cases q1;cases q2
   by_cases hab:a=b
   ·subst hab
    rw [rr r2];exact g4u _
   ·obtain⟨i1,v1,t1,_⟩:=I.list (fh.seq k1)
    obtain⟨i2,v2,t2,_⟩:=I.list (fh.seq k3);simp only [kg] at hu;refine SeqAt.EqAt.of_refs hab ?_;have hq:=seq ds es xs ys i1 i2 A.in1 (by simp only [D.lst.sizeOf_spec] at hn;lia) ho (by show A.units+1+xp ds<cLine;lia) k2 k4 v1 v2;have hl1:i1.length=ds.length:=by rw [<- v1.length, <- k2.length]
    have hl2:i2.length=es.length:=by rw [<- v2.length, <- k4.length]
    simp only [eqD]
    by_cases hl:ds.length=es.length
    ·have:=SeqAt.RcAt.lists (A:=A) (e:=eqJ ds es) t1.isList t2.isList (by rw [gq,gq,hl1,hl2];exact hl) (by lia) (fun j h1 h2=>by simpa using hq j (by simpa using h1) (by simpa using h2))
     have e1:(List.range i1.toArray.size).all (eqJ ds es)=eqL ds es:=by
      rw [<- yl,gq,hl1, <- hl,Nat.min_self];simp
     rw [e1] at this;exact this
    ·have e1:eqL ds es=false:=by rw [<- yl];simp [hl]
     rw [e1];exact SeqAt.RcAt.lists_lengths t1.isList t2.isList (by rw [gq,gq,hl1,hl2];simpa using hl) (by lia)
  ·exact qo4 h1 h2 r1 r2 q1 q2
def qqz:D->D->Option D
 | .tup ds,.tup es=>if xo ds es&&decide (xp ds<=60) then some (.bl (eqL ds es)) else none
 | .lst ds,.lst es=>if xo ds es&&decide (xp ds<=60) then some (.bl (eqL ds es)) else none
 | _,_=>none
theorem qxq(hu:X.A.units+64<cLine): OpR X (compareOp .Eq) (rD X.K qqz):=by
 intro pins s σ H x y v u Q I rx ry h;obtain⟨F,d1,d2,d,fh,r1,r2,ho,q⟩:=h;have part:∀ {ds es:List D} {xs ys:List V} {us vs:List Value},xo ds es=true->xp ds<=60->RepL X.K F ds xs->RepL X.K F es ys->Vals xs us->Vals ys vs ->
   ∀j (h1:j<us.length) (h2:j<vs.length),SeqAt.EqAt X.A.in1 s us[j] vs[j] (eqJ ds es j):=by
  intro ds
  induction ds with
  | nil=>
   intro es xs ys us vs _ _ k1 _ w1 _ j h1;cases k1.nil_inv;cases w1;exact absurd h1 (t7 _)
  | cons d ds ihd=>
   intro es xs ys us vs ho hd k1 k2 w1 w2 j h1 h2;obtain⟨x,r,rfl,a1,a2⟩:=k1.cons_inv;cases w1 with
   | cons p1 p2=>
    cases es with
    | nil=>cases k2.nil_inv;cases w2;exact absurd h2 (t7 _)
    | cons e es=>
     obtain⟨y,r',rfl,b1,b2⟩:=k2.cons_inv;cases w2 with
     | cons p3 p4=>
      simp only [xo,mn] at ho;simp only [xp] at hd;cases j with
      | zero=>
       have e0:eqJ (d :: ds) (e :: es) 0=eqD d e:=by simp [eqJ]
       rw [e0];exact qbf I fh _ ho.1 (by show X.A.units+1+kg d<cLine;lia) a1 b1 p1 p3
      | succ j=>
       have e0:eqJ (d :: ds) (e :: es) (j+1)=eqJ ds es j:=by simp [eqJ]
       rw [e0];exact ihd ho.2 (by lia) a2 b2 p2 p4 j (by simpa using h1) (by simpa using h2)
 unfold qqz at ho
 split at ho
 ·rename_i ds es
  split at ho
  ·rename_i hc
   cases ho;rw [mn] at hc;obtain⟨a,xs,rfl,k1,k2⟩:=rep_tup.mp r1;obtain⟨b,ys,rfl,k3,k4⟩:=rep_tup.mp r2;cases rx;cases ry;obtain⟨i1,v1,t1,_⟩:=I.tuple (z0 fh k1);obtain⟨i2,v2,t2,_⟩:=I.tuple (z0 fh k3);have hq:=part hc.1 (ur hc.2) k2 k4 v1 v2;refine SeqAt.eq_tupleAt (e:=eqJ ds es) (show s.heap.IsTuple a i1.toArray from t1) (show s.heap.IsTuple b i2.toArray from t2) (by lia) (fun j h1 h2=>by simpa using hq j (by simpa using h1) (by simpa using h2)) ?_;simp only [gq, <- v1.length, <- v2.length, <- k2.length, <- k4.length,yl];exact⟨.bl _,H,I,rfl,q _ F H (.refl fh) (rep_bl.mpr rfl)⟩
  ·cases ho
 ·rename_i ds es
  split at ho
  ·rename_i hc
   cases ho;rw [mn] at hc;obtain⟨a,xs,rfl,k1,k2⟩:=rep_lst.mp r1;obtain⟨b,ys,rfl,k3,k4⟩:=rep_lst.mp r2;cases rx;cases ry;obtain⟨i1,v1,t1,_⟩:=I.list (fh.seq k1);obtain⟨i2,v2,t2,_⟩:=I.list (fh.seq k3);have hq:=part hc.1 (ur hc.2) k2 k4 v1 v2;have hl1:i1.length=ds.length:=by rw [<- v1.length, <- k2.length]
   have hl2:i2.length=es.length:=by rw [<- v2.length, <- k4.length]
   by_cases hl:ds.length=es.length
   ·refine SeqAt.eq_listAt (e:=eqJ ds es) t1.isList t2.isList (by rw [gq,gq,hl1,hl2];exact hl) (by lia) (fun j h1 h2=>by simpa using hq j (by simpa using h1) (by simpa using h2)) ?_
    have e1:(List.range i1.toArray.size).all (eqJ ds es)=eqL ds es:=by
     rw [<- yl,gq,hl1, <- hl,Nat.min_self];simp
    rw [e1];exact⟨.bl _,H,I,rfl,q _ F H (.refl fh) (rep_bl.mpr rfl)⟩
   ·have e1:eqL ds es=false:=by rw [<- yl];simp [hl]
    rw [e1] at q;exact SeqAt.eq_list_lengthsAt t1.isList t2.isList (by rw [gq,gq,hl1,hl2];simpa using hl) (by lia) ⟨.bl _,H,I,rfl,q _ F H (.refl fh) (rep_bl.mpr rfl)⟩
  ·cases ho
 ·cases ho
abbrev oEq:D->D->Option D:=fun x y=>(qqr x y).or (qqz x y)
theorem vt(hu:X.A.units+64<cLine): OpR X (compareOp .Eq) (rD X.K oEq):=qb8 qxj (qxq hu)
end
def itN:Bool->String
 | true=>"list_iterator"
 | false=>"tuple_iterator"
def sqN:Bool->String
 | true=>"list"
 | false=>"tuple"
def SI(b:Bool)(h:Heap)(it l:Addr)(k:Nat): Prop:=∃o,h.get? it=some o/\o.cls=.type (itN b)/\o.data=.fields #[.ref l,.int k 0]
def SO(b:Bool)(h:Heap)(l:Addr)(xs:Array Value): Prop:=∃o,h.get? l=some o/\o.cls=.type (sqN b)/\∃n,o.data=.seq xs n
theorem SI.ext{b:Bool}{h h':Heap}{it l c:Addr}{k:Nat}(x:SI b h it l k)(e:Heap.ExtBut c h h')(n:it≠c): SI b h' it l k:=let⟨o,ho,r⟩:=x; ⟨o,e it o n ho,r⟩
theorem SO.ext{b:Bool}{h h':Heap}{l c:Addr}{xs:Array Value}(x:SO b h l xs)(e:Heap.ExtBut c h h')(n:l≠c): SO b h' l xs:=let⟨o,ho,r⟩:=x; ⟨o,e l o n ho,r⟩
theorem SI.keep{b:Bool}{h h':Heap}{it l:Addr}{k:Nat}(x:SI b h it l k)(e:∀o,h.get? it=some o->h'.get? it=some o): SI b h' it l k:=let⟨o,ho,r⟩:=x; ⟨o,e o ho,r⟩
section
variable{prog:Program}{w:World}{A:Around}{E:Ta}{s:Shared}
theorem qd8{b:Bool}{it l:Addr}{k:Nat}{xs:Array Value}{x:Value}{Q:Ta}(hi:SI b s.heap it l k)(ho:SO b s.heap l xs)(hx:xs[k]? = some x)
  (h:∀h',SI b h' it l (k+1)->Heap.SameBut it s.heap h'->Q x {s with heap:=h'}):wpAny (model prog w) A (Builtin.SmallTypes.nextOf (.ref it)) Q E s:=by
 cases b with
 | true=>exact wpAny_nextOf_list_item hi ho hx h
 | false=>
  obtain⟨o,e1,e2,e3⟩:=id hi;obtain⟨o2,f1,f2,n,f3⟩:=id ho;have ty:s.TypeIs (.ref it) "tuple_iterator" :=⟨o,e1,e2⟩
  unfold Builtin.SmallTypes.nextOf;refine g9 (tw (name:=Str.ofString "__next__") ty g13 (pj g13 ty g3x ?_ (g3r _)));show wpAny _ _ (field (.ref it) 0 >>= _) _ _ s;refine g9 (pz e1 e3 (x:=.ref l) rfl ?_);show wpAny _ _ (if(Value.ref l==Value.none)=true then _ else _) _ _ s;rw [mf (fun z:(Value.ref l==Value.none)=true=>gy z)];show wpAny _ _ (field (.ref it) 1 >>= _) _ _ s;refine g9 (pz e1 e3 (x:=.int k 0) rfl ?_);show wpAny _ _ (seqItems? (.ref l) >>= _) _ _ s;refine g9 (g04 f1 f3 ?_);simp only [uq,hx];refine g9 (g0b e1 e3 (by simp) (gf ⟨x,rfl,gf (h _ ⟨_,pk _ e1 (g0y (g01 e3 _)),(Obj.cls_mapFields ..).trans e2,?_⟩ (t9 ..))⟩));rw [g01 e3];simp [rawInt]
theorem qkf{b:Bool}{it l:Addr}{k:Nat}{xs:Array Value}{Q:Ta}(hh:A.handled=none)(hi:SI b s.heap it l k)(ho:SO b s.heap l xs)(hx:xs[k]? = none)
  (h:∀h' e,Heap.ExtBut it s.heap h'->(∃o,h'.get? e=some o/\o.cls=.type "StopIteration")->E (.ref e) {s with heap:=h'}):wpAny (model prog w) A (Builtin.SmallTypes.nextOf (.ref it)) Q E s:=by
 cases b with
 | true=>exact wpAny_nextOf_list_end hh hi ho hx h
 | false=>
  obtain⟨o,e1,e2,e3⟩:=id hi;obtain⟨o2,f1,f2,n,f3⟩:=id ho;have ty:s.TypeIs (.ref it) "tuple_iterator" :=⟨o,e1,e2⟩
  unfold Builtin.SmallTypes.nextOf;refine g9 (tw (name:=Str.ofString "__next__") ty g13 (pj g13 ty g3x ?_ (g3r _)));show wpAny _ _ (field (.ref it) 0 >>= _) _ _ s;refine g9 (pz e1 e3 (x:=.ref l) rfl ?_);show wpAny _ _ (if(Value.ref l==Value.none)=true then _ else _) _ _ s;rw [mf (fun z:(Value.ref l==Value.none)=true=>gy z)];show wpAny _ _ (field (.ref it) 1 >>= _) _ _ s;refine g9 (pz e1 e3 (x:=.int k 0) rfl ?_);show wpAny _ _ (seqItems? (.ref l) >>= _) _ _ s;refine g9 (g04 f1 f3 ?_);simp only [uq,hx];refine g9 (g0f (g9 (g0b e1 e3 (by simp) ?_)));show wpAny _ _ (newExc (.type "StopIteration") [] >>= _) _ _ _;refine g9 ?_;simp only [newExc,newTuple];refine g9 (pb (g9 (m:=firstArgMember _ _) (g50 (a:=Value.none) (by first|rfl|(simp only [firstArgMember];rfl)) (pb ?_ (by size_fits)))) (by size_fits));simp only [raiseNew];refine g9 (wpAny_handled ?_)
  first|rw [show A.in1.handled=none from hh]|rw [hh]
  exact g9 (gf (wpAny_throw (h _ _ (((t9 ..).extBut.push _).push _) ⟨_,gs _ rfl,rfl⟩)))
structure Z5(z ti to i1 i2:Addr): Prop where
 a1:ti≠z
 a2:to≠z
 a3:i1≠z
 a4:i2≠z
 a5:ti≠to
 a6:ti≠i1
 a7:ti≠i2
 a8:to≠i1
 a9:to≠i2
 a10:i1≠i2
structure Off(l z to i1 i2:Addr): Prop where
 z:l≠z
 o:l≠to
 i:l≠i1
 j:l≠i2
theorem qo5{b1 b2:Bool}{z ti to i1 i2 l1 l2:Addr}{k1 k2:Nat}{xs ys:Array Value}{x y p q:Value}{Q:Ta}(D:Z5 z ti to i1 i2)(m1:Off l1 z to i1 i2)(m2:Off l2 z to i1 i2)
  (hz:IsZip s.heap z ti to .none) (ht:IsPair s.heap ti (.ref i1) (.ref i2)) (hp:IsPair s.heap to p q)
  (h1:SI b1 s.heap i1 l1 k1) (h2:SI b2 s.heap i2 l2 k2) (o1:SO b1 s.heap l1 xs) (o2:SO b2 s.heap l2 ys) (hx:xs[k1]? = some x) (hy:ys[k2]? = some y)
  (hQ:∀h',IsZip h' z ti to (rawInt s.heap.objs.size)->IsPair h' to x y->SI b1 h' i1 l1 (k1+1)->SI b2 h' i2 l2 (k2+1)->IsPair h' s.heap.objs.size x y->h'.objs.size=s.heap.objs.size+1 ->
   (∀c o,c≠z->c≠to->c≠i1->c≠i2->s.heap.get? c=some o->h'.get? c=some o)->Q (.ref s.heap.objs.size) {s with heap:=h'}) :
  wpAny (model prog w) A (Builtin.«zip.__next__» ⟨[.ref z],[]⟩) (fun fin s'=>∃v,fin=.done (.ret v)/\Q v s') E s:=by
 show wpAny _ _ (field (.ref z) 2 >>= _) _ _ _;refine g9 (pz hz rfl (x:=.bool false) rfl ?_);show wpAny _ _ (field (.ref z) 3 >>= _) _ _ _;refine g9 (pz hz rfl (x:=.ref ti) rfl (g9 (g04 ht rfl ?_)));show wpAny _ _ (Builtin.SmallTypes.ownedTupleIsFree (.ref z) >>= _) _ _ _;refine g9 ?_;unfold Builtin.SmallTypes.ownedTupleIsFree;refine g9 (pz hz rfl (x:=.none) rfl (gf ?_));simp only [uh];refine g9 (g0f (g9 (pz hz rfl (x:=.ref to) rfl (g9 (g0v hz (by simp) fun g1 hz1 u1=>?_)))));have hz1':IsZip g1 z ti to .ellipsis:=hz1;refine g9 ?_;simp only [List.zipIdx_cons,List.zipIdx_nil,g1k,g2l];refine g9 (g9 (g42 ?_));show wpAny _ _ (Builtin.SmallTypes.nextOf (.ref i1) >>= _) _ _ _;refine g9 (qd8 (h1.ext u1.extBut D.a3) (o1.ext u1.extBut m1.z) hx fun g2 n1 u2=>gf ?_);have hp2:IsPair g2 to p q:=u2.extBut _ _ D.a8 (u1.extBut _ _ D.a2 hp);refine g9 (g04 hp2 rfl (g9 (g3g hp2 fun g3 hp3 u3=>?_)));have hp3':IsPair g3 to x q:=hp3;refine g9 (g51 (gf (g9 (g9 (g42 ?_)))));show wpAny _ _ (Builtin.SmallTypes.nextOf (.ref i2) >>= _) _ _ _;refine g9 (qd8 (((h2.ext u1.extBut D.a4).ext u2.extBut D.a10.symm).ext u3.extBut D.a9.symm) (((o2.ext u1.extBut m2.z).ext u2.extBut m2.i).ext u3.extBut m2.o) hy fun g4 n2 u4=>gf ?_);have hp4:IsPair g4 to x q:=u4.extBut _ _ D.a9 hp3';refine g9 (g04 hp4 rfl (g9 (g3g hp4 fun g5 hp5 u5=>?_)));have hp5':IsPair g5 to x y:=hp5;refine g9 (g51 (gf (gf (g9 (g04 hp5' rfl (g9 (wpAny_newTuple ?_)))))));have hsz:g5.objs.size=s.heap.objs.size:=by rw [u5.1,u4.1,u3.1,u2.1,u1.1]
 have hz5:IsZip g5 z ti to .ellipsis:=u5.extBut _ _ D.a2.symm (u4.extBut _ _ D.a4.symm (u3.extBut _ _ D.a2.symm (u2.extBut _ _ D.a3.symm hz1')));have kp:∀c o,c≠z->c≠to->c≠i1->c≠i2->s.heap.get? c=some o->g5.get? c=some o:=fun c o c1 c2 c3 c4 e=>u5.extBut _ _ c2 (u4.extBut _ _ c4 (u3.extBut _ _ c2 (u2.extBut _ _ c3 (u1.extBut _ _ c1 e))));have j1:SI b1 g5 i1 l1 (k1+1):=((n1.ext u3.extBut D.a8.symm).ext u4.extBut D.a10).ext u5.extBut D.a8.symm;have j2:SI b2 g5 i2 l2 (k2+1):=n2.ext u5.extBut D.a9.symm;have hzl:z<g5.objs.size:=gu hz5;show wpAny _ _ (Builtin.SmallTypes.ownedTupleHandOut (.ref z) (.ref g5.objs.size) >>= _) _ _ _;refine g9 ?_;unfold Builtin.SmallTypes.ownedTupleHandOut;have hz6:IsZip (g5.push {cls:=.type "tuple",data:=.seq #[x,y]}) z ti to .ellipsis:=gh _ hz5;refine g9 (g0v hz6 (by simp) fun g7 hz7 u7=>?_);have hz7':IsZip g7 z ti to (rawInt g5.objs.size):=hz7;refine g0v hz7' (by simp) fun g8 hz8 u8=>?_;have hz8':IsZip g8 z ti to (rawInt g5.objs.size):=hz8;have up:∀c o,c≠z->g5.get? c=some o->g8.get? c=some o:=fun c o c1 e=>u8.extBut _ _ c1 (u7.extBut _ _ c1 (gh _ e));have hT:IsPair g8 g5.objs.size x y:=u8.extBut _ _ (pd hzl) (u7.extBut _ _ (pd hzl) (gs _ rfl));have hl8:g8.objs.size=g5.objs.size+1:=by rw [u8.1,u7.1,ph]
 rw [hsz] at hz8' hT hl8;refine gf ⟨_,rfl,?_⟩;show Q (.ref g5.objs.size) _;rw [hsz];exact hQ g8 hz8' (up _ _ D.a2 hp5') (j1.keep fun o e=>up _ o D.a3 e) (j2.keep fun o e=>up _ o D.a4 e) hT hl8 fun c o c1 c2 c3 c4 e=>up c o c1 (kp c o c1 c2 c3 c4 e)
theorem qr0{b1 b2:Bool}{z ti to i1 i2 l1 l2:Addr}{k1 k2:Nat}{xs ys:Array Value}{p q:Value}{Q:Fin->Shared->Prop}(hh:A.handled=none)(D:Z5 z ti to i1 i2)(m1:Off l1 z to i1 i2)(m2:Off l2 z to i1 i2)
  (hz:IsZip s.heap z ti to .none) (ht:IsPair s.heap ti (.ref i1) (.ref i2)) (hp:IsPair s.heap to p q)
  (h1:SI b1 s.heap i1 l1 k1) (h2:SI b2 s.heap i2 l2 k2) (o1:SO b1 s.heap l1 xs) (o2:SO b2 s.heap l2 ys) (hend:xs[k1]? = none\/ys[k2]? = none)
  (hE:∀h' e,(∀c o,c≠z->c≠to->c≠i1->c≠i2->s.heap.get? c=some o->h'.get? c=some o)->(∃o,h'.get? e=some o/\o.cls=.type "StopIteration")->E (.ref e) {s with heap:=h'}) :
  wpAny (model prog w) A (Builtin.«zip.__next__» ⟨[.ref z],[]⟩) Q E s:=by
 show wpAny _ _ (field (.ref z) 2 >>= _) _ _ _;refine g9 (pz hz rfl (x:=.bool false) rfl ?_);show wpAny _ _ (field (.ref z) 3 >>= _) _ _ _;refine g9 (pz hz rfl (x:=.ref ti) rfl (g9 (g04 ht rfl ?_)));show wpAny _ _ (Builtin.SmallTypes.ownedTupleIsFree (.ref z) >>= _) _ _ _;refine g9 ?_;unfold Builtin.SmallTypes.ownedTupleIsFree;refine g9 (pz hz rfl (x:=.none) rfl (gf ?_));simp only [uh];refine g9 (g0f (g9 (pz hz rfl (x:=.ref to) rfl (g9 (g0v hz (by simp) fun g1 hz1 u1=>?_)))));have hz1':IsZip g1 z ti to .ellipsis:=hz1;refine g9 ?_;simp only [List.zipIdx_cons,List.zipIdx_nil,g1k,g2l];refine g9 (g9 (g42 ?_));show wpAny _ _ (Builtin.SmallTypes.nextOf (.ref i1) >>= _) _ _ _;cases hx:xs[k1]? with
 | none=>
  refine g9 (qkf hh (h1.ext u1.extBut D.a3) (o1.ext u1.extBut m1.z) hx fun g2 e u2 he=>?_);obtain⟨oe,y1,y2⟩:=he;have hz2:IsZip g2 z ti to .ellipsis:=u2 _ _ D.a3.symm hz1';have ne:e≠z:=fun x=>by subst x;rw [hz2] at y1;cases y1;simp at y2
  exact g0v hz2 (by simp) fun g3 _ u3=>hE g3 e (fun c o c1 _ c3 _ x=>u3.extBut _ _ c1 (u2 _ _ c3 (u1.extBut _ _ c1 x))) ⟨oe,u3.extBut _ _ ne y1,y2⟩
 | some x=>
  have hy:ys[k2]? = none:=by rcases hend with h|h;rw [hx] at h;cases h;exact h
  refine g9 (qd8 (h1.ext u1.extBut D.a3) (o1.ext u1.extBut m1.z) hx fun g2 n1 u2=>gf ?_);have hp2:IsPair g2 to p q:=u2.extBut _ _ D.a8 (u1.extBut _ _ D.a2 hp);refine g9 (g04 hp2 rfl (g9 (g3g hp2 fun g3 hp3 u3=>?_)));refine g9 (g51 (gf (g9 (g9 (g42 ?_)))));show wpAny _ _ (Builtin.SmallTypes.nextOf (.ref i2) >>= _) _ _ _;refine g9 (qkf hh (((h2.ext u1.extBut D.a4).ext u2.extBut D.a10.symm).ext u3.extBut D.a9.symm) (((o2.ext u1.extBut m2.z).ext u2.extBut m2.i).ext u3.extBut m2.o) hy fun g4 e u4 he=>?_);obtain⟨oe,y1,y2⟩:=he;have hz4:IsZip g4 z ti to .ellipsis:=u4 _ _ D.a4.symm (u3.extBut _ _ D.a2.symm (u2.extBut _ _ D.a3.symm hz1'));have ne:e≠z:=fun x=>by subst x;rw [hz4] at y1;cases y1;simp at y2
  exact g0v hz4 (by simp) fun g5 _ u5=>hE g5 e (fun c o c1 c2 c3 c4 x=>u5.extBut _ _ c1 (u4 _ _ c4 (u3.extBut _ _ c2 (u2.extBut _ _ c3 (u1.extBut _ _ c1 x))))) ⟨oe,u5.extBut _ _ ne y1,y2⟩
theorem qlz{b1 b2:Bool}{z ti to i1 i2 l1 l2:Addr}{k1 k2:Nat}{xs ys:Array Value}{x y p q:Value}{Q:Option Value->Shared->Prop}(D:Z5 z ti to i1 i2)(m1:Off l1 z to i1 i2)(m2:Off l2 z to i1 i2)
  (hz:IsZip s.heap z ti to .none) (ht:IsPair s.heap ti (.ref i1) (.ref i2)) (hp:IsPair s.heap to p q)
  (h1:SI b1 s.heap i1 l1 k1) (h2:SI b2 s.heap i2 l2 k2) (o1:SO b1 s.heap l1 xs) (o2:SO b2 s.heap l2 ys) (hx:xs[k1]? = some x) (hy:ys[k2]? = some y)
  (hQ:∀h',IsZip h' z ti to (rawInt s.heap.objs.size)->IsPair h' to x y->SI b1 h' i1 l1 (k1+1)->SI b2 h' i2 l2 (k2+1)->IsPair h' s.heap.objs.size x y->h'.objs.size=s.heap.objs.size+1 ->
   (∀c o,c≠z->c≠to->c≠i1->c≠i2->s.heap.get? c=some o->h'.get? c=some o)->Q (some (.ref s.heap.objs.size)) {s with heap:=h'}) :
  wpAny (model prog w) A (pyNext (.ref z)) Q E s:=by
 have ty:s.TypeIs (.ref z) "zip" :=⟨_,hz,rfl⟩
 unfold pyNext;exact g9 (g1i (tw (name:=Str.ofString "__next__") ty g3h (pj g3h ty F.entry_zip_next
  (qo5 D m1 m2 hz ht hp h1 h2 o1 o2 hx hy fun h' c1 c2 c3 c4 c5 c6 c7=>gf (hQ h' c1 c2 c3 c4 c5 c6 c7)) (F.args_zip_next_1 _))))
theorem qf7{b1 b2:Bool}{z ti to i1 i2 l1 l2:Addr}{k1 k2:Nat}{xs ys:Array Value}{p q:Value}{Q:Option Value->Shared->Prop}(hh:A.handled=none)(D:Z5 z ti to i1 i2)(m1:Off l1 z to i1 i2)(m2:Off l2 z to i1 i2)
  (hz:IsZip s.heap z ti to .none) (ht:IsPair s.heap ti (.ref i1) (.ref i2)) (hp:IsPair s.heap to p q)
  (h1:SI b1 s.heap i1 l1 k1) (h2:SI b2 s.heap i2 l2 k2) (o1:SO b1 s.heap l1 xs) (o2:SO b2 s.heap l2 ys) (hend:xs[k1]? = none\/ys[k2]? = none)
  (hQ:∀h',(∀c o,c≠z->c≠to->c≠i1->c≠i2->s.heap.get? c=some o->h'.get? c=some o)->Q none {s with heap:=h'}):wpAny (model prog w) A (pyNext (.ref z)) Q E s:=by
 have ty:s.TypeIs (.ref z) "zip" :=⟨_,hz,rfl⟩
 unfold pyNext;refine g9 (g1i (tw (name:=Str.ofString "__next__") ty g3h (pj g3h ty F.entry_zip_next
  (qr0 hh D m1 m2 hz ht hp h1 h2 o1 o2 hend fun h' e hk he=>?_) (F.args_zip_next_1 _))))
 obtain⟨o,y1,y2⟩:=he;exact g9 (g22 (T:="StopIteration") (b:=true) ⟨o,y1,y2⟩ isSubtype_stop (gf (hQ _ hk)))
theorem qef{b:Bool}{l:Addr}{xs:Array Value}{Q:Ta}(h:SO b s.heap l xs)(q:Q (.ref s.heap.objs.size) {s with heap:=s.heap.push {cls:=.type (itN b),data:=.fields #[.ref l,.int 0 0]} }):
  wpAny (model prog w) A (pyIter (.ref l)) Q E s:=by
 cases b with
 | true=>exact g1q h q
 | false=>exact g2h h q
end
def zh1(b1:Bool)(h:Heap)(l1:Addr): Heap:=h.push {cls:=.type (itN b1),data:=.fields #[.ref l1,.int 0 0]}
def zh2(b1 b2:Bool)(h:Heap)(l1 l2:Addr): Heap:=(zh1 b1 h l1).push {cls:=.type (itN b2),data:=.fields #[.ref l2,.int 0 0]}
def zh3(b1 b2:Bool)(h:Heap)(l1 l2:Addr): Heap:=(zh2 b1 b2 h l1 l2).push {cls:=.type "tuple",data:=.seq #[.ref h.objs.size,.ref (zh1 b1 h l1).objs.size]}
def zh4(b1 b2:Bool)(h:Heap)(l1 l2:Addr): Heap:=(zh3 b1 b2 h l1 l2).push {cls:=.type "tuple",data:=.seq #[.none,.none]}
def zh5(b1 b2:Bool)(h:Heap)(l1 l2:Addr): Heap:=(zh4 b1 b2 h l1 l2).push {cls:=.type "zip",data:=.fields #[.none,.bool false,.bool false,.ref (zh2 b1 b2 h l1 l2).objs.size,.ref (zh3 b1 b2 h l1 l2).objs.size]}
theorem SO.push{b:Bool}{h:Heap}{l:Addr}{xs:Array Value}(x:SO b h l xs)(o:Obj): SO b (h.push o) l xs:=let⟨u,e,r⟩:=x; ⟨u,gh _ e,r⟩
theorem qm0(b1 b2:Bool)(l1 l2:Addr)(xs ys:Array Value):
  Meets (Builtin.«zip.__new__» ⟨[.type "zip",.ref l1,.ref l2],[]⟩) (fun _ R s=>SO b1 s.heap l1 xs/\SO b2 s.heap l2 ys/\R (.ok (.ret (.ref (zh4 b1 b2 s.heap l1 l2).objs.size))) {s with heap:=zh5 b1 b2 s.heap l1 l2}):=
 .of_wp fun prog w A R s h=>by
  obtain⟨hp,gg,dd,tk,os⟩:=s;obtain⟨ha,hb,h⟩:=h;have hsub:=sub_zip;have f1:SO b1 (Shared.heap ⟨hp,gg,dd,tk,os⟩) l1 xs:=ha;have f2:SO b2 (Shared.heap ⟨hp.push {cls:=.type (itN b1),data:=.fields #[.ref l1,.int 0 0]},gg,dd,tk,os⟩) l2 ys:=SO.push hb _
  wp_walk using qef f1,qef f2
  exact⟨_,rfl,h⟩
section
variable{X:Cx}{pins:Td}{σ : St}{H:Hp}{s:Shared}{h':Heap}
theorem qkg{fp:List Addr}{t':Nat}(I:Inv X pins σ H s)(hf:∀b∈fp,q09 X pins H b)(k:∀b o,b∉fp->s.heap.get? b=some o->h'.get? b=some o): Inv X pins σ H {s with heap:=h',toks:=t'}:=by
 have nin:∀b u,H b=some u->b∉fp:=fun b u e hb=>by rw [(hf b hb).1] at e;cases e
 refine I.step (g':=s.gens) (d':=s.drawn) (ch:=fp) (fun b hb=>?_) (fun b o _ _ hc e _=>k b o hc e) (fun b o _ _ hc e _=>⟨o.slots,k b o hc e⟩) (fun _ _ _ _ n=>n)
  (fun b o hc e=>⟨o,k b o hc e⟩) (fun _ _ e=>e) (fun _ _ _ e=>e) (fun b ps e=>⟨#[],by rw [e];simp⟩) (fun m hm=>?_) (fun b u e=>?_) I.bare
 ·obtain⟨_,f1,_,f3,f4,f5⟩:=hf b hb
  exact⟨f3,f1,f4,f5⟩
 ·obtain⟨o,es,ep,ho,r⟩:=hm
  exact⟨o,es,ep,k _ o (fun z=>(hf _ z).2.1 rfl) ho,r⟩
 ·refine(I.hok b u e).stay (fun c v hc q=>k c v ?_ q) (fun _ q=>q) fun _ _ q=>q
  rcases hc with z|z
  ·rw [z];exact nin b u e
  ·exact nin c _ z
theorem adopt{p:Addr}{o:HO}(I:Inv X pins σ H s)(f:q09 X pins H p)(new:ObjOk X.prog X.w (upd H p o) s.heap p o): Inv X pins σ (upd H p o) s:=by
 have hp:=f.1;obtain⟨_,f1,_,f3,f4,f5⟩:=f;have ne:∀ {b:Addr} {u:HO},H b=some u->upd H p o b=some u:=fun {b u} e=>by rw [qr (jt e hp)];exact e
 refine I.step (h':=s.heap) (g':=s.gens) (t':=s.toks) (d':=s.drawn) (ch:=[p]) (fun b hb=>?_) (fun b o _ _ hc e _=>e) (fun b o _ _ hc e _=>⟨o.slots,e⟩) (fun b o hc e n=>?_)
  (fun b o hc e=>⟨o,e⟩) (fun _ _ e=>ne e) (fun _ _ _ e=>ne e) (fun b ps e=>⟨#[],by rw [ne e];simp⟩) (fun m hm=>hm) (fun b u e=>?_) I.bare
 ·obtain rfl:b=p:=by simpa using hb
  exact⟨f3,f1,f4,f5⟩
 ·rw [qr (fun z=>hc (by simp [z]))];exact n
 ·by_cases hb:b=p
  ·subst hb;rw [za] at e;cases e;exact new
  ·rw [qr hb] at e
   exact(I.hok b u e).stay (fun c v _ q=>q) (fun c q=>ne q) fun c xs q=>ne q
def Sq:Bool->Frag->Hp->Addr->List V->Prop
 | true=>SqL
 | false=>SqT
theorem q8p{b:Bool}{a:Addr}{xs:List V}(I:Inv X pins σ H s)(h:Sq b X.K H a xs): ∃its:List Value,Vals xs its/\SO b s.heap a its.toArray:=by
 cases b with
 | true=>obtain⟨its,r,⟨o,n,e,c,_,d⟩,_⟩:=I.list h;exact⟨its,r,o,e,c,n,d⟩
 | false=>obtain⟨its,r,⟨o,e,c,n,d⟩,_⟩:=I.tuple h;exact⟨its,r,o,e,c,n,d⟩
theorem qo6{b:Bool}{a:Addr}{xs ys:List V}(I:Inv X pins σ H s)(h:Sq b X.K H a xs)(h':Sq b X.K H a ys): xs=ys:=by
 cases b with
 | true=>exact I.list_inj h h'
 | false=>exact I.tuple_inj h h'
theorem q0i{b:Bool}{K:Frag}{F H:Hp}{a:Addr}{xs:List V}(e:Same F H)(h:Sq b K F a xs): Sq b K H a xs:=by
 cases b with
 | true=>exact e.seq h
 | false=>exact z0 e h
theorem q1v{b:Bool}{a c:Addr}{xs:List V}(I:Inv X pins σ H s)(h:Sq b X.K H a xs)(f:q09 X pins H c): a≠c:=by
 obtain⟨f0,f1,f2,f3,_⟩:=f;have inK:∀ {o:Obj},X.K.lookup a=some o->a≠c:=fun {o} hk z=>by
  subst z;have hb:X.base.get? a=some o:=I.mod.kin a o hk;rcases f3 with q|q
  ·exact I.ok.noex a o hb q
  ·exact absurd (gx (gu hb) (mi I.ok.bsz q)) (ua _)
 have trk:∀ {u:HO},H a=some u->a≠c:=fun {u} e z=>by subst z;rw [f0] at e;cases e
 cases b with
 | true=>
  rcases h with(h|⟨o,h⟩)|⟨o,its,n,hk,_⟩
  ·exact trk h
  ·exact trk h
  ·exact inK hk
 | false=>
  rcases h with(h|⟨o,h⟩)|⟨o,its,n,hk,_⟩
  ·exact trk h
  ·exact trk h
  ·exact inK hk
end
def Itz(K:Frag)(b1:Bool)(a1:Addr)(b2:Bool)(a2:Addr): It:=
 ⟨fun i H=>∃xs ys x y,Sq b1 K H a1 xs/\Sq b2 K H a2 ys/\xs[i]? = some x/\ys[i]? = some y,
  fun i H v H'=>∃p x y,H p=none/\(∀xs,Sq b1 K H a1 xs->xs[i]? = some x)/\(∀ys,Sq b2 K H a2 ys->ys[i]? = some y)/\v=.ref p/\H'=upd H p (.tup [x,y]),
  fun i H=>∃xs ys,Sq b1 K H a1 xs/\Sq b2 K H a2 ys/\(xs.length<=i\/ys.length<=i)⟩
theorem qr1{P:Program}{w:World}{K:Frag}{elts:List Expr}{x1}{tp:Pos}{b1 b2:Bool}{a1 a2 z ti to i1 i2:Addr}(D:Z5 z ti to i1 i2):
  Turn P w K (.Tuple elts x1 tp) (Itz K b1 a1 b2 a2) [z,ti,to,i1,i2] z
   (fun i h=>IsZip h z ti to .none/\IsPair h ti (.ref i1) (.ref i2)/\(∃p q,IsPair h to p q)/\SI b1 h i1 a1 i/\SI b2 h i2 a2 i) where
 mem:=by simp
 obj:=fun i h ⟨c1,c2,⟨p,q,c3⟩,⟨o4,c4,_,d4⟩,⟨o5,c5,_,d5⟩⟩ b hb=>by
  simp only [mh,uk,g0o] at hb;rcases hb with rfl|rfl|rfl|rfl|rfl
  ·exact⟨_,c1,fun v z=>by cases z⟩
  ·exact⟨_,c2,fun v z=>by cases z⟩
  ·exact⟨_,c3,fun v z=>by cases z⟩
  ·exact⟨_,c4,fun v z=>by rw [d4] at z;cases z⟩
  ·exact⟨_,c5,fun v z=>by rw [d5] at z;cases z⟩
 keep:=fun i h h' ⟨c1,c2,⟨p,q,c3⟩,c4,c5⟩ k=>⟨k _ (by simp) _ c1,k _ (by simp) _ c2,⟨p,q,k _ (by simp) _ c3⟩,c4.keep fun o e=>k _ (by simp) o e,c5.keep fun o e=>k _ (by simp) o e⟩
 item:=by
  intro X hP hw hK hc i pins s σ H E I hf st hg;subst hP hw hK;obtain⟨xs,ys,x,y,q1,q2,hx,hy⟩:=hg;obtain⟨its1,v1,o1⟩:=q8p I q1;obtain⟨its2,v2,o2⟩:=q8p I q2;obtain⟨u1,hu1,ru1⟩:=v1.get hx;obtain⟨u2,hu2,ru2⟩:=v2.get hy;obtain⟨c1,c2,⟨p,q,c3⟩,c4,c5⟩:=st;have off:∀ {b:Bool} {a:Addr} {ws:List V},Sq b X.K H a ws->Off a z to i1 i2:=fun h=>⟨q1v I h (hf _ (by simp)),q1v I h (hf _ (by simp)),q1v I h (hf _ (by simp)),q1v I h (hf _ (by simp))⟩
  refine qlz D (off q1) (off q2) c1 c2 c3 c4 c5 o1 o2 (x:=u1) (y:=u2) (by simpa using hu1) (by simpa using hu2) fun g n1 n2 n3 n4 n5 n6 n7=>?_;refine⟨_,rfl,wpAny_letOwnedTupleGo_zip n1 fun g2 m1 sb=>?_⟩;have hsz:z<s.heap.objs.size:=gu c1;have kp:∀c o,c∉[z,ti,to,i1,i2]->s.heap.get? c=some o->g2.get? c=some o:=fun c o hc e=>by
   simp only [mh,uk,g0o,g58] at hc;exact sb.extBut _ _ hc.1 (n7 c o hc.1 hc.2.2.1 hc.2.2.2.1 hc.2.2.2.2 e)
  have I1:Inv X pins σ H {s with heap:=g2}:=qkg (t':=s.toks) I hf kp;have fp:q09 X pins H s.heap.objs.size:=I.fpOk (m6 _) I.fresh;have hT:IsPair g2 s.heap.objs.size u1 u2:=sb.extBut _ _ (pd hsz) n5;have I2:Inv X pins σ (upd H s.heap.objs.size (.tup [x,y])) {s with heap:=g2}:=
   adopt I1 fp ⟨by show 2<=sizeLine;decide,[u1,u2],.cons ru1 (.cons ru2 .nil),⟨_,hT,rfl,rfl,_,rfl⟩⟩
  refine⟨.ref s.heap.objs.size,_,I2,rfl,⟨_,x,y,I.fresh,fun ws h=>?_,fun ws h=>?_,rfl,rfl⟩,⟨m1,?_,⟨u1,u2,sb.extBut _ _ D.a2 n2⟩,n3.ext sb.extBut D.a3,n4.ext sb.extBut D.a4⟩,fun b hb=>?_⟩
  ·rw [qo6 I h q1];exact hx
  ·rw [qo6 I h q2];exact hy
  ·exact sb.extBut _ _ D.a1 (n7 _ _ D.a1 D.a5 D.a6 D.a7 c2)
  ·have hb0:=(hf b hb).1
   have:b≠s.heap.objs.size:=by
    simp only [mh,uk,g0o] at hb;rcases hb with rfl|rfl|rfl|rfl|rfl
    ·exact m4 hsz
    ·exact m4 (gu c2)
    ·exact m4 (gu c3)
    ·obtain⟨_,e,_⟩:=c4;exact m4 (gu e)
    ·obtain⟨_,e,_⟩:=c5;exact m4 (gu e)
   rw [qr this];exact hb0
 done:=by
  intro X hP hw hK hc i pins s σ H E I hf st hg;subst hP hw hK;obtain⟨xs,ys,q1,q2,hend⟩:=hg;obtain⟨its1,v1,o1⟩:=q8p I q1;obtain⟨its2,v2,o2⟩:=q8p I q2;obtain⟨c1,c2,⟨p,q,c3⟩,c4,c5⟩:=st;have off:∀ {b:Bool} {a:Addr} {ws:List V},Sq b X.K H a ws->Off a z to i1 i2:=fun h=>⟨q1v I h (hf _ (by simp)),q1v I h (hf _ (by simp)),q1v I h (hf _ (by simp)),q1v I h (hf _ (by simp))⟩
  refine qf7 (I.ok.hd hc) D (off q1) (off q2) c1 c2 c3 c4 c5 o1 o2 ?_ fun g n7=>⟨rfl,qkg (t':=s.toks) I hf fun c o hc e=>?_⟩
  ·have l1:=v1.length
   have l2:=v2.length;rcases hend with h|h
   ·exact .inl (by simp;lia)
   ·exact .inr (by simp;lia)
  ·simp only [mh,uk,g0o,g58] at hc
   exact n7 c o hc.1 hc.2.2.1 hc.2.2.2.1 hc.2.2.2.2 e
 self:=fun A i s Q E st h=>wpAny_pyIter_zip st.1 h
def qgm(xs ys:List D): List D:=List.zipWith (fun a b=>.tup [a,b]) xs ys
theorem qup{K:Frag}{F:Hp}{b1 b2:Bool}{a1 a2:Addr}{xs ys:List V}{ds es:List D}(h1:Sq b1 K F a1 xs)(h2:Sq b2 K F a2 ys)(r1:RepL K F ds xs)(r2:RepL K F es ys): ItD K F (qgm ds es) (Itz K b1 a1 b2 a2) where
 go:=fun i F' H s1 s2 hi=>by
  have hi':i<ds.length/\i<es.length:=by unfold qgm at hi;rw [List.length_zipWith] at hi;lia
  exact⟨xs,ys,xs[i]'(by rw [<- r1.length];exact hi'.1),ys[i]'(by rw [<- r2.length];exact hi'.2),q0i (s1.trans s2) h1,q0i (s1.trans s2) h2,by simp,by simp⟩
 yld:=fun i d F' H x H' s1 s2 hi ⟨p,x1,y1,hp,q1,q2,e1,e2⟩=>by
  subst e1 e2;unfold qgm at hi;rw [List.getElem?_zipWith] at hi;cases z1:ds[i]? with
  | none=>rw [z1] at hi;cases hi
  | some d1=>
   cases z2:es[i]? with
   | none=>rw [z1,z2] at hi;cases hi
   | some d2=>
    rw [z1,z2] at hi;cases hi;obtain⟨v1,k1,k2⟩:=r1.get z1;obtain⟨v2,k3,k4⟩:=r2.get z2;have w1:=q1 xs (q0i (s1.trans s2) h1);have w2:=q2 ys (q0i (s1.trans s2) h2);rw [k1] at w1;cases w1;rw [k3] at w2;cases w2;have gn:Grow F' H (upd F' p (.tup [x1,y1])) (upd H p (.tup [x1,y1])):=Grow.new s2 hp;exact⟨_,gn,rep_tup.mpr ⟨p,_,rfl,SqT.of za,.cons ((k2.mono s1).mono gn.ff) (.cons ((k4.mono s1).mono gn.ff) .nil)⟩⟩
 stop:=fun i F' H s1 s2 hi=>by
  unfold qgm at hi;rw [List.length_zipWith] at hi;refine⟨xs,ys,q0i (s1.trans s2) h1,q0i (s1.trans s2) h2,?_⟩;rw [<- r1.length, <- r2.length];lia
section
variable{X:Cx}{pos:Pos}{elts:List Expr}{x1:Nat}{tp:Pos}
def z1r(K:Frag)(ta:TA): TI:=fun σ H R=>ta σ H fun vs H1=>∃b1 a1 xs b2 a2 ys,vs=[.ref a1,.ref a2]/\Sq b1 K H1 a1 xs/\Sq b2 K H1 a2 ys/\R (Itz K b1 a1 b2 a2) H1
theorem qo7:bootBuiltins "zip" = some (.type "zip"):=by decide +kernel
theorem qxr{a b:Expr}{ta:TA}{p:Pos}(hg:Gl X "zip")(hm:X.mg "zip" = none)(ha:PA X [a,b] ta)(hs:starEach [a,b] X.env=[(false,eval a X.env),(false,eval b X.env)]:=by rfl)(hs2:starEach [b] X.env=[(false,eval b X.env)]:=by rfl):
  PI X (.Tuple elts x1 tp) (.Call (.Name "zip" p) [a,b] [] pos) (z1r X.K ta):=by
 intro pins s σ H R I h;refine Call_ (q0n I hg hm qo7 (uf (thn (ha pos pins s σ H _ I h) fun us s1 ⟨vs,H1,I1,r1,q1⟩=>?_) (by rw [hs,hs2]) (by rw [hs2];rfl)));obtain⟨b1,a1,xs,b2,a2,ys,rfl,k1,k2,q⟩:=q1;obtain⟨u1,u2,rfl,e1,e2⟩:=r1.two;cases e1;cases e2;obtain⟨its1,v1,o1⟩:=q8p I1 k1;obtain⟨its2,v2,o2⟩:=q8p I1 k2;refine callType_new F.called_zip (by decide) (F.typeCall_zip_2 _ _) (F.newCall_zip_2 _ _) (fun obj=>F.args_object_init_3 obj _ _) F.entry_zip_new (qm0 b1 b2 a1 a2 its1.toArray its2.toArray) ⟨o1,o2,?_⟩;have z1:(zh1 b1 s1.heap a1).objs.size=s1.heap.objs.size+1:=ph ..;have z2:(zh2 b1 b2 s1.heap a1 a2).objs.size=s1.heap.objs.size+2:=by unfold zh2;rw [ph,z1]
 have z3:(zh3 b1 b2 s1.heap a1 a2).objs.size=s1.heap.objs.size+3:=by unfold zh3;rw [ph,z2]
 have z4:(zh4 b1 b2 s1.heap a1 a2).objs.size=s1.heap.objs.size+4:=by unfold zh4;rw [ph,z3]
 have g5:(zh5 b1 b2 s1.heap a1 a2).get? (zh4 b1 b2 s1.heap a1 a2).objs.size=some {cls:=.type "zip",data:=.fields #[.none,.bool false,.bool false,.ref (zh2 b1 b2 s1.heap a1 a2).objs.size,.ref (zh3 b1 b2 s1.heap a1 a2).objs.size]}:=gs _ rfl;have g4:(zh5 b1 b2 s1.heap a1 a2).get? (zh3 b1 b2 s1.heap a1 a2).objs.size=some {cls:=.type "tuple",data:=.seq #[.none,.none]}:=gh _ (gs _ rfl);have g3:(zh5 b1 b2 s1.heap a1 a2).get? (zh2 b1 b2 s1.heap a1 a2).objs.size=some {cls:=.type "tuple",data:=.seq #[.ref s1.heap.objs.size,.ref (zh1 b1 s1.heap a1).objs.size]}:=gh _ (gh _ (gs _ rfl));have g2:(zh5 b1 b2 s1.heap a1 a2).get? (zh1 b1 s1.heap a1).objs.size=some {cls:=.type (itN b2),data:=.fields #[.ref a2,.int 0 0]}:=gh _ (gh _ (gh _ (gs _ rfl)));have g1:(zh5 b1 b2 s1.heap a1 a2).get? s1.heap.objs.size=some {cls:=.type (itN b1),data:=.fields #[.ref a1,.int 0 0]}:=gh _ (gh _ (gh _ (gh _ (gs _ rfl))));have kp:∀c o,s1.heap.get? c=some o->(zh5 b1 b2 s1.heap a1 a2).get? c=some o:=fun c o e=>gh _ (gh _ (gh _ (gh _ (gh _ e))));have I2:Inv X pins σ H1 {s1 with heap:=zh5 b1 b2 s1.heap a1 a2}:=I1.kept (t':=s1.toks) kp;refine⟨⟨_,g5,rfl⟩,wpAny_pyIter_zip g5 ?_⟩;refine⟨_,_,_,_,H1,rfl,I2,qr1 (b1:=b1) (b2:=b2) (a1:=a1) (a2:=a2) (i1:=s1.heap.objs.size) (i2:=(zh1 b1 s1.heap a1).objs.size) ?_,⟨g5,g3,⟨_,_,g4⟩,⟨_,g1,rfl,rfl⟩,⟨_,g2,rfl,rfl⟩⟩,fun c hc=>?_,q⟩
 ·constructor <;> (first|exact m4 (by lia)|exact pd (by lia))
 ·have hge:s1.heap.objs.size<=c:=by
   simp only [mh,uk,g0o] at hc;rcases hc with rfl|rfl|rfl|rfl|rfl <;> lia
  exact I1.fpOk hge (I1.hok.fresh hge)
def qxs(fa:FA): FA:=fun ρ =>(fa ρ).bind fun ds=>match ds with
 | [x,y]=>(q5j x).bind fun xs=>(q5j y).map fun ys=>qgm xs ys
 | _=>none
theorem qkh{K:Frag}{F:Hp}{d:D}{ds:List D}{v:V}(h:q5j d=some ds)(r:Rep K F d v): ∃b a xs,v=.ref a/\Sq b K F a xs/\RepL K F ds xs:=by
 cases d <;> simp only [q5j] at h <;> first|(cases h;done)|skip
 ·cases h
  obtain⟨a,xs,rfl,h3,h4⟩:=rep_tup.mp r;exact⟨false,a,xs,rfl,h3,h4⟩
 ·cases h
  obtain⟨a,xs,rfl,h3,h4⟩:=rep_lst.mp r;exact⟨true,a,xs,rfl,h3,h4⟩
theorem qxt{a b:Expr}{fa:FA}{p:Pos}(hg:Gl X "zip")(hm:X.mg "zip" = none)(ha:PA X [a,b] (tDA X.K fa))(hs:starEach [a,b] X.env=[(false,eval a X.env),(false,eval b X.env)]:=by rfl)(hs2:starEach [b] X.env=[(false,eval b X.env)]:=by rfl):
  PI X (.Tuple elts x1 tp) (.Call (.Name "zip" p) [a,b] [] pos) (tDI X.K (qxs fa)):=qbb (qxr hg hm ha hs hs2) fun σ H R ⟨F0,H0,F, ρ,ds,r,hf,q⟩=>by
 obtain⟨es,h1,h2⟩:=gc.mp hf;refine⟨F0,H0,F, ρ,es,r,h1,fun vs F' H' g' r'=>?_⟩
 split at h2
 ·rename_i x y
  obtain⟨xs,k1,h2⟩:=gc.mp h2;obtain⟨ys,k2,h2⟩:=gp.mp h2;subst h2;obtain⟨v1,t,rfl,e1,e2⟩:=r'.cons_inv;obtain⟨v2,t2,rfl,e3,e4⟩:=e2.cons_inv;cases e4.nil_inv;obtain⟨b1,a1,us,rfl,s1,l1⟩:=qkh k1 e1;obtain⟨b2,a2,ws,rfl,s2,l2⟩:=qkh k2 e3;exact⟨b1,a1,us,b2,a2,ws,rfl,q0i g'.fh s1,q0i g'.fh s2,q _ F' H' g' (qup s1 s2 l1 l2)⟩
 ·cases h2
end
section
variable{X:Cx}{e:Expr}{es:List Expr}{kws:List Keyword}{pos:Pos}{f g:FE}{fa fk:FA}
def z1s(n m:Nat)(fa fk:FA): FA:=fun ρ =>(fa ρ).bind fun ds=>(fk ρ).bind fun es=>if ds.length=n/\es.length=m then some (ds++es) else none
theorem qtl{K:Frag}{fd:FuncData}{ps:List Str}{dv:List Value}(n:Nat)(hn:n+dv.length=ps.length)(h:∀(s:Shared) (us:List Value),K.In s.heap->us.length=n->BindsTo s fd ⟨us,[]⟩ (ps.zip (us++dv))): Binds K fd ps dv:=
 fun s us hk hl=>h s us hk (by rw [ng] at hl;omega)
def z0g(ar:Nat)(op:Ti): Ti:=fun ds=>if ds.length=ar then op ds else none
end
structure Cal(P:Program)(w:World)(K:Frag)(mg:Tc)(base:Heap)(x:Str)(k:Nat)(ps:List Str)(ar:Nat)(op:Ti)(fn:Addr)(fd:FuncData): Prop where
 ok:FnOk P w K mg base CX0 k fn fd ps (spD K ar op)
 mg:mg x=some (.ref fn)
 kp:PySem.W.keepIn K (.ref fn)=true
section
variable{X:Cx}{e:Expr}{es:List Expr}{kws:List Keyword}{pos p:Pos}{fa fk:FA}{k ar k':Nat}{fn:Addr}{fd:FuncData}{ps ks:List Str}{op:Ti}{x:Str}
theorem z6(C:Cal X.prog X.w X.K X.mg X.base x k ps ar op fn fd)(b:Binds X.K fd ps [])(hr:Room k' X.A)(hk:k<=k')(hg:Gl X x)(ha:PA X (e :: es) (tDA X.K fa))(hdb:(x==("__debug__" : Str))=false:=by decide)
  (he:starEach (e :: es) X.env=(false,eval e X.env) :: starEach es X.env:=by rfl) (hpl:(backTo pos (starEach es X.env)).any (·.1)=false:=by rfl):PE X (.Call (.Name x p) (e :: es) [] pos) (tD X.K (qk (qt ar [] op) fa)):=
 quk C.ok (hr.mono hk) hg C.mg C.kp b .nil (fun H=>.nil) ha hdb he hpl
theorem q4t{i:Int}(hg:Gl X x)(hm:∃t,X.mg x=some (.int i t))(hdb:(x==("__debug__" : Str))=false:=by decide): PE X (.Name x p) (tD X.K (eC (.int i))):=by
 obtain⟨t,hm⟩:=hm;exact q5e (qu5 hg hm (v:=.int i) ⟨t,rfl⟩ hdb) fun _=>rep_int.mpr rfl
def qa2:D->Option D
 | .int i=>some (.int (-i))
 | _=>none
theorem qo8{f:FE}(ha:PE X e (tD X.K f)): PE X (.UnaryOp .USub e pos) (tD X.K (eUn qa2 f)):=by
 intro pins s σ H Q I h;obtain⟨F0,H0,F, ρ,d,r,hf,q⟩:=h;obtain⟨d',h1,h2⟩:=gc.mp hf;cases d' <;> simp only [qa2] at h2 <;> first|(cases h2;done)|skip
 cases h2;refine UnaryOp_ (thn (ha pins s σ H (fun v H'=>∃F',Grow F H F' H'/\Rep X.K F' (.int _) v) I ⟨F0,H0,F, ρ,_,r,h1,fun v F' H' g' r'=>⟨F',g',r'⟩⟩) fun v s1 ⟨x,H1,I1,r1,F',g',r'⟩=>?_);cases rep_int.mp r';obtain⟨t,rfl⟩:=r1;exact neg_int ⟨.int _,H1,I1.tok _,⟨_,rfl⟩,q _ F' H1 g' (rep_int.mpr rfl)⟩
end
structure Fun2(K:Frag)(x qual:Str)(st:Stmt)(dV:Value)(f:Addr)(fd:FuncData): Prop where
 ex:∃(oc:Value) (od:Option Addr) (kV doc pm:Value) (an:Option Addr) (cdv ct:Value) (osl:Tg),
  fd=PySem.W.fnOf x qual (q2l st) (ja st) (qj st) dV kV doc pm an cdv ct/\K.lookup f=some ⟨oc,od,.func fd,osl⟩/\PySem.W.codeIn K cdv qual=true
 kp:PySem.W.keepIn K (.ref f)=true
section
variable{P:Program}{w:World}{K:Frag}{mg:Tc}{base:Heap}{x qual:Str}{st:Stmt}{dV:Value}{f:Addr}{fd:FuncData}{N ps:List Str}
theorem Fun2.ok{k:Nat}{u:FS}(F:Fun2 K x qual st dV f fd)(S:FnScope N ps (qj st))
  (hb:∀(cdv:Value) (A:Around) (outer:List Env) (s:Shared) (H:Hp) (E:XK),Room k (A.deeper (envOfC qual (qj st) s.heap.objs.size f cdv))->PSs (zx CX0 P w K mg base N qual (qj st) f cdv A outer s H E).nox (ja st) (tDS K u)) :
  FnOk P w K mg base CX0 (k+1) f fd ps (spD K ps.length (zf N.length u)):=by
 obtain⟨oc,od,kV,doc,pm,an,cdv,ct,osl,rfl,lk,hcd⟩:=F.ex;exact z0d lk hcd S fun A outer s H E hr=>hb cdv A outer s H E hr
theorem Fun2.okn{k n ar k1:Nat}{u:FS}(F:Fun2 K x qual st dV f fd)(S:FnScope N ps (qj st))(hn:N.length=n)(ha:ps.length=ar)(hk:k+1=k1)
  (hb:∀(cdv:Value) (A:Around) (outer:List Env) (s:Shared) (H:Hp) (E:XK),Room k (A.deeper (envOfC qual (qj st) s.heap.objs.size f cdv))->PSs (zx CX0 P w K mg base N qual (qj st) f cdv A outer s H E).nox (ja st) (tDS K u)) :
  FnOk P w K mg base CX0 k1 f fd ps (spD K ar (zf n u)):=by
 subst hn ha hk;exact F.ok S hb
theorem quq{oc:Value}{od an:Option Addr}{osl:Tg}{kV doc pm cdv ct:Value}(l:K.lookup f=some ⟨oc,od,.func (PySem.W.fnOf x qual (q2l st) (ja st) (qj st) dV kV doc pm an cdv ct),osl⟩)
  (c:PySem.W.codeIn K cdv qual=true) (k:PySem.W.keepIn K (.ref f)=true):Fun2 K x qual st dV f (PySem.W.fnOf x qual (q2l st) (ja st) (qj st) dV kV doc pm an cdv ct):=⟨⟨oc,od,kV,doc,pm,an,cdv,ct,osl,rfl,l,c⟩,k⟩
theorem Fun2.bindsTo(F:Fun2 K x qual st dV f fd){P:FuncData->Prop}(h:∀(kV doc pm:Value) (an:Option Addr) (cdv ct:Value),P (PySem.W.fnOf x qual (q2l st) (ja st) (qj st) dV kV doc pm an cdv ct)): P fd:=by
 obtain⟨oc,od,kV,doc,pm,an,cdv,ct,osl,rfl,lk,hcd⟩:=F.ex;exact h kV doc pm an cdv ct
end
def qfp(K:Frag): Sp:=fun vs H Q _=>∃(a:Addr) (ns:List Int) (F:Hp),vs=[.ref a]/\SameT F H/\SqL K F a (ns.map V.int)/\ns.length<=63/\∀H',Q (.bl true) H'
theorem qxu{P:Program}{w:World}{K:Frag}{mg:Tc}{base:Heap}{k:Nat}{f:Addr}{fd:FuncData}{x:Str}{op:Ti}(F:FnOk P w K mg base CX0 k f fd [x] (spD K 1 op))(h:∀ns:List Int,ns.length<=63->op [.lst (ns.map .int)]=some (.bl true)):
  FnOk P w K mg base CX0 k f fd [x] (qfp K):=F.imp fun vs H Q E ⟨a,ns,Fz,e,fz,hS,hl,q⟩=>by
 subst e;exact⟨Fz,[.lst (ns.map .int)],.bl true,fz,.cons (rep_lst.mpr ⟨a,_,rfl,hS,RepL.ints.mpr rfl⟩) .nil,rfl,h ns hl,fun v F' H' g' r'=>by rw [rep_bl.mp r'];exact q H'⟩
theorem qxv(ht:Lam.tab=[]){l:PySem.W.OpenLaw}{k:Nat}{x:Str}{q:Program}{loose:List Str}{XP:(Tc)->Heap->Prop}{YP:World->Heap->Prop}{d:DefRec}{K:Params->Frag}(hn:l.most=some 63)(hdf:d.params.defaults=[])(hk:Room k callerA)
  (hY:∀(w:World) (h:Heap),YP w h->(K w.params).In h)
  (F:∀(w:World) (mg:Tc) (fa:Addr) (h:Heap),(K w.params).In h->h.Ns mainGlobals mg->mg d.name=some (.ref fa) ->
   ∃fd:FuncData,(∀(s:Shared) (u:Value),BindsTo s fd ⟨[u],[]⟩ [(x,u)])/\∀base:Heap,(K w.params).In base->base.Ns mainGlobals mg->FnOk l.prog w (K w.params) mg base CX0 k fa fd [x] (qfp (K w.params))) :
  PySem.W.WalkO q loose XP YP l.row.toRowW d [] (fun f vs=>PySem.call f vs):=
 L2.quh (n:=63) (k:=k) (x:=x) (CX:=fun _=>CX0) (sp:=fun w=>qfp (K w.params)) hn (by decide) hdf hk hY F (fun _ H a ns hl _ hS=>⟨a,ns,H,rfl,⟨.refl _,fun p hp=>(by rw [ht] at hp;cases hp),fun p hp=>(by rw [ht] at hp;cases hp)⟩,hS,hl,fun _=>rfl⟩) fun _ _ _ _ _ z=>z
section
variable{X:Cx}{pos:Pos}{f g:FE}{a b:Expr}
abbrev oLt':=oLt
theorem wy:OpR X (compareOp .Lt) (rD X.K oLt'):=z09
end
section
variable{X:Cx}{pos:Pos}{f g k:FE}{a b c:Expr}
theorem qki{pins:Td}{σ : St}{H:Hp}{s:Shared}(I:Inv X pins σ H s): sysModules<s.heap.objs.size:=
 g5f (by decide) (I.mod.glob.keeps I.bk).lt
def qbg(o1 o2:D->D->Option D)(a b c:FE): FE:=fun ρ =>(a ρ).bind fun x=>(b ρ).bind fun y=>(o1 x y).bind fun r=>(isB r).bind fun q=>if q then(c ρ).bind fun z=>o2 y z else some (.bl false)
theorem qur{o1 o2:D->D->Option D}{σ : St}{H:Hp}{Q:VK}(h:tD X.K (qbg o1 o2 f g k) σ H Q): qng (rD X.K o1) (rD X.K o2) (tD X.K f) (tD X.K g) (tD X.K k) σ H Q:=by
 obtain⟨F0,H0,F, ρ,d,r,hf,q⟩:=h;obtain⟨x,e1,hf1⟩:=gc.mp hf;obtain⟨y,e2,hf2⟩:=gc.mp hf1;obtain⟨z,e3,hf3⟩:=gc.mp hf2;obtain⟨kq,e4,hf4⟩:=gc.mp hf3;refine⟨F0,H0,F, ρ,x,r,e1,fun v F1 H1 g1 r1=>⟨F0,H0,F1, ρ,y,r.grow g1,e2,fun u F2 H2 g2 r2=>⟨F2,x,y,z,g2.fh,r1.mono g2.ff,r2,e3,fun w F3 H3 g3 r3=>?_⟩⟩⟩;have ez:=q5h e4;subst ez;refine⟨kq,rep_bl.mp r3,?_⟩;cases kq with
 | false=>
  rw [mf gy] at hf4 ⊢;cases hf4;exact q _ F3 H3 (g1.trans (g2.trans g3)) (rep_bl.mpr rfl)
 | true=>
  rw [gw rfl] at hf4 ⊢;obtain⟨zz,e5,e6⟩:=gc.mp hf4;exact⟨F0,H0,F3, ρ,zz,r.grow (g1.trans (g2.trans g3)),e5,fun w' F4 H4 g4 r4=>⟨F4,y,zz,d,g4.fh,(r2.mono g3.ff).mono g4.ff,r4,e6,fun w5 F5 H5 g5 r5=>q w5 F5 H5 ((g1.trans (g2.trans g3)).trans (g4.trans g5)) r5⟩⟩
theorem qr2{op op':CmpOp}{o1 o2:D->D->Option D}(h1:OpR X (compareOp op) (rD X.K o1))(h2:OpR X (compareOp op') (rD X.K o2))(ha:PE X a (tD X.K f))(hb:PE X b (tD X.K g))(hc:PE X c (tD X.K k))
  (hm:lastMarks [op,op'] [b,c]=false:=by with_unfolding_all rfl):PE X (.Compare a [op,op'] [b,c] pos) (tD X.K (qbg o1 o2 f g k)):=
 zr (qq6 h1 h2 ha hb hc hm) fun σ H Q h=>qur h
def q8q:D->D->Bool
 | .non,.non=>true
 | .bl a,.bl b=>a==b
 | _,_=>false
def oIs(neg:Bool): D->D->Option D
 | x,.non=>some (.bl (if neg then !q8q x .non else q8q x .non))
 | x,.bl b=>some (.bl (if neg then !q8q x (.bl b) else q8q x (.bl b)))
 | _,_=>none
theorem z0h{M:Model}{A:Around}{E:Ta}{s:Shared}{Q:Ta}{v:Value}{c:Bool}(hv:∀id,v ≠ .builtin id)(h:Q (.bool (v == .bool c)) s): wpAny M A (compareOp .Is v (.bool c)) Q E s:=by
 cases v <;> first|exact gf h|exact absurd rfl (hv _)
theorem qr3{M:Model}{A:Around}{E:Ta}{s:Shared}{Q:Ta}{v:Value}{c:Bool}(hv:∀id,v ≠ .builtin id)(h:Q (.bool (!(v == .bool c))) s): wpAny M A (compareOp .IsNot v (.bool c)) Q E s:=by
 cases v <;> first|exact gf h|exact absurd rfl (hv _)
theorem qo9{K:Frag}{F:Hp}{d:D}{x:V}{v:Value}(r:Rep K F d x)(rv:RelV x v): ∀id,v ≠ .builtin id:=by
 intro id;cases d with
 | non=>cases rep_non.mp r;cases rv;intro z;cases z
 | bl b=>cases rep_bl.mp r;cases rv;intro z;cases z
 | int i=>cases rep_int.mp r;obtain⟨t,rfl⟩:=rv;intro z;cases z
 | str i=>cases rep_str.mp r;obtain⟨t,rfl⟩:=rv;intro z;cases z
 | tup ds=>obtain⟨p,xs,rfl,_⟩:=rep_tup.mp r;cases rv;intro z;cases z
 | lst ds=>obtain⟨p,xs,rfl,_⟩:=rep_lst.mp r;cases rv;intro z;cases z
 | dct ks vs=>obtain⟨p,xs,rfl,_⟩:=rep_dct.mp r;cases rv;intro z;cases z
 | dtt ks vs=>obtain⟨p,xs,ys,ep,rfl,_⟩:=rep_dtt.mp r;cases rv;intro z;cases z
 | dt2 ks=>obtain⟨p,xs,ep,rfl,_⟩:=rep_dt2.mp r;cases rv;intro z;cases z
 | obj C=>obtain⟨p,dx,_,rfl,_⟩:=rep_obj.mp r;cases rv;intro z;cases z
 | exc C _=>obtain⟨p,_,rfl,_⟩:=rep_exc.mp r;cases rv;intro z;cases z
theorem qgn{K:Frag}{F:Hp}{d:D}{x:V}{v:Value}(r:Rep K F d x)(rv:RelV x v): (v==Value.none)=q8q d .non:=by
 cases d with
 | non=>cases rep_non.mp r;cases rv;rfl
 | bl b=>cases rep_bl.mp r;cases rv;rfl
 | int i=>cases rep_int.mp r;obtain⟨t,rfl⟩:=rv;rfl
 | str i=>cases rep_str.mp r;obtain⟨t,rfl⟩:=rv;rfl
 | tup ds=>obtain⟨p,xs,rfl,_⟩:=rep_tup.mp r;cases rv;rfl
 | lst ds=>obtain⟨p,xs,rfl,_⟩:=rep_lst.mp r;cases rv;rfl
 | dct ks vs=>obtain⟨p,xs,rfl,_⟩:=rep_dct.mp r;cases rv;rfl
 | dtt ks vs=>obtain⟨p,xs,ys,ep,rfl,_⟩:=rep_dtt.mp r;cases rv;rfl
 | dt2 ks=>obtain⟨p,xs,ep,rfl,_⟩:=rep_dt2.mp r;cases rv;rfl
 | obj C=>obtain⟨p,dx,_,rfl,_⟩:=rep_obj.mp r;cases rv;rfl
 | exc C _=>obtain⟨p,_,rfl,_⟩:=rep_exc.mp r;cases rv;rfl
theorem qkj{K:Frag}{F:Hp}{d:D}{x:V}{v:Value}{c:Bool}(r:Rep K F d x)(rv:RelV x v): (v==Value.bool c)=q8q d (.bl c):=by
 cases d with
 | non=>cases rep_non.mp r;cases rv;rfl
 | bl b=>cases rep_bl.mp r;cases rv;cases b <;> cases c <;> rfl
 | int i=>cases rep_int.mp r;obtain⟨t,rfl⟩:=rv;rfl
 | str i=>cases rep_str.mp r;obtain⟨t,rfl⟩:=rv;rfl
 | tup ds=>obtain⟨p,xs,rfl,_⟩:=rep_tup.mp r;cases rv;rfl
 | lst ds=>obtain⟨p,xs,rfl,_⟩:=rep_lst.mp r;cases rv;rfl
 | dct ks vs=>obtain⟨p,xs,rfl,_⟩:=rep_dct.mp r;cases rv;rfl
 | dtt ks vs=>obtain⟨p,xs,ys,ep,rfl,_⟩:=rep_dtt.mp r;cases rv;rfl
 | dt2 ks=>obtain⟨p,xs,ep,rfl,_⟩:=rep_dt2.mp r;cases rv;rfl
 | obj C=>obtain⟨p,dx,_,rfl,_⟩:=rep_obj.mp r;cases rv;rfl
 | exc C _=>obtain⟨p,_,rfl,_⟩:=rep_exc.mp r;cases rv;rfl
theorem qtm(_hc:X.calm=true): OpR X (compareOp .Is) (rD X.K (oIs false)):=fun pins s σ H x y v u Q I rx ry ⟨F,d1,d2,d,q1,q2,q3,q4,q5⟩=>by
 cases d2 <;> simp only [oIs] at q4 <;> first|(cases q4;done)|skip
 ·cases rep_non.mp q3
  cases ry;refine is_none_gen ⟨.bl _,H,I,rfl,?_⟩;rw [qgn q2 rx];cases q4;exact q5 _ F H (.refl q1) (rep_bl.mpr rfl)
 ·cases rep_bl.mp q3
  cases ry;refine z0h (qo9 q2 rx) ⟨.bl _,H,I,rfl,?_⟩;rw [qkj q2 rx];cases q4;exact q5 _ F H (.refl q1) (rep_bl.mpr rfl)
theorem qgo(_hc:X.calm=true): OpR X (compareOp .IsNot) (rD X.K (oIs true)):=fun pins s σ H x y v u Q I rx ry ⟨F,d1,d2,d,q1,q2,q3,q4,q5⟩=>by
 cases d2 <;> simp only [oIs] at q4 <;> first|(cases q4;done)|skip
 ·cases rep_non.mp q3
  cases ry;refine isnot_none_gen ⟨.bl _,H,I,rfl,?_⟩;rw [qgn q2 rx];cases q4;exact q5 _ F H (.refl q1) (rep_bl.mpr rfl)
 ·cases rep_bl.mp q3
  cases ry;refine qr3 (qo9 q2 rx) ⟨.bl _,H,I,rfl,?_⟩;rw [qkj q2 rx];cases q4;exact q5 _ F H (.refl q1) (rep_bl.mpr rfl)
def q45(i:Nat)(g:FE): FE:=fun ρ =>(q23 i ρ).bind fun ds=>(g ρ).bind fun k=>match k with
 | .int j=>atI ds j
 | _=>none
theorem qbh{i:Nat}{x:Str}{px:Pos}(hv:PE X (.Name x px) (vp i))(hb:PE X b (tD X.K g))(hs:q2k b:=by intro _ _;rfl): PE X (.Subscript (.Name x px) b pos) (tD X.K (q45 i g)):=zr (qb3 qb4 hv hb hs) fun σ H Q ⟨F0,H0,F, ρ,d,r,hf,q⟩=>by
 obtain⟨ds,h1,hf⟩:=gc.mp hf;obtain⟨kd,h2,h3⟩:=gc.mp hf;have h1:=q3h h1;obtain⟨p,xs,e1,e2,e3,e4,e5⟩:=r.ow i ds h1;refine⟨.ref p,e1,F0,H0,F, ρ,kd,r,h2,fun v F' H' g' r'=>?_⟩
 split at h3
 ·obtain⟨y,z3,z4⟩:=qd7 (e5.mono g'.ff) h3
  exact .inl ⟨p,xs,_,y,rfl,rep_int.mp r',SqL.of (g'.hh.lst _ _ e2),z3,q y F' H' g' z4⟩
 ·cases h3
end
theorem qd9:fillsNumberSlot (.type "tuple") "mul" = pure false:=
 PySem.fillsNumberSlot_seq (id:="tuple.__mul__") (r:=some (.builtin "tuple.__rmul__")) g23.lookup (by decide +kernel) F.slot_tuple_rmul.lookup (by decide +kernel)
theorem qm1:seqRepeat? (.type "tuple")=pure (some (.builtin "tuple.__mul__")):=by
 unfold seqRepeat?;rw [PySem.seqSlot_of (T:="tuple") (name:="__mul__") g23.lookup (by decide +kernel),PySem.seqSlot_of (T:="tuple") (name:="__rmul__") F.slot_tuple_rmul.lookup (by decide +kernel)]
 rfl
theorem qr4(i:Int)(t:Tok)(l:Addr)(xs:Array Value)(n:Nat)(dd:Option Addr)(sl:Tg):
  Meets (Builtin.«int.__rmul__» ⟨[.int i t,.ref l],[]⟩) (fun _ R s=>s.heap.get? l=some {cls:=.type "tuple",dict:=dd,data:=.seq xs n,slots:=sl}/\R (.ok (.ret Value.notImplemented)) s):=
 .of_wp fun prog w A R s h=>by
  obtain⟨hp,g,d,tk,os⟩:=s;obtain⟨hl,h⟩:=h
  wp_walk
  exact⟨_,rfl,h⟩
theorem qgp(i:Int)(t:Tok)(l:Addr)(xs:Array Value)(n:Nat)(dd:Option Addr)(sl:Tg)(h0:¬(decide (i < -(2 ^ 63)) || decide (i>=2 ^ 63))=true)(h1:(xs.isEmpty || i==1)=true):
  Meets (Builtin.«tuple.__mul__» ⟨[.ref l,.int i t],[]⟩) (fun _ R s=>s.heap.get? l=some {cls:=.type "tuple",dict:=dd,data:=.seq xs n,slots:=sl}/\R (.ok (.ret (.ref l))) s):=
 .of_wp fun prog w A R s h=>by
  obtain⟨hp,g,d,tk,os⟩:=s;obtain⟨hl,h⟩:=h;have f1:=g4n;have f2:=g1b
  wp_walk using uc hl
  refine g3i (mm h0) ?_
  wp_walk using uc hl
  exact⟨_,rfl,h⟩
theorem qgq(i:Int)(t:Tok)(l:Addr)(xs:Array Value)(n:Nat)(dd:Option Addr)(sl:Tg)(h0:¬(decide (i < -(2 ^ 63)) || decide (i>=2 ^ 63))=true)(h1:¬(xs.isEmpty || i==1)=true)(h2:(decide (i<=0) || xs.isEmpty)=true):
  Meets (Builtin.«tuple.__mul__» ⟨[.ref l,.int i t],[]⟩) (fun _ R s=>s.heap.get? l=some {cls:=.type "tuple",dict:=dd,data:=.seq xs n,slots:=sl}/\R (.ok (.ret (.ref s.heap.objs.size))) {s with heap:=s.heap.push {cls:=.type "tuple",data:=.seq #[]} }):=
 .of_wp fun prog w A R s h=>by
  obtain⟨hp,g,d,tk,os⟩:=s;obtain⟨hl,h⟩:=h;have f1:=g4n;have f2:=g1b
  wp_walk using uc hl
  refine g3i (mm h0) ?_
  wp_walk using uc hl
  exact⟨_,rfl,h⟩
theorem qgr(i:Int)(t:Tok)(l:Addr)(xs:Array Value)(n:Nat)(dd:Option Addr)(sl:Tg)(h0:¬(decide (i < -(2 ^ 63)) || decide (i>=2 ^ 63))=true)(h1:¬(xs.isEmpty || i==1)=true)(h2:¬(decide (i<=0) || xs.isEmpty)=true)
  (h3:¬((xs.size:Int)*i>(2 ^ 63-1) / 8)) (h4:¬Builtin.Tuple.tupleTooMany ((xs.size:Int)*i)=true) (h5:((List.replicate i.toNat xs).foldl (· ++ ·) #[]).size<=sizeLine) :
  Meets (Builtin.«tuple.__mul__» ⟨[.ref l,.int i t],[]⟩) (fun _ R s=>s.heap.get? l=some {cls:=.type "tuple",dict:=dd,data:=.seq xs n,slots:=sl}/\R (.ok (.ret (.ref s.heap.objs.size))) {s with heap:=s.heap.push {cls:=.type "tuple",data:=.seq ((List.replicate i.toNat xs).foldl (· ++ ·) #[])} }):=
 .of_wp fun prog w A R s h=>by
  obtain⟨hp,g,d,tk,os⟩:=s;obtain⟨hl,h⟩:=h;have f1:=g4n;have f2:=g1b
  wp_walk using uc hl
  refine g3i (mm h0) ?_
  wp_walk using uc hl
  refine g3i (mm h3) ?_
  wp_walk using uc hl
  exact⟨_,rfl,h⟩
theorem qgs(xs:Array Value): ∀(n:Nat) (acc:Array Value),((List.replicate n xs).foldl (· ++ ·) acc).toList=acc.toList++(List.replicate n xs.toList).flatten
 | 0,acc=>by simp
 | n+1,acc=>by
  rw [g0m,List.foldl_cons,qgs xs n (acc++xs),g0m,g1r,Array.toList_append,td]
theorem qeg(xs:List Value)(n:Nat): (List.replicate n xs.toArray).foldl (· ++ ·) #[]=(List.replicate n xs).flatten.toArray:=by
 apply Array.toList_inj.mp;rw [qgs];simp
section
variable{prog:Program}{w:World}{A:Around}{E:Ta}{s:Shared}
theorem qus{t:Addr}{vs:List Value}{i:Int}{u:Tok}{Q:Ta}(ht:IsTup s.heap t vs.toArray)(h0 : -(2 ^ 62)<i)(h1:i<2 ^ 62)(hz:vs.length*i.toNat<=1000000)
  (q1:(vs=[]\/i=1)->Q (.ref t) s) (q2:¬(vs=[]\/i=1)->Q (.ref s.heap.objs.size) {s with heap:=s.heap.push {cls:=.type "tuple",data:=.seq (List.replicate i.toNat vs).flatten.toArray} }) :
  wpAny (model prog w) A (binaryOp .Mult (.ref t) (.int i u)) Q E s:=by
 obtain⟨⟨cls,dd,data,sl⟩,ho,hc,n,hd⟩:=id ht;simp only at hc hd;subst hc hd;have ty:s.TypeIs (.ref t) "tuple" :=⟨_,ho,rfl⟩
 have b0:¬(decide (i < -(2 ^ 63)) || decide (i>=2 ^ 63))=true:=by
  simp only [g3f,tf,g58]
  constructor <;> lia
 refine wpAny_binaryOp_repeat_ref (T:="tuple") (U:="int") (by decide) ty (fun s'=>typeIs_int s' i u) qd9 F.fills_int_mul F.slot_int_rmul qm1 F.slot_int_index.lookup
  (g3e F.slot_int_rmul (typeIs_int s i u) F.entry_int_rmul (F.args_int_rmul_2 _ _) (qr4 i u t vs.toArray n dd sl) ⟨ho,rfl,ty,?_⟩)
 have em:vs.toArray.isEmpty=true↔vs=[]:=by simp
 by_cases c1:(vs.toArray.isEmpty || i==1)=true
 ·have c1':vs=[]\/i=1:=by simpa using c1
  exact g3e g23 ty g4a (g3y _ _) (qgp i u t vs.toArray n dd sl b0 c1) ⟨ho,q1 c1'⟩
 ·have c1':¬(vs=[]\/i=1):=by simpa using c1
  have q:=q2 c1'
  by_cases c2:(decide (i<=0) || vs.toArray.isEmpty)=true
  ·have i0:i<=0:=by
    rcases g3f _ _ ▸ c2 with z|z
    ·exact ur z
    ·exact absurd (.inl (em.mp z)) c1'
   have e:(List.replicate i.toNat vs).flatten.toArray = #[]:=by
    rw [show i.toNat=0 by lia];rfl
   rw [e] at q;exact g3e g23 ty g4a (g3y _ _) (qgq i u t vs.toArray n dd sl b0 c1 c2) ⟨ho,q⟩
  ·have c2':0<i:=by
    have:¬i<=0:=fun z=>c2 (by rw [mj z];rfl);lia
   have ei:(vs.toArray.size:Int)*i=((vs.length*i.toNat:Nat):Int):=by
    rw [Int.natCast_mul,g1e (by lia),gq]
   have el:(List.replicate i.toNat vs).flatten.length=vs.length*i.toNat:=by
    rw [List.length_flatten,List.map_replicate,g52,Nat.mul_comm]
   rw [<- qeg] at q;refine g3e g23 ty g4a (g3y _ _) (qgr i u t vs.toArray n dd sl b0 c1 c2 ?_ ?_ ?_) ⟨ho,q⟩
   ·rw [ei];lia
   ·rw [ei]
    unfold Builtin.Tuple.tupleTooMany;have:sizeLine=16777216:=g03;rw [this,tf];lia
   ·rw [qeg,gq,el]
    exact xn hz
end
section
variable{X:Cx}
def qr5:D->D->Option D
 | .tup xs,.int n=>if decide (-(2 ^ 62)<n)&&decide (n<2 ^ 62)&&decide (xs.length*n.toNat<=lim) then some (.tup (List.replicate n.toNat xs).flatten) else none
 | _,_=>none
theorem qgt{xs:List V}{us:List Value}(r:Vals xs us): ∀n:Nat,Vals (List.replicate n xs).flatten (List.replicate n us).flatten
 | 0=>.nil
 | n+1=>by rw [g0m,g0m,g1r,g1r];exact r.append (qgt r n)
theorem qgu{K:Frag}{H:Hp}{ds:List D}{xs:List V}(r:RepL K H ds xs): ∀n:Nat,RepL K H (List.replicate n ds).flatten (List.replicate n xs).flatten
 | 0=>.nil
 | n+1=>by rw [g0m,g0m,g1r,g1r];exact r.append (qgu r n)
theorem qxw:OpR X (binaryOp .Mult) (rD X.K qr5):=fun pins s σ H x y v u Q I rx ry ⟨F,d1,d2,d,q1,q2,q3,q4,q5⟩=>by
 unfold qr5 at q4
 split at q4
 ·rename_i ds n
  split at q4
  ·rename_i hc
   cases q4;simp only [mn,tf] at hc;obtain⟨⟨c1,c2⟩,c3⟩:=hc;obtain⟨p,xs,rfl,z1,z2⟩:=rep_tup.mp q2;cases rep_int.mp q3;cases rx;obtain⟨t,rfl⟩:=ry;obtain⟨its,r1,p1,hz⟩:=I.tuple (z0 q1 z1);have lx:=r1.length;have ld:=z2.length;refine qus p1 c1 c2 (by rw [<- lx, <- ld];exact c3) (fun hq=>?_) fun hq=>?_
   ·have e:(List.replicate n.toNat ds).flatten=ds:=by
     rcases hq with z|z
     ·have:ds=[]:=List.length_eq_zero_iff.mp (by rw [ld,lx,z];rfl)
      subst this;simp
     ·subst z;simp [List.replicate]
    rw [e] at q5;exact⟨.ref p,H,I,rfl,q5 _ F H (.refl q1) q2⟩
   ·have hn:H s.heap.objs.size=none:=I.hok.fresh (m6 _)
    have rr:=qgt r1 n.toNat;have el:(List.replicate n.toNat xs).flatten.length=ds.length*n.toNat:=by
     rw [List.length_flatten,List.map_replicate,g52,Nat.mul_comm,ld]
    refine⟨.ref s.heap.objs.size,_,I.laid (t':=s.toks) (o:=.tup (List.replicate n.toNat xs).flatten) (fun b ob q=>gh _ q) (m6 _) ⟨by rw [el];exact xn c3,_,rr,TupX.new _ _⟩,rfl,?_⟩;have gn:=Grow.new (o:=.tup (List.replicate n.toNat xs).flatten) q1 hn;exact q5 _ _ _ gn (rep_tup.mpr ⟨_,_,rfl,SqT.of za,(qgu z2 n.toNat).mono gn.ff⟩)
  ·cases q4
 ·cases q4
def jx:D->D->Option D:=fun x y=>(oMul x y).or (qr5 x y)
theorem ky:OpR X (binaryOp .Mult) (rD X.K jx):=qb8 qxh qxw
end
section
variable{prog:Program}{w:World}{A:Around}{E:Ta}{s:Shared}
end
section
variable{X:Cx}{pos:Pos}{elts:List Expr}{x1:Nat}{tp:Pos}
end
section
variable{X:Cx}{st:Stmt}
def q1w:FS:=fun _=>none
theorem q1b:PS X st (tDS X.K q1w):=fun pins s σ H D I ⟨F0,H0,F, ρ,fl, ρ',r,hf,q⟩=>by cases hf
abbrev oBand:=oI (fun _ _=>true) fun i j=>Builtin.bitAnd i j
theorem qut:OpR X (binaryOp .BitAnd) (rD X.K oBand):=qgc qx4
theorem q7a:∀ {l m:List Int},l.Perm m->l.Pairwise (· <= ·)->m.Pairwise (· <= ·)->l=m
 | [],m,p,_,_=>(p.nil_eq).symm ▸ rfl
 | x :: l,[],p,_,_=>by cases p.length_eq
 | x :: l,y :: m,p,.cons h1 h2,.cons k1 k2=>by
  have e:x=y:=by
   have hx:x∈y :: m:=p.mem_iff.mp ma;have hy:y∈x :: l:=p.mem_iff.mpr ma;rcases mh.mp hx with e|hx
   ·exact e
   ·rcases mh.mp hy with e|hy
    ·exact e.symm
    ·exact Int.le_antisymm (h1 y hy) (k1 x hx)
  subst e;rw [q7a (List.perm_cons _ |>.mp p) h2 k2]
theorem q1t:∀ {us:List Value} {ns:List Int},IntsAre us ns->Vals (ns.map V.int) us
 | _,_,.nil=>.nil
 | _,_,.cons n t h=>.cons ⟨t,rfl⟩ (q1t h)
theorem boot_sorted:bootBuiltins "sorted" = some (.builtin "sorted"):=by decide +kernel
end
end DL
namespace Srt
end Srt
namespace DL
open PySem PySem.Spec PyProof.Rows L2 Srt PySem.W
variable[Lam][Pin]
set_option maxRecDepth 8000 in
omit [Lam] [Pin] in
theorem qr6(l:Addr)(items:Array Value)(n:Nat)(b:Addr)(items2:Array Value)(n2:Nat)(sl:Tg)(hc0:¬(!items.isEmpty&&Builtin.List.listTooLong (items.size+items2.size))=true)(hc1:items.size<=sizeLine)(hs2:items.size+items2.size<=sizeLine+1):
  Meets (Builtin.«list.extend» ⟨[.ref l,.ref b],[]⟩) (fun _ R s=>s.heap.get? l=some {cls:=.type "list",dict:=none,data:=.seq items n,slots:= #[]}/\s.heap.get? b=some {cls:=.type "list",dict:=none,data:=.seq items2 n2,slots:=sl} /\
   R (.ok (.ret Value.none)) {s with heap:=s.heap.update l (Obj.mapSeq fun x=>x++items2),toks:=s.toks}):=
 .of_wp fun prog w A R s h=>by
  obtain⟨hp,g,d,tk,os⟩:=s;obtain⟨hl,hb,h⟩:=h;have hz':(items++items2).size<=sizeLine+1:=by rw [Array.size_append];exact hs2
  have f3:=sub_list_list
  wp_walk using(g4w hl rfl (hz:=hc1) (_hz':=hz')),g29 hl,g29 hb
  exact⟨_,rfl,h⟩
section
variable{X:Cx}
omit [Lam] [Pin] in
theorem quu:MtM X "list.extend" (fun x vs H Q=>∃l b xs zs,x=.ref l/\vs=[.ref b]/\H l=some (.lst xs)/\SqL X.K H b zs/\xs.length+zs.length<=sizeLine/\Q .non (upd H l (.lst (xs++zs)))):=by
 intro pins s σ H x vs v us Q I rx rv h;obtain⟨l,b,xs,zs,rfl,rfl,hH,hB,hz,q⟩:=h;cases rx;obtain⟨u,rfl,ru⟩:=rv.one;cases ru;obtain⟨z,its,n,r,hl,e⟩:=I.lstM hH;obtain⟨its2,r2,⟨o,n2,e2,c1,c2,c3⟩,hl2⟩:=I.list hB;obtain⟨oc,od,oda,osl⟩:=o;dsimp only at c1 c2 c3;subst c1 c2 c3;have hl1:=r.length;have hl3:=r2.length;have hsz:its.toArray.size+its2.toArray.size<=sizeLine:=by rw [gq,gq];lia
 have hlong:¬(!its.toArray.isEmpty&&Builtin.List.listTooLong (its.toArray.size+its2.toArray.size))=true:=by
  rw [qqe hsz,Bool.and_false];exact gy
 refine g3e F.slot_list_extend ⟨_,e,rfl⟩ F.entry_list_extend (F.args_list_extend_2 _ _)
  (qr6 l its.toArray n b its2.toArray n2 osl hlong (by rw [gq];lia) (by lia)) ⟨e,e2,?_⟩
 refine⟨.non,_,I.lset (its':=its++its2) hH e (by simp) (r.append r2) ?_,rfl,q⟩;rw [ng];lia
def qr7(i:Nat)(f:FE): FS:=fun ρ =>(q23 i ρ).bind fun ds=>(f ρ).bind fun d=>match d with
 | .lst es=>if ds.length+es.length<=lim then some (.nx, ρ.set i (some (.ow (ds++es)))) else none
 | _=>none
theorem qxx{i:Nat}{x:Str}{e:Expr}{f:FE}{px apos cpos pos:Pos}(hv:PE X (.Name x px) (vp i))(he:PE X e (tD X.K f))
  (hbase:attributeBase (.Name x px) "extend" X.env (eval (.Name x px) X.env)=eval (.Name x px) X.env:=by rfl)
  (hfew:((backTo cpos (starEach [e] X.env)).all (fun x=> !x.1)&&(backToKw cpos (keywordEach [] X.env)).all (fun x=>x.1.isSome)&&decide ([e].length+([]:List Keyword).length+(if([]:List Keyword).isEmpty then 0 else 1)<30))=true:=by rfl)
  (hline:(apos.endLine==cpos.line)=true:=by rfl) (hse:starEach [e] X.env=(false,eval e X.env) :: starEach [] X.env:=by rfl)
  (hs:swapsWith (.Call (.Attribute (.Name x px) "extend" apos) [e] [] cpos) none pos.line X.env=pure false:=by rfl):PS X (.Expr (.Call (.Attribute (.Name x px) "extend" apos) [e] [] cpos) pos) (tDS X.K (qr7 i f)):=
 je (q4j (qte g4s PySem.F.slot_list_extend PySem.F.type_list_extend quu hv (xm he wq hse) hbase hfew hline hse rfl) hs) fun D σ H ⟨F0,H0,F, ρ,fl, ρ',r,hf,q⟩=>by
  obtain⟨ds,h1,hf⟩:=gc.mp hf;obtain⟨d,h2,h3⟩:=gc.mp hf;have h1:=q3h h1;cases d <;> simp only at h3 <;> first|(cases h3;done)|skip
  rename_i es
  split at h3
  ·rename_i hl
   cases h3;obtain⟨a,xs,e1,e2,e3,e4,e5⟩:=r.ow i ds h1;refine⟨.ref a,e1,.inl ⟨rfl,xs,SqL.of e2⟩,F0,H0,F, ρ,_,r,h2,fun v F' H' g' r'=>?_⟩;have r2:=r.grow g';obtain⟨b,zs,rfl,k1,k2⟩:=rep_lst.mp r';refine⟨a,b,xs,zs,rfl,rfl,g'.hh.lst _ _ e2,g'.fh.seq k1,mi (by rw [<- e5.length, <- k2.length];exact hl) (by decide),?_⟩;exact q _ F' _ g'.ff (r2.wrt h1 e1 ((e5.mono g'.ff).append k2))
  ·cases h3
end
end DL
namespace DL
open PySem PySem.Spec PyProof.Rows L2
variable[Lam][Pin]
section
variable{X:Cx}
abbrev oDivB:=oI (fun _ j=>decide (0<j)&&decide (j<1606938044258990275541962092341162602522202993782792835301376)) fun i j=>i / j
theorem qr8:OpR X (binaryOp .FloorDiv) (rI (fun _ j=>0<j/\j<1606938044258990275541962092341162602522202993782792835301376) fun i j=>.int (i / j)):=opI fun i j _ _ _ _ _ hc q=>by
 have h1:(0:Int)<j:=hc.1;have h2:j<1606938044258990275541962092341162602522202993782792835301376:=hc.2;refine floordiv_int (by lia) (by rw [g26 i (by lia)];exact q) (.inl (PyProof.noPylong_of_log2 ?_));have h3:j.natAbs<2 ^ 200:=by lia
 exact gx ((Nat.log2_lt (by lia)).mpr h3) (by decide)
theorem qkk:OpR X (binaryOp .FloorDiv) (rD X.K oDivB):=q5f qr8 fun i j h=>q0f h
end
end DL
namespace L2
open PySem PySem.Spec PyProof.Rows
section
variable{M:Model}{A:Around}{E:Ta}{s:Shared}
theorem q7b:∀(names:List (Str×NameKind)) (n:Nat) (acc:List (Str×Addr)),cellsFrom n names acc=cellsFrom n names []++acc
 | [],_,_=>rfl
 | (x,k) :: r,n,acc=>by
  unfold cellsFrom
  split
  ·rw [q7b r (n+1) ((x,n) :: acc),q7b r (n+1) [(x,n)],td];rfl
  ·exact q7b r n acc
theorem qgv:∀ {names:List (Str×NameKind)} {n:Nat} {acc:List (Str×Addr)} {x:Str} {c:Addr},(x,c)∈cellsFrom n names acc->(x,c)∈acc\/(x,NameKind.cell)∈names
 | [],_,_,_,_,h=>.inl h
 | (y,k) :: r,n,acc,x,c,h=>by
  unfold cellsFrom at h
  split at h
  ·rename_i hk
   have hk:k=.cell:=by simpa using hk
   subst hk;rcases qgv h with h|h
   ·rcases mh.mp h with e|h
    ·cases e;exact .inr ma
    ·exact .inl h
   ·exact .inr (gz _ h)
  ·rcases qgv h with h|h
   ·exact .inl h
   ·exact .inr (gz _ h)
theorem qr9{l:List (Str×Addr)}{x:Str}{c:Addr}(h:(x,c)∈l): ∃d,l.lookup x=some d:=by
 induction l with
 | nil=>cases h
 | cons p r ih=>
  obtain⟨y,d⟩:=p;rw [nk];cases q:x==y with
  | true=>exact⟨d,rfl⟩
  | false=>
   rcases mh.mp h with e|h
   ·cases e;simp at q
   ·exact ih h
theorem qgw:∀ {names:List (Str×NameKind)} {n:Nat} {acc:List (Str×Addr)} {x:Str},(x,NameKind.cell)∈names->∃c,(x,c)∈cellsFrom n names acc
 | [],_,_,_,h=>by cases h
 | (y,k) :: r,n,acc,x,h=>by
  unfold cellsFrom;rcases mh.mp h with e|h
  ·cases e
   rw [gw (show(NameKind.cell==NameKind.cell)=true from rfl),q7b];exact⟨n,nh _ ma⟩
  ·split
   ·exact qgw h
   ·exact qgw h
theorem qoa{scope:Scope}{globals:Addr}{cl:List (Str×Addr)}{qual:Str}{outer:Env}{Q:Env->Shared->Prop}
  (hQ:Q {scope,locals:=s.heap.objs.size,globals,cells:=cellsFrom (s.heap.objs.size+1) scope.names []++cl,qual,func:=none,code:=outer.code,frame:=outer.frame,builtins:=outer.builtins} {s with heap:=pushCells (s.heap.push {cls:=.type "dict",data:=.dict #[]}) scope.names}) :
  wpAny M A (newFunctionEnv scope globals cl [] qual none .none (some outer)) Q E s:=by
 simp only [newFunctionEnv,Option.isSome_some,uh];refine g9 (g53 ?_);refine g9 (wpAny_layCells _ (fun name kind cells=>by cases hkc:kind==NameKind.cell <;> simp [hkc]) _ _ _ _ ?_);rw [show({s with heap:=s.heap.push {cls:=.type "dict",data:=.dict #[]} }:Shared).heap.objs.size=s.heap.objs.size+1 from ph ..,q7b];rw [g2l];exact g9 (gf (gf hQ))
end
abbrev jo(X:Cx)(N':List Str)(scope:Scope)(cl:List (Str×Addr))(C:Addr)(s₀:Shared)(H₀:Hp)(fp:List Addr): Cx:=
 {X with N:=N',env:=compEnvC scope cl C X.env,s₀:=s₀,H₀:=H₀,outer:=X.stack,ex:=fp,fn:=fun x=>scope.names.lookup x==some .cell,pn:=[],xe:=fun _ _=>False}
structure CapOkC(X:Cx)(N':List Str)(scope:Scope)(cap:Te): Prop where
 kind:scope.kind=.function
 cells:∀y∈scope.names,y.2=.cell->scope.names.lookup y.1=some .cell
 names:∀y∈scope.names,y.2=.local->scope.names.lookup y.1=some .local
 frees:∀y∈scope.names,y.2=.free->X.env.kindOf y.1=some .cell\/X.env.kindOf y.1=some .free
 len:cap.length=N'.length
 cap:∀(i j:Nat),cap[i]? = some (some j)->∃x,N'[i]? = some x/\X.N[j]? = some x/\scope.names.lookup x=some .free
section
variable{X:Cx}{pins:Td}{σ : St}{H:Hp}{s:Shared}{N':List Str}{scope:Scope}{cap:Te}{cl:List (Str×Addr)}{fp:List Addr}
theorem qob(I:Inv X pins σ H s)(co:CapOkC X N' scope cap)(h1:∀x c,cl.lookup x=some c->X.env.cells.lookup x=some c)(h2:∀y∈scope.names,y.2=.free->∃c,cl.lookup y.1=some c)
  (hf:∀b∈fp,q09 X pins H b) (ho:∀b∈fp,∃o,s.heap.get? b=some o) {t':Nat} :
  Inv (jo X N' scope (cellsFrom (s.heap.objs.size+1) scope.names []++cl) s.heap.objs.size s H fp) [] (qd5 cap σ) H {s with heap:=pushCells (s.heap.push {cls:=.type "dict",data:=.dict #[]}) scope.names,toks:=t'}:=by
 have flt:∀b∈fp,b<s.heap.objs.size:=fun b hb=>let⟨o,e⟩:=ho b hb;gu e
 have okc:=cellsFrom_ok scope.names (s.heap.push {cls:=.type "dict",data:=.dict #[]}) (s.heap.objs.size+1) [] ⟨fun _ _ hm=>(nomatch hm),List.Pairwise.nil⟩ (by rw [ph];exact m6 _);rw [ph] at okc;have hk:∀b o,s.heap.get? b=some o->(pushCells (s.heap.push {cls:=.type "dict",data:=.dict #[]}) scope.names).get? b=some o:=fun b o e=>g4x _ _ b o (gh _ e);have hn:(pushCells (s.heap.push {cls:=.type "dict",data:=.dict #[]}) scope.names).Ns s.heap.objs.size (fun _=>none):=(Heap.Ns.new s.heap (.type "dict")).keeps (g4x _ _);generalize hnw:cellsFrom (s.heap.objs.size+1) scope.names []=nw at okc;have newc:∀ {x c},nw.lookup x=some c->(x,NameKind.cell)∈scope.names/\s.heap.objs.size+1<=c:=fun {x c} e=>by
  have m:=g43 e;have m2:=m;rw [<- hnw] at m2;rcases qgv m2 with z|z
  ·cases z
  ·exact⟨z,(okc.empty x c m).2⟩
 have hasN:∀ {x},(x,NameKind.cell)∈scope.names->∃c,nw.lookup x=some c:=fun {x} e=>by
  obtain⟨c,hc⟩:=qgw (n:=s.heap.objs.size+1) (acc:=[]) e;rw [hnw] at hc;exact qr9 hc
 have old:∀ {x c},cl.lookup x=some c->c<s.heap.objs.size:=fun {x c} e=>let⟨v,q⟩:=I.cell x c (h1 x c e);q.lt
 have cases2:∀ {x c},(nw++cl).lookup x=some c->nw.lookup x=some c\/(nw.lookup x=none/\cl.lookup x=some c):=fun {x c} e=>by
  rw [g3z] at e;cases q:nw.lookup x with
  | some d=>rw [q] at e;exact .inl e
  | none=>rw [q] at e;exact .inr ⟨rfl,e⟩
 refine⟨⟨I.ok.mod,co.kind,I.ok.glob,I.ok.blt,m6 _,fun x y c e1 e2=>?_,fun x hx=>?_,fun x c z e=>?_,I.ok.hd,I.ok.frames,.inl rfl,fun b hb=>?_,I.bs,mi I.ok.bsz I.sz,fun b o e hb=>?_,fun b hb z=>?_,I.stack,I.stkFree⟩,
  rfl,I.bare,Un.kept hk,⟨_,hn,fun i x v e1 e2 e3=>?_⟩,fun x c e=>?_,I.hok.fresh (m6 _),fun x c e=>?_,fun p hp=>(nomatch hp),I.hok.kept hk,?_⟩
 ·rcases cases2 e1 with a|⟨_,a⟩ <;> rcases cases2 e2 with b|⟨_,b⟩
  ·exact name_of_addr okc.apart (g43 a) (g43 b)
  ·exact absurd (gx (old b) (g0i (newc a).2)) (ua _)
  ·exact absurd (gx (old a) (g0i (newc b).2)) (ua _)
  ·exact I.ok.inj x y c (h1 x c a) (h1 y c b)
 ·have hx':(relabel scope X.env).names.lookup x=some .cell\/(relabel scope X.env).names.lookup x=some .free:=hx
  have key:(scope.names.lookup x=some .cell)\/(scope.names.lookup x=some .free):=by
   rcases hx' with q|q
   ·rcases q2r q with z|⟨_,z⟩
    ·exact .inl z
    ·exact .inr z
   ·rcases q2r q with z|⟨z,_⟩
    ·exact .inr z
    ·cases z
  show ∃c,(nw++cl).lookup x=some c;rw [g3z];rcases key with z|z
  ·obtain⟨c,hc⟩:=hasN (lookup_mem z)
   exact⟨c,by rw [hc];rfl⟩
  ·obtain⟨c,hc⟩:=h2 (x,.free) (lookup_mem z) rfl
   cases q:nw.lookup x with
   | some d=>exact⟨d,rfl⟩
   | none=>exact⟨c,hc⟩
 ·have z':scope.names.lookup x=some .cell:=by simpa using z
  obtain⟨d,hd⟩:=hasN (lookup_mem z');rcases cases2 e with a|⟨a,_⟩
  ·exact g0i (newc a).2
  ·rw [hd] at a;cases a
 ·obtain⟨f0,f1,f2,f3,f4,f5⟩:=hf b hb
  refine⟨m4 (flt b hb),fun x c e=>?_⟩;rcases cases2 e with a|⟨_,a⟩
  ·exact pd (gx (flt b hb) (g0i (newc a).2))
  ·exact f4 x c (h1 x c a)
 ·obtain⟨f0,f1,f2,f3,f4,f5⟩:=hf b hb
  rcases f3 with z|z
  ·exact I.ok.noex b o e z
  ·exact absurd (gx (gu e) (mi I.ok.bsz z)) (ua _)
 ·obtain⟨f0,f1,f2,f3,f4,f5⟩:=hf b hb
  rcases mh.mp (I.stkSub b z) with q|q
  ·exact f1 q
  ·exact f2 q
 ·have e2':(cap.map fun o=>o.bind fun j=>(σ[j]?).join)[i]? = some (some v):=e2
  rw [mq] at e2';cases q:cap[i]? with
  | none=>rw [q] at e2';cases e2'
  | some o=>
   rw [q] at e2';cases o with
   | none=>cases e2'
   | some j=>
    obtain⟨y,a1,a2,a3⟩:=co.cap i j q;have e1':N'[i]? = some x:=e1;rw [a1] at e1';obtain rfl:y=x:=mr e1';have ej:(σ[j]?).join=some v:=by
     have:=e2';simp only [mx,gj,g2s] at this;exact this
    have ej' : σ[j]? = some (some v):=by
     cases z : σ[j]? with
     | none=>rw [z] at ej;cases ej
     | some u=>rw [z] at ej;simp only [g33] at ej;rw [ej]
    have kd:=co.frees (y,.free) (lookup_mem a3) rfl;obtain⟨m0,hn0,hl0⟩:=I.loc;have vis:Vis X.env.scope y:=by
     rcases kd with k|k
     ·exact .inr (.inl k)
     ·exact .inr (.inr k)
    obtain⟨u,ru,lk⟩:=hl0 j y v a2 ej' vis;refine⟨u,ru,.inr ⟨q71 a3,?_⟩⟩;obtain⟨c,hc⟩:=h2 (y,.free) (lookup_mem a3) rfl;have nn:nw.lookup y=none:=by
     cases q:nw.lookup y with
     | none=>rfl
     | some d=>
      have:=co.cells (y,.cell) (newc q).1 rfl;rw [a3] at this;cases this
    rcases lk with⟨k,_⟩|⟨_,c',hc',z⟩
    ·rcases kd with k'|k'
     ·rw [k] at k';cases k'
     ·rw [k] at k';cases k'
    ·have:=h1 _ _ hc
     rw [hc'] at this;obtain rfl:c'=c:=mr this;obtain⟨o,eo,ed⟩:=z;exact⟨c',by show(nw++cl).lookup y=_;rw [g3z,nn];exact hc,o,hk _ _ eo,ed⟩
 ·rcases cases2 e with a|⟨_,a⟩
  ·exact⟨none,(okc.empty x c (g43 a)).1⟩
  ·obtain⟨v,o,eo,ed⟩:=I.cell x c (h1 x c a)
   exact⟨v,o,hk _ _ eo,ed⟩
 ·rcases cases2 e with a|⟨_,a⟩
  ·exact I.hok.fresh (g0i (newc a).2)
  ·exact I.freeC x c (h1 x c a)
 ·show(cap.map _).length=N'.length
  rw [gv];exact co.len
theorem qj7{N':List Str}{C:Addr}{H':Hp}{s':Shared}{σ':St}{h':Heap}(I:Inv X pins σ H s)(hf:∀b∈fp,q09 X pins H b)(J:Inv (jo X N' scope cl C s H fp) [] σ' H' s')(hs:Heap.SameBut C s'.heap h'):
  Inv X pins σ H' {s' with heap:=h'}:=by
 have hC:s.heap.objs.size<=C:=J.ok.above;have kp:∀b o,b≠C->s'.heap.get? b=some o->h'.get? b=some o:=fun b o hb e=>(hs.2 b hb).trans e;have hC0:H' C=none:=J.free;have un:Un (frs X.stack) fp H H' s.heap h':=by
  have u:Un (frs X.stack) fp H H' s.heap s'.heap:=J.base;have neC:∀b o,s.heap.get? b=some o->b≠C:=fun b o e=>m4 (gx (gu e) hC);exact⟨fun b o e n h1 h2=>kp b o (neC b o e) (u.keep b o e n h1 h2),fun b o e n h1 h2=>let⟨sl,q⟩:=u.slot b o e n h1 h2; ⟨sl,kp b _ (neC b o e) q⟩,u.free,fun b o e h=>let⟨o',q⟩:=u.there b o e h; ⟨o',kp b o' (neC b o e) q⟩,u.tups,u.frzs,u.tbls⟩
 have hok:HOk X.prog X.w H' h':=fun b u e=>by
  refine(J.hok b u e).stay (fun c v hc q=>kp c v ?_ q) (fun _ q=>q) fun _ _ q=>q;rcases hc with z|z
  ·rw [z];intro z2;rw [z2,hC0] at e;cases e
  ·intro z2;rw [z2,hC0] at z;cases z
 exact I.call' (s':={s' with heap:=h'}) (ch:=fp) J.os un hok J.bare fun b hb=>by
  obtain⟨f0,f1,f2,f3,f4,f5⟩:=hf b hb;exact⟨f3,f1,f4,f5⟩
end
section
variable{X:Cx}{N':List Str}{scope:Scope}{cap:Te}{tg iter elt:Expr}{ifs:List Expr}{wi:TI}{g:TG}{tc:TT}{te:TE}{pos:Pos}
theorem qbi{cl:List (Str×Addr)}{pins:Td}{s:Shared}{σ : St}{H:Hp}{it:Addr}{fp:List Addr}{tn:Nat->Heap->Prop}{J:It}{E:Ta}{K:Addr->Hp->Prop}
  {RR:Value->Addr->Result->Shared->Prop} (hc:X.calm=true) (co:CapOkC X N' scope cap)
  (h1:∀x c,cl.lookup x=some c->X.env.cells.lookup x=some c) (h2:∀y∈scope.names,y.2=.free->∃c,cl.lookup y.1=some c)
  (hg:∀cl C s₀ H₀ fp,PG (jo X N' scope cl C s₀ H₀ fp) tg g) (hcs:∀cl C s₀ H₀ fp,q1z (jo X N' scope cl C s₀ H₀ fp) ifs tc) (he:∀cl C s₀ H₀ fp,PE (jo X N' scope cl C s₀ H₀ fp) elt te)
  (I:Inv X pins σ H s) (T:Turn X.prog X.w X.K tg J fp it tn) (st:tn 0 s.heap) (hf:∀b∈fp,q09 X pins H b) (h:∀p,H p=none->qxe J cap g tc te σ H p (K p))
  (hRR:∀(D C:Addr) (s':Shared) (H':Hp),s.heap.objs.size<=C->(∃m,s'.heap.Ns C m)->(∀h',Heap.SameBut C s'.heap h'->Inv X pins σ H' {s' with heap:=h'})->H' C=none->K D H'->RR (.ref D) C (.ok .next) s') :
  wpAny (model X.prog X.w) X.A (newList []) (fun acc s₃=>wpAny (model X.prog X.w) X.A (newFunctionEnv scope X.env.globals cl [] X.env.qual none .none (some X.env)) (fun cenv s₄=>
   codeAny (model X.prog X.w) X.A (.compStart (.ListComp elt [⟨tg,iter,ifs,0⟩] scope pos) 0 (.ref it) acc {cenv with scope:=relabel scope X.env}) (RR acc cenv.locals) s₄) E s₃) E s:=by
 refine pb (qoa ?_);have hD:H s.heap.objs.size=none:=I.fresh;have I3:Inv X pins σ (upd H s.heap.objs.size (.lst [])) {s with heap:=s.heap.push {cls:=.type "list",dict:=none,data:=.seq ([]:List Value).toArray} }:=I.lnew (ys:=[]) (its:=[]) (t':=s.toks) .nil (u6 _);obtain⟨W,⟨m0,w0⟩,turn⟩:=h s.heap.objs.size hD;have fobj:∀b∈fp,∃o,s.heap.get? b=some o:=fun b hb=>let⟨o,e,_⟩:=T.obj 0 _ st b hb; ⟨o,e⟩
 generalize e3:({s with heap:=s.heap.push {cls:=.type "list",dict:=none,data:=.seq ([]:List Value).toArray} }:Shared)=s3 at I3;have es3:s3.heap=s.heap.push {cls:=.type "list",dict:=none,data:=.seq ([]:List Value).toArray}:=by rw [<- e3]
 have eC:(s.heap.push {cls:=.type "list",dict:=none,data:=.seq ([]:List Value).toArray}).objs.size=s3.heap.objs.size:=by rw [es3]
 have hf3:∀b∈fp,q09 X pins (upd H s.heap.objs.size (.lst [])) b:=fun b hb=>by
  obtain⟨f0,f1⟩:=hf b hb;obtain⟨o,e⟩:=fobj b hb;exact⟨by rw [qr (m4 (gu e))];exact f0,f1⟩
 generalize ehh:pushCells (s3.heap.push {cls:=.type "dict",data:=.dict #[]}) scope.names=hh;have ehh3:hh=pushCells (s3.heap.push {cls:=.type "dict",data:=.dict #[]}) scope.names:=ehh.symm;have kp:∀b o,s3.heap.get? b=some o->hh.get? b=some o:=fun b o e=>by rw [ehh3];exact g4x _ _ b o (gh _ e)
 have hle:s.heap.objs.size<=s3.heap.objs.size:=by rw [es3,ph];exact g1o _
 have s3e:∀t:Nat,({s with heap:=hh,toks:=t}:Shared) = {s3 with heap:=hh,toks:=t}:=fun t=>by rw [<- e3]
 have I4:Inv (jo X N' scope (cellsFrom (s3.heap.objs.size+1) scope.names []++cl) s3.heap.objs.size s3 (upd H s.heap.objs.size (.lst [])) fp) [] (qd5 cap σ) (upd H s.heap.objs.size (.lst [])) {s3 with heap:=hh,toks:=s.toks}:=by
  rw [ehh3];exact qob I3 co h1 h2 hf3 (fun b hb=>let⟨o,e⟩:=fobj b hb; ⟨o,by rw [es3];exact gh _ e⟩)
 have st4:tn 0 hh:=T.keep 0 _ _ st fun b hb o e=>kp b o (by rw [es3];exact gh _ e);have etk:s3.toks=s.toks:=by rw [<- e3]
 show codeAny (model X.prog X.w) X.A (.compStart (.ListComp elt [⟨tg,iter,ifs,0⟩] scope pos) 0 (.ref it) (.ref s.heap.objs.size) (compEnvC scope (cellsFrom (s3.heap.objs.size+1) scope.names []++cl) s3.heap.objs.size X.env)) (RR (.ref s.heap.objs.size) s3.heap.objs.size)
  {s3 with heap:=hh,toks:=s3.toks}
 rw [etk];generalize eX:jo X N' scope (cellsFrom (s3.heap.objs.size+1) scope.names []++cl) s3.heap.objs.size s3 (upd H s.heap.objs.size (.lst [])) fp=X' at I4;have hg':PG X' tg g:=by rw [<- eX];exact hg _ _ _ _ _
 have hcs':q1z X' ifs tc:=by rw [<- eX];exact hcs _ _ _ _ _
 have he':PE X' elt te:=by rw [<- eX];exact he _ _ _ _ _
 have eenv:X'.env=compEnvC scope (cellsFrom (s3.heap.objs.size+1) scope.names []++cl) s3.heap.objs.size X.env:=by rw [<- eX]
 have exe:X'.xe=fun _ _=>False:=by rw [<- eX]
 have eex:X'.ex=fp:=by rw [<- eX]
 have eprog:X'.prog=X.prog:=by rw [<- eX]
 have ew:X'.w=X.w:=by rw [<- eX]
 have eK:X'.K=X.K:=by rw [<- eX]
 have eA:X'.A=X.A:=by rw [<- eX]
 have ecalm:X'.calm=true:=by rw [<- eX];exact hc
 have epn:X'.pn=[]:=by rw [<- eX]
 have eloc:X'.env.locals=s3.heap.objs.size:=by rw [eenv];rfl
 have ok':=I4.ok;have stat:∀ {H':Hp},(∀b∈fp,H' b=none)->∀b∈fp,q09 X' [] H' b:=fun hn b hb=>by
  have hbx:b∈X'.ex:=by rw [eex];exact hb
  exact⟨hn b hb,(ok'.exf b hbx).1,ok'.exfs b hbx,.inl hbx,(ok'.exf b hbx).2,fun p hp=>by rw [epn] at hp;cases hp⟩
 have back:∀ {σ':St} {H':Hp} {s':Shared},Inv X' [] σ' H' s'->K s.heap.objs.size H'->RR (.ref s.heap.objs.size) s3.heap.objs.size (.ok .next) s':=fun {σ' H' s'} J' k=>by
  refine hRR _ _ _ H' hle ?_ (fun h' hs'=>?_) ?_ k
  ·obtain⟨m,hm,_⟩:=J'.loc
   exact⟨m,by rw [<- eloc];exact hm⟩
  ·rw [<- eX] at J'
   exact qj7 I3 hf3 J' hs'
  ·rw [<- eloc];exact J'.free
 have loop:codeAny (model X.prog X.w) X.A (.compLoop (.ListComp elt [⟨tg,iter,ifs,0⟩] scope pos) 0 (.ref it) (.ref s.heap.objs.size) (compEnvC scope (cellsFrom (s3.heap.objs.size+1) scope.names []++cl) s3.heap.objs.size X.env)) (RR (.ref s.heap.objs.size) s3.heap.objs.size)
   {s3 with heap:=hh,toks:=s.toks}:=by
  refine qj6 (fun n s'=>∃i σ' H',Inv X' [] σ' H' s'/\tn i s'.heap/\(∀b∈fp,H' b=none)/\W i n σ' H') ?_ m0 ⟨0,_,_,I4,st4,fun b hb=>(hf3 b hb).1,w0⟩
  rintro n s5 ⟨i, σ5,H5,I5,st5,fr5,w5⟩
  rw [<- eenv];rcases turn i n σ5 H5 w5 with⟨stop,qn⟩|⟨go,step⟩
  ·have:=T.done X' eprog ew eK ecalm i [] s5 σ5 H5 (fun _ _=>False) I5 (stat fr5) st5 stop
   rw [eA] at this;refine thn this fun r s6 ⟨hr,I6⟩=>?_;subst hr;exact back I6 qn
  ·have:=T.item X' eprog ew eK ecalm i [] s5 σ5 H5 (fun _ _=>False) I5 (stat fr5) st5 go
   rw [eA] at this;refine thn this fun r s6 ⟨u,hr,h6⟩=>?_;subst hr;refine thn h6 fun _ s7 ⟨x,H7,I7,r7,y7,st7,fr7⟩=>?_;have I7':=I7.pinned (stat fr7) (T.obj _ _ st7);have hg2:=hg' _ s7 σ5 H7 x u _ I7' r7 (step x H7 y7);rw [exe,eprog,ew,eA] at hg2;refine thn hg2 fun _ s8 ⟨σ8,H8,I8,q8⟩=>?_;have hc2:=hcs' _ s8 σ8 H8 _ I8 q8;rw [exe,eprog,ew,eA] at hc2;refine thn hc2 fun ok s9 ⟨H9,I9,q9⟩=>?_;have again:∀ {H':Hp} {s':Shared} {m':Nat},Inv X' ([]++q4k fp s7.heap) σ8 H' s'->m'<n->W (i+1) m' σ8 H'->∃m,m<n/\∃i σ' H',Inv X' [] σ' H' s'/\tn i s'.heap/\(∀b∈fp,H' b=none)/\W i m σ' H':=fun {H' s' m'} J' hm w'=>by
    refine⟨m',hm,i+1, σ8,H',J'.unpinned,T.keep _ _ _ st7 fun b hb o e=>(J'.pin (b,o) (nh _ (nh _ (q2c hb e)))).1,fun b hb=>?_,w'⟩;obtain⟨o,e,d⟩:=T.obj _ _ st7 b hb;exact(J'.pin (b,o) (nh _ (nh _ (q2c hb e)))).2.1
   cases ok with
   | false=>
    rw [mf gy] at q9 ⊢;obtain⟨m',hm,w'⟩:=q9;exact again I9 hm w'
   | true=>
    rw [gw rfl] at q9 ⊢;have he2:=he' _ s9 σ8 H9 _ I9 q9;rw [exe,eprog,ew,eA] at he2;refine thn he2 fun y s10 ⟨yv,H10,I10,r10,xs,hp,hz,m',hm,w'⟩=>?_;have ha2:=qeb (X:=X') ([]++q4k fp s7.heap) s10 σ8 H10 (.ref s.heap.objs.size) [yv] (.ref s.heap.objs.size) [y] (fun _ H'=>H'=upd H10 s.heap.objs.size (.lst (xs++[yv]))) I10 rfl (.cons r10 .nil) ⟨_,xs,yv,rfl,rfl,hp,hz,rfl⟩;rw [exe,eprog,ew,eA] at ha2;refine thn ha2 fun _ s11 ⟨_,H11,I11,_,e11⟩=>?_;subst e11;exact again I11 hm w'
 exact codeAny_compStart_list loop (T.self _ 0 _ _ _ st4 loop)
theorem qra(hc:X.calm=true)(co:CapOkC X N' scope cap)(hi:PI X tg iter wi)
  (hg:∀cl C s₀ H₀ fp,PG (jo X N' scope cl C s₀ H₀ fp) tg g) (hcs:∀cl C s₀ H₀ fp,q1z (jo X N' scope cl C s₀ H₀ fp) ifs tc) (he:∀cl C s₀ H₀ fp,PE (jo X N' scope cl C s₀ H₀ fp) elt te)
  (hs:∀x,foldedSetIterable iter X.env x=pure x:=by intro _;rfl):PE X (.ListComp elt [⟨tg,iter,ifs,0⟩] scope pos) (qlr wi cap g tc te):=by
 intro pins s σ H Q I h;obtain⟨cl,ecl,c1,c2⟩:=qb6 (scope:=scope) (env:=X.env) fun y hy hf=>I.ok.has y.1 (co.frees y hy hf);rw [eval_ListComp];refine wpAny_comprehension_free (use:=none) rfl hs ecl co.kind co.names (nu (hi pins s σ H _ I h) (fun v s1 h1=>nu h1 (fun itv s2 h2=>?_) fun _ _ e=>e) fun _ _ e=>e);obtain⟨it,fp,tn,J,H2,rfl,I2,T,st2,f2,h2⟩:=h2;refine qbi (K:=fun p=>Q (.ref p)) (RR:=fun acc C=>compPost (model X.prog X.w) X.A X.xe none (EP X pins σ Q) acc C) hc co c1 c2 hg hcs he I2 T st2 f2 h2 ?_;intro D C s' H' hle ⟨m,hm⟩ hI hC q;exact⟨m,hm,fun h' hs'=>⟨.ref D,H',hI h' hs',rfl,q⟩⟩
end
end L2
namespace DL
open PySem PySem.Spec PyProof.Rows L2
variable[Lam][Pin]
section
variable{X:Cx}{N':List Str}{scope:Scope}{cap:Te}{tg iter elt:Expr}{ifs:List Expr}{it:FA}{b:FB}{c:FT}{f:FE}{pos:Pos}
theorem zo(hc:X.calm=true)(co:CapOkC X N' scope cap)(fr:qbd b cap)(hi:PI X tg iter (tDI X.K it))
  (hg:∀cl C s₀ H₀ fp,PG (jo X N' scope cl C s₀ H₀ fp) tg (tDG X.K b)) (hcs:∀cl C s₀ H₀ fp,q1z (jo X N' scope cl C s₀ H₀ fp) ifs (tDT X.K c)) (he:∀cl C s₀ H₀ fp,PE (jo X N' scope cl C s₀ H₀ fp) elt (tD X.K f))
  (hs:∀x,foldedSetIterable iter X.env x=pure x:=by intro _;rfl):PE X (.ListComp elt [⟨tg,iter,ifs,0⟩] scope pos) (tL X.K (zi it cap b c f)):=
 zr (qra hc co hi hg hcs he hs) fun σ H Q h=>qo2 fr h
end
def qtn (outer:List (Str×NameKind)) (N N':List Str) (scope:Scope) (cap:Te):Bool:=
 scope.names.all (fun y=> !(y.2 == .cell) || (scope.names.lookup y.1==some .cell))&&(scope.names.all (fun y=> !(y.2 == .local) || (scope.names.lookup y.1==some .local))&&(scope.names.all (fun y=> !(y.2 == .free) || (outer.lookup y.1==some .cell) || (outer.lookup y.1==some .free)) &&
  (cap.length==N'.length&&(List.range cap.length).all fun i=>match(cap[i]?).join with
   | none=>true
   | some j=>match N'[i]? with
    | none=>false
    | some x=>N[j]? == some x&&scope.names.lookup x==some .free)))
omit [Lam] [Pin] in
theorem zc{X:Cx}{N':List Str}{scope:Scope}{cap:Te}(hk:scope.kind=.function)(h:qtn X.env.scope.names X.N N' scope cap=true): CapOkC X N' scope cap:=by
 unfold qtn at h;simp only [mn,t4] at h;obtain⟨h1,h2,h3,h4,h5⟩:=h;refine⟨hk,fun y hy e=>?_,fun y hy e=>?_,fun y hy e=>?_,by simpa using h4,fun i j e=>?_⟩
 ·have:=h1 y hy;rw [e] at this;simpa using this
 ·have:=h2 y hy;rw [e] at this;simpa using this
 ·have:=h3 y hy
  rw [e] at this;simp only [g32,g27,g5b,g3f,ux] at this;exact this
 ·have hi:i<cap.length:=(nj.mp e).1
  have:=h5 i (g0n.mpr hi);rw [e] at this;simp only [g33] at this
  split at this
  ·cases this
  ·rename_i x hx
   simp only [mn,ux] at this;exact⟨x,hx,this.1,this.2⟩
end DL
namespace L2
open PySem PySem.Spec PyProof.Rows
section
variable{X:Cx}{N':List Str}{scope:Scope}{cap:Te}{tg iter elt:Expr}{ifs:List Expr}{wi:TI}{g:TG}{tc:TT}{te:TE}{pos:Pos}
theorem qj8{i:Nat}{x:Str}{px pe:Pos}(hc:X.calm=true)(hN:X.N.Nodup)(hx0:X.N[i]? = some x)(hx:X.env.scope.names.lookup x=some .local)(co:CapOkC X N' scope cap)(hi:PI X tg iter wi)
  (hg:∀cl C s₀ H₀ fp,PG (jo X N' scope cl C s₀ H₀ fp) tg g) (hcs:∀cl C s₀ H₀ fp,q1z (jo X N' scope cl C s₀ H₀ fp) ifs tc) (he:∀cl C s₀ H₀ fp,PE (jo X N' scope cl C s₀ H₀ fp) elt te)
  (hsw:swapsWith (.ListComp elt [⟨tg,iter,ifs,0⟩] scope pe) (some (.Name x px)) pos.line X.env=pure true:=by rfl)
  (hs:∀x,foldedSetIterable iter X.env x=pure x:=by intro _;rfl):PS X (.Assign [.Name x px] (.ListComp elt [⟨tg,iter,ifs,0⟩] scope pe) pos) (qq2 (qlr wi cap g tc te) (q8h i)):=by
 intro pins s σ H D I h;obtain⟨cl,ecl,c1,c2⟩:=qb6 (scope:=scope) (env:=X.env) fun y hy hf=>I.ok.has y.1 (co.frees y hy hf);rw [exec_Assign_Name_used _ _ _ _ hsw];refine g9 (g2y (g9 ?_));show wpAny _ X.A (do let _ <- comprehension (.ListComp elt [⟨tg,iter,ifs,0⟩] scope pe) scope X.env _ (newList []) false (eval iter X.env) (some (assign (.Name x px) X.env))) _ _ s;refine g9 (nu (wpAny_comprehension_free (use:=some (assign (.Name x px) X.env)) (Q:=fun _ s'=>SP X pins D .next s') rfl hs ecl co.kind co.names
  (nu (hi pins s σ H _ I h) (fun v s1 h1=>nu h1 (fun itv s2 h2=>?_) fun _ _ e=>e) fun _ _ e=>e)) (fun _ s' hq=>gf (gf hq)) fun _ _ e=>e)
 obtain⟨it,fp,tn,J,H2,rfl,I2,T,st2,f2,h2⟩:=h2;refine qbi (K:=fun p H'=>q8h i (.ref p) σ H' D.nx) (RR:=fun acc C=>compPost (model X.prog X.w) X.A X.xe (some (assign (.Name x px) X.env)) (fun _ s'=>SP X pins D .next s') acc C) hc co c1 c2 hg hcs he I2 T st2 f2 h2 ?_;intro Da C s' H' hle ⟨m,hm⟩ hI hC q;have I':Inv X pins σ H' s':=hI s'.heap (g1s ..);obtain⟨o,es,ep,ho,hd,hk⟩:=id hm;have hCL:C≠X.env.locals:=pd (gx I2.lt hle);have hCf:C∉X.fs:=I2.nofs hle;have I'':Inv X (pins++[(C,o)]) σ H' s':=I'.pins_of fun p hp=>(ud.mp hp).elim (fun z=>I'.pin p (nh _ z)) fun z=>by
  obtain rfl:p=(C,o):=by simpa using z
  exact⟨ho,hC,hCL,hCf,fun v z=>by rw [hd] at z;cases z⟩
 show wpAny (model X.prog X.w) X.A (assign (.Name x px) X.env (.ref Da)) _ _ _;refine wpAny_assign_Name (q5a I'' hN hx0 (.inl hx) (v:=.ref Da) rfl (fun s'' J=>?_) (.inr hx));have hC2:s''.heap.get? C=some o:=(J.pin (C,o) (nh _ (nh _ ma))).1;refine⟨m,⟨o,es,ep,hC2,hd,hk⟩,fun h' hs'=>?_⟩;have J2:Inv X pins (σ.set i (some (.ref Da))) H' {s'' with heap:=h'}:=J.unpinned.turned (t':=s''.toks) (it:=C) (fun b ob hb e=>(hs'.2 b hb).trans e) hC hCL
  (.inr (mi I2.sz hle)) (fun y c e z=>by
   obtain⟨v,q2⟩:=I2.cell y c e;exact absurd (gx q2.lt (by rw [z];exact hle)) (ua _)) fun p hp z=>by
   exact absurd (gx (gu (I2.pin p hp).1) (by rw [z];exact hle)) (ua _)
 exact⟨_,H',J2,q⟩
end
end L2
namespace DL
open PySem PySem.Spec PyProof.Rows L2
variable[Lam][Pin]
section
variable{X:Cx}{N':List Str}{scope:Scope}{cap:Te}{tg iter elt:Expr}{ifs:List Expr}{it:FA}{b:FB}{c:FT}{f:FE}{pos:Pos}
theorem qrb{i:Nat}{x:Str}{px pe:Pos}(hc:X.calm=true)(hN:X.N.Nodup)(hx0:X.N[i]? = some x)(hx:X.env.scope.names.lookup x=some .local)(co:CapOkC X N' scope cap)(fr:qbd b cap)(hi:PI X tg iter (tDI X.K it))
  (hg:∀cl C s₀ H₀ fp,PG (jo X N' scope cl C s₀ H₀ fp) tg (tDG X.K b)) (hcs:∀cl C s₀ H₀ fp,q1z (jo X N' scope cl C s₀ H₀ fp) ifs (tDT X.K c)) (he:∀cl C s₀ H₀ fp,PE (jo X N' scope cl C s₀ H₀ fp) elt (tD X.K f))
  (hsw:swapsWith (.ListComp elt [⟨tg,iter,ifs,0⟩] scope pe) (some (.Name x px)) pos.line X.env=pure true:=by rfl)
  (hs:∀x,foldedSetIterable iter X.env x=pure x:=by intro _;rfl):PS X (.Assign [.Name x px] (.ListComp elt [⟨tg,iter,ifs,0⟩] scope pe) pos) (tDS X.K (q0p i (zi it cap b c f))):=
 je (qj8 hc hN hx0 hx co hi hg hcs he hsw hs) fun D σ H h=>qo2 fr (qth h)
end
end DL
namespace DL
open PySem PySem.Spec PyProof.Rows L2
section
variable{prog:Program}{w:World}{A:Around}{E:Ta}
end
variable[Lam][Pin]
section
variable{X:Cx}{es:List Expr}{pos:Pos}
end
end DL
namespace DL
open PySem PySem.Spec PyProof.Rows L2
variable[Lam][Pin]
section
variable{X:Cx}{pins:Td}{σ : St}{F H:Hp}{s:Shared}
theorem qbj(I:Inv X pins σ H s)(fh:Same F H)(A:Around): ∀ {ds es:List D} {xs ys:List V} {us vs:List Value},xo ds es=true->A.units+xp ds<cLine->RepL X.K F ds xs->RepL X.K F es ys->Vals xs us->Vals ys vs ->
   ∀j (h1:j<us.length) (h2:j<vs.length),SeqAt.EqAt A s us[j] vs[j] (eqJ ds es j)
 | [],es,xs,ys,us,vs,_,_,k1,_,w1,_,j,h1,_=>by
  cases k1.nil_inv;cases w1;exact absurd h1 (t7 _)
 | d :: ds,es,xs,ys,us,vs,ho,hd,k1,k2,w1,w2,j,h1,h2=>by
  obtain⟨x,r,rfl,a1,a2⟩:=k1.cons_inv;cases w1 with
  | cons p1 p2=>
   cases es with
   | nil=>cases k2.nil_inv;cases w2;exact absurd h2 (t7 _)
   | cons e es=>
    obtain⟨y,r',rfl,b1,b2⟩:=k2.cons_inv;cases w2 with
    | cons p3 p4=>
     simp only [xo,mn] at ho;simp only [xp] at hd;cases j with
     | zero=>
      have e0:eqJ (d :: ds) (e :: es) 0=eqD d e:=by simp [eqJ]
      rw [e0];exact qbf I fh A ho.1 (by lia) a1 b1 p1 p3
     | succ j=>
      have e0:eqJ (d :: ds) (e :: es) (j+1)=eqJ ds es j:=by simp [eqJ]
      rw [e0];exact qbj I fh A ho.2 (by lia) a2 b2 p2 p4 j (by simpa using h1) (by simpa using h2)
def qrc:D->D->Option D
 | .tup ds,.tup es=>if xo ds es&&decide (xp ds<=60) then some (.bl (!eqL ds es)) else none
 | _,_=>none
theorem qxy(hu:X.A.units+64<cLine): OpR X (compareOp .NotEq) (rD X.K qrc):=by
 intro pins s σ H x y v u Q I rx ry h;obtain⟨F,d1,d2,d,fh,r1,r2,ho,q⟩:=h;unfold qrc at ho
 split at ho
 ·rename_i ds es
  split at ho
  ·rename_i hc
   cases ho;rw [mn] at hc;obtain⟨a,xs,rfl,k1,k2⟩:=rep_tup.mp r1;obtain⟨b,ys,rfl,k3,k4⟩:=rep_tup.mp r2;cases rx;cases ry;obtain⟨i1,v1,t1,_⟩:=I.tuple (z0 fh k1);obtain⟨i2,v2,t2,_⟩:=I.tuple (z0 fh k3);have hq:=qbj I fh X.A.in1 hc.1 (by have:=ur hc.2;show X.A.units+1+xp ds<cLine;lia) k2 k4 v1 v2;have:=SeqAt.RcNeAt.tuples (A:=X.A) (e:=eqJ ds es) (show s.heap.IsTuple a i1.toArray from t1) (show s.heap.IsTuple b i2.toArray from t2) (by lia) (fun j h1 h2=>by simpa using hq j (by simpa using h1) (by simpa using h2));simp only [gq, <- v1.length, <- v2.length, <- k2.length, <- k4.length,yl] at this;exact this X.prog X.w _ _ ⟨.bl _,H,I,rfl,q _ F H (.refl fh) (rep_bl.mpr rfl)⟩
  ·cases ho
 ·cases ho
abbrev qa3:D->D->Option D:=fun x y=>(q20 x y).or (qrc x y)
theorem qbk(hu:X.A.units+64<cLine): OpR X (compareOp .NotEq) (rD X.K qa3):=qb8 qge (qxy hu)
end
section
variable{X:Cx}{e:Expr}{pos:Pos}{f:FE}
theorem z0i{K:Frag}{z:Int->Int->Int}{i:Nat}{D:Ends}{σ : St}{H:Hp}(h:tDS K (zj i (eOp (oI (fun _ _=>true) z) (eV i) f)) D σ H): qwr i (tD K f) (ipI z) D σ H:=by
 obtain⟨F0,H0,F, ρ,fl, ρ',r,hf,q⟩:=h;obtain⟨d,h1,h2⟩:=gp.mp hf;cases h2;obtain⟨d1,h3,h1⟩:=gc.mp h1;obtain⟨d2,h4,h5⟩:=gc.mp h1;obtain⟨a,b,rfl,rfl,c,rfl⟩:=qd6 h5;obtain⟨v,e1,e2⟩:=r.fz _ _ (qka h3);refine⟨v,e1,F0,H0,F, ρ,.int b,r,h4,fun w F' H' g' r'=>⟨a,b,rep_int.mp e2,rep_int.mp r',?_⟩⟩;exact q _ F' H' g'.ff ((r.grow g').set _ (rep_int.mpr rfl))
theorem quv{i:Nat}{x:Str}{px:Pos}(hN:X.N.Nodup)(hi:X.N[i]? = some x)(hx:Loc X.env.scope x)(he:PE X e (tD X.K f))(hf:X.fn x=true\/X.env.scope.names.lookup x=some .local:=by first|exact .inl rfl|exact .inr rfl|assumption):
  PS X (.AugAssign (.Name x px) .Sub e pos) (tDS X.K (zj i (eOp oSub (eV i) f))):=je (qws hN hi hx he qwt hf) fun D σ H h=>z0i h
end
end DL
namespace Rv
open PySem PyProof.Rows
section
variable{prog:Program}{w:World}{A:Around}{E:Ta}{s:Shared}{r:Addr}{a b c:Int}{t u v:Tok}{n:Nat}
theorem qj9{Q:List Value->Shared->Prop}(hh:A.handled=none)(hr:IsRange s.heap r a b c t u v)(hsmall:Builtin.Range.small a b c=true)(hn:Builtin.Range.rangeSize a b c=n)(hlen:n<=2 ^ 24)
  (hQ:∀(h':Heap) tk acc,(∀b o,s.heap.get? b=some o->h'.get? b=some o)->ItemsOf (fun i v=>∃t,v=.int (a+i*c) t) acc n->Q acc.toList {s with heap:=h',toks:=tk}):wpAny (model prog w) A (collect (.ref r)) Q E s:=by
 unfold collect;refine g9 (wpAny_runValue (pq F.entry_proto_collect ?_));rw [p5 F.plain_proto_collect _];show wpAny _ A.in1 (newList [] >>= fun l=>again (.builtin "list.__iadd__" ⟨[l,.ref r],[]⟩)) _ _ s;refine g9 (pb ?_);refine gf ⟨g09 g2t _,pq F.entry_list_iadd ?_⟩;rw [p5 g2t _];have hS₁:(s.heap.push {cls:=.type "list",data:=.seq ([]:List Value).toArray}).get? s.heap.objs.size=some {cls:=.type "list",data:=.seq ([]:List Value).toArray}:=gs _ rfl;show wpAny _ A.in1 (Builtin.List.listExtendWith (.ref s.heap.objs.size) (.ref r) (.ref s.heap.objs.size)) _ _ _;refine wpAny_extend_range (R:=fun r s'=>match r with
  | .ok (.ret v)=>wpAny (model prog w) A (match v with
   | .ref a=>do
    match(<- load a).data with
    | .seq xs _=>pure xs.toList
    | _=>unsupported "internal:collect"
   | _=>unsupported "internal:collect") Q E s'
  | .ok _=>False
  | .error e=>E e s') (s:={s with heap:=s.heap.push {cls:=.type "list",data:=.seq ([]:List Value).toArray} }) hh (gh _ hr) hsmall hn hlen s.heap.objs.size _ 0 hS₁ fun h' tk acc' c' hk hS' hacc=>?_
 show wpAny _ A (load s.heap.objs.size >>= _) _ _ _;refine g9 (wpAny_load hS' ?_);exact gf (hQ h' tk acc' (fun b o e=>hk b o (m4 (gu e)) (gh _ e)) hacc)
theorem qda{Q₁:Ta}(hh:A.handled=none)(hr:IsRange s.heap r a b c t u v)(hsmall:Builtin.Range.small a b c=true)(hn:Builtin.Range.rangeSize a b c=n)(hlen:n<=2 ^ 24)
  (h:∀(h':Heap) tk acc,(∀b o,s.heap.get? b=some o->h'.get? b=some o)->ItemsOf (fun i v=>∃t,v=.int (a+i*c) t) acc n->Q₁ (.ref h'.objs.size) {s with heap:=h'.push {cls:=.type "tuple",data:=.seq acc},toks:=tk}) :
  codeAny (model prog w) A (.call (.builtin "tuple.__new__") ⟨[.type "tuple",.ref r],[]⟩) (wants Q₁ E) s:=by
 refine g3j ?_;show wpAny _ A.in1 (do checkBuiltinCall "tuple.__new__" ⟨[.type "tuple",.ref r],[]⟩;again (.builtin "tuple.__new__" ⟨[.type "tuple",.ref r],[]⟩)) _ _ s;refine g9 (g50 (F.newCall_tuple_1 _) (gf ⟨g09 F.plain_tuple_new _,pq F.entry_tuple_new ?_⟩));rw [p5 F.plain_tuple_new _];have hsub:=sub_tuple_self;have hinit:=init_tuple_lookup;have hmh:=madeHere_tuple;have hTI:s.TypeIs (.ref r) "range" :=⟨_,hr,rfl⟩
 wp_walk using g08 hTI,qj9 (A:=A.in1) hh hr hsmall hn hlen
 intro h' tk acc hk hacc;show wpAny _ _ (Builtin.Tuple.tupleExact acc.toList.toArray >>= fun v=>ret v) _ _ _;unfold Builtin.Tuple.tupleExact;refine g9 (pb ?_ (by show acc.toList.toArray.size<=sizeLine;simp only [Array.toArray_toList];rw [hacc.1,g03];omega));refine gf ?_;have e:acc.toList.toArray=acc:=by simp
 rw [e];exact h h' tk acc hk hacc
theorem qdb{Q:Ta}(hh:A.handled=none)(hr:IsRange s.heap r a b c t u v)(hsmall:Builtin.Range.small a b c=true)(hn:Builtin.Range.rangeSize a b c=n)(hlen:n<=2 ^ 24)
  (hQ:∀(h':Heap) tk acc,(∀b o,s.heap.get? b=some o->h'.get? b=some o)->ItemsOf (fun i v=>∃t,v=.int (a+i*c) t) acc n->Q (.ref h'.objs.size) {s with heap:=h'.push {cls:=.type "tuple",data:=.seq acc},toks:=tk}) :
  wpAny (model prog w) A (call (.type "tuple") [.ref r]) Q E s:=by
 refine callType_codes (Q₁:=fun obj s₁=>s₁.TypeIs obj "tuple" /\ Q obj s₁) F.called_tuple (F.typeCall_tuple_1 _) F.entry_object_init
  (qda (A:=A.in1) hh hr hsmall hn hlen fun h' tk acc hm hacc=>⟨⟨_,gs _ rfl,rfl⟩,hQ h' tk acc hm hacc⟩) fun obj s₁ h₁=>?_
 exact⟨h₁.1,F.args_object_init_2 obj _,object_init_meets F.called_tuple.init.lookup F.called_tuple.made (by decide) prog w A.in1 _ s₁ ⟨h₁.1,rfl,h₁.2⟩⟩
end
end Rv
namespace DL
open PySem PySem.Spec PyProof.Rows L2
variable[Lam][Pin]
section
variable{X:Cx}{e ie:Expr}{pos:Pos}{f g:FE}
theorem qgx{K:Frag}{F:Hp}{d:D}{v:V}(h:Rep K F d v): ∀ {ds:List D} {xs:List V} (j:Nat),RepL K F ds xs->RepL K F (ds.set j d) (xs.set j v)
 | [],xs,j,r=>by cases r.nil_inv;exact .nil
 | e :: ds,xs,0,r=>by
  obtain⟨x,t,rfl,a,b⟩:=r.cons_inv;exact .cons h b
 | e :: ds,xs,j+1,r=>by
  obtain⟨x,t,rfl,a,b⟩:=r.cons_inv;exact .cons a (qgx h j b)
def q5o(f:FE): FE:=fun ρ =>(f ρ).bind fun d=>match d with
 | .int j=>if decide (0<=j)&&decide (j<=1000) then some (.tup (zy 0 j.toNat)) else none
 | _=>none
omit [Lam] [Pin] in
theorem qrd{acc:Array Value}{n:Nat}(h:ItemsOf (fun i v=>∃t,v=.int (0+(i:Int)*1) t) acc n): Vals ((List.range n).map fun i:Nat=>V.int (i:Int)) acc.toList:=by
 have key:∀(l:List Value) (k:Nat),(∀(j:Nat) (v:Value),l[j]? = some v->∃t,v=.int ((k+j:Nat):Int) t)->Vals ((List.range' k l.length).map fun i:Nat=>V.int (i:Int)) l:=by
  intro l
  induction l with
  | nil=>intro k _;exact .nil
  | cons a l ih=>
   intro k hk;rw [mv,g4o,m5];obtain⟨t,ht⟩:=hk 0 a rfl;refine .cons ⟨t,by rw [ht];simp⟩ (ih (k+1) fun j v hv=>?_);obtain⟨t,ht⟩:=hk (j+1) v hv;exact⟨t,by rw [ht];congr 1;lia⟩
 have hl:acc.toList.length=n:=by rw [g0l];exact h.1
 have:=key acc.toList 0 fun j v hv=>by
  obtain⟨t,ht⟩:=h.2 j v (by simpa using hv);exact⟨t,by rw [ht];congr 1;lia⟩
 rw [hl, <- List.range_eq_range'] at this;exact this
theorem q7c{a:Expr}{p p2 q2:Pos}(hc:X.calm=true)(hgt:Gl X "tuple")(hmt:X.mg "tuple" = none)(hgr:Gl X "range")(hmr:X.mg "range" = none)(ha:PE X a (tD X.K f))
  (s1:starEach [a] X.env=[(false,eval a X.env)]:=by first|exact q4p rfl|rfl) (s2:starEach [.Call (.Name "range" p2) [a] [] q2] X.env=[(false,eval (.Call (.Name "range" p2) [a] [] q2) X.env)]:=by first|exact q4p rfl|rfl) :
  PE X (.Call (.Name "tuple" p) [.Call (.Name "range" p2) [a] [] q2] [] pos) (tD X.K (q5o f)):=by
 intro pins s σ H Q I ⟨F0,H0,F, ρ,d,r,hf,q⟩;obtain⟨d',h1,h2⟩:=gc.mp hf
 split at h2
 case h_2=>cases h2
 rename_i j
 split at h2
 case isFalse=>cases h2
 rename_i hj;obtain⟨j0,j1⟩:=q0f hj;cases h2;refine Call_ (q0n I hgt hmt DL.boot_tuple (uf ?_ (by rw [s2];rfl) (by rfl)));rw [s2];refine g3u ?_;have hp:PA X [a] (tDA X.K (qc f qh)):=qkb (hs:=by rw [s1];rfl) ha qg;refine Call_ (q0n I hgr hmr boot_range (uf (thn (hp q2 pins s σ H (fun vs H1=>∃F',Grow F H F' H1/\RepL X.K F' [.int j] vs) I ⟨F0,H0,F, ρ,[.int j],r,by simp only [qc,qh,h1,gj,mx],fun vs F' H' g' r'=>⟨F',g',r'⟩⟩) fun us s1' ⟨vs,H1,I1,r1,F',g',q1⟩=>?_) (by rw [s1];rfl) (by rfl)));obtain⟨v1,t,rfl,e1,e2⟩:=q1.cons_inv;cases e2.nil_inv;obtain⟨u1,rfl,e3⟩:=vals1 r1;cases rep_int.mp e1;obtain⟨tk,rfl⟩:=e3;refine call_range_1 (g46 ?_);have hn:Builtin.Range.rangeSize 0 j 1=((j.toNat:Nat):Int):=by rw [rangeSize_one];split <;> lia
 refine Rv.qdb (s:={s1' with heap:=s1'.heap.push {cls:=.type "range",data:=.fields #[.int 0 s1'.toks,.int j tk,.int 1 (s1'.toks+1)]},toks:=s1'.toks+1+1}) (I.ok.hd hc) (IsRange.new ..) (small_one (by decide) (by decide) (by lia) (by lia)) hn (by lia) fun h' tk' acc hk hacc=>?_;have hkp:∀b o,s1'.heap.get? b=some o->h'.get? b=some o:=fun b o e=>hk b o (gh _ e);have I2:Inv X pins σ H1 {s1' with heap:=h',toks:=tk'}:=I1.kept (t':=tk') hkp;have rv:=qrd hacc;have I3:Inv X pins σ (upd H1 h'.objs.size (.tup ((List.range j.toNat).map fun i:Nat=>V.int (i:Int)))) {s1' with heap:=h'.push {cls:=.type "tuple",data:=.seq acc},toks:=tk'}:=
  I2.laid (t':=tk') (fun b o e=>gh _ e) (m6 _) (show ObjOk X.prog X.w _ _ _ (.tup _) from⟨by rw [gv,g4b,g03];lia,acc.toList,rv,by
   have e:acc=acc.toList.toArray:=by simp
   rw [e];exact TupX.new _ _⟩)
 have g2:Grow F' H1 (upd F' h'.objs.size (.tup ((List.range j.toNat).map fun i:Nat=>V.int (i:Int)))) (upd H1 h'.objs.size (.tup ((List.range j.toNat).map fun i:Nat=>V.int (i:Int)))):=Grow.new g'.fh (I2.hok.fresh (m6 _));have rl:RepL X.K (upd F' h'.objs.size (.tup ((List.range j.toNat).map fun i:Nat=>V.int (i:Int)))) (zy 0 j.toNat) ((List.range j.toNat).map fun i:Nat=>V.int (i:Int)):=by
  have e:zy 0 j.toNat=((List.range j.toNat).map fun i:Nat=>(i:Int)).map D.int:=by
   unfold zy;rw [p6];apply g3o;intro i _;simp only [Function.comp,Int.zero_add]
  rw [e];exact RepL.ints.mpr (by rw [p6];rfl)
 exact⟨.ref h'.objs.size,_,I3,rfl,q _ _ _ (g'.trans g2) (rep_tup.mpr ⟨_,_,rfl,SqT.of za,rl⟩)⟩
end
section
variable{X:Cx}{pos:Pos}{f g:FE}
end
end DL
namespace Fl
open PySem
def Stable(P:Obj->Prop): Prop:=∀o x,P o->P (o.mapFields (·.setIfInBounds 1 x))
def Tr(h base:Heap)(e:Addr)(P:Obj->Prop)(fl:Value): Prop:=
 ∃ob ws T ot us,h.get? e=some ob/\P ob/\ob.data=.fields ws/\ws[1]? = some (.ref T)/\base.get? T=none/\T≠e/\h.get? T=some ot/\ot.data=.fields us/\us[3]? = some fl
def Fly(base:Heap)(l:List Env)(e:Addr)(P:Obj->Prop)(fl:Value)(h:Heap): Prop:=base.StaysIn h/\base.get? e=none/\h.FunFrames base l/\Tr h base e P fl
theorem Fly.there{base h:Heap}{l:List Env}{e:Addr}{P:Obj->Prop}{fl:Value}(x:Fly base l e P fl h): ∃ob ws,h.get? e=some ob/\P ob/\ob.data=.fields ws:=by
 obtain⟨_,_,_,ob,ws,_,_,_,h1,h2,h3,_⟩:=x;exact⟨ob,ws,h1,h2,h3⟩
section
variable{M:Model}{A:Around}{E:Ta}{s:Shared}{base:Heap}{env:Env}{outer l:List Env}{L e:Addr}{P:Obj->Prop}{Q:Unit->Shared->Prop}{fl:Value}
theorem entry{ob:Obj}{ws:Array Value}{head:Value}{nx:Bool}(st:Stable P)(hfr:A.frames=some (env :: outer))(hl:s.heap.FunFrames base (env :: outer))(hf:env.frame=some L)
  (he:s.heap.get? e=some ob) (hkb:base.StaysIn s.heap) (hen:base.get? e=none) (hp:P ob) (hd:ob.data=.fields ws) (hz:1<ws.size)
  (k:∀h',Fly base (env :: outer) e P (rawInt L) h'->s.heap.UpToSlots h'->Q () {s with heap:=h'}) :
  wpAny M A (do let a <- frameOf env;let pl <- entryPlaceOf L nx;let b <- EntryCells.newEntry head a .none (rawInt L) .none pl;setField (.ref e) 1 b) Q E s:=by
 have nfr:e∉(env :: outer).filterMap (·.frame):=fun z=>by
  obtain⟨_,o,e1,e2⟩:=hl.mem z;rw [he] at e1;cases e1;exact e2 ws hd
 refine g9 (wpAny_frameOf_fun hfr hl hf fun h1 w1=>g9 (wpAny_entryPlaceOf fun pl hpl=>?_));unfold EntryCells.newEntry newFields;refine g9 (pb ?_ (hpl.sizeOk5 _ _ _ _ _));obtain⟨rec,hrec⟩:∃r:Obj,r = {cls:=.type "traceback",dict:=none,data:=.fields ([head,.ref L,.none,rawInt L,.none]++(if pl.isEmpty then List.replicate 6 Value.none else pl)).toArray}:=⟨_,rfl⟩
 rw [<- hrec];have e1:h1.get? e=some ob:=(w1.2.1 e nfr).trans he;have b1:base.StaysIn h1:=fun b o z=>(w1.2.1 b fun y=>by rw [(hl.mem y).1] at z;cases z).trans (hkb b o z);have e2:(h1.push rec).get? e=some ob:=gh _ e1;have nT:h1.objs.size≠e:=pd (gu e1);have d3:=g01 hd (·.setIfInBounds 1 (Value.ref h1.objs.size));refine g0b e2 hd hz (k _ ?_ ?_)
 ·have e3:=pk (Obj.mapFields (·.setIfInBounds 1 (Value.ref h1.objs.size))) e2 (g0y d3)
  have oth:∀b o,b≠e->h1.get? b=some o->((h1.push rec).update e (Obj.mapFields (·.setIfInBounds 1 (Value.ref h1.objs.size)))).get? b=some o:=fun b o z q=>by
   rw [ni _ _ (ml z)];exact gh _ q
  refine⟨fun b o z=>oth b o (fun y=>by rw [y,hen] at z;cases z) (b1 b o z),hen,hl.of_keeps fun b o z nf=>?_,_,_,h1.objs.size,rec,([head,.ref L,.none,rawInt L,.none]++(if pl.isEmpty then List.replicate 6 Value.none else pl)).toArray,e3,st ob _ hp,d3,by simp [hz],b1.fresh,nT,?_,by rw [hrec],?_⟩
  ·obtain⟨sl,q⟩:=w1.2.2 b o z
   exact⟨_,oth b _ (fun y=>by subst y;rw [he] at z;cases z;exact nf ws hd) q,rfl⟩
  ·rw [ni _ _ (ml nT)]
   exact gs h1 (by rw [hrec];rfl)
  ·rcases hpl with rfl|⟨_,_,_,_,_,_,_,rfl⟩ <;> simp
 ·intro b o z nf
  obtain⟨sl,q⟩:=w1.2.2 b o z;refine⟨sl,?_⟩;rw [ni _ _ (fun y=>by subst y;rw [he] at z;cases z;exact nf ws hd)];exact gh _ q
theorem off(x:Fly base l e P fl s.heap)(k:∀h',Fly base l e P .none h'->s.heap.UpToSlots h'->Q () {s with heap:=h'}): wpAny M A (setFlight (.ref e) none) Q E s:=by
 obtain⟨hkb,hen,hl,ob,ws,T,ot,us,e1,hp,hd,e2,e3,e4,e5,e6,e7⟩:=x;have z3:3<us.size:=(uo.mp e7).1;unfold setFlight;refine g9 (pz e1 hd e2 ?_);rw [gw (show(Value.ref T != Value.none)=true by simp)];have oth:∀b,b≠T->(s.heap.update T (Obj.mapFields (·.setIfInBounds 3 ((none:Option Addr).elim Value.none fun f=>rawInt f)))).get? b=s.heap.get? b:=fun b z=>ni _ _ (ml z);have nT:∀b o,s.heap.get? b=some o->(∀vs,o.data ≠ .fields vs)->b≠T:=fun b o z nf y=>by subst y;rw [e5] at z;cases z;exact nf us e6
 refine g0b e5 e6 z3 (k _ ⟨fun b o z=>(oth b fun y=>by rw [y,e3] at z;cases z).trans (hkb b o z),hen,hl.of_keeps fun b o z nf=>⟨o,(oth b (nT b o z nf)).trans z,rfl⟩,ob,ws,T,_,_,(oth e (ml e4)).trans e1,hp,hd,e2,e3,e4,
  pk _ e5 (g0y (g01 e6 _)),g01 e6 _,by simp [z3]⟩ fun b o z nf=>⟨o.slots,(oth b (nT b o z nf)).trans z⟩)
theorem first{ob:Obj}{ws:Array Value}(st:Stable P)(hfr:A.frames=some (env :: outer))(hl:s.heap.FunFrames base (env :: outer))(hf:env.frame=some L)(he:s.heap.get? e=some ob)(hkb:base.StaysIn s.heap)(hen:base.get? e=none)(hp:P ob)(hd:ob.data=.fields ws)(h1:ws[1]? = some .none)
  (k:∀h',Fly base outer e P .none h'->s.heap.UpToSlots h'->Q () {s with heap:=h'}):wpAny M A (leaving env (.ref e)) Q E s:=by
 unfold leaving noteFrame;simp only [hf];refine g9 (g9 (pz he hd h1 ?_));rw [mf (by decide)];refine entry st hfr hl hf he hkb hen hp hd (uo.mp h1).1 fun h' x u=>off x fun h2 y u2=>?_;obtain⟨y1,y2,⟨_,_,y3⟩,y4⟩:=y;exact k h2 ⟨y1,y2,y3,y4⟩ (u.trans u2)
theorem note(st:Stable P)(hfr:A.frames=some (env :: outer))(hf:env.frame=some L)(x:Fly base (env :: outer) e P .none s.heap)
  (k:∀h',Fly base (env :: outer) e P (rawInt L) h'->s.heap.UpToSlots h'->Q () {s with heap:=h'}):wpAny M A (noteFrame (.ref e) env) Q E s:=by
 obtain⟨hkb,hen,hl,ob,ws,T,ot,us,e1,hp,hd,e2,e3,e4,e5,e6,e7⟩:=x;unfold noteFrame;simp only [hf];refine g9 (pz e1 hd e2 ?_);rw [gw (show(Value.ref T != Value.none)=true by simp)];refine g9 (pz e5 e6 e7 ?_);rw [mf (show ¬((Value.none==rawInt L)=true) by simp [rawInt])];refine g9 (g0b e5 e6 (uo.mp e7).1 ?_);have oth:∀b,b≠T->(s.heap.update T (Obj.mapFields (·.setIfInBounds 3 Value.none))).get? b=s.heap.get? b:=fun b z=>ni _ _ (ml z);have nT:∀b o,s.heap.get? b=some o->(∀vs,o.data ≠ .fields vs)->b≠T:=fun b o z nf y=>by subst y;rw [e5] at z;cases z;exact nf us e6
 refine entry st hfr (hl.of_keeps fun b o z nf=>⟨o,(oth b (nT b o z nf)).trans z,rfl⟩) hf ((oth e (ml e4)).trans e1) (fun b o z=>(oth b fun y=>by rw [y,e3] at z;cases z).trans (hkb b o z)) hen hp hd (uo.mp e2).1 fun h' y u=>k h' y fun b o z nf=>u b o ((oth b (nT b o z nf)).trans z) nf
theorem pass(st:Stable P)(hfr:A.frames=some (env :: outer))(hf:env.frame=some L)(x:Fly base (env :: outer) e P .none s.heap)
  (k:∀h',Fly base outer e P .none h'->s.heap.UpToSlots h'->Q () {s with heap:=h'}):wpAny M A (leaving env (.ref e)) Q E s:=by
 unfold leaving;refine g9 (note st hfr hf x fun h' y u=>off y fun h2 z u2=>?_);obtain⟨y1,y2,⟨_,_,y3⟩,y4⟩:=z;exact k h2 ⟨y1,y2,y3,y4⟩ (u.trans u2)
end
end Fl
namespace DL
open PySem PySem.Spec PyProof.Rows L2
def PX(C:Addr)(od:Option Addr): Obj->Prop:=fun o=>o.cls=.ref C/\o.dict=od
theorem PX.st{C:Addr}{od:Option Addr}: Fl.Stable (PX C od):=fun o x h=>by
 obtain⟨oc,odd,dt,sl⟩:=o;cases dt <;> exact h
def CXR(P:Program)(w:World): CXT:=fun outer H s E e s'=>s'.os=s.os/\AllBare s'.gens/\∃(B:Heap) (H':Hp) (a C:Addr) (od:Option Addr),e=.ref a /\
 Fl.Fly B outer a (PX C od) .none s'.heap/\(∀h6,B.StaysIn h6->s'.heap.UpToSlots h6->Un (frs outer) [] H H' s.heap h6/\HOk P w H' h6) /\
 s.heap.get? a=none/\H' a=none/\E (.ref C) od H'
theorem has_obj{P:Program}{w:World}{H:Hp}{h:Heap}{a:Addr}{o:HO}(x:ObjOk P w H h a o): ∃ob,h.get? a=some ob:=by
 cases o with
 | lst xs=>obtain⟨_,_,_,_,e⟩:=x;exact⟨_,e⟩
 | tup xs=>obtain⟨_,_,_,ob,e,_⟩:=x;exact⟨_,e⟩
 | dK kvs=>obtain⟨_,_,_,_,o,_,_,e,_⟩:=x;exact⟨_,e⟩
 | dT kvs=>obtain⟨_,_,_,_,o,_,_,e,_⟩:=x;exact⟨_,e⟩
 | set S n=>obtain⟨o,_,_,_,e,_⟩:=x;exact⟨_,e⟩
 | ins C dx fs=>obtain⟨_,_,_,e,_⟩:=x;exact⟨_,e⟩
 | own y=>obtain⟨_,e⟩:=x;exact⟨_,e⟩
 | xd fs=>obtain⟨_,⟨_,_,_,e,_⟩,_⟩:=x;exact⟨_,e⟩
 | rng lo hi=>obtain⟨_,_,_,e⟩:=x;exact⟨_,e⟩
 | frz ob u=>obtain⟨e,_⟩:=x;exact⟨_,e⟩
 | tbl ps=>exact⟨_,(show h.get? a=some _ from x)⟩
 | met f y=>exact⟨_,(show h.get? a=some _ from x)⟩
 | ext φ =>obtain⟨_,⟨_,e⟩,_⟩:=x;exact⟨_,e⟩
section
variable{P:Program}{w:World}{K:Frag}{mg:Tc}{base:Heap}{N:List Str}{qual:Str}{scope:Scope}{f:Addr}{cd:Value}{A:Around}{outer:List Env}{s0:Shared}{H0:Hp}{E:XK}
variable{pins:Td}{σ : St}{H:Hp}{s:Shared}
theorem qkl{l:List Env}: (envOfC qual scope s0.heap.objs.size f cd :: l).filterMap (·.frame)=s0.heap.objs.size :: l.filterMap (·.frame):=rfl
theorem qeh{C e:Addr}{od:Option Addr}{ob:Obj}{ws:Array Value}(I:Inv (zx (CXR P w) P w K mg base N qual scope f cd A outer s0 H0 E) pins σ H s)(he:s.heap.get? e=some ob)(hp:PX C od ob)(hd:ob.data=.fields ws)(hw1:ws[1]? = some .none)(hH:H e=none)(hs0:s0.heap.get? e=none)(q:E (.ref C) od H):
  (zx (CXR P w) P w K mg base N qual scope f cd A outer s0 H0 E).xe (.ref e) s:=by
 have hfr:=I.ok.frames;have hst:=I.stack;obtain⟨hid,hhid⟩:∃l,l=e :: (envOfC qual scope s0.heap.objs.size f cd :: outer).filterMap (·.frame):=⟨_,rfl⟩
 have hin:∀env∈(envOfC qual scope s0.heap.objs.size f cd :: outer),∀b,env.frame=some b->b∈hid:=fun env he b hb=>by rw [hhid];exact gz _ (g2c.mpr ⟨env,he,hb⟩)
 have hen:(PySem.W.hideAll s.heap hid).get? e=none:=PySem.W.hideAll_none _ (by rw [hhid];exact ma);refine Fl.first (base:=PySem.W.hideAll s.heap hid) PX.st hfr (PySem.W.funFrames_hide hst hin) rfl he (fun b o q=>PySem.W.of_hideAll _ q) hen hp hd hw1 fun h2 x1 x4=>?_;have stays:∀h6,(PySem.W.hideAll s.heap hid).StaysIn h6->∀b o,s.heap.get? b=some o->b≠e->b∉(envOfC qual scope s0.heap.objs.size f cd :: outer).filterMap (·.frame)->h6.get? b=some o:=
  fun h6 st b o e1 ne n=>st b o (PySem.W.hideAll_get _ e1 (by rw [hhid];intro z;exact(mh.mp z).elim ne n))
 have there0:∀b o,s0.heap.get? b=some o->∃o',s.heap.get? b=some o':=fun b o e=>I.base.there b o e (by intro z;cases z);have ne0:∀b o,s0.heap.get? b=some o->b≠e:=fun b o e1 z=>by subst z;rw [hs0] at e1;cases e1
 have any:∀h6,(PySem.W.hideAll s.heap hid).StaysIn h6->h2.UpToSlots h6->∀b o,s.heap.get? b=some o->b≠e->∃sl,h6.get? b=some {o with slots:=sl}:=fun h6 st u b o e1 ne=>by
  by_cases hb:b∈(envOfC qual scope s0.heap.objs.size f cd :: outer).filterMap (·.frame)
  ·obtain⟨_,o',e',nf⟩:=hst.mem hb
   rw [e1] at e';cases e';exact(x4.trans u) b o e1 nf
  ·exact⟨o.slots,stays h6 st b o e1 ne hb⟩
 refine⟨I.os,I.bare,_,H,e,C,od,rfl,x1,fun h6 st u=>⟨⟨fun b o e1 n hb _=>?_,fun b o e1 n hb _=>?_,fun b o e n _=>?_,fun b o e1 _=>?_,fun b xs e=>I.base.tups b xs e,fun b o xs e=>I.base.frzs b o xs e,fun b ps e=>I.base.tbls b ps e⟩,fun b o e1=>?_⟩,hs0,hH,q⟩
 ·have e2:=I.base.keep b o e1 n hb (by intro z;cases z)
  refine stays h6 st b o e2 (ne0 b o e1) fun z=>?_;rw [qkl] at z;rcases mh.mp z with z|z
  ·rw [z] at e1;exact absurd (gu e1) (ua _)
  ·exact hb z
 ·obtain⟨sl,e2⟩:=I.base.slot b o e1 n hb (by intro z;cases z)
  obtain⟨sl',e3⟩:=any h6 st u b _ e2 (ne0 b o e1);exact⟨sl',e3⟩
 ·exact I.base.free b o e n (by intro z;cases z)
 ·obtain⟨o',e2⟩:=there0 b o e1
  obtain⟨sl,e3⟩:=any h6 st u b o' e2 (ne0 b o e1);exact⟨_,e3⟩
 ·refine(I.hok b o e1).stay (fun c v hc r=>?_) (fun _ z=>z) fun _ _ z=>z
  have nc:c≠e:=fun z=>by
   subst z;rcases hc with hc|hc
   ·rw [hc,e1] at hH;cases hH
   ·rw [hH] at hc;cases hc
  refine stays h6 st c v r nc fun z=>?_;have n:=I.stkFree c z;rcases hc with hc|hc
  ·rw [hc,e1] at n;cases n
  ·rw [n] at hc;cases hc
theorem qja{C e:Addr}{vs:List Value}{h':Heap}(I:Inv (zx (CXR P w) P w K mg base N qual scope f cd A outer s0 H0 E) pins σ H s)(hx:Heap.MadeExcOf s.heap h' e (.ref C) vs)(q:E (.ref C) none H):
  (zx (CXR P w) P w K mg base N qual scope f cd A outer s0 H0 E).xe (.ref e) {s with heap:=h'}:=by
 obtain⟨t,he,_⟩:=hx.there;refine qeh (I.kept (t':=s.toks) hx.keeps) he ⟨rfl,rfl⟩ rfl rfl ?_ ?_ q
 ·cases z:H e with
  | none=>rfl
  | some o=>
   obtain⟨ob,e1⟩:=has_obj (I.hok e o z);rw [hx.new] at e1;cases e1
 ·cases z:s0.heap.get? e with
  | none=>rfl
  | some o=>
   obtain⟨o',e1⟩:=I.base.there e o z (by intro z;cases z);rw [hx.new] at e1;cases e1
end
abbrev vB:List Value:=[.type "ValueError",.type "Exception",.type "BaseException",.type "object"]
theorem qkm:vB.contains (.type "BaseException")=true:=g14.hasBase
abbrev qgy(K:Frag)(C:Addr): Prop:=PySem.W.excIn K C vB "ValueError.__new__" = true
theorem quw{K:Frag}{h:Heap}{C:Addr}(X:K.In h)(q:qgy K C): ∃bm N nm q bs hdct sn sub ab col dd k0 k1 k2 k3 k5 mN,h.get? C=some (excClassObj nm q C N bs bm hdct sn sub ab col dd k0 k1 k2 k3 k5 "ValueError.__new__")/\h.Ns N mN/\mN "__init__" = none/\OwnTail h vB bm:=by
 unfold qgy PySem.W.excIn at q
 split at q
 ·rename_i dd cd sl ho
  split at q
  ·rename_i C' bm k0 k1 k2 k3 n k5 hm hs
   simp only [mn,ux,Bool.not_eq_true'] at q;obtain⟨⟨⟨⟨⟨rfl,rfl⟩,hdel⟩,ht⟩,hok⟩,hni⟩:=q;obtain⟨nm,bs,mro,ns,qn,hd,sn,sub,ab,col,del⟩:=cd;dsimp only at hm hdel hok hni;subst hm hdel;have hsl:sl = #[k0,k1,k2,k3,some (.builtin "ValueError.__new__"),k5]:=by
    obtain⟨l⟩:=sl;simp only at hs;rw [hs]
   subst hsl;exact⟨bm,ns,nm,qn,bs,hd,sn,sub,ab,col,dd,k0,k1,k2,k3,k5,_,X _ _ ho,.of_isNs (PySem.W.isNs_of_in X hok),PySem.W.nsMap_none_of_in X hok hni,PySem.W.tail_of_in X ht⟩
  ·cases q
 ·cases q
section
variable{P:Program}{w:World}{K:Frag}{mg:Tc}{base:Heap}{N:List Str}{qual:Str}{scope:Scope}{f:Addr}{cd:Value}{A:Around}{outer:List Env}{s0:Shared}{H0:Hp}{E:XK}
theorem qre{C:Addr}{x m:Str}{np p2 cpos pos:Pos}{j}(hC:qgy K C)(hg:Gl (zx (CXR P w) P w K mg base N qual scope f cd A outer s0 H0 E) x)(hm:mg x=some (.ref C))(hd:(x==("__debug__" : Str))=false:=by decide):
  PS (zx (CXR P w) P w K mg base N qual scope f cd A outer s0 H0 E) (.Raise (some (.Call (.Name x np) [.Constant (.str m) j p2] [] cpos)) none pos) (fun _ _ H=>E (.ref C) none H):=by
 intro pins s σ H D I q;obtain⟨tl,N,nm,qn,bs,hdct,sn,sub,ab,col,dd,k0,k1,k2,k3,k5,mN,hC,hN,hni,T⟩:=quw I.kIn hC;refine wpAny_Raise_call_subT (C:=C) (nm:=nm) (q:=qn) (N:=N) (bs:=bs) (bm:=tl) (hdct:=hdct) (sn:=sn) (sub:=sub) (ab:=ab) (col:=col) (dd:=dd) (k0:=k0) (k1:=k1) (k2:=k2) (k3:=k3) (k5:=k5)
  g14 (mN:=mN) (T.hasType qkm) (I.ok.hd rfl) rfl hni (k9 I hg hm ⟨rfl,?_⟩ hd)
 refine g3d (g3u ?_);show wpAny _ _ (eval (Expr.Constant (Const.str m) j p2) _) _ _ _;refine g40 ?_;show wpAny _ _ (spliced []) _ _ _;refine g46 ⟨rfl,(by show 1<=sizeLine;decide),hC,hN,T,fun h' e hx=>?_⟩;exact qja (I.tok _) hx q
end
section
variable{X:Cx}{pins:Td}{σ σ1:St}{H H1:Hp}{s s1:Shared}
theorem qoc{p:Addr}{o:HO}(I0:Inv X pins σ H s)(hp0:s.heap.get? p=none)(I:Inv X pins σ1 H1 s1)(hp:H1 p=none)(new:ObjOk X.prog X.w (upd H1 p o) s1.heap p o): Inv X pins σ1 (upd H1 p o) s1:=by
 have ne:∀ {b:Addr} {u:HO},H1 b=some u->upd H1 p o b=some u:=fun {b u} e=>by rw [qr (jt e hp)];exact e
 have nz:∀b ob,s.heap.get? b=some ob->b≠p:=fun b ob e z=>by subst z;rw [hp0] at e;cases e
 refine⟨I.ok,I.os,I.bare,⟨I.base.keep,I.base.slot,fun b ob e n hx=>?_,I.base.there,fun b xs e=>ne (I.base.tups b xs e),fun b ob xs e=>ne (I.base.frzs b ob xs e),fun b ps e=>?_⟩,I.loc,I.cell,?_,fun y c e=>?_,fun q hq=>?_,fun b u e=>?_,I.len⟩
 ·obtain⟨o',e1⟩:=I0.base.there b ob e hx
  rw [qr (nz b o' e1)];exact I.base.free b ob e n hx
 ·obtain⟨more,e1⟩:=I.base.tbls b ps e
  exact⟨more,ne e1⟩
 ·obtain⟨m,⟨ob,_,_,ho,_⟩,_⟩:=I0.loc
  rw [qr (nz _ ob ho)];exact I.free
 ·obtain⟨v,ob,ho,_⟩:=I0.cell y c e
  rw [qr (nz _ ob ho)];exact I.freeC y c e
 ·obtain⟨e1,e2,e3⟩:=I.pin q hq
  obtain⟨f1,_⟩:=I0.pin q hq;exact⟨e1,by rw [qr (nz _ _ f1)];exact e2,e3⟩
 ·by_cases hb:b=p
  ·subst hb;rw [za] at e;cases e;exact new
  ·rw [qr hb] at e
   exact(I.hok b u e).stay (fun c v _ q=>q) (fun c q=>ne q) fun c xs q=>ne q
abbrev inX(X:Cx)(a:Addr): Cx:={X with A:=X.A.mark (some (.ref a)),calm:=false,xe:=fun _ _=>False}
theorem qxz{a:Addr}(ok:X.Ok): (inX X a).Ok:=
 ⟨ok.mod,ok.kind,ok.glob,ok.blt,ok.above,ok.inj,ok.has,ok.cab,(fun z=>by cases z),ok.frames,ok.stk,ok.exf,ok.bs,ok.bsz,ok.noex,ok.exfs,ok.funs,ok.frf⟩
theorem qdc{a:Addr}(I:Inv X pins σ H s): Inv (inX X a) pins σ H s:=⟨qxz I.ok,I.os,I.bare,I.base,I.loc,I.cell,I.free,I.freeC,I.pin,I.hok,I.len⟩
theorem q5p{a:Addr}(ok:X.Ok)(I:Inv (inX X a) pins σ H s): Inv X pins σ H s:=⟨ok,I.os,I.bare,I.base,I.loc,I.cell,I.free,I.freeC,I.pin,I.hok,I.len⟩
end
section
variable{X:Cx}{pins:Td}{σ : St}{H:Hp}{s:Shared}
end
end DL
namespace DL
open PySem PySem.Spec PyProof.Rows L2
variable[Lam][Pin]
section
variable{X:Cx}{K:Frag}{F0 H0 F H:Hp}{σ : St}{ρ : Rho}
variable{e:Expr}{pos:Pos}{f:FE}
end
end DL
namespace DL
open PySem
theorem qux{K:Frag}{C:Addr}(h1:PySem.W.kitOne K (.ref C) (.type "int")=some false)(h2:PySem.W.kitOne K (.ref C) (.type "bool")=some false)(h3:PySem.W.kitOne K (.ref C) (.type "tuple")=some false)(h4:PySem.W.kitOne K (.ref C) (.type "list")=some false)
  (h5:PySem.W.kitOne K (.ref C) (.type "str")=some false) (h6:PySem.W.kitOne K (.ref C) (.type "dict")=some false):∀T:String,T∈["int","bool","tuple","list","str","dict"]->PySem.W.kitOne K (.ref C) (.type T)=some false:=by
 intro T hT;simp only [mh,g34,g0o] at hT;rcases hT with rfl|rfl|rfl|rfl|rfl|rfl <;> assumption
end DL
namespace DL
open PySem PySem.Spec PyProof.Rows L2
variable[Lam][Pin]
section
variable{P:Program}{w:World}{K:Frag}{mg:Tc}{base:Heap}{N:List Str}{qual:Str}{scope:Scope}{f:Addr}{cd:Value}{A:Around}{outer:List Env}{s0:Shared}{H0:Hp}{E:XK}
theorem z0j:q1s (CXR P w) (zx (CXR P w) P w K mg base N qual scope f cd A outer s0 H0 E) E:=by
 intro pins σ H s e s' I h;obtain⟨os,bare,B,H2,a,C,od,rfl,hfl,hun,hna,hH2,q⟩:=h;refine Fl.pass PX.st I.ok.frames rfl hfl fun h' x1 x2=>?_;have nl:∀b o,s0.heap.get? b=some o->b∉frs outer->b∉frs (envOfC qual scope s0.heap.objs.size f cd :: outer):=fun b o e n z=>by
  unfold frs at z;rw [qkl] at z;rcases mh.mp z with z|z
  ·rw [z] at e;exact absurd (gu e) (ua _)
  ·exact n z
 have nx:∀ {b:Addr},b∉([]:List Addr):=fun {b} z=>by cases z
 refine⟨os.trans I.os,bare,B,H2,a,C,od,rfl,x1,fun h6 st u=>?_,?_,hH2,q⟩
 ·obtain⟨un,hok⟩:=hun h6 st (x2.trans u)
  refine⟨⟨fun b o e n hb _=>?_,fun b o e n hb _=>?_,fun b o e n _=>?_,fun b o e _=>?_,fun b xs e=>un.tups b xs (I.base.tups b xs e),fun b o xs e=>un.frzs b o xs (I.base.frzs b o xs e),fun b ps e=>?_⟩,hok⟩
  ·exact un.keep b o (I.base.keep b o e n hb nx) (I.base.free b o e n nx) (nl b o e hb) nx
  ·obtain⟨sl,e1⟩:=I.base.slot b o e n hb nx
   obtain⟨sl',e2⟩:=un.any e1 (I.base.free b o e n nx) nx;exact⟨sl',e2⟩
  ·obtain⟨o',e1⟩:=I.base.there b o e nx
   exact un.free b o' e1 (I.base.free b o e n nx) nx
  ·obtain⟨o',e1⟩:=I.base.there b o e nx
   exact un.there b o' e1 nx
  ·obtain⟨m1,e1⟩:=I.base.tbls b ps e
   obtain⟨m2,e2⟩:=un.tbls b _ e1;exact⟨m1++m2,by rw [e2,g3t]⟩
 ·cases z:s0.heap.get? a with
  | none=>rfl
  | some o=>
   obtain⟨o',e1⟩:=I.base.there a o z nx;rw [hna] at e1;cases e1
end
abbrev Flds:=List (Str×D)
def yp(i:Nat)(ρ : Rho): Option (Str×Flds):=match ρ[i]? with
 | some (some (.od (.one o)))=>some o
 | _=>none
omit [Lam] [Pin] in
theorem vh{i:Nat}{ρ : Rho}{o:Str×Flds}(h:yp i ρ = some o): ρ[i]? = some (some (.od o)):=by
 unfold yp at h
 split at h
 ·rename_i e;rw [e,mr h]
 ·cases h
def putD(f:Str)(d:D): Flds->Flds
 | []=>[(f,d)]
 | (g,x) :: r=>if g=f then(g,d) :: r else(g,x) :: putD f d r
section
omit [Lam] [Pin]
variable{K:Frag}{F:Hp}
theorem FsR.get{f:Str}{d:D}: ∀ {fs:Flds} {vs:List (Str×V)},FsR K F fs vs->fs.lookup f=some d->∃v,vs.lookup f=some v/\Rep K F d v
 | [],_,_,h=>by cases h
 | p :: fs,_,⟨v,r,rfl,h1,h2⟩,h=>by
  rw [nk] at h ⊢;cases e:f==p.1 with
  | true=>rw [e] at h;cases h;exact⟨v,rfl,h1⟩
  | false=>rw [e] at h;exact FsR.get h2 h
theorem FsR.miss{f:Str}: ∀ {fs:Flds} {vs:List (Str×V)},FsR K F fs vs->fs.lookup f=none->vs.lookup f=none
 | [],_,h,_=>by cases h;rfl
 | p :: fs,_,⟨v,r,rfl,h1,h2⟩,h=>by
  rw [nk] at h ⊢;cases e:f==p.1 with
  | true=>rw [e] at h;cases h
  | false=>rw [e] at h;exact FsR.miss h2 h
theorem FsR.len:∀ {fs:Flds} {vs:List (Str×V)},FsR K F fs vs->vs.length=fs.length
 | [],_,h=>by cases h;rfl
 | p :: fs,_,⟨v,r,rfl,h1,h2⟩=>by rw [mv,mv,FsR.len h2]
theorem FsR.put{f:Str}{d:D}{v:V}(hv:Rep K F d v): ∀ {fs:Flds} {vs:List (Str×V)},FsR K F fs vs->FsR K F (putD f d fs) (kf f v vs)
 | [],_,h=>by cases h;exact⟨v,[],rfl,hv,rfl⟩
 | (g,x) :: fs,_,⟨u,r,rfl,h1,h2⟩=>by
  unfold putD kf
  by_cases e:g=f
  ·rw [gw e]
   show FsR K F _ (if g=f then _ else _);rw [gw e];exact⟨v,r,rfl,hv,h2⟩
  ·rw [mf e]
   show FsR K F _ (if g=f then _ else _);rw [mf e];exact⟨u,_,rfl,h1,FsR.put hv h2⟩
end
def less(H:Hp)(a:Addr): Hp:=fun b=>if b=a then none else H b
section
omit [Lam] [Pin]
theorem vi{H:Hp}{a b:Addr}{o:HO}(h:less H a b=some o): H b=some o/\b≠a:=by
 unfold less at h
 split at h
 ·cases h
 ·exact⟨h,by assumption⟩
theorem vz{H:Hp}{a:Addr}: less H a a=none:=gw rfl
theorem y6{H:Hp}{a b:Addr}(h:b≠a): less H a b=H b:=mf h
end
theorem OB0.to{K:Frag}{F H H0:Hp}{a:Addr}{o:Str×Flds}(x:OB0 K F H H0 a o)(hp:∀p,Pin.pin=some p->a=p): ODt K F H H0 a [] o:=⟨⟨rfl,x⟩,hp⟩
omit [Lam] [Pin] in
theorem OB0.at{K:Frag}{F H H0 H1:Hp}{a:Addr}{o:Str×Flds}(x:OB0 K F H H0 a o)(hz:H1 a=none): OB0 K F H H1 a o:=⟨x.ex,x.f,hz⟩
theorem Tab.less{H:Hp}{a C dx:Addr}{vs:List (Str×V)}(t:Tab H)(e0:H a=some (.ins C dx vs)): Tab (less H a):=fun q hq=>by
 obtain⟨ps,e,ht,k⟩:=t q hq;have nn:∀ {b:Addr} {u:HO},H b=some u->(∀C dx vs,u ≠ .ins C dx vs)->DL.less H a b=some u:=fun {b u} e1 e2=>by
  rw [y6,e1];intro z;subst z;rw [e0] at e1;cases e1;exact e2 _ _ _ rfl
 refine⟨ps,nn e nofun,ht,fun pos cv z=>?_⟩;obtain⟨c, φ,e1,e2,e3⟩:=k pos cv z;exact⟨c, φ,e1,nn e2 nofun,e3⟩
abbrev Th:=Flds->List D->Option (Flds×D)
def qa4(K:Frag)(x:Str)(ar:Nat)(op:Th): Sp:=fun vs H Q _=>∃F a fs fs' ds d vs',vs=.ref a :: vs'/\SameT F H/\RepL K F ds vs'/\ds.length=ar/\OB0 K F H (less H a) a (x,fs)/\op fs ds=some (fs',d) /\
 ∀v F' H',Grow F (less H a) F' H'->OB0 K F' H' (less H a) a (x,fs')->Rep K F' d v->Q v H'
def ki(n:Nat)(x:Str)(fs:Flds)(ds:List D): Rho:=some (.od (x,fs)) :: (ds.map (fun d=>some (B.fz d))++List.replicate (n-(ds.length+1)) none)
def jy(n:Nat)(x:Str)(u:FS)(fs:Flds)(ds:List D): Option (Flds×D):=match u (ki n x fs ds) with
 | some (.nx, ρ')=>(yp 0 ρ').bind fun o=>if o.1=x then some (o.2,.non) else none
 | some (.rt d, ρ')=>(yp 0 ρ').bind fun o=>if o.1=x then some (o.2,d) else none
 | _=>none
omit [Lam] [Pin] in
theorem q1c{n:Nat}{x:Str}{fs:Flds}{ds:List D}{i:Nat}{b:B}(h:(ki n x fs ds)[i]? = some (some b)): (i=0/\b=.od (x,fs))\/∃j d,i=j+1/\ds[j]? = some d/\b=.fz d:=by
 unfold ki at h
 match i,h with
 | 0,h=>cases h;exact .inl ⟨rfl,rfl⟩
 | j+1,h=>
  rw [g1h] at h
  by_cases hj:j<ds.length
  ·rw [pf (by simpa using hj),mq] at h
   cases z:ds[j]? with
   | none=>rw [z] at h;cases h
   | some d=>rw [z] at h;cases h;exact .inr ⟨j,d,rfl,z,rfl⟩
  ·rw [tx (by simpa using hj),ug] at h
   split at h <;> cases h
theorem qgz{K:Frag}{F H:Hp}{N:List Str}{vs':List V}{a:Addr}{x:Str}{fs:Flds}{ds:List D}(hn:ds.length+1<=N.length)(hp:∀p,Pin.pin=some p->a=p)(s:SameT F H)(r:RepL K F ds vs')(o:OB0 K F H (less H a) a (x,fs)):
  RS K F (less H a) F H (L2.start N (.ref a :: vs')) (ki N.length x fs ds) where
 t0:=by
  obtain⟨C,dx,vs,e,_⟩:=o.ex;exact⟨s.t.less e,s.f⟩
 g:=⟨.refl _,⟨fun b xs e=>(vi e).1,fun b xs e=>(vi e).1,fun {b} e=>by unfold less;split <;> first|rfl|exact e,fun _=>s.t,fun b xs e=>(vi e).1⟩,s.s,fun _ z=>.inl z⟩
 len:=by
  unfold L2.start ki;have:=r.length;simp only [ng,gv,mv,g36];omega
 fz:=fun i e h=>by
  rcases q1c h with⟨rfl,z⟩|⟨j,d,rfl,hd,z⟩
  ·cases z
  ·cases z
   obtain⟨v,ev,rv⟩:=r.get hd;refine⟨v,?_,rv⟩;unfold L2.start;have hj:=(nj.mp ev).1;rw [m5,g35,g1h,pf (by simpa using hj),mq,ev]
   rfl
 ow:=fun i e h=>by rcases q1c h with⟨rfl,z⟩|⟨j,d,rfl,hd,z⟩ <;> cases z
 dj:=fun i j e1 e2 a' _ h=>by rcases q1c h with⟨rfl,z⟩|⟨j,d,rfl,hd,z⟩ <;> cases z
 od:=fun i ks h=>by
  rcases q1c h with⟨rfl,z⟩|⟨j,d,rfl,hd,z⟩
  ·cases z
   exact⟨a,[],rfl,o.to hp,fun j es b _ hb=>by cases hb⟩
  ·cases z
 o1:=fun i j k1 k2 h1 h2=>by
  rcases q1c h1 with⟨rfl,z⟩|⟨j',d,rfl,hd,z⟩
  ·rcases q1c h2 with⟨rfl,z2⟩|⟨j',d,rfl,hd,z2⟩
   ·rfl
   ·cases z2
  ·cases z
theorem qh0{K:Frag}{F0 H0 F H:Hp}{σ : St}{ρ : Rho}{a:Addr}{o:Str×Flds}(hp:Pin.pin=some a)(r:RS K F0 H0 F H σ ρ)(h:yp 0 ρ = some o): Grow F0 H0 F H/\OB0 K F H H0 a o:=by
 obtain⟨a',bs,e1,t,_⟩:=r.od 0 o (vh h);obtain rfl:a'=a:=t.pn a hp;exact⟨r.g,t.ob⟩
omit [Pin] in
theorem Fun2.okOB{P:Program}{w:World}{K:Frag}{mg:Tc}{base:Heap}{x c qual:Str}{st:Stmt}{dV:Value}{f:Addr}{fd:FuncData}{N ps:List Str}{k n k1 ar:Nat}{u:FS}(F:Fun2 K x qual st dV f fd)(S:FnScope N ps (qj st))(hn:N.length=n)(ha:ps.length=ar+1)(hk:k+1=k1)
  (hb:∀(Pn:Pin) (cdv:Value) (A:Around) (outer:List Env) (s:Shared) (H:Hp) (E:XK),Room k (A.deeper (envOfC qual (qj st) s.heap.objs.size f cdv))->PSs (zx CX0 P w K mg base N qual (qj st) f cdv A outer s H E).nox (ja st) (letI:Pin:=Pn;tDS K u)) :
  FnOk P w K mg base CX0 k1 f fd ps (qa4 K c ar (jy n c u)):=by
 subst hn hk;obtain⟨oc,od,kV,doc,pm,an,cdv,ct,osl,rfl,lk,hcd⟩:=F.ex;have hpl:ps.length<=N.length:=by have:=ui List.length S.pre;rw [u9] at this;omega
 refine qfm lk hcd S (fun vs H Q E h=>?_) fun A outer s H vs Q E hr hsp=>?_
 ·obtain⟨F,a,fs,fs',ds,d,vs',rfl,_,hR,hl,_⟩:=h
  rw [mv, <- hR.length,hl,ha]
 ·obtain⟨F,a,fs,fs',ds,d,vs',rfl,sT,hR,hl,o,hop,q⟩:=hsp
  refine⟨_,(hb ⟨some a⟩ cdv A outer s H E hr).nox,?_⟩
  letI:Pin:=⟨some a⟩
  have r:=qgz (x:=c) (N:=N) (by omega) (fun p h=>mr h) sT hR o;unfold jy at hop
  split at hop
  ·rename_i ρ' hu
   obtain⟨o',ho',hif⟩:=gc.mp hop
   split at hif
   ·rename_i hx
    cases hif;refine⟨F,_,F,_,.nx, ρ',r,hu,fun σ' F' H' s' r'=>?_⟩;obtain⟨g',t'⟩:=qh0 rfl r' ho';exact q .non F' H' g' (by rw [<- hx];exact t') (rep_non.mpr rfl)
   ·cases hif
  ·rename_i d' ρ' hu
   obtain⟨o',ho',hif⟩:=gc.mp hop
   split at hif
   ·rename_i hx
    cases hif;refine⟨F,_,F,_,.rt _, ρ',r,hu,fun v σ' F' H' r' rv=>?_⟩;obtain⟨g',t'⟩:=qh0 rfl r' ho';exact q v F' H' g' (by rw [<- hx];exact t') rv
   ·cases hif
  ·cases hop
section
variable{K:Frag}{F0 H0 F H F' H':Hp}{σ : St}{ρ : Rho}
theorem RS.callG(r:RS K F0 H0 F H σ ρ){i:Nat}{k C dx:Addr}{vs:List (Str×V)}{o o':OV}(h1 : ρ[i]? = some (some (.od o)))(hz:H0 k=none)(e0:H k=some (.ins C dx vs))(g:Grow F (less H k) F' H')
  (h3:∃a bs, σ[i]? = some (some (.ref a))/\ODt K F' H' H0 a bs o'/\∀(j:Nat) (es:List D) (b:Addr), ρ[j]? = some (some (.ow es))->b∈bs -> σ[j]? ≠ some (some (.ref b))):RS K F0 H0 F' H' σ (ρ.set i (some (.od o'))):=by
 have kp:∀b u,H0 b=some u->less H k b=H b:=fun b u e=>y6 fun z=>by subst z;rw [hz] at e;cases e
 have ln:∀b,less H k b=none->H0 b=none:=fun b e=>by
  by_cases z:b=k
  ·subst z;exact hz
  ·rw [y6 z] at e;exact r.g.hh.free e
 have back:∀(l:Nat) (us:List D),(ρ.set i (some (.od o')))[l]? = some (some (.ow us)) -> ρ[l]? = some (some (.ow us)):=fun l us z=>by
  by_cases q:l=i
  ·subst q
   obtain⟨z',_⟩:=z5 z;cases z'
  ·rw [gr (ml q)] at z;exact z
 have only:∀(l:Nat) (us),(ρ.set i (some (.od o')))[l]? = some (some (.od us))->l=i/\us=o':=fun l us z=>by
  by_cases q:l=i
  ·subst q
   obtain⟨z',_⟩:=z5 z;cases z';exact⟨rfl,rfl⟩
  ·rw [gr (ml q)] at z
   exact absurd (r.o1 l i us o z h1) q
 have owl:∀(b:Addr) (xs:List V),H b=some (.lst xs)->less H k b=some (.lst xs):=fun b xs e3=>by
  rw [y6,e3];intro z;subst z;rw [e3] at e0;cases e0
 exact {
  t0:=r.t0
  g:=⟨r.g.ff.trans g.ff,⟨fun b u e=>g.hh.lst b u (by rw [kp b _ e];exact r.g.hh.lst b u e),fun b u e=>g.hh.ext b u (by rw [kp b _ e];exact r.g.hh.ext b u e),fun {b} e=>ln b (g.hh.free e),fun t=>g.hh.tb ((r.g.hh.tb t).less e0),fun b u e=>g.hh.dk b u (by rw [kp b _ e];exact r.g.hh.dk b u e)⟩,g.fh,fun b hb=>by
   rcases g.nw b hb with z|z
   ·exact r.g.nw b z
   ·exact .inr (ln b z)⟩
  len:=by rw [ue];exact r.len
  fz:=fun j e q1=>by
   by_cases q:j=i
   ·subst q
    obtain⟨z,l⟩:=z5 q1;cases z
   ·rw [gr (ml q)] at q1
    obtain⟨v,z1,z2⟩:=r.fz j e q1;exact⟨v,z1,z2.mono g.ff⟩
  ow:=fun j es q1=>by
   obtain⟨b,zs,f1,f2,f3,f4,f5⟩:=r.ow j es (back j es q1);have hl:=owl b zs f2;exact⟨b,zs,f1,g.hh.lst _ _ hl,q2n g f3 hl,f4,f5.mono g.ff⟩
  dj:=fun j k ds' es' b hjk q1 q2 q3=>r.dj j k ds' es' b hjk (back _ _ q1) (back _ _ q2) q3
  od:=fun j us q1=>by
   obtain⟨rfl,rfl⟩:=only j us q1;obtain⟨a,bs,z1,z2,z3⟩:=h3;exact⟨a,bs,z1,z2,fun k es b p1 p2=>z3 k es b (back _ _ p1) p2⟩
  o1:=fun j k k1 k2 p1 p2=>by rw [(only j k1 p1).1,(only k k2 p2).1]}
theorem RS.callOB(r:RS K F0 H0 F H σ ρ){i:Nat}{a:Addr}{o o':Str×Flds}(h1 : ρ[i]? = some (some (.od o)))(h2 : σ[i]? = some (some (.ref a)))(ot:ODt K F H H0 a [] o)
  (g:Grow F (less H a) F' H') (o0:OB0 K F' H' (less H a) a o'):RS K F0 H0 F' H' σ (ρ.set i (some (.od o'))):=by
 obtain⟨C,dx,vs,e0,_⟩:=ot.ex;exact r.callG h1 ot.z e0 g ⟨a,[],h2,(o0.at ot.z).to ot.pn,fun k es b _ p2=>by cases p2⟩
theorem Grow.put{a:Addr}{u:HO}(fh:Same F H)(hf:F a=none): Grow F (less H a) F (upd H a u):=
 ⟨.refl _,⟨fun b xs e=>by rw [qr (vi e).2];exact(vi e).1,fun b xs e=>by rw [qr (vi e).2];exact(vi e).1,fun {b} e=>by
   by_cases z:b=a
   ·subst z;exact vz
   ·rw [qr z] at e;rw [y6 z];exact e,fun t=>by
   have:upd H a u=upd (less H a) a u:=by
    funext b
    by_cases z:b=a
    ·subst z;rw [za,za]
    ·rw [qr z,qr z,y6 z]
   rw [this];exact t.upd (.inl vz),fun b xs e=>by rw [qr (vi e).2];exact(vi e).1⟩,fun b o e=>by
   rw [qr (fun z=>by subst z;rw [hf] at e;cases e)];exact fh b o e,fun _ z=>.inl z⟩
end
structure ClsF(K:Frag)(x:Str)(C:Addr)(fl:List Str): Prop where
 ns:PySem.W.nsIn K mainGlobals x=some (some (.ref C))
 cls:Cls K C
 no:∀f∈fl,NoAttr K C f
structure CalF(P:Program)(w:World)(K:Frag)(mg:Tc)(base:Heap)(x m:Str)(C:Addr)(k:Nat)(ps:List Str)(ar:Nat)(op:Th)(fn:Addr)(fd:FuncData): Prop where
 ok:FnOk P w K mg base CX0 k fn fd ps (qa4 K x ar op)
 me:Meth K C m fn
section
variable{X:Cx}{st:Stmt}{e o:Expr}{es:List Expr}{pos apos p px:Pos}{f g:FE}{fa:FA}
def wo(c:Str)(i:Nat)(f:Str): FE:=fun ρ =>(yp i ρ).bind fun o=>if o.1=c then o.2.lookup f else none
theorem kz{c x nm:Str}{C:Addr}{i:Nat}{fl:List Str}(O:ClsF X.K c C fl)(hf:nm∈fl)(hv:PE X (.Name x px) (vp i))(hb:attributeBase (.Name x px) nm X.env (eval (.Name x px) X.env)=eval (.Name x px) X.env:=by rfl): PE X (.Attribute (.Name x px) nm pos) (tD X.K (wo c i nm)):=
 zr (qx6 hv hb) fun σ H Q ⟨F0,H0,F, ρ,d,r,hf',q⟩=>by
  obtain⟨ob,h1,h2⟩:=gc.mp hf'
  split at h2
  ·rename_i hc
   obtain⟨a,bs,e1,t,_⟩:=r.od i ob (vh h1);obtain⟨C',dx,vs,e2,e3,e4⟩:=t.ex;have hC:C'=C:=by
    have:=e3.symm.trans (hc ▸ O.ns);cases this;rfl
   subst hC;obtain⟨v,l,rv⟩:=e4.get h2;exact⟨.ref a,e1,a,C',dx,vs,v,rfl,e2,O.cls,O.no _ hf,l,q v F H (.refl r.fh) rv⟩
  ·cases h2
def q3i(c:Str)(i:Nat)(nm:Str)(f:FE): FS:=fun ρ =>(f ρ).bind fun d=>(yp i ρ).bind fun o=>if o.1=c/\o.2.length<100 then some (.nx, ρ.set i (some (.od (c,putD nm d o.2)))) else none
theorem q7d{c x nm:Str}{C:Addr}{i:Nat}{fl:List Str}(O:ClsF X.K c C fl)(hf:nm∈fl)(hv:PE X (.Name x px) (vp i))(he:PE X e (tD X.K f))(hs:swapsWith e (some (.Attribute (.Name x px) nm apos)) pos.line X.env=pure false:=by rfl): PS X (.Assign [.Attribute (.Name x px) nm apos] e pos) (tDS X.K (q3i c i nm f)):=
 je (qx7 hv he hs) fun D σ H ⟨F0,H0,F, ρ,flw, ρ',r,hf',q⟩=>by
  obtain⟨d,h1,hf'⟩:=gc.mp hf';obtain⟨ob,h2,h3⟩:=gc.mp hf'
  split at h3
  ·rename_i hc
   cases h3;refine⟨F0,H0,F, ρ,d,r,h1,fun v F1 H1 g1 r1=>?_⟩;have r':=r.grow g1;obtain⟨a,bs,e1,t,_⟩:=r'.od i ob (vh h2);obtain rfl:=t.nb;obtain⟨C',dx,vs,e2,e3,e4⟩:=t.ex;have hC:C'=C:=by
    have:=e3.symm.trans (hc.1 ▸ O.ns);cases this;rfl
   subst hC;refine⟨.ref a,e1,a,C',dx,vs,rfl,e2,O.cls,O.no _ hf,by rw [e4.len];omega,?_⟩;refine q σ F1 _ g1.ff (r'.callOB (vh h2) e1 t (Grow.put r'.fh t.f) ⟨⟨C',dx,_,za,O.ns,e4.put r1⟩,t.f,vz⟩)
  ·cases h3
abbrev FM:=Rho->Option (D×Rho)
abbrev FAM:=Rho->Option (List D×Rho)
abbrev FTM:=Rho->Option (Bool×Rho)
def tDM(K:Frag)(f:FM): TE:=fun σ H Q=>∃F0 H0 F ρ d ρ',RS K F0 H0 F H σ ρ /\ f ρ = some (d, ρ')/\∀v F' H',Same F F'->RS K F0 H0 F' H' σ ρ'->Rep K F' d v->Q v H'
def qdd(K:Frag)(f:FAM): TA:=fun σ H Q=>∃F0 H0 F ρ ds ρ',RS K F0 H0 F H σ ρ /\ f ρ = some (ds, ρ')/\∀vs F' H',Same F F'->RS K F0 H0 F' H' σ ρ'->RepL K F' ds vs->Q vs H'
def q46(K:Frag)(f:FTM): TT:=fun σ H Q=>∃F0 H0 F ρ b ρ',RS K F0 H0 F H σ ρ /\ f ρ = some (b, ρ')/\∀F' H',Same F F'->RS K F0 H0 F' H' σ ρ'->Q b H'
def mP(f:FE): FM:=fun ρ =>(f ρ).map fun d=>(d, ρ)
def amP(f:FA): FAM:=fun ρ =>(f ρ).map fun d=>(d, ρ)
theorem q1d(h:PE X e (tD X.K f)): PE X e (tDM X.K (mP f)):=zr h fun σ H Q ⟨F0,H0,F, ρ,d, ρ',r,hf,q⟩=>by
 obtain⟨d',h1,h2⟩:=gp.mp hf;cases h2;exact⟨F0,H0,F, ρ,d,r,h1,fun v F' H' g' rv=>q v F' H' g'.ff (r.grow g') rv⟩
theorem q1e(h:PA X es (tDA X.K fa)): PA X es (qdd X.K (amP fa)):=qb7 h fun σ H Q ⟨F0,H0,F, ρ,d, ρ',r,hf,q⟩=>by
 obtain⟨d',h1,h2⟩:=gp.mp hf;cases h2;exact⟨F0,H0,F, ρ,d,r,h1,fun v F' H' g' rv=>q v F' H' g'.ff (r.grow g') rv⟩
def k8(f:FM)(fa:FAM): FAM:=fun ρ =>(f ρ).bind fun p=>(fa p.2).map fun q=>(p.1 :: q.1,q.2)
theorem q0j{f:FM}{fa:FAM}(ha:PE X e (tDM X.K f))(hr:PA X es (qdd X.K fa))(hs:starEach (e :: es) X.env=(false,eval e X.env) :: starEach es X.env:=by first|exact q4p rfl|rfl): PA X (e :: es) (qdd X.K (k8 f fa)):=
 qb7 (xm ha hr hs) fun σ H Q ⟨F0,H0,F, ρ,ds, ρ',r,hf,q⟩=>by
  obtain⟨⟨d, ρ1⟩,h1,hf⟩:=gc.mp hf;obtain⟨⟨ds', ρ2⟩,h2,h3⟩:=gp.mp hf;cases h3;refine⟨F0,H0,F, ρ,d, ρ1,r,h1,fun v F1 H1 s1 r1 rv=>⟨F0,H0,F1, ρ1,ds',_,r1,h2,fun vs F2 H2 s2 r2 rl=>?_⟩⟩;exact q _ F2 H2 (s1.trans s2) r2 (.cons (rv.mono s2) rl)
def q0s(op:Ti)(fa:FAM): FM:=fun ρ =>(fa ρ).bind fun p=>(op p.1).map fun d=>(d,p.2)
theorem q7e{k k' ar:Nat}{fn:Addr}{fd:FuncData}{ps:List Str}{op:Ti}{x:Str}{fa:FAM}(C:Cal X.prog X.w X.K X.mg X.base x k ps ar op fn fd)(b:Binds X.K fd ps [])(hr:Room k' X.A)(hk:k<=k')(hg:Gl X x)(ha:PA X (e :: es) (qdd X.K fa))(hdb:(x==("__debug__" : Str))=false:=by decide)
  (he:starEach (e :: es) X.env=(false,eval e X.env) :: starEach es X.env:=by rfl) (hpl:(backTo pos (starEach es X.env)).any (·.1)=false:=by rfl):PE X (.Call (.Name x p) (e :: es) [] pos) (tDM X.K (q0s (qt ar [] op) fa)):=
 zr (q8j C.ok (hr.mono hk) hg C.mg C.kp b .nil q0o ha hdb he hpl) fun σ H Q ⟨F0,H0,F, ρ,d, ρ',r,hf,q⟩=>by
  obtain⟨⟨ds, ρ1⟩,h1,hf⟩:=gc.mp hf;obtain⟨d',h2,h3⟩:=gp.mp hf;cases h3;unfold qt at h2
  split at h2
  ·rename_i hl
   refine⟨F0,H0,F, ρ,ds, ρ1,r,h1,fun vs F1 H1 s1 r1 rl=>⟨F1,ds++[],d,r1.sameT (.refl r1.fh),rl.append .nil,hl,h2,fun v F2 H2 g2 rv=>q v F2 H2 (s1.trans g2.ff) (r1.grow g2) rv⟩⟩
  ·cases h2
theorem quy{k k' ar:Nat}{fn:Addr}{fd:FuncData}{ps:List Str}{op:Ti}{x:Str}{fa:FAM}{dvs:List V}{dds:List D}{dv:List Value}(C:Cal X.prog X.w X.K X.mg X.base x k ps ar op fn fd)(b:Binds X.K fd ps dv)(hd:Vals dvs dv)(hdd:∀H,RepL X.K H dds dvs)(hr:Room k' X.A)(hk:k<=k')(hg:Gl X x)(ha:PA X (e :: es) (qdd X.K fa))(hdb:(x==("__debug__" : Str))=false:=by decide)
  (he:starEach (e :: es) X.env=(false,eval e X.env) :: starEach es X.env:=by rfl) (hpl:(backTo pos (starEach es X.env)).any (·.1)=false:=by rfl):PE X (.Call (.Name x p) (e :: es) [] pos) (tDM X.K (q0s (qt ar dds op) fa)):=
 zr (q8j C.ok (hr.mono hk) hg C.mg C.kp b hd q0o ha hdb he hpl) fun σ H Q ⟨F0,H0,F, ρ,d, ρ',r,hf,q⟩=>by
  obtain⟨⟨ds, ρ1⟩,h1,hf⟩:=gc.mp hf;obtain⟨d',h2,h3⟩:=gp.mp hf;cases h3;unfold qt at h2
  split at h2
  ·rename_i hl
   refine⟨F0,H0,F, ρ,ds, ρ1,r,h1,fun vs F1 H1 s1 r1 rl=>⟨F1,ds++dds,d,r1.sameT (.refl r1.fh),rl.append (hdd F1),hl,h2,fun v F2 H2 g2 rv=>q v F2 H2 (s1.trans g2.ff) (r1.grow g2) rv⟩⟩
  ·cases h2
theorem Cal.as{P:Program}{w:World}{K:Frag}{mg:Tc}{base:Heap}{x y:Str}{k ar:Nat}{ps:List Str}{op:Ti}{fn:Addr}{fd:FuncData}(C:Cal P w K mg base x k ps ar op fn fd)(h:mg y=some (.ref fn)): Cal P w K mg base y k ps ar op fn fd:=⟨C.ok,h,C.kp⟩
def xv(c:Str)(m:Str)(i ar:Nat)(op:Th)(fa:FA): FM:=fun ρ =>(yp i ρ).bind fun o=>(fa ρ).bind fun ds=>if o.1=c/\ds.length=ar/\(o.2.lookup m).isNone=true then(op o.2 ds).map fun p=>(p.2, ρ.set i (some (.od (c,p.1)))) else none
theorem qod{K:Frag}{c m:Str}{C:Addr}{fl:List Str}{i ar:Nat}{op:Th}{σ : St}{H:Hp}{Q:VK}(O:ClsF K c C fl)(h:tDM K (xv c m i ar op fa) σ H Q):
  qb1 C m (qa4 K c ar op) [] E0 (vp i) (tDA K fa) σ H Q:=by
 obtain⟨F0,H0,F, ρ,d, ρ',r,hf,q⟩:=h;obtain⟨ob,h1,hf⟩:=gc.mp hf;obtain⟨ds,h2,h3⟩:=gc.mp hf
 split at h3
 ·rename_i hc
  obtain⟨⟨fs',d'⟩,h4,h5⟩:=gp.mp h3;cases h5;obtain⟨x,fs⟩:=ob;obtain⟨rfl,hl,hn⟩:=hc;obtain⟨a,bs,e1,t,_⟩:=r.od i _ (vh h1);obtain rfl:=t.nb;obtain⟨C',dx,vs,e2,e3,e4⟩:=t.ex;have hC:C'=C:=by
   have:=e3.symm.trans O.ns;cases this;rfl
  subst hC;refine⟨.ref a,e1,a,dx,vs,rfl,e2,e4.miss (g17.mp hn),F0,H0,F, ρ,ds,r,h2,fun ws F1 H1 g1 r1=>?_⟩;have r':=r.grow g1;have t':=t.grow g1;refine⟨F1,a,fs,fs',ds,d',ws,by rw [ny],r.sameT g1,r1,hl,t'.ob.at vz,h4,fun v F2 H2 g2 o2 rv=>?_⟩;exact q v F2 H2 (g1.ff.trans g2.ff) (r'.callOB (vh h1) e1 t' g2 o2) rv
 ·cases h3
theorem vw{c x m:Str}{C:Addr}{k k' ar i:Nat}{fn:Addr}{fd:FuncData}{ps fl:List Str}{op:Th}{pl:Sem Bool}(O:ClsF X.K c C fl)
  (M:CalF X.prog X.w X.K X.mg X.base c m C k ps ar op fn fd) (b:Binds X.K fd ps []) (hr:Room k' X.A) (hk:k<=k') (hv:PE X (.Name x px) (vp i)) (ha:PA X (e :: es) (tDA X.K fa))
  (hst:starEach (e :: es) X.env=(false,eval e X.env) :: starEach es X.env:=by rfl) (hpl:(backTo pos (starEach es X.env)).any (·.1)=false:=by rfl)
  (ht:eval (.Call (.Attribute (.Name x px) m apos) (e :: es) [] pos) X.env=(do
   let ov <- eval (.Name x px) X.env
   standAt apos.atName
   let(f,first) <- holding [ov] (getMethod ov m pl)
   callWith pos f first (backTo pos (starEach (e :: es) X.env)) (backToKw pos (keywordEach [] X.env))):=by rfl) :
  PE X (.Call (.Attribute (.Name x px) m apos) (e :: es) [] pos) (tDM X.K (xv c m i ar op fa)):=
 zr (q8k (pl:=pl) hv O.cls M.me M.ok (hr.mono hk) b .nil q0o ha hst hpl ht) fun σ H Q h=>qod O h
theorem q2o{c x m:Str}{C:Addr}{k k' i:Nat}{fn:Addr}{fd:FuncData}{ps fl:List Str}{op:Th}{pl:Sem Bool}(O:ClsF X.K c C fl)
  (M:CalF X.prog X.w X.K X.mg X.base c m C k ps 0 op fn fd) (b:Binds X.K fd ps []) (hr:Room k' X.A) (hk:k<=k') (hv:PE X (.Name x px) (vp i))
  (ht:eval (.Call (.Attribute (.Name x px) m apos) [] [] pos) X.env=(do
   let ov <- eval (.Name x px) X.env
   standAt apos.atName
   let(f,first) <- holding [ov] (getMethod ov m pl)
   callWith pos f first (backTo pos (starEach [] X.env)) (backToKw pos (keywordEach [] X.env))):=by rfl) :
  PE X (.Call (.Attribute (.Name x px) m apos) [] [] pos) (tDM X.K (xv c m i 0 op qh)):=
 zr (qg8 (pl:=pl) hv O.cls M.me M.ok (hr.mono hk) b .nil q0o ht) fun σ H Q h=>by
  obtain⟨v,e1,a,dx,fs,h1,h2,h3,F0,H0,F, ρ,ds,r,hf,q⟩:=qod O h;cases hf;exact⟨v,e1,a,dx,fs,h1,h2,h3,q [] F H (.refl r.fh) .nil⟩
structure CalO(P:Program)(w:World)(K:Frag)(mg:Tc)(base:Heap)(x c:Str)(k:Nat)(ps:List Str)(ar:Nat)(op:Th)(fn:Addr)(fd:FuncData): Prop where
 ok:FnOk P w K mg base CX0 k fn fd ps (qa4 K c ar op)
 mg:mg x=some (.ref fn)
 kp:PySem.W.keepIn K (.ref fn)=true
def mbT(f:FM): FTM:=fun ρ =>(f ρ).bind fun p=>(q9v p.1).map fun b=>(b,p.2)
theorem qh1{f:FM}(ha:PE X e (tDM X.K f))(he:∀whole,isTrue e X.env whole=(do let v <- whole;standAt e.pos;holding [v] (truthy v)):=by intro _;rfl): PT X e (q46 X.K (mbT f)):=
 q4n (qg6 ha he) fun σ H Q ⟨F0,H0,F, ρ,b, ρ',r,hf,q⟩=>by
  obtain⟨⟨d, ρ1⟩,h1,hf⟩:=gc.mp hf;obtain⟨b',h2,h3⟩:=gp.mp hf;cases h3;exact⟨F0,H0,F, ρ,d,_,r,h1,fun v F' H' s' r' rv=>⟨b,qnw h2 r'.fh rv,q F' H' s' r'⟩⟩
def q3j(t:FTM): FTM:=fun ρ =>(t ρ).map fun p=>(!p.1,p.2)
theorem qh2{t:FTM}(ha:PT X e (q46 X.K t)): PT X (.UnaryOp .Not e pos) (q46 X.K (q3j t)):=q4n (qn6 ha) fun σ H Q ⟨F0,H0,F, ρ,c, ρ',r,hf,q⟩=>by
 obtain⟨⟨d, ρ1⟩,h1,h2⟩:=gp.mp hf;cases h2;exact⟨F0,H0,F, ρ,d,_,r,h1,fun F' H' s' r'=>q F' H' s' r'⟩
def q3k(o:D->D->Option D)(f g:FM): FTM:=fun ρ =>(f ρ).bind fun p=>(g p.2).bind fun q=>(o p.1 q.1).bind fun d=>(isB d).map fun b=>(b,q.2)
theorem qbl{a b:Expr}{f g:FM}{op:CmpOp}{o:D->D->Option D}(ho:OpR X (compareOp op) (rD X.K o))(ha:PE X a (tDM X.K f))(hb:PE X b (tDM X.K g))(hm:behindInMarks op b=false:=by first|exact q5b _ (by decide) (by decide)|rfl):
  PT X (.Compare a [op] [b] pos) (q46 X.K (q3k o f g)):=q4n (qk5 ho ha hb hm) fun σ H Q ⟨F0,H0,F, ρ,c, ρ',r,hf,q⟩=>by
 obtain⟨⟨d1, ρ1⟩,h1,hf⟩:=gc.mp hf;obtain⟨⟨d2, ρ2⟩,h2,hf⟩:=gc.mp hf;obtain⟨d,h3,hf⟩:=gc.mp hf;obtain⟨b',h4,h5⟩:=gp.mp hf;cases h5;refine⟨F0,H0,F, ρ,d1, ρ1,r,h1,fun v F1 H1 s1 r1 rv=>⟨F0,H0,F1, ρ1,d2,_,r1,h2,fun u F2 H2 s2 r2 ru=>?_⟩⟩;refine⟨F2,d1,d2,d,r2.fh,rv.mono s2,ru,h3,fun w F3 H3 g3 r3=>?_⟩;cases d <;> simp only [isB] at h4 <;> first|(cases h4;done)|skip
 cases h4;exact⟨_,rep_bl.mp r3,q F3 H3 (s1.trans (s2.trans g3.ff)) (r2.grow g3)⟩
def qh3(t u:FTM): FTM:=fun ρ =>(t ρ).bind fun p=>if p.1 then some (true,p.2) else u p.2
variable{rest:List Expr}{a b:Expr}{t u:FTM}
theorem qoe(ha:PT X a (q46 X.K t)): PW X (.BoolOp .Or [a] pos) (q46 X.K t):=qn5 ha
theorem qto(ha:PT X a (q46 X.K t))(hb:PW X (.BoolOp .Or (b :: rest) pos) (q46 X.K u)): PW X (.BoolOp .Or (a :: b :: rest) pos) (q46 X.K (qh3 t u)):=qgf (qtc ha hb) fun σ H Q ⟨F0,H0,F, ρ,c, ρ',r,hf,q⟩=>by
 obtain⟨⟨d, ρ1⟩,h1,h2⟩:=gc.mp hf;refine⟨F0,H0,F, ρ,d, ρ1,r,h1,fun F' H' s' r'=>?_⟩;cases d with
 | false=>rw [mf gy] at h2 ⊢;exact⟨F0,H0,F', ρ1,c, ρ',r',h2,fun F2 H2 s2 r2=>q F2 H2 (s'.trans s2) r2⟩
 | true=>rw [gw rfl] at h2 ⊢;cases h2;exact q F' H' s' r'
def q2w(t:FTM)(u w:FS): FS:=fun ρ =>(t ρ).bind fun p=>if p.1 then u p.2 else w p.2
theorem q7f{c:Expr}{a b:List Stmt}{u w:FS}(hc:PT X c (q46 X.K t))(ha:PSs X a (tDS X.K u))(hb:PSs X b (tDS X.K w)): PS X (.If c a b pos) (tDS X.K (q2w t u w)):=je (qfl hc ha hb) fun D σ H ⟨F0,H0,F, ρ,fl, ρ',r,hf,q⟩=>by
 obtain⟨⟨c, ρ1⟩,h1,h2⟩:=gc.mp hf;refine⟨F0,H0,F, ρ,c, ρ1,r,h1,fun F' H' s' r'=>?_⟩;cases c with
 | true=>rw [gw rfl] at h2 ⊢;exact⟨F0,H0,F', ρ1,fl, ρ',r',h2,q0a s' q⟩
 | false=>rw [mf gy] at h2 ⊢;exact⟨F0,H0,F', ρ1,fl, ρ',r',h2,q0a s' q⟩
def q0t(f:FM): FS:=fun ρ =>(f ρ).map fun p=>(.rt p.1,p.2)
theorem q1f{f:FM}(he:PE X e (tDM X.K f)): PS X (.Return (some e) pos) (tDS X.K (q0t f)):=je (qn9 he) fun D σ H ⟨F0,H0,F, ρ,fl, ρ',r,hf,q⟩=>by
 obtain⟨⟨d, ρ1⟩,h1,h2⟩:=gp.mp hf;cases h2;exact⟨F0,H0,F, ρ,d,_,r,h1,fun v F' H' s' r' rv=>q v σ F' H' r' rv⟩
def w4(f:FM): FS:=fun ρ =>(f ρ).map fun p=>(.nx,p.2)
theorem w6{f:FM}(he:PE X e (tDM X.K f))(hs:swapsWith e none pos.line X.env=pure false:=by rfl): PS X (.Expr e pos) (tDS X.K (w4 f)):=je (q4j he hs) fun D σ H ⟨F0,H0,F, ρ,fl, ρ',r,hf,q⟩=>by
 obtain⟨⟨d, ρ1⟩,h1,h2⟩:=gp.mp hf;cases h2;exact⟨F0,H0,F, ρ,d,_,r,h1,fun v F' H' s' r' rv=>q σ F' H' s' r'⟩
def qfq(i:Nat)(f:FM): FS:=fun ρ =>(f ρ).map fun p=>(.nx,p.2.set i (some (.fz p.1)))
theorem quz{i:Nat}{x:Str}{px:Pos}{f:FM}(hN:X.N.Nodup)(hi:X.N[i]? = some x)(hx:Loc X.env.scope x)(he:PE X e (tDM X.K f))(hs:swapsWith e (some (.Name x px)) pos.line X.env=pure false:=by rfl)(hf:X.fn x=true\/X.env.scope.names.lookup x=some .local:=by first|exact .inl rfl|exact .inr rfl|assumption):
  PS X (.Assign [.Name x px] e pos) (tDS X.K (qfq i f)):=je (qaz hN hi hx he hs hf) fun D σ H ⟨F0,H0,F, ρ,fl, ρ',r,hf,q⟩=>by
 obtain⟨⟨d, ρ1⟩,h1,h2⟩:=gp.mp hf;cases h2;exact⟨F0,H0,F, ρ,d, ρ1,r,h1,fun v F' H' s' r' rv=>q _ F' H' s' (r'.set i rv)⟩
end
end DL
namespace L2
open PySem PySem.Spec PyProof.Rows
section
variable{X:Cx}{CX:CXT}{k:Nat}{f C:Addr}{fd:FuncData}{ps ks:List Str}{sp:Sp}{E:XK}{x:Str}{p pos:Pos}{e:Expr}{es:List Expr}{kws:List Keyword}{t tk:TA}{g:List Value->List Value->List Value}{gV:List V->List V->List V}
end
end L2
namespace DL
open PySem PySem.Spec PyProof.Rows L2
variable[Lam][Pin]
def qh4(i:Nat)(ρ : Rho): Bool:=(ρ.set i none).all fun b=>match b with
 | some (.od _)=>false
 | _=>true
omit [Lam] [Pin] in
theorem qkn{i j:Nat}{ρ : Rho}{o}(h:qh4 i ρ = true)(h2 : ρ[j]? = some (some (.od o))): j=i:=by
 by_cases q:j=i
 ·exact q
 ·unfold qh4 at h
  rw [t4] at h;have:=h (some (.od o)) (uj (i:=j) (by rw [gr (ml q)];exact h2));cases this
section
variable{K:Frag}{F0 H0 F H F' H':Hp}{σ : St}{ρ : Rho}
theorem RS.setOV(r:RS K F0 H0 F H σ ρ){i:Nat}{a:Addr}{bs:List Addr}{o:OV}(no:qh4 i ρ = true)(o0:ODt K F H H0 a bs o)(hd:∀(j:Nat) (es:List D) (b:Addr), ρ[j]? = some (some (.ow es))->b∈bs -> σ[j]? ≠ some (some (.ref b))): RS K F0 H0 F H (σ.set i (some (.ref a))) (ρ.set i (some (.od o))) where
 t0:=r.t0
 g:=r.g
 len:=by rw [ue,ue];exact r.len
 fz:=fun j e h1=>by
  by_cases q:j=i
  ·subst q
   obtain⟨z,l⟩:=z5 h1;cases z
  ·rw [gr (ml q)] at h1 ⊢
   exact r.fz j e h1
 ow:=fun j ds h1=>by
  by_cases q:j=i
  ·subst q
   obtain⟨z,l⟩:=z5 h1;cases z
  ·rw [gr (ml q)] at h1 ⊢
   exact r.ow j ds h1
 dj :=fun j k ds es a hjk h1 h2 h3=>by
  by_cases q:j=i
  ·subst q
   obtain⟨z,l⟩:=z5 h1;cases z
  ·by_cases q2:k=i
   ·subst q2
    obtain⟨z,l⟩:=z5 h2;cases z
   ·rw [gr (ml q)] at h1 h3
    rw [gr (ml q2)] at h2 ⊢;exact r.dj j k ds es a hjk h1 h2 h3
 od :=fun j kvs h1=>by
  by_cases q:j=i
  ·subst q
   obtain⟨z,l⟩:=z5 h1;cases z;refine⟨a,bs,by rw [g2r];simp [r.len,l],o0,fun k es b p1 p2=>?_⟩
   by_cases q:k=j
   ·subst q
    obtain⟨z,l⟩:=z5 p1;cases z
   ·rw [gr (ml q)] at p1 ⊢
    exact hd k es b p1 p2
  ·rw [gr (ml q)] at h1
   exact absurd (qkn no h1) q
 o1 :=fun j k k1 k2 h1 h2=>by
  have only:∀(l:Nat) us,(ρ.set i (some (.od o)))[l]? = some (some (.od us))->l=i:=fun l us z=>by
   by_cases q:l=i
   ·exact q
   ·rw [gr (ml q)] at z
    exact qkn no z
  rw [only j k1 h1,only k k2 h2]
end
structure MkF(P:Program)(w:World)(K:Frag)(mg:Tc)(base:Heap)(x:Str)(C:Addr)(k:Nat)(ps:List Str)(ar:Nat)(op:Th)(fn:Addr)(fd:FuncData): Prop where
 ok:FnOk P w K mg base CX0 k fn fd ps (qa4 K x ar op)
 mks:Mk K C fn
 mg:mg x=some (.ref C)
 ns:PySem.W.nsIn K mainGlobals x=some (some (.ref C))
def qm2:D->Bool
 | .non=>true
 | _=>false
section
variable{X:Cx}{e:Expr}{es:List Expr}{kws:List Keyword}{pos p px spos:Pos}{fa fk:FA}
end
abbrev XV:=Str×Option (Str×Int)
abbrev FX:=Rho->Option (XV×Rho)
def xOk(K:Frag)(F0 H0:Hp)(C:Addr)(p:XV)(ρ':Rho)(E:XK): Prop:=∀F' H' σ' od,RS K F0 H0 F' H' σ' ρ'->XF F' od p.2->E (.ref C) od H'
def tXS(K:Frag)(v:FX)(E:XK): TS:=fun _ σ H=>∃F0 H0 F ρ p ρ' C,RS K F0 H0 F H σ ρ /\ v ρ = some (p, ρ')/\PySem.W.nsIn K mainGlobals p.1=some (some (.ref C))/\xOk K F0 H0 C p ρ' E
def tXE(K:Frag)(v:FX)(E:XK): TE:=fun σ H _=>∃F0 H0 F ρ p ρ' C,RS K F0 H0 F H σ ρ /\ v ρ = some (p, ρ')/\PySem.W.nsIn K mainGlobals p.1=some (some (.ref C))/\xOk K F0 H0 C p ρ' E
def q7g(K:Frag)(c:Str)(ar:Nat)(op:Flds->List D->Option (XV×Flds)): Sp:=fun vs H _ E=>∃F a fs fs' ds p C vs',vs=.ref a :: vs'/\SameT F H/\RepL K F ds vs'/\ds.length=ar/\OB0 K F H (less H a) a (c,fs)/\op fs ds=some (p,fs')/\PySem.W.nsIn K mainGlobals p.1=some (some (.ref C)) /\
 ∀F' H' od,Grow F (less H a) F' H'->OB0 K F' H' (less H a) a (c,fs')->XF F' od p.2->E (.ref C) od H'
def q0u:FX:=fun _=>none
def qof(x:Str): FX:=fun ρ =>some ((x,none), ρ)
def xIf(t:FT)(a b:FX): FX:=fun ρ =>(t ρ).bind fun c=>if c then a ρ else b ρ
def q24(u:FS)(a b:FX): FX:=fun ρ =>(a ρ).or (match u ρ with|some (.nx, ρ')=>b ρ'|_=>none)
def q2e(c:Str)(m:Str)(i ar:Nat)(op:Flds->List D->Option (XV×Flds))(fa:FA): FX:=fun ρ =>(yp i ρ).bind fun o=>(fa ρ).bind fun ds=>if o.1=c/\ds.length=ar/\(o.2.lookup m).isNone=true then(op o.2 ds).map fun p=>(p.1, ρ.set i (some (.od (c,p.2)))) else none
theorem PS.nox{X:Cx}{st:Stmt}{t:TS}(h:PS X.nox st t): PS X st t:=fun pins s σ H D I hw=>
 nu (h pins s σ H D (I.wish _) hw) (fun _ _ q=>q.unwish) fun _ _ z=>False.elim z
theorem PA.nox'{X:Cx}{es:List Expr}{t:TA}(h:PA X.nox es t): PA X es t:=fun pos pins s σ H Q I hw=>
 nu (h pos pins s σ H Q (I.wish _) hw) (fun _ _ ⟨v,H',I',r,q⟩=>⟨v,H',I'.unwish,r,q⟩) fun _ _ z=>False.elim z
theorem PE.nox'{X:Cx}{e:Expr}{t:TE}(h:PE X.nox e t): PE X e t:=fun pins s σ H Q I hw=>
 nu (h pins s σ H Q (I.wish _) hw) (fun _ _ ⟨v,H',I',r,q⟩=>⟨v,H',I'.unwish,r,q⟩) fun _ _ z=>False.elim z
section
variable{P:Program}{w:World}{K:Frag}{mg:Tc}{base:Heap}{N:List Str}{qual:Str}{scope:Scope}{f:Addr}{cd:Value}{A:Around}{outer:List Env}{s0:Shared}{H0:Hp}{E:XK}
variable{st:Stmt}{rest:List Stmt}{u:FS}{v v':FX}{t:FT}{pos:Pos}
theorem qrf{X:Cx}: PS X st (tXS K q0u E):=fun _ _ _ _ _ _ ⟨_,_,_,_,_,_,_,_,h,_⟩=>by cases h
theorem q3l{X:Cx}{sts:List Stmt}: PSs X sts (tXS K q0u E):=fun _ _ _ _ _ _ ⟨_,_,_,_,_,_,_,_,h,_⟩=>by cases h
theorem qrg{C:Addr}{x m:Str}{np p2 cpos:Pos}{j}(hC:qgy K C)(hg:Gl (zx (CXR P w) P w K mg base N qual scope f cd A outer s0 H0 E) x)(hm:mg x=some (.ref C))(hns:PySem.W.nsIn K mainGlobals x=some (some (.ref C)))(hd:(x==("__debug__" : Str))=false:=by decide):
  PS (zx (CXR P w) P w K mg base N qual scope f cd A outer s0 H0 E) (.Raise (some (.Call (.Name x np) [.Constant (.str m) j p2] [] cpos)) none pos) (tXS K (qof x) E):=je (qre hC hg hm hd) fun D σ H ⟨F0,H0,F, ρ,y, ρ',C',r,hv,hn,hE⟩=>by
 cases hv;rw [hns] at hn;cases hn;exact hE _ _ _ none r trivial
theorem qh5{X:Cx}(h:PS X st (tXS K v E)): PSs X [st] (tXS K v E):=qd2 h
theorem qbm{X:Cx}(h1:PS X st (tDS K u))(h1x:PS X st (tXS K v E))(h2x:PSs X rest (tXS K v' E)): PSs X (st :: rest) (tXS K (q24 u v v') E):=by
 intro pins s σ H D I ⟨F0,H0,F, ρ,x, ρ',C,r,hv,hn,hE⟩;unfold q24 at hv;cases h:v ρ with
 | some y=>
  rw [h,g2m] at hv;cases hv;refine g21 (thn (h1x pins s σ H {nx:=fun _ _=>False,rt:=fun _ _=>False} I ⟨F0,H0,F, ρ,x, ρ',C,r,h,hn,hE⟩) fun fl s1 q=>?_);cases fl with
  | next=>obtain⟨_,_,_,q⟩:=q;exact q.elim
  | brk=>obtain⟨_,_,_,q⟩:=q;exact q.elim
  | cont=>obtain⟨_,_,_,q⟩:=q;exact q.elim
  | ret z=>obtain⟨_,_,_,_,_,q⟩:=q;exact q.elim
 | none=>
  rw [h,g2n] at hv
  split at hv
  ·rename_i ρ1 hu
   refine g21 (thn (h1 pins s σ H {D with nx:=fun σ' H'=>tXS K v' E D σ' H'} I ⟨F0,H0,F, ρ,.nx, ρ1,r,hu,fun σ' F' H' s' r'=>⟨F0,H0,F', ρ1,x, ρ',C,r',hv,hn,hE⟩⟩) fun fl s1 q=>?_);cases fl with
   | next=>obtain⟨σ',H',I',q⟩:=q;exact h2x pins s1 σ' H' D I' q
   | brk=>exact q
   | cont=>exact q
   | ret z=>exact q
  ·cases hv
theorem qtp{X:Cx}{c:Expr}{a b:List Stmt}(hc:PT X c (tDT K t))(ha:PSs X a (tXS K v E))(hb:PSs X b (tXS K v' E)): PS X (.If c a b pos) (tXS K (xIf t v v') E):=je (qfl hc ha hb) fun D σ H ⟨F0,H0,F, ρ,x, ρ',C,r,hv,hn,hE⟩=>by
 obtain⟨d,h1,h2⟩:=gc.mp hv;refine⟨F0,H0,F, ρ,d,r,h1,fun F' H' g=>?_⟩;cases d with
 | true=>exact qqi ⟨F0,H0,F', ρ,x, ρ',C,r.grow g,h2,hn,hE⟩
 | false=>exact qqh ⟨F0,H0,F', ρ,x, ρ',C,r.grow g,h2,hn,hE⟩
theorem qv0{C0:Addr}{c m:Str}{fl:List Str}{i ar:Nat}{op:Flds->List D->Option (XV×Flds)}{fa:FA}{σ : St}{H:Hp}{Q:VK}(O:ClsF K c C0 fl)(h:tXE K (q2e c m i ar op fa) E σ H Q):
  qb1 C0 m (q7g K c ar op) [] E (vp i) (tDA K fa) σ H Q:=by
 obtain⟨F0,H0,F, ρ,p, ρ',C,r,hv,hn,hE⟩:=h;obtain⟨ob,h1,hv⟩:=gc.mp hv;obtain⟨ds,h2,h3⟩:=gc.mp hv
 split at h3
 ·rename_i hc
  obtain⟨⟨p',fs'⟩,h4,h5⟩:=gp.mp h3;cases h5;obtain⟨x,fs⟩:=ob;obtain⟨rfl,hl,hnn⟩:=hc;obtain⟨a,bs,e1,t,_⟩:=r.od i _ (vh h1);obtain rfl:=t.nb;obtain⟨C',dx,vs,e2,e3,e4⟩:=t.ex;have hC:C'=C0:=by
   have:=e3.symm.trans O.ns;cases this;rfl
  subst hC;refine⟨.ref a,e1,a,dx,vs,rfl,e2,e4.miss (g17.mp hnn),F0,H0,F, ρ,ds,r,h2,fun ws F1 H1 g1 r1=>?_⟩;have r':=r.grow g1;have t':=t.grow g1;exact⟨F1,a,fs,fs',ds,_,C,ws,by rw [ny],r.sameT g1,r1,hl,t'.ob.at vz,h4,hn,fun F2 H2 od g2 o2 xf=>hE F2 H2 σ od (r'.callOB (vh h1) e1 t' g2 o2) xf⟩
 ·cases h3
theorem qko{C0:Addr}{c x m:Str}{k k' ar i:Nat}{fn:Addr}{fd:FuncData}{ps fl:List Str}{op:Flds->List D->Option (XV×Flds)}{e:Expr}{es:List Expr}{fa:FA}{px apos:Pos}{pl:Sem Bool}(O:ClsF K c C0 fl)(G:FnOk P w K mg base (CXR P w) k fn fd ps (q7g K c ar op))(me:Meth K C0 m fn)(b:Binds K fd ps [])(hr:Room k' (zx (CXR P w) P w K mg base N qual scope f cd A outer s0 H0 E).A)(hk:k<=k')
  (hv:PE (zx (CXR P w) P w K mg base N qual scope f cd A outer s0 H0 E) (.Name x px) (vp i)) (ha:PA (zx (CXR P w) P w K mg base N qual scope f cd A outer s0 H0 E).nox (e :: es) (tDA K fa))
  (hst:starEach (e :: es) (zx (CXR P w) P w K mg base N qual scope f cd A outer s0 H0 E).env=(false,eval e (zx (CXR P w) P w K mg base N qual scope f cd A outer s0 H0 E).env) :: starEach es (zx (CXR P w) P w K mg base N qual scope f cd A outer s0 H0 E).env:=by rfl) (hpl:(backTo pos (starEach es (zx (CXR P w) P w K mg base N qual scope f cd A outer s0 H0 E).env)).any (·.1)=false:=by rfl)
  (ht:eval (.Call (.Attribute (.Name x px) m apos) (e :: es) [] pos) (zx (CXR P w) P w K mg base N qual scope f cd A outer s0 H0 E).env=(do
   let ov <- eval (.Name x px) (zx (CXR P w) P w K mg base N qual scope f cd A outer s0 H0 E).env
   standAt apos.atName
   let(fv,first) <- holding [ov] (getMethod ov m pl)
   callWith pos fv first (backTo pos (starEach (e :: es) (zx (CXR P w) P w K mg base N qual scope f cd A outer s0 H0 E).env)) (backToKw pos (keywordEach [] (zx (CXR P w) P w K mg base N qual scope f cd A outer s0 H0 E).env))):=by rfl) :
  PE (zx (CXR P w) P w K mg base N qual scope f cd A outer s0 H0 E) (.Call (.Attribute (.Name x px) m apos) (e :: es) [] pos) (tXE K (q2e c m i ar op fa) E):=
 zr (q8k (X:=(zx (CXR P w) P w K mg base N qual scope f cd A outer s0 H0 E)) (pl:=pl) hv O.cls me G (hr.mono hk) b .nil z0j (PA.nox' ha) hst hpl ht) fun σ H Q h=>qv0 O h
theorem qkp{X:Cx}{e:Expr}(h:PE X e (tXE K v E))(hs:swapsWith e none pos.line X.env=pure false:=by rfl): PS X (.Expr e pos) (tXS K v E):=je (q4j h hs) fun D σ H q=>q
end
section
variable{P:Program}{w:World}{K:Frag}{mg:Tc}{base:Heap}{x qual:Str}{st:Stmt}{dV:Value}{f:Addr}{fd:FuncData}{N ps:List Str}
omit [Pin] in
theorem q7h{c:Str}{k n ar k1:Nat}{v:FX}(F:Fun2 K x qual st dV f fd)(S:FnScope N ps (qj st))(hn:N.length=n)(ha:ps.length=ar+1)(hk:k+1=k1)
  (hb:∀(Pn:Pin) (cdv:Value) (A:Around) (outer:List Env) (s:Shared) (H:Hp) (E:XK),Room k (A.deeper (envOfC qual (qj st) s.heap.objs.size f cdv))->PSs (zx (CXR P w) P w K mg base N qual (qj st) f cdv A outer s H E) (ja st) (letI:Pin:=Pn;tXS K v E)) :
  FnOk P w K mg base (CXR P w) k1 f fd ps (q7g K c ar fun fs ds=>(v (ki n c fs ds)).bind fun p=>(yp 0 p.2).bind fun o=>if o.1=c then some (p.1,o.2) else none):=by
 subst hn hk;obtain⟨oc,od,kV,doc,pm,an,cdv,ct,osl,rfl,lk,hcd⟩:=F.ex;have hpl:ps.length<=N.length:=by have:=ui List.length S.pre;rw [u9] at this;lia
 refine qfm lk hcd S (fun vs H Q E h=>?_) fun A outer s H vs Q E hr hsp=>?_
 ·obtain⟨F,a,fs,fs',ds,p,C,vs',rfl,_,hR,hl,_⟩:=h
  rw [mv, <- hR.length,hl,ha]
 ·obtain⟨F,a,fs,fs',ds,p,C,vs',rfl,sT,hR,hl,o,hop,hn,q⟩:=hsp
  obtain⟨⟨p', ρ'⟩,h1,hop⟩:=gc.mp hop;obtain⟨o',h2,h3⟩:=gc.mp hop
  split at h3
  ·rename_i hx
   cases h3
   letI:Pin:=⟨some a⟩
   have r:=qgz (x:=c) (N:=N) (by omega) (fun p h=>mr h) sT hR o;refine⟨_,hb ⟨some a⟩ cdv A outer s H E hr,⟨_,_,_,_,_, ρ',C,r,h1,hn,fun F' H' σ' od r' xf=>?_⟩⟩;obtain⟨g',t'⟩:=qh0 rfl r' h2;exact q F' H' od g' (by rw [<- hx];exact t') xf
  ·cases h3
end
section
variable{P:Program}{w:World}{K:Frag}{mg:Tc}{base:Heap}{CX:CXT}{k:Nat}{f:Addr}{fd:FuncData}{ps:List Str}{sp sp':Sp}
end
section
variable{M:Model}{A:Around}{E:Ta}{s:Shared}{K:Frag}{a C C2:Addr}{od:Option Addr}
open PySem.W in
end
section
variable{X:Cx}
def Handles(X:Cx)(C:Addr)(hs:List ExceptHandler)(th:Addr->Option Addr->TS): Prop:=∀(pins:Td) (σ : St) (H H2:Hp) (s s':Shared) (B:Heap) (a:Addr) (od:Option Addr) (D:Ends),Inv X pins σ H s->s.heap.get? a=none->H2 a=none ->
 (∀h6,B.StaysIn h6->s'.heap.UpToSlots h6->Inv X pins σ H2 {s' with heap:=h6})->Fl.Fly B (X.env :: X.outer) a (PX C od) .none s'.heap->th a od D σ H2 ->
 wpAny (model X.prog X.w) X.A (handleBy (.ref a) X.env hs) (SP X pins D) X.xe s'
theorem qv1{pins:Td}{σ : St}{H2:Hp}{s':Shared}{B:Heap}(inv:∀h6,B.StaysIn h6->s'.heap.UpToSlots h6->Inv X pins σ H2 {s' with heap:=h6})(st:B.StaysIn s'.heap): Inv X pins σ H2 s':=inv s'.heap st (Heap.UpToSlots.refl _)
variable{C C2:Addr}{cx n:Str}{np hpos:Pos}{b₀:Stmt}{suite:List Stmt}{rest:List ExceptHandler}{ts:TS}{th:Addr->Option Addr->TS}{i:Nat}
theorem z0k{B h:Heap}{l:List Env}{a:Addr}{od:Option Addr}{fl:Value}(x:Fl.Fly B l a (PX C od) fl h): XE a C od h:=by
 obtain⟨oe,ws,hoe,hoec,hoed⟩:=x.there;exact⟨oe,ws,hoe,hoec.1,hoec.2,hoed⟩
theorem qv2{D:Ends}{f:Flow}{s':Shared}{a:Addr}{pins:Td}(ok:X.Ok)(h:SP (inX X a) pins D f s'): SP X pins D f s':=by
 cases f with
 | next=>obtain⟨σ',H',I,q⟩:=h;exact⟨σ',H',q5p ok I,q⟩
 | brk=>obtain⟨σ',H',I,q⟩:=h;exact⟨σ',H',q5p ok I,q⟩
 | cont=>obtain⟨σ',H',I,q⟩:=h;exact⟨σ',H',q5p ok I,q⟩
 | ret u=>obtain⟨v, σ',H',I,r,q⟩:=h;exact⟨v, σ',H',q5p ok I,r,q⟩
end
section
variable{X:Cx}
abbrev pnX(X:Cx)(pins:Td): Cx:={X with pn:=X.pn++pins}
abbrev XT(X:Cx)(pins:Td)(σ0:St)(Ex:XK): Cx:=(pnX X pins).wish fun e s1=>∃p H1 s,Inv (pnX X pins) p σ0 H1 s/\CXR X.prog X.w X.stack H1 s Ex e s1
theorem z0l{pins:Td}(ok:X.Ok): (pnX X pins).Ok:=
 ⟨ok.mod,ok.kind,ok.glob,ok.blt,ok.above,ok.inj,ok.has,ok.cab,ok.hd,ok.frames,ok.stk,ok.exf,ok.bs,ok.bsz,ok.noex,ok.exfs,ok.funs,ok.frf⟩
theorem qv3{pins:Td}(ok:(pnX X pins).Ok): X.Ok:=
 ⟨ok.mod,ok.kind,ok.glob,ok.blt,ok.above,ok.inj,ok.has,ok.cab,ok.hd,ok.frames,ok.stk,ok.exf,ok.bs,ok.bsz,ok.noex,ok.exfs,ok.funs,ok.frf⟩
theorem qy0{pins:Td}{σ : St}{H:Hp}{s:Shared}(I:Inv X pins σ H s): Inv (pnX X pins) [] σ H s:=
 ⟨z0l I.ok,I.os,I.bare,I.base,I.loc,I.cell,I.free,I.freeC,fun p hp=>I.pin p (by rw [ny] at hp;exact hp),I.hok,I.len⟩
theorem q2x{pins p:Td}{σ : St}{H:Hp}{s:Shared}(I:Inv (pnX X pins) p σ H s): Inv X pins σ H s:=
 ⟨qv3 I.ok,I.os,I.bare,I.base,I.loc,I.cell,I.free,I.freeC,fun q hq=>I.pin q (g20 _ hq),I.hok,I.len⟩
theorem qv4{pins p:Td}{D:Ends}{f:Flow}{s':Shared}(h:SP (pnX X pins) p D f s'): SP X pins D f s':=by
 cases f with
 | next=>obtain⟨σ',H',I,q⟩:=h;exact⟨σ',H',q2x I,q⟩
 | brk=>obtain⟨σ',H',I,q⟩:=h;exact⟨σ',H',q2x I,q⟩
 | cont=>obtain⟨σ',H',I,q⟩:=h;exact⟨σ',H',q2x I,q⟩
 | ret u=>obtain⟨v, σ',H',I,r,q⟩:=h;exact⟨v, σ',H',q2x I,r,q⟩
def exT(okC:Addr->Prop)(th:Addr->Addr->Option Addr->TS)(D:Ends)(σ : St): XK:=fun c od H2=>∃C,c=.ref C/\okC C/\∀a,H2 a=none->th C a od D σ H2
theorem qv5{body:List Stmt}{h0:ExceptHandler}{hs:List ExceptHandler}{pos:Pos}{tb:St->XK->TS}{okC:Addr->Prop}{th:Addr->Addr->Option Addr->TS}(hst:X.stack=X.env :: X.outer/\X.env.frame=some X.env.locals)
  (hbody:∀(pins:Td) (σ0:St) (Ex:XK),PSs (XT X pins σ0 Ex) body (tb σ0 Ex)) (hh:∀C,okC C->Handles X C (h0 :: hs) (th C)):PS X (.Try body (h0 :: hs) [] [] pos) (fun D σ H=>tb σ (exT okC th D σ) D σ H):=by
 intro pins s σ H D I h;refine wpAny_Try_except ?_;refine nu (hbody pins σ (exT okC th D σ) [] s σ H D ((qy0 I).wish _) h) (fun f s1 q=>?_) fun e s1 q=>?_
 ·have q':SP X pins D f s1:=qv4 (SP.unwish q)
  cases f with
  | next=>exact g28 q'
  | brk=>exact q'
  | cont=>exact q'
  | ret u=>exact q'
 ·obtain⟨p,H1,s2,I2,os,bare,B,H2,a,C',od,rfl,hfl,hun,hna,hH2,C,hc,hok,hq⟩:=q
  cases hc;have I3:Inv X pins σ H1 s2:=q2x I2;rw [hst.1] at hfl;have hfr:X.A.frames=some (X.env :: X.outer):=by rw [I.ok.frames,hst.1]
  refine Fl.note PX.st hfr hst.2 hfl fun h4 held4 sm4=>?_;refine Fl.off held4 fun h5 held sm5=>?_;exact hh C' hok pins σ H1 H2 s2 {s1 with heap:=h5} B a od D I3 hna hH2 (fun h6 st u=>I3.call' (s':={s1 with heap:=h6}) (ch:=[]) os (hun h6 st ((sm4.trans sm5).trans u)).1 (hun h6 st ((sm4.trans sm5).trans u)).2 bare fun b z=>absurd z (by simp)) held (hq a hH2)
end
def qy1(K:Frag)(F0 H0 F:Hp)(C:Addr)(p:XV)(σ0:St)(ρ':Rho)(E:XK): Prop:=∀F' H' od,Same F F'->RS K F0 H0 F' H' σ0 ρ'->XF F' od p.2->E (.ref C) od H'
def tXC(K:Frag)(v:FX)(σ0:St)(E:XK): TS:=fun _ σ H=> σ = σ0/\∃F0 H0 F ρ p ρ' C,RS K F0 H0 F H σ ρ /\ v ρ = some (p, ρ')/\PySem.W.nsIn K mainGlobals p.1=some (some (.ref C))/\qy1 K F0 H0 F C p σ0 ρ' E
def qy2(K:Frag)(v:FX)(σ0:St)(E:XK): TE:=fun σ H _=> σ = σ0/\∃F0 H0 F ρ p ρ' C,RS K F0 H0 F H σ ρ /\ v ρ = some (p, ρ')/\PySem.W.nsIn K mainGlobals p.1=some (some (.ref C))/\qy1 K F0 H0 F C p σ0 ρ' E
section
variable{X:Cx}{K:Frag}{st:Stmt}{v v':FX}{t:FT}{pos:Pos}{σ0:St}{E:XK}{pins:Td}
theorem z0m{c:Expr}{a b:List Stmt}(hc:PT X c (tDT K t))(ha:PSs X a (tXC K v σ0 E))(hb:PSs X b (tXC K v' σ0 E)): PS X (.If c a b pos) (tXC K (xIf t v v') σ0 E):=je (qfl hc ha hb) fun D σ H ⟨e0,F0,H0,F, ρ,x, ρ',C,r,hv,hn,hE⟩=>by
 obtain⟨d,h1,h2⟩:=gc.mp hv;refine⟨F0,H0,F, ρ,d,r,h1,fun F' H' g=>?_⟩;cases d with
 | true=>exact qqi ⟨e0,F0,H0,F', ρ,x, ρ',C,r.grow g,h2,hn,fun F2 H2 od s2 r2 xf=>hE F2 H2 od (g.ff.trans s2) r2 xf⟩
 | false=>exact qqh ⟨e0,F0,H0,F', ρ,x, ρ',C,r.grow g,h2,hn,fun F2 H2 od s2 r2 xf=>hE F2 H2 od (g.ff.trans s2) r2 xf⟩
theorem qkq{e:Expr}(h:PE X e (qy2 K v σ0 E))(hs:swapsWith e none pos.line X.env=pure false:=by rfl): PS X (.Expr e pos) (tXC K v σ0 E):=je (q4j h hs) fun D σ H q=>q
theorem qv6{k:Nat}{fn:Addr}{fd:FuncData}{ps:List Str}{sp:Sp}{p0:Td}{H:Hp}{s:Shared}{Q:VK}{us:List Value}{vs:List V}(G:FnOk X.prog X.w X.K X.mg X.base (CXR X.prog X.w) k fn fd ps sp)(hr:Room k X.A)(hb:Binds X.K fd ps [])
  (I:Inv (XT X pins σ0 E) p0 σ0 H s) (rv:Vals vs us) (q:sp vs H Q E):wpAny (model X.prog X.w) X.A (call (.ref fn) us) (EP (XT X pins σ0 E) p0 σ0 Q) (XT X pins σ0 E).xe s:=by
 have hlu:us.length=ps.length:=by rw [<- rv.length];exact G.len _ _ _ _ q
 have hl':(us++[]).length=ps.length:=by rw [ny];exact hlu
 have hb':=hb s us I.kIn hl';rw [ny] at hb';refine g0q (g0t (G.run X.A X.stack s H ⟨us,[]⟩ us vs _ _ hr I.env0 hb' rv q) fun rr s' hq=>?_);cases rr with
 | error e1=>exact⟨p0,H,s,I.unwish,hq⟩
 | ok fl=>
  cases fl with
  | ret u=>exact I.after hq
  | next=>exact False.elim hq
  | brk=>exact False.elim hq
  | cont=>exact False.elim hq
theorem qkr{C0:Addr}{c x m:Str}{k k' ar i:Nat}{fn:Addr}{fd:FuncData}{ps fl:List Str}{op:Flds->List D->Option (XV×Flds)}{e:Expr}{es:List Expr}{fa:FA}{px apos:Pos}{pl:Sem Bool}(O:ClsF X.K c C0 fl)(G:FnOk X.prog X.w X.K X.mg X.base (CXR X.prog X.w) k fn fd ps (q7g X.K c ar op))(me:Meth X.K C0 m fn)(hb:Binds X.K fd ps [])(hr:Room k' X.A)(hk:k<=k')
  (hv:PE (XT X pins σ0 E) (.Name x px) (vp i)) (ha:PA (XT X pins σ0 E).nox (e :: es) (tDA X.K fa))
  (hst:starEach (e :: es) X.env=(false,eval e X.env) :: starEach es X.env:=by rfl) (hpl:(backTo pos (starEach es X.env)).any (·.1)=false:=by rfl)
  (ht:eval (.Call (.Attribute (.Name x px) m apos) (e :: es) [] pos) X.env=(do
   let ov <- eval (.Name x px) X.env
   standAt apos.atName
   let(fv,first) <- holding [ov] (getMethod ov m pl)
   callWith pos fv first (backTo pos (starEach (e :: es) X.env)) (backToKw pos (keywordEach [] X.env))):=by rfl) :
  PE (XT X pins σ0 E) (.Call (.Attribute (.Name x px) m apos) (e :: es) [] pos) (qy2 X.K (q2e c m i ar op fa) σ0 E):=by
 intro q0 s σ H Q I ⟨e0,F0,H0,F, ρ,y, ρ',C,r,hv',hn,hE⟩;subst e0;have tm:qb1 C0 m (q7g X.K c ar op) [] E (vp i) (tDA X.K fa) σ H Q:=by
  obtain⟨ob,h1,hv'⟩:=gc.mp hv';obtain⟨ds,h2,h3⟩:=gc.mp hv'
  split at h3
  ·rename_i hc
   obtain⟨⟨p',fs'⟩,h4,h5⟩:=gp.mp h3;cases h5;obtain⟨x,fs⟩:=ob;obtain⟨rfl,hl,hnn⟩:=hc;obtain⟨a,bs,e1,t,_⟩:=r.od i _ (vh h1);obtain rfl:=t.nb;obtain⟨C',dx,vs,e2,e3,e4⟩:=t.ex;have hC:C'=C0:=by
    have:=e3.symm.trans O.ns;cases this;rfl
   subst hC;refine⟨.ref a,e1,a,dx,vs,rfl,e2,e4.miss (g17.mp hnn),F0,H0,F, ρ,ds,r,h2,fun ws F1 H1 g1 r1=>?_⟩;have r':=r.grow g1;have t':=t.grow g1;exact⟨F1,a,fs,fs',ds,_,C,ws,by rw [ny],r.sameT g1,r1,hl,t'.ob.at vz,h4,hn,fun F2 H2 od g2 o2 xf=>hE F2 H2 od (g1.ff.trans g2.ff) (r'.callOB (vh h1) e1 t' g2 o2) xf⟩
  ·cases h3
 refine g1v (pl:=pl) (thn (hv q0 s σ H _ I tm) fun u s1 ⟨x',H1,I1,rx,a,dx,fs,ex,ea,l,q⟩=>?_) ht;subst ex;obtain rfl:u=Value.ref a:=rx;refine q5c I1 ea O.cls me l ?_;refine g1j (first:=[.ref a]) (h₀:=X.base) I.ok.mod.kin me.kp (nu (ha pos q0 s1 σ H1 _ (I1.wish _) q) (fun us s2 ⟨vs,H2,I2,rv,q2⟩=>⟨I2.kIn,?_⟩) fun _ _ z=>False.elim z) hst hpl;dsimp only at q2;rw [ny] at q2;exact qv6 (us:=.ref a :: us) (vs:=.ref a :: vs) G (hr.mono hk) hb (I2.unwish) (.cons rfl rv) q2
end
def qbn(ub:FS)(vb:FX)(xs:List Str)(hd:Str->Option (Str×Int)->FS): FS:=fun ρ =>match vb ρ with
 | some (p, ρ')=>if p.1∈xs then hd p.1 p.2 ρ' else none
 | none=>ub ρ
def qrh(K:Frag)(hd:Option (Str×Int)->FS)(od:Option Addr): TS:=fun D σ H=>∃F0 H0 F ρ f fl ρ',RS K F0 H0 F H σ ρ /\ XF F od f/\hd f ρ = some (fl, ρ')/\qfn K F0 H0 F D fl ρ'
section
variable{X:Cx}
theorem Handles.imp{C:Addr}{hs:List ExceptHandler}{th th':Addr->Option Addr->TS}(k:Handles X C hs th)(i:∀a od D σ H,H a=none->th' a od D σ H->th a od D σ H): Handles X C hs th':=
 fun pins σ H H2 s s' B a od D I hna hH2 inv hfl q=>k pins σ H H2 s s' B a od D I hna hH2 inv hfl (i a od D σ H2 hH2 q)
variable{C C2:Addr}{cx n x:Str}{np hpos:Pos}{b₀:Stmt}{suite:List Stmt}{rest:List ExceptHandler}{us:FS}{i:Nat}
theorem qv7{body:List Stmt}{h0:ExceptHandler}{hs:List ExceptHandler}{pos:Pos}{ub:FS}{vb:FX}{xs:List Str}{hd:Str->Option (Str×Int)->FS}(hst:X.stack=X.env :: X.outer/\X.env.frame=some X.env.locals)
  (hb:∀(pins:Td) (σ0:St) (Ex:XK),PSs (XT X pins σ0 Ex) body (tDS X.K ub)) (hx:∀(pins:Td) (σ0:St) (Ex:XK),PSs (XT X pins σ0 Ex) body (tXC X.K vb σ0 Ex))
  (hh:∀x C,x∈xs->PySem.W.nsIn X.K mainGlobals x=some (some (.ref C))->Handles X C (h0 :: hs) (fun _ od=>qrh X.K (hd x) od)) (hn:∀x,x∈xs->∃C,PySem.W.nsIn X.K mainGlobals x=some (some (.ref C))) :
  PS X (.Try body (h0 :: hs) [] [] pos) (tDS X.K (qbn ub vb xs hd)):=by
 refine je (qv5 (tb:=fun σ0 Ex D σ H=>tXC X.K vb σ0 Ex D σ H\/tDS X.K ub D σ H) (okC:=fun C=>∃x,x∈xs/\PySem.W.nsIn X.K mainGlobals x=some (some (.ref C)))
  (th:=fun C _ od D σ H=>∃x,x∈xs/\PySem.W.nsIn X.K mainGlobals x=some (some (.ref C))/\qrh X.K (hd x) od D σ H) hst (fun pins σ0 Ex p s σ H D I h=>h.elim (hx pins σ0 Ex p s σ H D I) (hb pins σ0 Ex p s σ H D I))
  fun C _ pins σ H H2 s s' B a od D I hna hH2 inv hfl ⟨x,h1,h2,q⟩=>hh x C h1 h2 pins σ H H2 s s' B a od D I hna hH2 inv hfl q) fun D σ H ⟨F0,H0,F, ρ,fl, ρ',r,hf,q⟩=>?_
 unfold qbn at hf
 split at hf
 ·rename_i p ρ1 hv
  split at hf
  ·rename_i hxs
   obtain⟨C,hC⟩:=hn p.1 hxs;refine .inl ⟨rfl,F0,H0,F, ρ,p, ρ1,C,r,hv,hC,fun F' H' od s' r' xf=>⟨C,rfl,⟨p.1,hxs,hC⟩,fun a _=>⟨p.1,hxs,hC,F0,H0,F', ρ1,p.2,fl, ρ',r',xf,hf,q0a s' q⟩⟩⟩
  ·cases hf
 ·exact .inr ⟨F0,H0,F, ρ,fl, ρ',r,hf,q⟩
end
theorem qa5{X:Cx}{K:Frag}{st:Stmt}{rest:List Stmt}{v:FX}{σ0:St}{E:XK}(h:PS X st (tXC K v σ0 E)): PSs X (st :: rest) (tXC K v σ0 E):=by
 intro pins s σ H D I q;refine g21 (thn (h pins s σ H {nx:=fun _ _=>False,rt:=fun _ _=>False} I q) fun fl s1 q=>?_);cases fl with
 | next=>obtain⟨_,_,_,q⟩:=q;exact q.elim
 | brk=>obtain⟨_,_,_,q⟩:=q;exact q.elim
 | cont=>obtain⟨_,_,_,q⟩:=q;exact q.elim
 | ret z=>obtain⟨_,_,_,_,_,q⟩:=q;exact q.elim
def z1t(l:List (Str×(Option (Str×Int)->FS)))(x:Str): Option (Str×Int)->FS:=(l.lookup x).getD fun _=>q1w
end DL
namespace DL
open PySem PySem.Spec PyProof.Rows L2
section
variable{prog:Program}{w:World}{A:Around}{E:Ta}{h:Heap}{g:Array GenState}{d:Drawn}{t:Nat}{os:OsState}
variable{nm q:Str}{C N:Addr}{bs bm:List Value}{hdct:Bool}{sn:List Str}{sub:List Value}{ab:Bool}{col:Option Bool}{dd:Option Addr}{k0 k1 k2 k3 k5:Option Value}
theorem qog{mN:Tc}{rest:List Value}{fI:Addr}{oI:Obj}{Q:Fin->Shared->Prop}(T:OwnTail h vB bm)(hC:h.get? C=some (excClassObj nm q C N bs bm hdct sn sub ab col dd k0 k1 k2 k3 k5 "ValueError.__new__"))(hn:h.Ns N mN)(hi:mN "__init__" = some (.ref fI))
  (hfI:h.get? fI=some oI) (hfc:oI.cls=.type "function") (hrest:rest.length<=sizeLine)
  (hq:∀h' e,Heap.MadeExcOf h h' e (.ref C) rest->wpAny (model prog w) A (call (.ref fI) (.ref e :: rest)) (fun r s'=>r=.none/\Q (.done (.ret (.ref e))) s') E ⟨h',g,d,t,os⟩) :
  wpAny (model prog w) A (Builtin.«type.__call__» ⟨.ref C :: rest,[]⟩) Q E ⟨h,g,d,t,os⟩:=by
 have F:=g14
 repeat (first|with_reducible refine g1t hC ?_|with_reducible refine wpAny_madeBy_exc hC ?_|wp_step)
 refine codeAny_call_builtin_code (g2g _ F.quiet) (wpAny_check_new_subT F T hC (codeAny_exc_new_subT F T hC ?_ hrest));show wpAny _ _ _ _ _ _;obtain⟨h2,eh⟩:∃h2,h2=(h.push {cls:=.type "tuple",data:=.seq rest.toArray}).push {cls:=.ref C,data:=.fields #[.ref h.objs.size,.none,.none,.none,.bool false,.none]}:=⟨_,rfl⟩
 have keep:∀b o,h.get? b=some o->h2.get? b=some o:=fun b o e=>by rw [eh];exact gh _ (gh _ e)
 have hget:h2.get? (h.objs.size+1)=some {cls:=.ref C,data:=.fields #[.ref h.objs.size,.none,.none,.none,.bool false,.none]}:=by rw [eh];heap_get
 have hm:Heap.MadeExcOf h h2 (h.objs.size+1) (.ref C) rest:=⟨keep,g16 (g1o _),h.objs.size,hget,g16 (m6 _),by rw [eh];exact gh _ (Heap.get?_push_at rfl rfl)⟩
 rw [<- eh];have hcC:(Value.ref C :: bm).contains (.ref C)=true:=by simp
 unfold isInstance
 repeat (first|with_reducible refine g1t hget ?_|(with_reducible refine wpAny_isSubtype_exc (keep _ _ hC) ?_;rw [hcC])|wp_step)
 show wpAny _ _ (typeLookup (.ref C) _) _ _ _;refine wpAny_typeLookup_tail (keep _ _ hC) (hn.keeps keep) (T.keeps keep) F.mroIs F.init.lookup ?_;rw [hi];refine nr (g9 ?_);unfold bindSpecial;refine g9 (g08 (T:="function") ⟨_,keep _ _ hfI,hfc⟩ ?_);rw [gw (by decide)];refine gf (g9 (nu (hq h2 _ hm) (fun r s' hr=>?_) fun _ _ x=>x));obtain⟨rfl,hQ⟩:=hr
 wp_walk
 exact hQ
theorem qoh{mN:Tc}{rest:List Value}{fI:Addr}{oI:Obj}{Q:Ta}(T:OwnTail h vB bm)(hC:h.get? C=some (excClassObj nm q C N bs bm hdct sn sub ab col dd k0 k1 k2 k3 k5 "ValueError.__new__"))(hn:h.Ns N mN)(hi:mN "__init__" = some (.ref fI))
  (hfI:h.get? fI=some oI) (hfc:oI.cls=.type "function") (hrest:rest.length<=sizeLine)
  (hq:∀h' e,Heap.MadeExcOf h h' e (.ref C) rest->wpAny (model prog w) (A.under (.builtin "type.__call__" ⟨.ref C :: rest,[]⟩)) (call (.ref fI) (.ref e :: rest)) (fun r s'=>r=.none/\Q (.ref e) s') E ⟨h',g,d,t,os⟩) :
  wpAny (model prog w) A (call (.ref C) rest) Q E ⟨h,g,d,t,os⟩:=by
 have f1:=tc_lookup;have f2:=tc_bind (.ref C);have hT:(⟨h,g,d,t,os⟩:Shared).TypeIs (.ref C) "type" :=⟨_,hC,rfl⟩
 refine g0q (g3j ?_);show wpAny _ _ (callAny (.ref C) _) _ _ _
 repeat (any_goals (first|assumption|with_reducible refine g1t hC ?_|wp_step))
 exact⟨rfl,codeAny_call_builtin_at (g2g _ (by decide +kernel)) entry_typeCall (wpAny_check_type_call_sub hC (qog T hC hn hi hfI hfc hrest fun h' e hm=>hq h' e hm))⟩
theorem qoi{e:Addr}{oe:Obj}{vs:Array Value}{x:Value}{Q:Ta}(T:OwnTail h vB bm)(hC:h.get? C=some (excClassObj nm q C N bs bm hdct sn sub ab col dd k0 k1 k2 k3 k5 "ValueError.__new__"))(he:h.get? e=some oe)(hcls:oe.cls=.ref C)(hd:oe.data=.fields vs){t1:Addr}(h0:vs[0]? = some (.ref t1))
  (hq:∀h' t0,(∀b o,b≠e->h.get? b=some o->h'.get? b=some o)->h.get? t0=none->t0≠e->h'.get? t0=some {cls:=.type "tuple",data:=.seq #[x]}->h'.get? e=some {oe with data:=.fields (vs.setIfInBounds 0 (.ref t0))}->Q .none ⟨h',g,d,t,os⟩) :
  wpAny (model prog w) A (call (.builtin "ValueError.__init__") [.ref e,x]) Q E ⟨h,g,d,t,os⟩:=by
 have F:=g14;refine g0q (g0e F.init.plain F.initEntry (wpAny_check_init_subT F T hC he hcls ?_))
 wp_walk
 rw [hd];refine gf ?_;rw [h0];refine gf ?_;have he2:=gh (h:=h) {cls:=.type "tuple",data:=.seq #[x]} he;have hsz:0<vs.size:=(uo.mp h0).1;refine g9 (g0b he2 hd hsz ?_);have ne:h.objs.size≠e:=pd (gu he);have hd3:=g01 hd (·.setIfInBounds 0 (Value.ref h.objs.size));have fin:=hq ((h.push {cls:=.type "tuple",data:=.seq #[x]}).update e (Obj.mapFields (·.setIfInBounds 0 (Value.ref h.objs.size)))) h.objs.size (fun b o hb e1=>by rw [ni _ _ (ml hb)];exact gh _ e1) (g16 (m6 _)) ne
  (by rw [ni _ _ (ml ne)];exact gs _ rfl)
  (by
   rw [pk _ he2 (g0y hd3)];obtain⟨oc,od,dt,sl⟩:=oe;cases hd
   rfl)
 wp_walk
 exact fin
end
abbrev vBx:List Value:=[.type "ValueError",.type "Exception",.type "BaseException",.type "object"]
theorem qy3(self:Value): refuseLoop self "__setattr__" vBx=pure ():=by kernel_rfl
def qm3:List Value->Bool
 | .ref _ :: r=>qm3 r
 | r=>r==vBx
theorem qei(self:Value): ∀l:List Value,qm3 l=true->refuseLoop self "__setattr__" l=pure ()
 | [],e=>by cases e
 | c :: r,e=>by
  cases c with
  | ref a=>rw [refuseLoop_ref];exact qei self r e
  | type n=>
   have:(Value.type n :: r)=vBx:=ux.mp e;rw [this];exact qy3 self
  | _=>exact absurd (ux.mp e) (by intro z;cases z)
theorem qh6:∀l:List Value,qm3 l=true->l.contains (.type "object")=true
 | [],e=>by cases e
 | c :: r,e=>by
  cases c with
  | ref a=>rw [List.contains_cons,qh6 r e,g5g]
  | type n=>
   have:(Value.type n :: r)=vBx:=ux.mp e;rw [this];decide
  | _=>exact absurd (ux.mp e) (by intro z;cases z)
def qtq(K:PySem.W.Frag)(C:Addr): Bool:=(PySem.W.clsIn K C).any fun cd=>qm3 cd.mro
section
variable{prog:Program}{w:World}{A:Around}{E:Ta}{K:PySem.W.Frag}{s:Shared}{x D:Addr}{ox:Obj}{name:Str}{v:Value}
open PySem.W Builtin Builtin.ObjectAttr
theorem qri{ws:Array Value}{Q:Unit->Shared->Prop}(X:K.In s.heap)(hx:s.heap.get? x=some ox)(hcls:ox.cls=.ref D)(hdn:ox.dict=none)(hd:ox.data=.fields ws)
  (hs:findIn K (.ref D) "__setattr__" = some (some (.builtin "object.__setattr__"))) (ho:qtq K D=true) (ha:findIn K (.ref D) name=some none) (hh:hasDictIn K D=true)
  (h:∀h' dx,(∀b o,b≠x->s.heap.get? b=some o->h'.get? b=some o)->s.heap.get? dx=none->h'.get? x=some {ox with dict:=some dx}->h'.Ns1 dx (fun y=>if y=name then some v else none)->Q () {s with heap:=h',toks:=s.toks+2}) :
  wpAny (model prog w) A (setAttr (.ref x) name v) Q E s:=by
 obtain⟨oc,odd,odt,osl⟩:=ox;dsimp only at hcls hdn hd;subst hcls hdn hd;have J:PySem.W.InstAt s.heap x ⟨.ref D,none,.fields ws,osl⟩ D none:=⟨hx,rfl,rfl,trivial⟩
 have SF:=PySem.F.store_object;obtain⟨cd,hc,hom⟩:=any_some ho;have ne:cd.mro.isEmpty=false:=by cases q:cd.mro with|nil=>rw [q] at hom;cases hom|cons _ _=>rfl
 have sub:Looks (model prog w) s.heap (isInstance (.ref x) (.type "object")) true:=J.type.andThen (looks_mroIn X (by unfold mroIn;rw [hc,gj,mf (by rw [ne];decide),qh6 _ hom]));refine set_plain X J hs ?_;refine g0e SF.slot.plain SF.entry (@check_slot (model prog w) _ _ {s with toks:=s.toks+1} "object.__setattr__" "object" "__setattr__" (.ref x) [.str name s.toks,v] [] _ SF.kind SF.split sub (SF.args (.ref x) (.str name s.toks) v) ?_);have hm:Looks (model prog w) s.heap (mroOf (.ref D)) cd.mro:=(looks_clsIn X hc).andThen .now;rw [osa_eq,refuse_eq];refine g9 (g9 (g0s (s:={s with toks:=s.toks+1}) J.type (g9 (g0s (s:={s with toks:=s.toks+1}) hm ?_))));rw [qei _ _ hom];refine gf (g9 (g0s (s:={s with toks:=s.toks+1}) J.type (g9 (g0s (s:={s with toks:=s.toks+1}) (looks_findIn X ha) (g9 (gf ?_))))));dsimp only;obtain⟨cd',hc',hd'⟩:=any_some hh;unfold storeInOwnDict;refine g9 (gf ?_);show wpAny _ _ (ownDictForStores (.ref x) >>= _) _ _ _;unfold ownDictForStores instanceDict;refine g9 (g9 (wpAny_loadPart hx (g9 (g0s (s:={s with toks:=s.toks+1}) (PySem.W.looks_clsIn X hc') ?_))));rw [hd'];have hdx:s.heap.get? s.heap.objs.size=none:=g16 (m6 _);have hxd:x≠s.heap.objs.size:=m4 (gu hx);show wpAny _ _ (alloc {cls:=Value.type "dict",data:=Data.dict #[]} >>= fun d=>update x (fun o=>{o with dict:=some d}) >>= fun _=>dictMade (.ref D) x d) _ _ _;refine g9 (g53 (g9 (wpAny_update (gh _ hx) ?_)));obtain⟨h2,eh⟩:∃h2,h2=(s.heap.push {cls:=Value.type "dict",data:=Data.dict #[]}).update x (fun o=>{o with dict:=some s.heap.objs.size}):=⟨_,rfl⟩
 have ex:h2.get? x=some ⟨.ref D,some s.heap.objs.size,.fields ws,osl⟩:=by
  rw [eh];exact pk (fun o=>{o with dict:=some s.heap.objs.size}) (gh _ hx) rfl
 have ed:h2.get? s.heap.objs.size=some {cls:=Value.type "dict",data:=Data.dict #[]}:=by
  rw [eh,ni _ _ hxd];exact gs _ rfl
 have kp:∀b o,b≠x->s.heap.get? b=some o->h2.get? b=some o:=fun b o ne e=>by
  rw [eh,ni _ _ (ml ne)];exact gh _ e
 dsimp only;rw [<- eh];have n0:h2.Ns s.heap.objs.size (fun _=>none):=⟨_, #[],_,ed,rfl,(fun e he=>absurd he (by simp)),fun _=>rfl⟩
 refine gf (a:=some s.heap.objs.size) ?_;show wpAny _ _ (storeInDict s.heap.objs.size (.str name s.toks) name v) _ _ _;unfold storeInDict;refine g9 (gf (g9 ?_));refine wpAny_nsSet1 (s:={s with heap:=h2,toks:=s.toks+1}) (Heap.Ns1.of_empty n0) fun h' hn2 hs2=>?_;obtain⟨oD,esD,epD,hoD,hdD,hcD⟩:=hn2.count (PySem.Within.cons name v (ns:=[]) (fun y hy=>absurd rfl hy));refine g9 (wpAny_lookBehind hoD (by rw [hdD];exact pastItsLine_dict (mi hcD (by rw [mv];decide))) ?_);exact gf (h h' s.heap.objs.size (fun b o ne e=>by
  have nb:b≠s.heap.objs.size:=fun z=>by rw [z,hdx] at e;cases e
  exact(hs2.2 b nb).trans (kp b o ne e)) hdx ((hs2.2 x hxd).trans ex) hn2)
end
def XG(e C:Addr)(h:Heap): Prop:=∃o ws t,h.get? e=some o/\o.cls=.ref C/\o.dict=none/\o.data=.fields ws/\ws[0]? = some (.ref t)/\ws[1]? = some .none
def XH(e C dx:Addr)(h:Heap): Prop:=∃o ws,h.get? e=some o/\o.cls=.ref C/\o.dict=some dx/\o.data=.fields ws/\ws[1]? = some .none
section
variable{X:Cx}{e:Expr}{pos jp p1 p2 fp:Pos}{j1 j2:Nat}
theorem qv8{s1 s2:Str}{te:TE}(he:PE X e te)(h1:s1.length<=1000)(h2:s2.length<=1000): PE X (.JoinedStr [.Constant (.str s1) j1 p1,.FormattedValue e (-1) none fp,.Constant (.str s2) j2 p2] jp)
  (fun σ H Q=>te σ H fun x H1=>∃i,x=.int i/\i.natAbs.log2<1920/\∀y,Q (.str y) H1):=by
 intro pins s σ H Q I h;have l0:(Str.empty++s1).length=s1.length:=by rw [strLen_append];show 0+_=_;omega
 refine JoinedStr_many (joinParts_cons (g40 ⟨by rw [l0,g03];omega,joinParts_cons (FormattedValue_plain (thn (he pins _ σ H _ (I.tok _) h) fun u s2 ⟨x,H1,I1,rx,i,ex,hd,q⟩=>?_))⟩));subst ex;obtain⟨t,rfl⟩:=(show ∃t,u=Value.int i t from rx)
 have li:=int_text_length_le (k:=1920) (by decide) hd;have l3:(Str.empty++s1++Str.ofString (toString i)).length<=1000+1922:=by rw [strLen_append,l0,PySem.ofString_length];omega
 refine formatField_int_small hd ⟨by rw [g03];omega,joinParts_cons (g40 ⟨?_,joinParts_nil ⟨.str _,H1,I1.tok _,⟨_,rfl⟩,q _⟩ ?_⟩)⟩ <;> (rw [strLen_append,g03];omega)
def q4u(K:Frag)(C f:Addr): Bool:=match K.lookup C with
 | some ⟨.type "type",_,.cls cd,sl⟩=>(match cd.mro,sl.toList with
  | .ref C' :: bm,[_,_,_,_,some (.builtin n),_]=>C'==C&&n=="ValueError.__new__" && !cd.hasDel&&PySem.W.tailIn K vB bm&&PySem.W.nsOkIn K cd.ns&&PySem.W.nsIn K cd.ns "__init__" == some (some (.ref f))
  | _,_=>false)
 | _=>false
open PySem.W in
theorem z0n{K:Frag}{h:Heap}{N:Addr}{mN:Tc}{y:Str}{v:Value}(X:K.In h)(G:h.Ns N mN)(hy:nsIn K N y=some (some v)): mN y=some v:=by
 obtain⟨ob,es,ep,g1,g2,_,g3⟩:=G;unfold nsIn at hy
 split at hy
 ·rename_i q
  cases g1.symm.trans (X _ _ q);cases g2
  split at hy
  ·rename_i he
   cases hy;refine(g3 y).symm.trans ?_;unfold nsFind findBy;rw [<- Array.find?_toList,he]
   rfl
  ·split at hy <;> cases hy
 ·cases hy
theorem qa6{K:Frag}{h:Heap}{C f:Addr}(X:K.In h)(q:q4u K C f=true): ∃bm N nm q bs hdct sn sub ab col dd k0 k1 k2 k3 k5 mN,h.get? C=some (excClassObj nm q C N bs bm hdct sn sub ab col dd k0 k1 k2 k3 k5 "ValueError.__new__")/\h.Ns N mN/\mN "__init__" = some (.ref f)/\OwnTail h vB bm:=by
 unfold q4u at q
 split at q
 ·rename_i dd cd sl ho
  split at q
  ·rename_i C' bm k0 k1 k2 k3 n k5 hm hs
   simp only [mn,ux,Bool.not_eq_true'] at q;obtain⟨⟨⟨⟨⟨rfl,rfl⟩,hdel⟩,ht⟩,hok⟩,hni⟩:=q;obtain⟨nm,bs,mro,ns,qn,hd,sn,sub,ab,col,del⟩:=cd;dsimp only at hm hdel hok hni;subst hm hdel;have hsl:sl = #[k0,k1,k2,k3,some (.builtin "ValueError.__new__"),k5]:=by
    obtain⟨l⟩:=sl;simp only at hs;rw [hs]
   subst hsl;have hN:=Heap.Ns.of_isNs (PySem.W.isNs_of_in X hok);exact⟨bm,ns,nm,qn,bs,hd,sn,sub,ab,col,dd,k0,k1,k2,k3,k5,_,X _ _ ho,hN,z0n X hN hni,PySem.W.tail_of_in X ht⟩
  ·cases q
 ·cases q
variable{pins:Td}{σ : St}{H:Hp}{s:Shared}
theorem qy4{H:Hp}{a:Addr}{o:HO}(h:H a=some o): upd H a o=H:=by
 funext b
 by_cases z:b=a
 ·subst z;rw [za,h]
 ·rw [qr z]
theorem qv9{B0 C f:Addr}{b slf m s1 s2:Str}{bp apos sp mp cpos epos:Pos}{pl:Sem Bool}(hg:Gl X b)(hm:X.mg b=some (.ref B0))(hsp:PySem.W.specialIn X.K (.ref B0) "__getattribute__" = some (some (.builtin "type.__getattribute__")))(hr:PySem.W.readsIn X.K B0 (.type "type")=true)
  (hf:PySem.W.findCls X.K (.ref B0) (.type "type") "__init__" = some (.val (.builtin "ValueError.__init__"))) (hC:q4u X.K C f=true) (hv0:PE X (.Name slf sp) (vp 0)) (hv1:PE X (.Name m mp) (vp 1)) (h1:s1.length<=1000) (h2:s2.length<=1000)
  (hdb:(b==("__debug__" : Str))=false:=by decide) (hst:starEach [.Name slf sp,.JoinedStr [.Constant (.str s1) j1 p1,.FormattedValue (.Name m mp) (-1) none fp,.Constant (.str s2) j2 p2] jp] X.env=(false,eval (.Name slf sp) X.env) :: starEach [.JoinedStr [.Constant (.str s1) j1 p1,.FormattedValue (.Name m mp) (-1) none fp,.Constant (.str s2) j2 p2] jp] X.env:=by rfl)
  (hpl:(backTo cpos (starEach [.JoinedStr [.Constant (.str s1) j1 p1,.FormattedValue (.Name m mp) (-1) none fp,.Constant (.str s2) j2 p2] jp] X.env)).any (·.1)=false:=by rfl)
  (hsw:swapsWith (.Call (.Attribute (.Name b bp) "__init__" apos) [.Name slf sp,.JoinedStr [.Constant (.str s1) j1 p1,.FormattedValue (.Name m mp) (-1) none fp,.Constant (.str s2) j2 p2] jp] [] cpos) none epos.line X.env=pure false:=by rfl)
  (ht:eval (.Call (.Attribute (.Name b bp) "__init__" apos) [.Name slf sp,.JoinedStr [.Constant (.str s1) j1 p1,.FormattedValue (.Name m mp) (-1) none fp,.Constant (.str s2) j2 p2] jp] [] cpos) X.env=(do
   let ov <- eval (.Name b bp) X.env
   standAt apos.atName
   let(fv,first) <- holding [ov] (getMethod ov "__init__" pl)
   callWith cpos fv first (backTo cpos (starEach [.Name slf sp,.JoinedStr [.Constant (.str s1) j1 p1,.FormattedValue (.Name m mp) (-1) none fp,.Constant (.str s2) j2 p2] jp] X.env)) (backToKw cpos (keywordEach [] X.env))):=by rfl) :
  PS X (.Expr (.Call (.Attribute (.Name b bp) "__init__" apos) [.Name slf sp,.JoinedStr [.Constant (.str s1) j1 p1,.FormattedValue (.Name m mp) (-1) none fp,.Constant (.str s2) j2 p2] jp] [] cpos) epos)
   (fun D σ H=>∃e i, σ[0]? = some (some (.ref e)) /\ σ[1]? = some (some (.int i))/\H e=some (.ext (XG e C))/\i.natAbs.log2<1920/\D.nx σ H):=by
 intro pins s σ H D I ⟨e,i,g1,g2,g3,hd,q⟩;refine wpAny_Expr_any ?_ I.quiet hsw;refine g1v (pl:=pl) (k9 I hg hm ?_ hdb) ht;refine PySem.W.method_cls I.kIn hsp (PySem.W.cls_value I.kIn hr hf rfl ?_);refine g3c (thn ((xm hv0 (xm (qv8 hv1 h1 h2) wq) hst) cpos pins _ σ H (fun vs H1=>∃y,vs=[.ref e,.str y]/\H1=H) (I.tok _) ⟨.ref e,g1,.int i,g2,i,rfl,hd,fun y=>⟨y,rfl,rfl⟩⟩) fun us s1 ⟨vs,H1,I1,rv,y,ev,eH⟩=>?_) hst hpl;subst ev eH;obtain⟨u1,u2,rfl,r1,r2⟩:=rv.two;obtain rfl:u1=Value.ref e:=r1;obtain⟨tl,N,nm,qn,bs,hdct,sn,sub,ab,col,dd,k0,k1,k2,k3,k5,mN,hCo,hNs,hni,T⟩:=qa6 I1.kIn hC;obtain⟨⟨o,ws,t1,e1,e2,e3,e4,e5,e6⟩,_,_⟩:=(show ObjOk X.prog X.w H1 s1.heap e _ from I1.hok e _ g3)
 obtain⟨hp,gg,dr,tk,os⟩:=s1;refine qoi T hCo e1 e2 e4 e5 fun h' t0 k1' n1 n2 x1 x2=>?_;have hz:0<ws.size:=(uo.mp e5).1;refine⟨σ,H1,?_,q⟩;have I2:=I1.write (x:=e) (e:=e) (o:=.ext (XG e C)) (h':=h') (t':=tk) (by rw [g3];exact True.intro) (.inl rfl) k1' ⟨_,x2⟩ ⟨⟨_,_,t0,x2,e2,e3,rfl,by simp [hz],by rw [Array.getElem?_setIfInBounds_ne (by decide)];exact e6⟩,⟨_,x2⟩,fun ha hb ⟨o',ws',t',f1,fr⟩ kk=>⟨o',ws',t',kk o' f1,fr⟩⟩;rw [qy4 g3] at I2;exact I2
structure ClsI(K:Frag)(C:Addr)(nm:Str): Prop where
 sa:PySem.W.findIn K (.ref C) "__setattr__" = some (some (.builtin "object.__setattr__"))
 ov:qtq K C=true
 na:PySem.W.findIn K (.ref C) nm=some none
 hd:PySem.W.hasDictIn K C=true
theorem qva{C:Addr}{slf m nm:Str}{sp mp apos:Pos}(c:ClsI X.K C nm)(hv0:PE X (.Name slf sp) (vp 0))(hv1:PE X (.Name m mp) (vp 1))(hs:swapsWith (.Name m mp) (some (.Attribute (.Name slf sp) nm apos)) pos.line X.env=pure false:=by rfl):
  PS X (.Assign [.Attribute (.Name slf sp) nm apos] (.Name m mp) pos) (fun D σ H=>∃e i, σ[0]? = some (some (.ref e)) /\ σ[1]? = some (some (.int i))/\H e=some (.ext (XG e C))/\∀dx,H dx=none->dx≠e->D.nx σ (upd (upd H e (.ext (XH e C dx))) dx (.xd [(nm,.int i)]))):=by
 intro pins s σ H D I ⟨e,i,g1,g2,g3,q⟩;refine g3a (thn (hv1 pins s σ H (fun x H1=>x=.int i/\H1=H) I ⟨.int i,g2,rfl,rfl⟩) fun u s1 ⟨y,H1,I1,ry,ey,eH⟩=>thn (hv0 pins s1 σ H1 (fun x H2=>x=.ref e/\H2=H) I1 ⟨.ref e,g1,rfl,eH⟩) fun ov s2 ⟨x,H2,I2,rx,ex,eH2⟩=>?_) hs;subst ey ex eH2;obtain rfl:ov=Value.ref e:=rx;obtain⟨tu,rfl⟩:=(show ∃t,u=Value.int i t from ry)
 obtain⟨⟨o,ws,t1,e1,e2,e3,e4,e5,e6⟩,_,_⟩:=(show ObjOk X.prog X.w H2 s2.heap e _ from I2.hok e _ g3)
 refine qri I2.kIn e1 e2 e3 e4 c.sa c.ov c.na c.hd fun h' dx k n x2 ns=>?_;have hdx:H2 dx=none:=by
  cases z:H2 dx with
  | none=>rfl
  | some o'=>
   obtain⟨ob,z1⟩:=has_obj (I2.hok dx o' z);rw [n] at z1;cases z1
 have ne:dx≠e:=fun z=>by rw [z,e1] at n;cases n
 refine⟨σ,_,?_,q dx hdx ne⟩;have I3:=I2.write (x:=e) (e:=e) (o:=.ext (XH e C dx)) (h':=h') (t':=s2.toks+2) (by rw [g3];exact True.intro) (.inl rfl) k ⟨_,x2⟩ ⟨⟨_,ws,x2,e2,rfl,e4,e6⟩,⟨_,x2⟩,fun ha hb ⟨o',ws',f1,fr⟩ kk=>⟨o',ws',kk o' f1,fr⟩⟩;refine qoc I2 n I3 (by rw [qr ne];exact hdx) ⟨_,ns,fun f=>?_⟩;show RelO (List.lookup f [(nm,V.int i)]) (if f=nm then some (Value.int i tu) else none);rw [nk]
 by_cases z:f=nm
 ·subst z
  rw [gw rfl,show(f==f)=true from g32 f];exact⟨tu,rfl⟩
 ·rw [mf z,show(f==nm)=false from g07.mpr z]
  exact True.intro
end
end DL
namespace DL
open PySem PySem.Spec PyProof.Rows L2
variable[Lam][Pin]
def tIn(C:Addr)(nm:Str): TS:=fun D σ H=>∃e i, σ[0]? = some (some (.ref e)) /\ σ[1]? = some (some (.int i))/\H e=some (.ext (XG e C))/\i.natAbs.log2<1920/\∀dx,H dx=none->dx≠e->D.nx σ (upd (upd H e (.ext (XH e C dx))) dx (.xd [(nm,.int i)]))
def spI(C:Addr)(nm:Str): Sp:=fun vs H Q _=>∃e i,vs=[.ref e,.int i]/\H e=some (.ext (XG e C))/\i.natAbs.log2<1920/\∀dx,H dx=none->dx≠e->Q .non (upd (upd H e (.ext (XH e C dx))) dx (.xd [(nm,.int i)]))
section
variable{X:Cx}
omit [Pin] in
theorem qrj{C:Addr}{nm:Str}{st1 st2:Stmt}(h1:PS X st1 (fun D σ H=>∃e i, σ[0]? = some (some (.ref e)) /\ σ[1]? = some (some (.int i))/\H e=some (.ext (XG e C))/\i.natAbs.log2<1920/\D.nx σ H))
  (h2:PS X st2 (fun D σ H=>∃e i, σ[0]? = some (some (.ref e)) /\ σ[1]? = some (some (.int i))/\H e=some (.ext (XG e C))/\∀dx,H dx=none->dx≠e->D.nx σ (upd (upd H e (.ext (XH e C dx))) dx (.xd [(nm,.int i)])))):PSs X [st1,st2] (tIn C nm):=
 q8l (qg4 h1 (qd2 h2)) fun D σ H ⟨e,i,a1,a2,a3,a4,a5⟩=>⟨e,i,a1,a2,a3,a4,⟨e,i,a1,a2,a3,a5⟩⟩
end
section
variable{P:Program}{w:World}{K:Frag}{mg:Tc}{base:Heap}{x qual:Str}{st:Stmt}{dV:Value}{f:Addr}{fd:FuncData}{N ps:List Str}
omit [Pin] in
theorem Fun2.okI{C:Addr}{nm:Str}{k k1:Nat}(F:Fun2 K x qual st dV f fd)(S:FnScope N ps (qj st))(hn:N.length=2)(ha:ps.length=2)(hk:k+1=k1)
  (hb:∀(cdv:Value) (A:Around) (outer:List Env) (s:Shared) (H:Hp) (E:XK),Room k (A.deeper (envOfC qual (qj st) s.heap.objs.size f cdv))->PSs (zx CX0 P w K mg base N qual (qj st) f cdv A outer s H E).nox (ja st) (tIn C nm)) :
  FnOk P w K mg base CX0 k1 f fd ps (spI C nm):=by
 subst hk;obtain⟨oc,od,kV,doc,pm,an,cdv,ct,osl,rfl,lk,hcd⟩:=F.ex;refine qfm lk hcd S (fun vs H Q E h=>?_) fun A outer s H vs Q E hr hsp=>?_
 ·obtain⟨e,i,rfl,_⟩:=h
  exact ha.symm
 ·obtain⟨e,i,rfl,h1,h2,h3⟩:=hsp
  refine⟨_,(hb cdv A outer s H E hr).nox,e,i,?_,?_,h1,h2,fun dx a b=>h3 dx a b⟩ <;> (unfold L2.start;rw [hn];rfl)
end
def qde(x nm:Str)(f:FE): FX:=fun ρ =>(f ρ).bind fun d=>match d with
 | .int i=>if i.natAbs.log2<1920 then some ((x,some (nm,i)), ρ) else none
 | _=>none
omit [Lam] [Pin] in
theorem Inv.dropX{X:Cx}{pins:Td}{σ : St}{H:Hp}{s:Shared}{e:Addr}{φ : Heap->Prop}(I:Inv X pins σ H s)(he:H e=some (.ext φ)): Inv X pins σ (less H e) s:=by
 have nn:∀ {b:Addr} {u:HO},H b=some u->(∀ φ,u ≠ .ext φ)->less H e b=some u:=fun {b u} e1 e2=>by
  rw [y6,e1];intro z;subst z;rw [he] at e1;cases e1;exact e2 _ rfl
 have nz:∀ {b:Addr},H b=none->less H e b=none:=fun {b} e1=>by unfold less;split <;> first|rfl|exact e1
 refine⟨I.ok,I.os,I.bare,⟨I.base.keep,I.base.slot,fun b o e1 n hx=>nz (I.base.free b o e1 n hx),I.base.there,fun b xs e1=>nn (I.base.tups b xs e1) nofun,fun b o xs e1=>nn (I.base.frzs b o xs e1) nofun,fun b ps e1=>?_⟩,I.loc,I.cell,nz I.free,fun y c e1=>nz (I.freeC y c e1),fun p hp=>?_,fun b u e1=>?_,I.len⟩
 ·obtain⟨more,e2⟩:=I.base.tbls b ps e1
  exact⟨more,nn e2 nofun⟩
 ·obtain⟨a1,a2,a3⟩:=I.pin p hp
  exact⟨a1,nz a2,a3⟩
 ·obtain⟨e2,ne⟩:=vi e1
  exact(I.hok b u e2).stay (fun c v _ q=>q) (fun c q=>nn q nofun) fun c xs q=>nn q nofun
def qy5(s0:Heap)(C:Addr)(nm:Str)(te:TE): TE:=fun σ H Q=>te σ H fun x H1=>∃i,[x]=[V.int i]/\i.natAbs.log2<1920/\∀e dx,s0.get? e=none->H1 e=none->H1 dx=none->dx≠e->Q (.ref e) (upd (upd H1 e (.ext (XH e C dx))) dx (.xd [(nm,.int i)]))
section
variable{X:Cx}{pos:Pos}
omit [Lam] [Pin] in
theorem z1u{H:Hp}{a:Addr}{o o':HO}: upd (upd H a o) a o'=upd H a o':=by
 funext b
 unfold upd
 split <;> rfl
omit [Lam] [Pin] in
theorem qrk{C fI:Addr}{fdI:FuncData}{psI:List Str}{kI k':Nat}{x nm:Str}{np:Pos}{ea:Expr}{te:TE}(hC:q4u X.K C fI=true)(G:FnOk X.prog X.w X.K X.mg X.base CX0 kI fI fdI psI (spI C nm))(hbI:Binds X.K fdI psI [])(hfn:PySem.W.typeIn X.K (.ref fI)=some (.type "function"))(hkp:PySem.W.keepIn X.K (.ref C)=true)
  (hr:Room k' X.A) (hk:kI+1<=k') (hex:X.ex=[]) (hg:Gl X x) (hm:X.mg x=some (.ref C)) (ha:PE X ea te) (hd:(x==("__debug__" : Str))=false:=by decide)
  (hs:starEach [ea] X.env=(false,eval ea X.env) :: starEach [] X.env:=by rfl) (hpl:(backTo pos (starEach [] X.env)).any (·.1)=false:=by rfl) :
  PE X (.Call (.Name x np) [ea] [] pos) (qy5 X.s₀.heap C nm te):=by
 intro pins s σ H Q I h;refine g0a (k9 I hg hm ?_ hd);refine g1j (h₀:=X.base) I.ok.mod.kin hkp (thn ((xm ha wq hs) pos pins s σ H (fun vs H1=>∃i,vs=[.int i]/\i.natAbs.log2<1920/\∀e dx,X.s₀.heap.get? e=none->H1 e=none->H1 dx=none->dx≠e->Q (.ref e) (upd (upd H1 e (.ext (XH e C dx))) dx (.xd [(nm,.int i)]))) I ?_) fun us s1 ⟨vs,H1,I1,r,i,ev,hi,q⟩=>⟨I1.kIn,?_⟩) hs hpl
 ·exact h
 subst ev;obtain⟨tl,N,nm',qn,bs,hdct,sn,sub,ab,col,dd,k0,k1,k2,k3,k5,mN,hCo,hNs,hni,T⟩:=qa6 I1.kIn hC;obtain⟨oI,f1,f2⟩:∃oI,s1.heap.get? fI=some oI/\oI.cls=.type "function" :=by
  obtain⟨o,ho,e⟩:=gp.mp hfn;exact⟨o,I1.kIn _ _ ho,e⟩
 obtain⟨u,rfl,ru⟩:=r.one;obtain⟨hp,g,dr,tk,os⟩:=s1;refine qoh (rest:=[u]) T hCo hNs hni f1 f2 (by show 1<=sizeLine;decide) fun h' e hx=>?_;obtain⟨t,he,_,_⟩:=hx.there;have hH:H1 e=none:=by
  cases z:H1 e with
  | none=>rfl
  | some o=>
   obtain⟨ob,e1⟩:=has_obj (I1.hok e o z);rw [hx.new] at e1;cases e1
 have h0:X.s₀.heap.get? e=none:=by
  cases z:X.s₀.heap.get? e with
  | none=>rfl
  | some o=>
   obtain⟨o',e1⟩:=I1.base.there e o z (by rw [hex];intro z;cases z);rw [hx.new] at e1;cases e1
 have I2:Inv X pins σ (upd H1 e (.ext (XG e C))) ⟨h',g,dr,tk,os⟩:=qoc I1 hx.new (I1.kept (t':=tk) hx.keeps) hH ⟨⟨_,_,t,he,rfl,rfl,rfl,rfl,rfl⟩,⟨_,he⟩,fun ha hb ⟨o',ws',t',e1,er⟩ kk=>⟨o',ws',t',kk o' e1,er⟩⟩;have hq:spI C nm [.ref e,.int i] (upd H1 e (.ext (XG e C))) (fun v H'=>v=.non/\Q (.ref e) H') E0:=⟨e,i,rfl,za,hi,fun dx a b=>⟨rfl,by rw [z1u];exact q e dx h0 hH (by rw [qr b] at a;exact a) b⟩⟩
 have r2:Vals [.ref e,.int i] [Value.ref e,u]:=.cons rfl (.cons ru .nil);have hl:([Value.ref e,u]++([]:List Value)).length=psI.length:=by rw [<- G.len _ _ _ _ hq];rfl
 refine g0q (g0t (G.run _ X.stack _ _ ⟨[Value.ref e,u],[]⟩ [Value.ref e,u] _ _ E0 ((hr.mono hk).make C [u] []) (I2.env0.make C [u] []) (hbI _ [Value.ref e,u] I2.kIn hl) r2 hq) fun r s' hq'=>?_)
 ·cases r with
  | error e=>exact hq'.elim
  | ok fl=>
   cases fl with
   | ret v=>
    obtain⟨v',H',I',rv,rfl,q'⟩:=I2.after hq';exact⟨rv,.ref e,H',I',(rfl:RelV (.ref e) (Value.ref e)),q'⟩
   | next=>exact False.elim hq'
   | brk=>exact False.elim hq'
   | cont=>exact False.elim hq'
end
section
variable{M:Model}{A:Around}{Ex:Ta}{env:Env}{nm q:Str}{C N:Addr}{bs bm:List Value}{hdct:Bool}{sn:List Str}{sub:List Value}{ab:Bool}{col:Option Bool}{dd:Option Addr}{k0 k1 k2 k3 k5:Option Value}{newId:String}
omit [Lam] [Pin] in
theorem qm4{s:Shared}{x:Sem Value}{Q:Flow->Shared->Prop}(hh:A.handled=none)
  (h:wpAny M A x (fun v s₁=>∃nm q N bs bm hdct sn sub ab col dd k0 k1 k2 k3 k5 newId e o ws,bm.contains (.type "BaseException")=true/\v=.ref e/\s₁.heap.get? C=some (excClassObj nm q C N bs bm hdct sn sub ab col dd k0 k1 k2 k3 k5 newId)/\s₁.heap.get? e=some o/\o.cls=.ref C/\o.data=.fields ws/\ws[1]? = some .none/\Ex (.ref e) s₁) Ex s) :
  wpAny M A (raiseStmt env (some x) none) Q Ex s:=by
 unfold raiseStmt;refine g9 (nu h (fun v s₁ h₁=>?_) fun _ _ x=>x);obtain⟨nm,q,N,bs,bm,hdct,sn,sub,ab,col,dd,k0,k1,k2,k3,k5,newId,e,o,ws,hbase,rfl,hC,he,hc,hdt,hw,hE⟩:=h₁;have hcB:(Value.ref C :: bm).contains (.type "BaseException")=true:=by rw [List.contains_cons,hbase,g5g]
 obtain⟨hp,g,d,tk,os⟩:=s₁;obtain⟨oc,odd,odt,osl⟩:=o;dsimp only at hc hdt;subst hc hdt
 repeat (first|with_reducible refine g1t he ?_|with_reducible refine g1t hC ?_|(with_reducible refine wpAny_isSubtype_exc hC ?_;rw [hcB])|wp_step)
 rw [hw];refine gf ?_;rw [mf (by decide)];exact gf (wpAny_raiseNew_none hh hE)
end
section
variable{P:Program}{w:World}{K:Frag}{mg:Tc}{base:Heap}{N:List Str}{qual:Str}{scope:Scope}{f:Addr}{cd:Value}{A:Around}{outer:List Env}{s0:Shared}{H0:Hp}{E:XK}{pos:Pos}
theorem qoj{C fI:Addr}{fdI:FuncData}{psI:List Str}{kI k':Nat}{x nm:Str}{np cpos:Pos}{ea:Expr}{fe:FE}(hC:q4u K C fI=true)(G:FnOk P w K mg base CX0 kI fI fdI psI (spI C nm))(hbI:Binds K fdI psI [])(hfn:PySem.W.typeIn K (.ref fI)=some (.type "function"))(hkp:PySem.W.keepIn K (.ref C)=true)
  (hr:Room k' (zx (CXR P w) P w K mg base N qual scope f cd A outer s0 H0 E).A) (hk:kI+1<=k') (hg:Gl (zx (CXR P w) P w K mg base N qual scope f cd A outer s0 H0 E) x) (hm:mg x=some (.ref C)) (hns:PySem.W.nsIn K mainGlobals x=some (some (.ref C)))
  (ha:PE (zx (CXR P w) P w K mg base N qual scope f cd A outer s0 H0 E).nox ea (tD K fe)) (hd:(x==("__debug__" : Str))=false:=by decide)
  (hs:starEach [ea] (zx (CXR P w) P w K mg base N qual scope f cd A outer s0 H0 E).env=(false,eval ea (zx (CXR P w) P w K mg base N qual scope f cd A outer s0 H0 E).env) :: starEach [] (zx (CXR P w) P w K mg base N qual scope f cd A outer s0 H0 E).env:=by rfl) :
  PS (zx (CXR P w) P w K mg base N qual scope f cd A outer s0 H0 E) (.Raise (some (.Call (.Name x np) [ea] [] cpos)) none pos) (tXS K (qde x nm fe) E):=by
 intro pins s σ H D I ⟨F0,H0',F, ρ,p, ρ',C',r,hv,hn,hE⟩;obtain⟨d,h1,h2⟩:=gc.mp hv
 split at h2
 ·rename_i i
  split at h2
  ·rename_i hi
   cases h2;rw [hns] at hn;cases hn;rw [arm_exec_Raise];refine g9 (g2y ?_);refine qm4 (C:=C) (I.ok.hd rfl) (g9 (thn ((qrk hC G hbI hfn hkp hr hk rfl hg hm (PE.nox' ha) hd hs) pins s σ H (fun v H'=>∃e dx F1 H1,s0.heap.get? e=none/\v=.ref e/\H1 e=none/\H1 dx=none/\dx≠e/\Grow F H F1 H1/\H'=upd (upd H1 e (.ext (XH e C dx))) dx (.xd [(nm,.int i)])) I ?_) fun v s1 ⟨v',H',I1,rv,e,dx,F1,H1,q0,ev,qe,qd,ne,g,eH⟩=>g9 (g2y (gf ?_))))
   ·refine⟨F0,H0',F, ρ,_,r,h1,fun v F1 H1 g rp=>?_⟩
    obtain rfl:v=V.int i:=rp;exact⟨i,rfl,hi,fun e dx q0 qe qd ne=>⟨e,dx,F1,H1,q0,rfl,qe,qd,ne,g,rfl⟩⟩
   subst ev eH;obtain rfl:v=Value.ref e:=rv;obtain⟨tl,N,nm',qn,bs,hdct,sn,sub,ab,col,dd,k0,k1,k2,k3,k5,mN,hCo,hNs,hni,T⟩:=qa6 I1.kIn hC;have he':upd (upd H1 e (.ext (XH e C dx))) dx (.xd [(nm,.int i)]) e=some (.ext (XH e C dx)):=by rw [qr (ml ne),za]
   obtain⟨⟨o,ws,e1,e2,e3,e4,e5⟩,_,_⟩:=(show ObjOk _ _ _ s1.heap e _ from I1.hok e _ he')
   refine⟨_,_,_,_,_,_,_,_,_,_,_,_,_,_,_,_,_,e,o,ws,T.hasType qkm,rfl,hCo,e1,e2,e4,e5,?_⟩;have hl:less (upd (upd H1 e (.ext (XH e C dx))) dx (.xd [(nm,.int i)])) e=upd H1 dx (.xd [(nm,.int i)]):=by
    funext b
    unfold less upd
    split
    ·rename_i z;subst z;rw [mf (ml ne)];exact qe.symm
    ·rfl
   have I2:=Inv.dropX I1 he';rw [hl] at I2;refine qeh I2 e1 ⟨e2,e3⟩ e4 e5 (by rw [qr (ml ne)];exact qe) q0 ?_;exact hE (upd F1 dx (.xd [(nm,.int i)])) _ σ (some dx) ((r.grow g).grow (Grow.new g.fh qd)) (za)
  ·cases h2
 ·cases h2
end
section
variable{X:Cx}{pos:Pos}
end
end DL
namespace DL
open PySem PySem.Spec PyProof.Rows L2
section
variable{K:Frag}{F:Hp}{a:Addr}{xs0:List V}{ds:List D}
end
variable[Lam][Pin]
open Classical in
section
variable{K:Frag}{F0 H0 F H F' H':Hp}{σ : St}{ρ ρ1:Rho}{i:Nat}{ds:List D}{a:Addr}{xs:List V}
end
section
variable{X:Cx}{e:Expr}{f:FE}{m:FM}
end
end DL
namespace DL
open PySem PySem.Spec PyProof.Rows L2
variable[Lam][Pin]
section
variable{X:Cx}{K:Frag}{st:Stmt}{rest:List Stmt}{u u1 u2:FS}{i:Nat}{pos p px:Pos}{x:Str}
end
section
variable{P:Program}{w:World}{K:Frag}{mg:Tc}{base:Heap}{x qual:Str}{st:Stmt}{dV:Value}{f:Addr}{fd:FuncData}{N ps:List Str}
end
section
variable{X:Cx}{e e':Expr}{f:FE}{y:Str}{b:Bool}{t:List (Str×Bool)}
end
section
variable{X:Cx}{pos p:Pos}{σ0:St}{E:XK}{pins:Td}
end
def mOp(o:D->D->Option D)(f g:FM): FM:=fun ρ =>(f ρ).bind fun p=>(g p.2).bind fun q=>(o p.1 q.1).map fun d=>(d,q.2)
section
variable{X:Cx}{a b e:Expr}{es:List Expr}{pos p:Pos}{f g:FM}{fa:FAM}
theorem qok{op:CmpOp}{o:D->D->Option D}(ho:OpR X (compareOp op) (rD X.K o))(ha:PE X a (tDM X.K f))(hb:PE X b (tDM X.K g))(hm:behindInMarks op b=false:=by first|exact q5b _ (by decide) (by decide)|rfl):
  PE X (.Compare a [op] [b] pos) (tDM X.K (mOp o f g)):=zr (qk4 ho ha hb hm) fun σ H Q ⟨F0,H0,F, ρ,c, ρ',r,hf,q⟩=>by
 obtain⟨⟨d1, ρ1⟩,h1,hf⟩:=gc.mp hf;obtain⟨⟨d2, ρ2⟩,h2,hf⟩:=gc.mp hf;obtain⟨d,h3,h4⟩:=gp.mp hf;cases h4;refine⟨F0,H0,F, ρ,d1, ρ1,r,h1,fun v F1 H1 s1 r1 rv=>⟨F0,H0,F1, ρ1,d2,_,r1,h2,fun u F2 H2 s2 r2 ru=>?_⟩⟩;exact⟨F2,d1,d2,_,r2.fh,rv.mono s2,ru,h3,fun w F3 H3 g3 r3=>q w F3 H3 (s1.trans (s2.trans g3.ff)) (r2.grow g3) r3⟩
end
end DL
namespace Srt
end Srt
namespace DL
open PySem PySem.Spec PyProof.Rows L2 Srt PySem.W
variable[Lam][Pin]
structure ClsOk(K:Frag)(x:Str)(C:Addr): Prop where
 ns:PySem.W.nsIn K mainGlobals x=some (some (.ref C))
 makes:PySem.W.makesIn K C=true
 init:PySem.W.findIn K (.ref C) "__init__" = some (some (.builtin "object.__init__"))
 kp:PySem.W.keepIn K (.ref C)=true
 cls:Cls K C
 n:qqp K C
structure CalM(P:Program)(w:World)(K:Frag)(mg:Tc)(base:Heap)(x m:Str)(C:Addr)(k:Nat)(ps:List Str)(ar:Nat)(op:Ti)(fn:Addr)(fd:FuncData): Prop where
 ok:FnOk P w K mg base CX0 k fn fd ps (spD K ar op)
 me:Meth K C m fn
theorem qol{K:Frag}{C:Addr}{T:String}(hm:PySem.W.kitMeta T=true)(h:PySem.W.subIn K (.ref C) (.type T)=some false): PySem.W.kitOne K (.ref C) (.type T)=some false:=by
 unfold PySem.W.kitOne PySem.W.kitCls;rw [mf (fun z=>by have:=eq_of_beq z;cases this)];dsimp only;rw [gw hm];exact h
theorem qvb{K:Frag}{C:Addr}(h1:PySem.W.subIn K (.ref C) (.type "int")=some false)(h2:PySem.W.subIn K (.ref C) (.type "bool")=some false)(h3:PySem.W.subIn K (.ref C) (.type "tuple")=some false)
  (h4:PySem.W.subIn K (.ref C) (.type "list")=some false) (h5:PySem.W.subIn K (.ref C) (.type "str")=some false) (h6:PySem.W.subIn K (.ref C) (.type "dict")=some false) :
  ∀T:String,T∈["int","bool","tuple","list","str","dict"]->PySem.W.kitOne K (.ref C) (.type T)=some false:=by
 intro T hT;simp only [mh,uk,g0o] at hT;rcases hT with rfl|rfl|rfl|rfl|rfl|rfl <;> exact qol (by decide +kernel) (by assumption)
section
variable{X:Cx}{pins:Td}{σ : St}{F H:Hp}{s:Shared}
theorem qom{C:Addr}{Q:VK}(makes:PySem.W.makesIn X.K C=true)(init:PySem.W.findIn X.K (.ref C) "__init__" = some (some (.builtin "object.__init__")))(I:Inv X pins σ H s)
  (h:Q (.ref (s.heap.objs.size+1)) (upd (upd H s.heap.objs.size (.own (s.heap.objs.size+1))) (s.heap.objs.size+1) (.ins C s.heap.objs.size []))):wpAny (model X.prog X.w) X.A (call (.ref C) []) (EP X pins σ Q) X.xe s:=by
 have I2:=Inv.made (C:=C) I;have kin:=I.kIn;obtain⟨hh,g,d,t,os⟩:=s;have Y:=makes_of (M:=model X.prog X.w) kin makes;refine g0q (make_core Y (looks_findIn kin init) (fun self=>Looks.of_pure (oi_bind self)) (.inr ⟨rfl,rfl⟩) ?_);have hx:((hh.push emptyDict).push (instObj C hh.objs.size)).get? (hh.objs.size+1)=some (instObj C hh.objs.size):=by
  have:hh.objs.size+1=(hh.push emptyDict).objs.size:=(g0g _ _).symm;rw [this];exact gs _ rfl
 have t1:Looks (model X.prog X.w) ((hh.push emptyDict).push (instObj C hh.objs.size)) (typeOf (.ref (hh.objs.size+1))) (.ref C):=(Looks.ld hx).andThen .now;have t2:Looks (model X.prog X.w) ((hh.push emptyDict).push (instObj C hh.objs.size)) (isInstance (.ref (hh.objs.size+1)) (.type "object")) true:=t1.andThen (Y.top.keeps fun b o e=>gh _ (gh _ e));refine g0e oi_plain entry_oi (@check_slot (model X.prog X.w) _ _ _ "object.__init__" "object" "__init__" (.ref (hh.objs.size+1)) [] [] _ oi_kind oi_split t2 (oi_args (.ref (hh.objs.size+1))) ?_);rw [oi_run];exact gf (And.intro rfl ⟨V.ref (hh.objs.size+1),_,I2,rfl,h⟩)
theorem q7i{x:Str}{C:Addr}{p pos:Pos}(O:ClsOk X.K x C)(hm:X.mg x=some (.ref C))(hg:Gl X x)(hdb:(x==("__debug__" : Str))=false:=by decide): PE X (.Call (.Name x p) [] [] pos) (tD X.K (eC (.obj x))):=by
 intro pins s σ H Q I h;obtain⟨F0,H0,F, ρ,d,r,hf,q⟩:=h;cases hf;refine g0a (k9 I hg hm ?_ hdb);refine PySem.W.callWith_K0 I.kIn O.kp (qom O.makes O.init I ?_);have n0:H s.heap.objs.size=none:=I.hok.fresh (m6 _);have n1:H (s.heap.objs.size+1)=none:=I.hok.fresh (g1o _);have fh:=r.fh;have g1:Grow F H F (upd H s.heap.objs.size (.own (s.heap.objs.size+1))):=Grow.own fh n0;have n1':upd H s.heap.objs.size (.own (s.heap.objs.size+1)) (s.heap.objs.size+1)=none:=by rw [qr (pd (t8 _))];exact n1
 have g2:=Grow.new (o:=.ins C s.heap.objs.size []) g1.fh n1';exact q _ _ _ (g1.trans g2) (rep_obj.mpr ⟨s.heap.objs.size+1,s.heap.objs.size,C,rfl,za,O.ns,O.n⟩)
def isO(x:Str): D->Bool
 | .obj y=>x==y
 | _=>false
def q5q(x:Str)(ar:Nat)(op:Ti)(g:FE)(fa:FA): FE:=fun ρ =>(g ρ).bind fun d=>(fa ρ).bind fun ds=>if isO x d then qt ar [] op (d :: ds) else none
theorem q7j{x m:Str}{C:Addr}{o e:Expr}{es:List Expr}{apos pos:Pos}{k k' ar:Nat}{fn:Addr}{fd:FuncData}{ps:List Str}{op:Ti}{g:FE}{fa:FA}{pl:Sem Bool}(O:ClsOk X.K x C)
  (M:CalM X.prog X.w X.K X.mg X.base x m C k ps ar op fn fd) (b:Binds X.K fd ps []) (hr:Room k' X.A) (hk:k<=k') (ho:PE X o (tD X.K g)) (ha:PA X (e :: es) (tDA X.K fa))
  (hst:starEach (e :: es) X.env=(false,eval e X.env) :: starEach es X.env:=by rfl) (hpl:(backTo pos (starEach es X.env)).any (·.1)=false:=by rfl)
  (ht:eval (.Call (.Attribute o m apos) (e :: es) [] pos) X.env=(do
   let ov <- eval o X.env
   standAt apos.atName
   let(f,first) <- holding [ov] (getMethod ov m pl)
   callWith pos f first (backTo pos (starEach (e :: es) X.env)) (backToKw pos (keywordEach [] X.env))):=by rfl) :
  PE X (.Call (.Attribute o m apos) (e :: es) [] pos) (tD X.K (q5q x ar op g fa)):=
 zr (q8k (pl:=pl) ho O.cls M.me M.ok (hr.mono hk) b .nil q0o ha hst hpl ht) fun σ H Q ⟨F0,H0,F, ρ,d,r,hf,q⟩=>by
  obtain⟨d1,h1,hf⟩:=gc.mp hf;obtain⟨ds,h2,hf⟩:=gc.mp hf
  split at hf
  ·rename_i hi
   obtain rfl:d1=.obj x:=by
    cases d1 <;> simp only [isO] at hi <;> first|(cases hi;done)|skip
    rw [(by simpa using hi:x=_)]
   refine⟨F0,H0,F, ρ,.obj x,r,h1,fun v F1 H1 g1 r1=>?_⟩;obtain⟨a,dx,C',rfl,e1,e2,e3⟩:=rep_obj.mp r1;have hC:C'=C:=by
    have:=e2.symm.trans O.ns;cases this;rfl
   subst hC;refine⟨a,dx,[],rfl,g1.fh _ _ e1,rfl,F0,H0,F1, ρ,ds,r.grow g1,h2,fun vs F2 H2 g2 r2=>?_⟩;unfold qt at hf
   split at hf
   ·rename_i hl
    refine⟨F2,(.obj x :: ds)++[],d,r.sameT (g1.trans g2),(RepL.cons (r1.mono g2.ff) r2).append .nil,hl,hf,fun v F3 H3 g3 r3=>q v F3 H3 (g1.trans (g2.trans g3)) r3⟩
   ·cases hf
  ·cases hf
end
end DL
namespace Js
open PySem
theorem qm5(A B:List Nat)(j:Nat)(hA:∀x∈A,x<j)(hB:∀x∈B,j<=x): ∀fuel lo hi,lo<=A.length->A.length<=hi->hi<=A.length+B.length->hi-lo<=fuel ->
  SetTable.below.go (A++B).toArray j fuel lo hi=A.length
 | 0,lo,hi,h1,h2,_,h3=>by unfold SetTable.below.go;lia
 | fuel+1,lo,hi,h1,h2,h4,h3=>by
  unfold SetTable.below.go
  by_cases c:lo<hi
  ·rw [gw c]
   show(if(A++B).toArray.getD ((lo+hi) / 2) j<j then _ else _)=_;have hm:(lo+hi) / 2<hi:=by lia
   have hm2:lo<=(lo+hi) / 2:=by lia
   by_cases d:(lo+hi) / 2<A.length
   ·have e:(A++B).toArray.getD ((lo+hi) / 2) j=A[(lo+hi) / 2]:=by
     simp [Array.getD,List.getElem_append_left d];lia
    rw [e,gw (hA _ (g0p d))];exact qm5 A B j hA hB fuel _ _ (by lia) h2 h4 (by lia)
   ·have hb:(lo+hi) / 2-A.length<B.length:=by lia
    have e:(A++B).toArray.getD ((lo+hi) / 2) j=B[(lo+hi) / 2-A.length]:=by
     have hlt:(lo+hi) / 2<A.length+B.length:=by lia
     simp [Array.getD,List.getElem_append_right (Nat.le_of_not_lt d),hlt]
    rw [e,mf (Nat.not_lt.mpr (hB _ (g0p hb)))];exact qm5 A B j hA hB fuel _ _ h1 (by lia) (by lia) (by lia)
  ·rw [mf c];lia
theorem below_at{A B:List Nat}{j:Nat}(hA:∀x∈A,x<j)(hB:∀x∈B,j<=x): SetTable.below (A++B).toArray j=A.length:=by
 unfold SetTable.below;exact qm5 A B j hA hB _ 0 _ (u6 _) (by simp) (by simp) (by simp)
theorem cut(j:Nat): ∀l:List Nat,l.Pairwise (· < ·)->∃A B,l=A++B/\(∀x∈A,x<j)/\(∀x∈B,j<=x)
 | [],_=>⟨[],[],rfl,by simp,by simp⟩
 | x :: l,h=>by
  by_cases c:x<j
  ·obtain⟨A,B,e,a,b⟩:=cut j l (g1l.mp h).2
   exact⟨x :: A,B,by rw [e];rfl,by intro y hy;rcases mh.mp hy with rfl|hy;exact c;exact a y hy,b⟩
  ·exact⟨[],x :: l,rfl,by simp,by
    intro y hy;rcases mh.mp hy with rfl|hy
    ·lia
    ·have:=(g1l.mp h).1 y hy;lia⟩
theorem q95{α : Type}(A B:List α)(x : α): SetTable.insertAt (A++B).toArray A.length x=(A++x :: B).toArray:=by
 unfold SetTable.insertAt;apply Array.ext';simp
theorem has_none(j:Nat): SetTable.has #[] j=false:=by unfold SetTable.has;simp
theorem qh7{t:SetTable}{l:List Nat}{j:Nat}(ep:t.place=l.toArray)(ed:t.dummies = #[])(hr:l.Pairwise (· < ·))(h:j∉l): t.slot j=.empty:=by
 obtain⟨A,B,rfl,hA,hB⟩:=cut j l hr;unfold SetTable.slot;rw [ep,ed,below_at hA hB,has_none];have:((A++B).toArray[A.length]? == some j)=false:=by
  cases B with
  | nil=>simp
  | cons b B=>
   have:b≠j:=fun e=>h (by simp [e]);simp [this]
 simp only [this];rfl
theorem qvc{t:SetTable}{l:List Nat}{j:Nat}(ep:t.place=l.toArray)(ed:t.dummies = #[])(hr:l.Pairwise (· < ·))(h:j∈l): ∃i,t.slot j=.live i:=by
 obtain⟨A,B,rfl,hA,hB⟩:=cut j l hr;unfold SetTable.slot;rw [ep,below_at hA hB];have:((A++B).toArray[A.length]? == some j)=true:=by
  rcases ud.mp h with h|h
  ·have:=hA j h;lia
  ·cases B with
   | nil=>simp at h
   | cons b B=>
    have hb:=hB b (ma ..);have:b=j:=by
     rcases mh.mp h with rfl|h
     ·rfl
     ·have:=(g1l.mp (g24.mp hr).2.1).1 j h;lia
    simp [this]
 simp only [this, ↓reduceIte];exact⟨_,rfl⟩
def orb:Nat->Nat->Nat
 | 0,i=>i
 | d+1,i=>orb d ((i*5+1)%8)
theorem qvd:∀i<8,∀j<8,∃d<8,orb d i=j:=by decide
theorem z1v{t:SetTable}(hm:t.mask=7){i pt:Nat}(hp:pt<32)(hi:i<8): t.advance {j:=i,more:=0,i:=i,perturb:=pt,dummy:=none} = {j:=(i*5+1)%8,more:=0,i:=(i*5+1)%8,perturb:=0,dummy:=none}:=by
 have e0:pt / 32=0:=by lia
 have e1:SetTable.runEnd 7 ((i*5+1)%8)=(i*5+1)%8:=by unfold SetTable.runEnd;rw [mf (by lia)]
 unfold SetTable.advance;rw [mf (by simp),hm];unfold SetTable.leap;simp only [e0,Nat.add_zero];show({j:=(i*5+1)%8,more:=SetTable.runEnd 7 ((i*5+1)%8)-(i*5+1)%8,i:=(i*5+1)%8,perturb:=0,dummy:=none}:SetTable.Probe)=_;rw [e1,Nat.sub_self]
theorem go7{t:SetTable}{l:List Nat}{h:Int}(ep:t.place=l.toArray)(ed:t.dummies = #[])(hr:l.Pairwise (· < ·))(hm:t.mask=7): ∀(k:Nat) (i pt:Nat),pt<32->i<8->(∃d<k,orb d i∉l) ->
  ∃j,SetTable.probe.go t (fun _=>h+1) h k {j:=i,more:=0,i:=i,perturb:=pt,dummy:=none}=some (.empty j none)/\j∉l/\j<8
 | 0,i,pt,_,_,⟨d,hd,_⟩=>by lia
 | k+1,i,pt,hp,hi,⟨d,hd,hn⟩=>by
  unfold SetTable.probe.go
  by_cases c:i∈l
  ·obtain⟨x,e⟩:=qvc ep ed hr c
   have hne:(h+1==h)=false:=by simp;lia
   simp only [e,hne,my, ↓reduceIte];rw [z1v hm hp hi];refine go7 ep ed hr hm k _ 0 (by lia) (g5a _ (by lia)) ?_;cases d with
   | zero=>exact absurd c hn
   | succ d=>exact⟨d,by lia,hn⟩
  ·simp only [qh7 ep ed hr c]
   exact⟨i,rfl,c,hi⟩
theorem qa7{α : Type}[DecidableEq α]: ∀ {a l:List α},a.Nodup->a ⊆ l->a.length<=l.length
 | [],_,_,_=>by simp
 | x :: a,l,hn,hs=>by
  have hx:x∈l:=hs (ma ..);have h2:a ⊆ l.erase x:=fun y hy=>(List.mem_erase_of_ne (fun e:y=x=>(uy.mp hn).1 (e ▸ hy))).mpr (hs (gz _ hy));have:=qa7 (uy.mp hn).2 h2;rw [List.length_erase_of_mem hx] at this;have:0<l.length:=List.length_pos_of_mem hx;simp only [mv];lia
theorem qm6:∀(l:List Nat),(∀j<8,j∈l)->8<=l.length:=by
 intro l h;have:(List.range 8) ⊆ l:=fun j hj=>h j (g0n.mp hj);have h2:=qa7 g4p this
 simpa using h2
theorem z0o{t:SetTable}{l:List Nat}{n:Nat}(ep:t.place=l.toArray)(ed:t.dummies = #[])(hr:l.Pairwise (· < ·))(hm:t.mask=7)(hl:l.length<8)(hn:n<12):
  ∃j,t.freeSlot (n:Int)=some (j,false)/\j∉l/\j<8:=by
 have hb:SetTable.bits (n:Int)=n:=by unfold SetTable.bits;lia
 have hi:n%8<8:=g5a _ (by lia);have hex:∃d<10*SetTable.turns t.mask,orb d (n%8)∉l:=by
  have:∃j,j<8/\j∉l:=g18 fun c=>by
   have:=qm6 l (fun j hj=>g18 fun d=>c ⟨j,hj,d⟩);lia
  obtain⟨j,hj,hnj⟩:=this;obtain⟨d,hd,e⟩:=qvd _ hi j hj;refine⟨d,?_,by rw [e];exact hnj⟩;rw [hm];unfold SetTable.turns;lia
 have hst:t.probeStart (n:Int) = {j:=n%8,more:=0,i:=n%8,perturb:=n,dummy:=none}:=by
  unfold SetTable.probeStart;rw [hb,hm];have e1:SetTable.runEnd 7 (n%(7+1))=n%8:=by unfold SetTable.runEnd;rw [mf (by lia)]
  simp only [e1];simp
 obtain⟨j,e,h1,h2⟩:=go7 (h:=(n:Int)) ep ed hr hm (10*SetTable.turns t.mask) (n%8) n (by lia) hi hex;refine⟨j,?_,h1,h2⟩;unfold SetTable.freeSlot SetTable.probe;rw [hst,e]
 rfl
theorem qy6{t:SetTable}{l:List Nat}{n:Nat}(ep:t.place=l.toArray)(ed:t.dummies = #[])(hr:l.Pairwise (· < ·))(hm:15<=t.mask)(hn:n<12)(hnl:n∉l):
  t.freeSlot (n:Int)=some (n,false):=by
 have hb:SetTable.bits (n:Int)=n:=by unfold SetTable.bits;lia
 have hmod:n%(t.mask+1)=n:=Nat.mod_eq_of_lt (by lia);unfold SetTable.freeSlot SetTable.probe SetTable.probeStart;rw [hb];simp only [hmod];have:10*SetTable.turns t.mask=(10*SetTable.turns t.mask-1)+1:=by unfold SetTable.turns;lia
 rw [this];unfold SetTable.probe.go;simp only [qh7 ep ed hr hnl]
 rfl
def el(p:Nat×Nat): Int×Value:=((p.1:Int),.int (p.1:Int) p.2)
structure Tb(t:SetTable)(ks:Tf): Prop where
 dm:t.dummies = #[]
 pl:t.plain=true
 nd:(ks.map Prod.fst).Nodup
 lt:∀p∈ks,p.1<12
 sz:t.place.toList.length=ks.length
 rs:t.place.toList.Pairwise (· < ·)
 mz:(t.mask=7/\(∀p∈t.place.toList,p<8))\/((t.mask=15\/t.mask=31\/t.mask=63)/\t.place.toList=ks.map Prod.fst)
theorem Tb.n12{t:SetTable}{ks:Tf}(T:Tb t ks): ks.length<=12:=by
 have:=qa7 (l:=List.range 12) T.nd (fun x hx=>by
  obtain⟨p,hp,rfl⟩:=p7.mp hx;exact g0n.mpr (T.lt p hp))
 simpa using this
theorem Tb.fits{t:SetTable}{ks:Tf}(T:Tb t ks)(h:t.mask=7->ks.length<8): t.fits ks.length=true:=by
 have h1:t.place.size=ks.length:=by rw [<- T.sz];simp
 have h2:=T.n12;unfold SetTable.fits SetTable.fill;rw [T.dm,h1];have:ks.length<=t.mask:=by
  rcases T.mz with⟨e,_⟩|⟨e,_⟩
  ·have:=h e;lia
  ·lia
 simp [this]
theorem toArr(a:Array Nat): a=a.toList.toArray:=by simp
theorem qy7{A B:List Nat}{j:Nat}(h:(A++B).Pairwise (· < ·))(hA:∀x∈A,x<j)(hB:∀x∈B,j<=x)(hj:j∉A++B): (A++j :: B).Pairwise (· < ·):=by
 have hB':∀x∈B,j<x:=fun x hx=>by
  have:=hB x hx;have:x≠j:=fun e=>hj (by rw [<- e];exact nh _ hx);lia
 obtain⟨a,b,c⟩:=g24.mp h;refine g24.mpr ⟨a,g1l.mpr ⟨hB',b⟩,fun x hx y hy=>?_⟩;rcases mh.mp hy with rfl|hy
 ·exact hA x hx
 ·exact c x hx y hy
theorem qrl:∀ {l:List Nat},l.Pairwise (· < ·)->l.Nodup:=fun h=>List.Pairwise.imp (fun a=>m4 a) h
theorem lay{t:SetTable}{ks:Tf}(T:Tb t ks){n k:Nat}(hn:n<12)(hnk:n∉ks.map Prod.fst)(h7:t.mask=7->ks.length<7):
  ∃t' ks',layNew t (ks.map el).toArray (n:Int) (.int (n:Int) k)=((ks'.map el).toArray,t',false,false)/\Tb t' ks'/\ks'.Perm ((n,k) :: ks)/\t'.mask=t.mask/\t'.led=t.led/\t'.finger=t.finger/\t'.moves=t.moves:=by
 have key:∃j,t.freeSlot (n:Int)=some (j,false)/\j∉t.place.toList/\((t.mask=7/\j<8)\/((t.mask=15\/t.mask=31\/t.mask=63)/\j=n)):=by
  rcases T.mz with⟨e,_⟩|⟨e,ep⟩
  ·obtain⟨j,h1,h2,h3⟩:=z0o (n:=n) (toArr t.place) T.dm T.rs e (by rw [T.sz];have:=h7 e;lia) hn
   exact⟨j,h1,h2,.inl ⟨e,h3⟩⟩
  ·exact⟨n,qy6 (toArr t.place) T.dm T.rs (by lia) hn (by rw [ep];exact hnk),by rw [ep];exact hnk,.inr ⟨e,rfl⟩⟩
 obtain⟨j,hf,hj,hm⟩:=key;obtain⟨A,B,eAB,hA,hB⟩:=cut j _ T.rs;have hp:t.place=(A++B).toArray:=by rw [<- eAB]
 have hbel:SetTable.below t.place j=A.length:=by rw [hp];exact below_at hA hB
 have hlen:A.length<=ks.length:=by have:=T.sz;rw [eAB,ng] at this;lia
 let ks':=ks.take A.length++(n,k) :: ks.drop A.length
 let t':SetTable:={t with place:=(A++j :: B).toArray,dummies:= #[]}
 have hput:t.put j=(t',A.length):=by
  unfold SetTable.put;simp only [hbel,T.dm,has_none,my, ↓reduceIte];rw [hp,q95]
 have hins:SetTable.insertAt (ks.map el).toArray A.length ((n:Int),Value.int (n:Int) k)=(ks'.map el).toArray:=by
  have e:ks.map el=(ks.take A.length).map el++(ks.drop A.length).map el:=by rw [<- pw,g0z]
  have el1:((ks.take A.length).map el).length=A.length:=by simp [hlen]
  have:=q95 ((ks.take A.length).map el) ((ks.drop A.length).map el) ((n:Int),Value.int (n:Int) k);rw [el1] at this;rw [e,this];simp [ks',el]
 have hperm:ks'.Perm ((n,k) :: ks):=by
  have:=@List.perm_middle _ (n,k) (ks.take A.length) (ks.drop A.length);rwa [g0z] at this
 have hrs:(A++j :: B).Pairwise (· < ·):=qy7 (by rw [<- eAB];exact T.rs) hA hB (by rw [<- eAB];exact hj);have T':Tb t' ks':=by
  refine⟨rfl,T.pl,?_,?_,?_,by simpa [t'] using hrs,?_⟩
  ·refine((hperm.map Prod.fst).nodup_iff).mpr ?_
   exact uy.mpr ⟨hnk,T.nd⟩
  ·intro p hp
   rcases mh.mp (hperm.mem_iff.mp hp) with rfl|h
   ·exact hn
   ·exact T.lt p h
  ·rw [hperm.length_eq]
   have:=T.sz;rw [eAB] at this;simp only [ng] at this;simp [t'];lia
  ·rcases hm with⟨e,hj8⟩|⟨e,rfl⟩
   ·refine .inl ⟨e,fun p hp=>?_⟩
    have hp':p∈A++j :: B:=by simpa [t'] using hp
    rcases T.mz with⟨_,hq⟩|⟨e',_⟩
    ·rw [eAB] at hq
     rcases ud.mp hp' with h|h
     ·exact hq p (g20 _ h)
     ·rcases mh.mp h with rfl|h
      ·exact hj8
      ·exact hq p (nh _ h)
    ·lia
   ·refine .inr ⟨e,?_⟩
    rcases T.mz with⟨e',_⟩|⟨_,ep⟩
    ·lia
    ·have e1:A=(ks.map Prod.fst).take A.length:=by rw [<- ep,eAB];simp
     have e2:B=(ks.map Prod.fst).drop A.length:=by rw [<- ep,eAB];simp
     show(A++j :: B).toArray.toList=ks'.map Prod.fst;simp only [ks',pw,m5,List.map_take,List.map_drop];rw [<- e1, <- e2]
 have h7':t'.mask=7->ks'.length<8:=fun e=>by rw [hperm.length_eq];have:=h7 e;simp;lia
 have hfit:t'.fits (ks'.map el).toArray.size=true:=by
  have:=T'.fits h7'
  simpa using this
 refine⟨t',ks',?_,T',hperm,rfl,rfl,rfl,rfl⟩;unfold layNew;simp only [hf,hput,hins];unfold SetTable.orStandIn;rw [gw hfit,hfit]
 rfl
theorem qrm{mask:Nat}{owner:Array (Option Nat)}{i pt f:Nat}(h:owner.getD i (some 0)=none): SetTable.layClean.free mask owner (f+1) i pt=some i:=by
 unfold SetTable.layClean.free;have hr:SetTable.runEnd mask i+1-i=(SetTable.runEnd mask i-i)+1:=by
  unfold SetTable.runEnd;split <;> lia
 rw [hr,g1p];have:(List.find? (fun k=>(owner.getD (i+k) (some 0)).isNone) (0 :: List.map Nat.succ (List.range (SetTable.runEnd mask i-i))))=some 0:=by
  rw [List.find?_cons];simp only [Nat.add_zero,h,Option.isNone_none]
 rw [this];rfl
def Own(mask:Nat)(hs:List Nat)(c:Nat)(owner:Array (Option Nat)): Prop:=owner.size=mask+1/\∀j,j<=mask->∀k,owner[j]? = some (some k)↔(k<c/\hs[k]? = some j)
theorem qh8(mask:Nat)(hm:15<=mask)(hs:List Nat)(hnd:hs.Nodup)(hlt:∀x∈hs,x<12): ∀(r:List Nat) (c:Nat) (owner:Array (Option Nat)),hs.drop c=r->c<=hs.length->Own mask hs c owner ->
  ∃ ow,(r.map (Int.ofNat)).foldl (fun acc h=>do
    let(owner,k) <- acc
    let j <- SetTable.layClean.free mask owner (SetTable.turns mask) (SetTable.bits h%(mask+1)) (SetTable.bits h)
    pure (owner.setIfInBounds j (some k),k+1)) (some (owner,c))=some (ow,hs.length)/\Own mask hs hs.length ow
 | [],c,owner,hd,hc,ho=>by
  have:c=hs.length:=by have:=ui List.length hd;simp at this;lia
  subst this;exact⟨owner,rfl,ho⟩
 | x :: r,c,owner,hd,hc,ho=>by
  have hcl:c<hs.length:=by have:=ui List.length hd;simp at this;lia
  have hx:hs[c]? = some x:=by
   have:=ui (fun l=>l[0]?) hd
   simpa using this
  have hxm:x∈hs:=uj hx;have hx12:=hlt x hxm;have hb:SetTable.bits (Int.ofNat x)=x:=by unfold SetTable.bits;simp;lia
  have hmod:x%(mask+1)=x:=Nat.mod_eq_of_lt (by lia);have hnone:owner.getD x (some 0)=none:=by
   have hlt':x<owner.size:=by rw [ho.1];lia
   simp only [Array.getD,hlt', ↓reduceDIte,Array.getInternal_eq_getElem];cases e:owner[x] with
   | none=>rfl
   | some k=>
    have:owner[x]? = some (some k):=by rw [g4d hlt',e]
    obtain⟨h1,h2⟩:=(ho.2 x (by lia) k).mp this;have hkl:k<hs.length:=by lia
    rw [mw hkl] at h2;rw [mw hcl] at hx;have:=(g4g hnd).mp ((mr h2).trans (mr hx).symm);lia
  have hfree:SetTable.layClean.free mask owner (SetTable.turns mask) (SetTable.bits (Int.ofNat x)%(mask+1)) (SetTable.bits (Int.ofNat x))=some x:=by
   rw [hb,hmod];have:SetTable.turns mask=(mask+14)+1:=by unfold SetTable.turns;lia
   rw [this];exact qrm hnone
  rw [m5,List.foldl_cons];have hstep:(do
    let(owner,k) <- some (owner,c)
    let j <- SetTable.layClean.free mask owner (SetTable.turns mask) (SetTable.bits (Int.ofNat x)%(mask+1)) (SetTable.bits (Int.ofNat x))
    pure (owner.setIfInBounds j (some k),k+1):Option (Array (Option Nat)×Nat))=some (owner.setIfInBounds x (some c),c+1):=by
   show(SetTable.layClean.free mask owner (SetTable.turns mask) (SetTable.bits (Int.ofNat x)%(mask+1)) (SetTable.bits (Int.ofNat x))).bind _=_;rw [hfree];rfl
  refine qh8 mask hm hs hnd hlt r (c+1) (owner.setIfInBounds x (some c)) ?_ hcl ⟨by simp [ho.1],fun j hj k=>?_⟩ |> fun⟨ow,a,b⟩=>⟨ow,?_,b⟩
  ·rw [<- List.tail_drop,hd];rfl
  ·rw [Array.getElem?_setIfInBounds]
   have hxs:x<owner.size:=by rw [ho.1];lia
   by_cases e:x=j
   ·subst e
    rw [gw rfl,gw hxs]
    constructor
    ·intro h;have:c=k:=by simpa using h
     subst this;exact⟨by lia,hx⟩
    ·rintro⟨h1,h2⟩
     have hkl:k<hs.length:=by lia
     rw [mw hkl] at h2;rw [mw hcl] at hx;have:=(g4g hnd).mp ((mr h2).trans (mr hx).symm);rw [this]
   ·rw [mf e,ho.2 j hj k]
    constructor
    ·rintro⟨h1,h2⟩;exact⟨by lia,h2⟩
    ·rintro⟨h1,h2⟩
     refine⟨?_,h2⟩;have:k≠c:=fun e2=>by subst e2;rw [hx] at h2;exact e (mr h2)
     lia
  ·rw [<- a];exact ui (fun z=>List.foldl _ z _) hstep
theorem qh9{mask:Nat}(hm:15<=mask){hs:List Nat}(hnd:hs.Nodup)(hlt:∀x∈hs,x<12): ∃ow,SetTable.layClean mask (hs.map Int.ofNat).toArray=some ow/\Own mask hs hs.length ow:=by
 obtain⟨ow,a,b⟩:=qh8 mask hm hs hnd hlt hs 0 (Array.replicate (mask+1) none) rfl (u6 _) ⟨by simp,fun j hj k=>by simp [Array.getElem?_replicate]⟩;refine⟨ow,?_,b⟩;unfold SetTable.layClean;rw [List.foldl_toArray',a]
 ·rfl
 ·simp
theorem qrn{mask:Nat}{hs:List Nat}(hnd:hs.Nodup)(hlt:∀x∈hs,x<=mask){ow:Array (Option Nat)}(ho:Own mask hs hs.length ow):
  let live:=(List.range (mask+1)).filterMap fun j=>(ow.getD j none).map (j, ·)
  (live.map Prod.fst).Pairwise (· < ·)/\(∀p∈live,hs[p.2]? = some p.1)/\(live.map Prod.snd).Perm (List.range hs.length):=by
 intro live;have hmem:∀p:Nat×Nat,p∈live↔hs[p.2]? = some p.1:=by
  intro p;obtain⟨j,k⟩:=p;simp only [live,g2c,g0n,gp];have hg:∀j,j<=mask->(ow.getD j none=some k↔hs[k]? = some j):=fun j hj=>by
   have hlt':j<ow.size:=by rw [ho.1];lia
   have:ow.getD j none=some k↔ow[j]? = some (some k):=by
    simp [Array.getD,hlt']
   rw [this,ho.2 j hj k];exact⟨fun h=>h.2,fun h=>⟨(nj.mp h).1,h⟩⟩
  constructor
  ·rintro⟨j',hj',k',e,e2⟩
   injection e2 with e3 e4
   subst e3;subst e4;exact(hg _ (by lia)).mp e
  ·intro h
   have hj:=hlt j (uj h);exact⟨j,by lia,k,(hg j hj).mpr h,rfl⟩
 have hf:live.map Prod.fst=(List.range (mask+1)).filter (fun j=>(ow.getD j none).isSome):=by
  simp only [live];generalize List.range (mask+1)=l
  induction l with
  | nil=>rfl
  | cons a l ih=>
   rw [g0k,p8];cases e:ow.getD a none with
   | none=>simpa using ih
   | some k=>simpa using ih
 have hpw:(live.map Prod.fst).Pairwise (· < ·):=by
  rw [hf];exact g19 _ g54
 refine⟨hpw,fun p hp=>(hmem p).mp hp,?_⟩;have hn2:(live.map Prod.snd).Nodup:=by
  have h1:=qrl hpw;refine g2u.mpr ?_;have h1':=g2u.mp h1;refine g4q ?_ h1';intro p q hp hq hne e;have a:=(hmem p).mp hp;have b:=(hmem q).mp hq;rw [e,b] at a;exact hne (mr a).symm
 refine(g44 hn2 g4p).mpr fun k=>?_;rw [g0n,p7]
 constructor
 ·rintro⟨p,hp,rfl⟩
  exact(nj.mp ((hmem p).mp hp)).1
 ·intro hk
  exact⟨(hs[k],k),(hmem _).mpr (mw hk),rfl⟩
theorem range_all{α : Type}: ∀l:List α,(List.range l.length).filterMap (l[·]?)=l
 | []=>rfl
 | a :: l=>by
  rw [mv,g1p,g0k];simp only [g2q,g2f];have:((fun x=>(a :: l)[x]?) ∘ Nat.succ)=(l[·]?):=by funext i;simp
  rw [this,range_all l]
theorem qa8{mask f m:Nat}{led:Bool}(hm:mask=15\/mask=31\/mask=63){ks:Tf}(hnd:(ks.map Prod.fst).Nodup)(hlt:∀p∈ks,p.1<12):
  ∃t order ks',SetTable.laid mask f m led true ((ks.map el).toArray.map (·.1))=some (t,order)/\order.filterMap ((ks.map el).toArray[·]?)=(ks'.map el).toArray/\ks'.Perm ks/\Tb t ks'/\t.mask=mask/\t.led=led /\
   coversAll order ks.length=true:=by
 have hlt':∀x∈ks.map Prod.fst,x<12:=fun x hx=>by obtain⟨p,hp,rfl⟩:=p7.mp hx;exact hlt p hp
 obtain⟨ow,a,b⟩:=qh9 (mask:=mask) (by lia) hnd hlt';obtain⟨h1,h2,h3⟩:=qrn hnd (fun x hx=>by have:=hlt' x hx;lia) b;generalize hlv:((List.range (mask+1)).filterMap fun j=>(ow.getD j none).map (j, ·))=live at h1 h2 h3;have ehs:(ks.map el).toArray.map (·.1)=((ks.map Prod.fst).map Int.ofNat).toArray:=by
  simp [el,Function.comp_def]
 have h3':(live.map Prod.snd).Perm (List.range ks.length):=by simpa using h3
 let ks':=live.filterMap (fun p=>ks[p.2]?)
 have hk2:∀p∈live,∃q,ks[p.2]? = some q/\q.1=p.1:=fun p hp=>by
  have:=h2 p hp;rw [mq,gp] at this;exact this
 have hfst:ks'.map Prod.fst=live.map Prod.fst:=by
  simp only [ks'];clear h3 h3' h1 hlv h2
  induction live with
  | nil=>rfl
  | cons p l ih=>
   obtain⟨q,e,e2⟩:=hk2 p (ma ..);rw [g0k,e,m5,m5,e2,ih (fun r hr=>hk2 r (gz _ hr))]
 have hperm:ks'.Perm ks:=by
  have e1:ks'=(live.map Prod.snd).filterMap (ks[·]?):=by rw [g2f];rfl
  rw [e1];refine(List.Perm.filterMap _ h3').trans ?_;rw [range_all]
 refine⟨{mask:=mask,place:=(live.map (·.1)).toArray,dummies:= #[],finger:=f,led:=led,moves:=m,plain:=true},(live.map (·.2)).toArray,ks',?_,?_,hperm,?_,rfl,rfl,?_⟩
 ·unfold SetTable.laid
  rw [ehs,a];simp only [Option.bind_eq_bind,gj,hlv]
  rfl
 ·rw [List.filterMap_toArray]
  congr 1
  rw [g2f];have e3:((fun x=>(ks.map el).toArray[x]?) ∘ fun x:Nat×Nat=>x.2)=fun p=>(ks[p.2]?).map el:=by
   funext p;simp
  rw [e3];simp only [ks'];rw [List.map_filterMap]
 ·refine⟨rfl,rfl,?_,?_,?_,?_,.inr ⟨hm,?_⟩⟩
  ·exact((hperm.map Prod.fst).nodup_iff).mpr hnd
  ·exact fun p hp=>hlt p (hperm.mem_iff.mp hp)
  ·have:=ui List.length hfst
   simpa using this.symm
  ·simpa using h1
  ·simpa using hfst.symm
 ·unfold coversAll
  rw [List.isPerm_iff]
  simpa using h3'
theorem qbo{α : Type}: ∀(l:List α) {i:Nat} (hi:i<l.length),([l[i]]++l.eraseIdx i).Perm l
 | [],i,hi=>by simp at hi
 | a :: l,0,hi=>by simp
 | a :: l,i+1,hi=>by
  have:=qbo l (i:=i) (by simpa using hi);simp only [List.getElem_cons_succ,List.eraseIdx_cons_succ,g35,uz] at this ⊢;exact(List.Perm.swap _ _ _).trans (List.Perm.cons _ this)
theorem qej{α : Type}(nx:Nat->Nat): ∀(f k:Nat) (l:List α) (out:Array α),l.length<=f->((pickOrder.go nx f k l out).toList).Perm (out.toList++l)
 | 0,k,l,out,h=>by
  have:l=[]:=by cases l <;> simp_all
  subst this;simp [pickOrder.go]
 | f+1,k,[],out,h=>by simp [pickOrder.go]
 | f+1,k,a :: l,out,h=>by
  have hi:nx k%(a :: l).length<(a :: l).length:=g5a _ (by simp);unfold pickOrder.go;rw [mw hi];refine(qej nx f (k+1) _ _ (by rw [List.length_eraseIdx];simp only [hi,uh];simp at h ⊢;lia)).trans ?_;rw [Array.toList_push,td];exact List.Perm.append_left _ (qbo _ hi)
theorem q4v{α : Type}(nx:Nat->Nat)(xs:Array α): ((pickOrder nx xs).toList).Perm xs.toList:=by
 unfold pickOrder;have:=qej nx xs.size 0 xs.toList #[] (by simp)
 simpa using this
theorem q47{n:Nat}(h:8<=n)(h2:n<64): (SetTable.sizeAbove n=16/\n<16)\/(SetTable.sizeAbove n=32/\16<=n/\n<32)\/(SetTable.sizeAbove n=64/\32<=n):=by
 have:∀n<64,8<=n->((SetTable.sizeAbove n=16/\n<16)\/(SetTable.sizeAbove n=32/\16<=n/\n<32)\/(SetTable.sizeAbove n=64/\32<=n)):=by decide +kernel
 exact this n h2 h
abbrev byT(w:World): Bool:=w.params.followText "set-order"
structure SI(w:World)(h:Heap)(a:Addr)(t:SetTable)(ks:Tf): Prop where
 ob:∃o ep,h.get? a=some o/\o.ExactSet/\o.data=.set (ks.map el).toArray ep t
 tb:Tb t ks
 ld:t.led = !byT w
section
variable{prog:Program}{w:World}{A:Around}{E:Ta}{s:Shared}{a:Addr}{t:SetTable}{ks:Tf}
theorem q5r{n:Nat}(h:n<12): (intKind prog w).hash (n:Int)=(n:Int):=by
 have:∀n<12,hashInt ((n:Nat):Int)=((n:Nat):Int):=by decide
 exact this n h
theorem elems(hl:∀p∈ks,p.1<12): ElemsOf (intKind prog w) (ks.map el):=by
 intro e he;obtain⟨p,hp,rfl⟩:=p7.mp he;exact⟨⟨(p.1:Int),g3k _ _ _ _,(q5r (hl p hp)).symm⟩,rfl⟩
theorem q5s(T:Tb t ks)(h7:t.mask=7->ks.length<8): t.fits (ks.map el).toArray.size=true:=by
 have:=T.fits h7;simpa using this
theorem qve{n:Nat}(h:n∈ks.map Prod.fst): ∃j,List.findIdx? (fun e=>(intKind prog w).is (n:Int) e.2) (ks.map el)=some j:=by
 obtain⟨p,hp,rfl⟩:=p7.mp h;cases e:List.findIdx? (fun e=>(intKind prog w).is (p.1:Int) e.2) (ks.map el) with
 | some j=>exact⟨j,rfl⟩
 | none=>
  have:=g4e.mp e (el p) (g3p hp);have h2:(intKind prog w).is (p.1:Int) (el p).2=true:=g3k _ _ _ _;rw [h2] at this;exact absurd this (by decide)
theorem qro{n:Nat}(h:n∉ks.map Prod.fst): List.findIdx? (fun e=>(intKind prog w).is (n:Int) e.2) (ks.map el)=none:=by
 refine g4e.mpr fun e he=>?_;obtain⟨p,hp,rfl⟩:=p7.mp he;cases e:(intKind prog w).is (n:Int) (el p).2 with
 | false=>rfl
 | true=>
  have:=(intKind prog w).inj (el p).2 _ _ e (g3k _ _ (p.1:Int) p.2);have:n=p.1:=by lia
  exact absurd (g3p hp) (this ▸ h)
def Step(t:SetTable)(ks:Tf)(p:Nat×Nat)(t':SetTable)(ks':Tf): Prop:=
 Tb t' ks'/\t'.led=t.led/\if p.1∈ks.map Prod.fst then ks'=ks/\t'=t else
  ks'.Perm (p :: ks)/\t'.mask=(if(ks.length+1)*5>=t.mask*3 then SetTable.sizeAbove ((ks.length+1)*4)-1 else t.mask)
theorem qvf{h:Heap}{o:Obj}{es es':Array (Int×Value)}{ep:Nat}{t t':SetTable}(ho:h.get? a=some o)(hd:o.data=.set es ep t):
  (h.update a (Obj.putSet es' t')).get? a=some {o with data:=.set es' (ep+1) t'}:=by
 have:=pk (Obj.putSet es' t') ho (by rw [putSet_of es' t' hd];rfl);rw [putSet_of es' t' hd] at this;exact this
theorem SI.put{h:Heap}{t':SetTable}{ks':Tf}(S:SI w h a t ks)(T':Tb t' ks')(hl:t'.led=t.led): SI w (h.update a (Obj.putSet (ks'.map el).toArray t')) a t' ks':=by
 obtain⟨o,ep,ho,hx,hd⟩:=S.ob;exact⟨⟨_,_,qvf ho hd,hx,rfl⟩,T',by rw [hl];exact S.ld⟩
theorem size_le(T:Tb t ks): (ks.map el).toArray.size<=sizeLine:=by
 have:=T.n12;rw [g03];simp;lia
theorem qon{n k:Nat}{Q:Bool->Shared->Prop}(S:SI w s.heap a t ks)(hn:n<12)(h7:t.mask=7->ks.length<7)
  (h:∀h' t' ks',Heap.SameBut a s.heap h'->SI w h' a t' ks'->Step t ks (n,k) t' ks'->Q (!(decide (n∈ks.map Prod.fst))) {s with heap:=h'}) :
  wpAny (model prog w) A (setAddHashed a (.int (n:Int) k) (n:Int)) Q E s:=by
 obtain⟨o,ep,ho,hx,hd⟩:=id S.ob;have T:=S.tb;have hf:t.fits (ks.map el).toArray.size=true:=q5s T (fun e=>by have:=h7 e;lia);have hel:ElemsOf (intKind prog w) (ks.map el).toArray.toList:=by simpa using elems T.lt
 have hn12:=T.n12;unfold setAddHashed setAddHashedIn;refine nr (g9 (g2v ho hd hf ?_));dsimp only;rw [byScan_of (knd:=intKind prog w) rfl (by unfold scanBound;simp;lia) hel];simp only [↓reduceIte];unfold setAddByScan;refine g9 ?_;refine g9 (g0f ?_);have hsc:=@wpAny_setScan_of prog w Int _ (intKind prog w) A E s a o (ks.map el).toArray ep t (.int (n:Int) k) (n:Int) true;rw [q5r hn] at hsc;refine g9 (hsc (g3k _ _ _ _) ho hd hf hel ?_)
 by_cases hm:n∈ks.map Prod.fst
 ·obtain⟨j,hj⟩:=qve (prog:=prog) (w:=w) hm
  have hj':List.findIdx? (fun e=>(intKind prog w).is (n:Int) e.2) (ks.map el).toArray.toList=some j:=by simpa using hj
  rw [hj'];dsimp only;refine gf (gf ?_);have e:s = {s with heap:=s.heap}:=by cases s;rfl
  have:=h s.heap t ks (g1s a s.heap) S ⟨T,rfl,by rw [gw hm];exact⟨rfl,rfl⟩⟩;rw [mj hm] at this;rw [e];exact this
 ·have hj':List.findIdx? (fun e=>(intKind prog w).is (n:Int) e.2) (ks.map el).toArray.toList=none:=by simpa using qro (prog:=prog) (w:=w) hm
  rw [hj'];dsimp only;obtain⟨t1,ks1,hL,T1,p1,m1,l1,f1,v1⟩:=lay T (k:=k) hn hm h7;rw [hL];dsimp only;have hgw:∀(b:Bool) {s₁:Shared} {Q':Unit->Shared->Prop},Q' () s₁->wpAny (model prog w) A (match b with|true=>rule "set.scan.the-table-gave-way" | false=>pure ()) Q' E s₁:=
   fun b s₁ Q' hq=>by cases b <;> first|exact gf hq|exact g0f hq
  refine g9 (hgw false ?_);rw [T1.pl];simp only [↓reduceIte];rw [hashByValue_scannable 8 rfl];refine g9 (gf ?_);simp only [plainKind, ↓reduceIte];have S1:SI w (s.heap.update a (Obj.putSet (ks1.map el).toArray t1)) a t1 ks1:=S.put T1 l1;have hsb1:=t9 s.heap a (Obj.putSet (ks1.map el).toArray t1);have hlen:ks1.length=ks.length+1:=by rw [p1.length_eq];rfl
  have htf:t1.tooFull=decide ((ks.length+1)*5>=t.mask*3):=by
   unfold SetTable.tooFull SetTable.fill;have:t1.place.size=ks.length+1:=by rw [<- hlen, <- T1.sz];simp
   rw [T1.dm,this,m1];simp
  refine g9 (g1u ho hd ?_ (size_le T1))
  by_cases hfull:(ks.length+1)*5>=t.mask*3
  ·rw [htf,mj hfull]
   simp only [g2o,g5c, ↓reduceIte];have hn1:=T1.n12;have hg:SetTable.grown (ks1.map el).toArray.size=(ks.length+1)*4:=by
    unfold SetTable.grown;simp only [gq,gv,hlen];rw [mf (by lia)]
   have hsa:SetTable.sizeAbove ((ks.length+1)*4)-1=15\/SetTable.sizeAbove ((ks.length+1)*4)-1=31\/SetTable.sizeAbove ((ks.length+1)*4)-1=63:=by
    have hm7:7<=t.mask:=by rcases T.mz with⟨e,_⟩|⟨e,_⟩ <;> lia
    rcases q47 (n:=(ks.length+1)*4) (by lia) (by lia) with h|h|h <;> lia
   obtain⟨t2,ord,ks2,e2,f2,p2,T2,m2,l2,c2⟩:=qa8 (f:=t1.finger) (m:=t1.movedTo (SetTable.sizeAbove ((ks.length+1)*4)-1)) (led:=t1.led) hsa T1.nd T1.lt;have hrl:t1.relaid ((ks1.map el).toArray.map (·.1)) (SetTable.grown (ks1.map el).toArray.size)=some (t2,ord):=by
    unfold SetTable.relaid;rw [hg,T1.pl];exact e2
   have hlen2:ks2.length=ks1.length:=p2.length_eq;have hra:relayAll t1 (ks1.map el).toArray (SetTable.grown (ks1.map el).toArray.size)=((ks2.map el).toArray,t2,false):=by
    unfold relayAll;rw [hrl];dsimp only;rw [f2];have hc:coversAll ord (ks1.map el).toArray.size=true:=by simpa using c2
    have hft:t2.fits (ks2.map el).toArray.size=true:=q5s T2 (fun e=>by lia);rw [hc,hft];rfl
   rw [hra];dsimp only;refine g9 (hgw false ?_);obtain⟨o1,ep1,ho1,hx1,hd1⟩:=id S1.ob;refine g9 (g1u ho1 hd1 ?_ (size_le T2));refine gf ?_;dsimp only;refine gf ?_;have:=h _ t2 ks2 (hsb1.trans (t9 _ a _)) (S1.put T2 l2) ⟨T2,l2.trans l1,by
    rw [mf hm,gw hfull];exact⟨p2.trans p1,m2⟩⟩
   rw [mm hm] at this;exact this
  ·rw [htf,mm hfull]
   simp only [g2o,g5d,my, ↓reduceIte];refine gf ?_;have:=h _ t1 ks1 hsb1 S1 ⟨T1,l1,by rw [mf hm,mf hfull];exact⟨p1,m1⟩⟩;rw [mm hm] at this;exact gf this
end
theorem qa9{α β : Type}[DecidableEq α]{f : α -> β}: ∀ {l:List β} {ks:List α},l.Perm (ks.map f)->∃ls:List α,ls.Perm ks/\l=ls.map f
 | [],ks,h=>by
  have:ks=[]:=by simpa using h.symm
  exact⟨[],by rw [this],rfl⟩
 | x :: l,ks,h=>by
  have hx:x∈ks.map f:=h.mem_iff.mp (ma ..);obtain⟨p,hp,rfl⟩:=p7.mp hx;have h1:=List.perm_cons_erase hp;have h2:(f p :: l).Perm (f p :: (ks.erase p).map f):=h.trans (h1.map f);obtain⟨ls,a,e⟩:=qa9 (List.Perm.cons_inv h2);exact⟨p :: ls,(List.Perm.cons _ a).trans h1.symm,by rw [e];rfl⟩
section
variable{prog:Program}{w:World}{A:Around}{E:Ta}{s:Shared}{a b:Addr}{t u:SetTable}{ks ls:Tf}
theorem SI.state{Q:(Array (Int×Value)×Nat×SetTable)->Shared->Prop}(S:SI w s.heap a t ks)(h7:t.mask=7->ks.length<8)
  (h:∀ep,(∃o,s.heap.get? a=some o/\o.ExactSet/\o.data=.set (ks.map el).toArray ep t)->Q ((ks.map el).toArray,ep,t) s):wpAny (model prog w) A (setState a) Q E s:=by
 obtain⟨o,ep,ho,hx,hd⟩:=S.ob;exact g2v ho hd (q5s S.tb h7) (h ep ⟨o,ho,hx,hd⟩)
theorem SI.keep{h h':Heap}(S:SI w h a t ks)(e:∀o,h.get? a=some o->h'.get? a=some o): SI w h' a t ks:=by
 obtain⟨o,ep,ho,r⟩:=S.ob;exact⟨⟨o,ep,e o ho,r⟩,S.tb,S.ld⟩
theorem qbp{es:Array (Int×Value)}{t':SetTable}{ord:Array Nat}{es':Array (Int×Value)}{α : Type}{F:Array (Int×Value)×SetTable->Sem α}{Q : α -> Shared->Prop}(e:ord.filterMap (es[·]?)=es')(hs:es'.size=es.size)
  (h:wpAny (model prog w) A (F (es',t')) Q E s) :
  wpAny (model prog w) A ((do
   let some (t,order):=some (t',ord)|unsupported "internal:set-table-without-room"
   let es':=order.filterMap (es[·]?)
   if es'.size != es.size then unsupported "internal:set-table-lost-an-element"
   pure (es',t):Sem (Array (Int×Value)×SetTable)) >>= F) Q E s:=by
 refine g9 ?_;dsimp only;rw [e];have:(es'.size != es.size)=false:=by simp [hs]
 rw [this];simp only [my, ↓reduceIte];exact gf h
theorem qrp{wanted:Nat}{Q:Unit->Shared->Prop}(S:SI w s.heap a t ks)(h7:t.mask=7->ks.length<8)(hw:8<=wanted)(hw2:wanted<64)
  (h:∀h' t' ks',Heap.SameBut a s.heap h'->SI w h' a t' ks'->t'.mask=SetTable.sizeAbove wanted-1->ks'.Perm ks->Q () {s with heap:=h'}) :
  wpAny (model prog w) A (setRelay a wanted) Q E s:=by
 unfold setRelay;refine g9 (S.state h7 fun ep ⟨o,ho,hx,hd⟩=>?_);dsimp only;have hc:=q47 hw hw2;have hsz:¬(SetTable.sizeAbove wanted>sizeLine):=by rw [g03];lia
 rw [mf hsz];obtain⟨t2,ord,ks2,e2,f2,p2,T2,m2,l2,c2⟩:=qa8 (f:=t.finger) (m:=t.movedTo (SetTable.sizeAbove wanted-1)) (led:=t.led) (mask:=SetTable.sizeAbove wanted-1) (by lia) S.tb.nd S.tb.lt;have hrl:t.relaid ((ks.map el).toArray.map (·.1)) wanted=some (t2,ord):=by
  unfold SetTable.relaid;rw [S.tb.pl];exact e2
 rw [hrl];refine qbp f2 (by simp [p2.length_eq]) ?_;dsimp only;refine g1u ho hd ?_ (size_le T2);exact h _ t2 ks2 (t9 _ a _) (S.put T2 l2) m2 p2
theorem wp_walk{Q:Array (Int×Value)->Shared->Prop}(S:SI w s.heap a t ks)(h7:t.mask=7->ks.length<8)
  (h:∀ls:Tf,ls.Perm ks->Q (ls.map el).toArray s):wpAny (model prog w) A (setWalk a) Q E s:=by
 unfold setWalk;refine g9 (S.state h7 fun ep _=>?_);dsimp only;unfold setsByText;refine g9 (g9 (t5 (gf ?_)))
 by_cases hb:byT w=true
 ·refine p9 (fun _=>?_) (fun c=>absurd hb c)
  refine g9 (t5 (gf ?_));have hp:=q4v ((⟨(model prog w).prog,(model prog w).w.params⟩:Setting).params.setOrder a ep) (ks.map el).toArray;generalize pickOrder ((⟨(model prog w).prog,(model prog w).w.params⟩:Setting).params.setOrder a ep) (ks.map el).toArray=xs at hp;have hp':xs.toList.Perm (ks.map el):=by simpa using hp
  obtain⟨ls,hl,e⟩:=qa9 hp';have:=h ls hl;rw [<- e] at this;exact this
 ·refine p9 (fun c=>absurd c hb) (fun _=>?_)
  refine p9 (fun c=>?_) (fun _=>?_)
  ·have c':(!t.plain&&decide ((ks.map el).toArray.size>1))=true:=c
   rw [S.tb.pl] at c';simp at c'
  ·have hld:t.led=true:=by rw [S.ld];simpa using hb
   show wpAny _ _ ((do if !t.led&&(ks.map el).toArray.size>1 then unsupported "set:maker-not-led" : Sem Unit) >>= fun _=>pure (ks.map el).toArray) _ _ _;rw [hld];simp only [g27,g3q,my, ↓reduceIte];exact g9 (gf (gf (h ks (g59 _))))
end
section
variable{prog:Program}{w:World}{A:Around}{E:Ta}{s:Shared}{a b:Addr}{t u:SetTable}{ks ls:Tf}
theorem qoo{os:List Addr}{f:Option Addr}{Q:Array (Int×Value)->Shared->Prop}(S:SI w s.heap a t ks)(h7:t.mask=7->ks.length<8)
  (h:∀ls:Tf,ls.Perm ks->Q (ls.map el).toArray s):wpAny (model prog w) A (setWalkUnseen a os f) Q E s:=by
 unfold setWalkUnseen;refine g9 (S.state h7 fun ep _=>?_);dsimp only;refine g9 ?_;unfold setsByText;refine g9 (t5 (gf ?_));dsimp only;refine p9 (fun _=>?_) (fun c=>?_)
 ·exact wp_walk S h7 h
 ·refine absurd ?_ c
  have:t.led = !(model prog w).w.params.followText "set-order" :=S.ld;rw [this,S.tb.pl];cases(model prog w).w.params.followText "set-order" <;> simp
theorem qks{ep:Nat}{ob:Obj}{each:Sem Unit}(hab:a≠b)(hob:∀ {s':Shared} {Q:(Array (Int×Value)×Nat×SetTable)->Shared->Prop},s'.heap.get? b=some ob->Q ((ls.map el).toArray,ep,u) s'->wpAny (model prog w) A (setState b) Q E s')
  (hea:∀ {s':Shared} {Q:Unit->Shared->Prop},s'.heap.get? b=some ob->Q () s'->wpAny (model prog w) A each Q E s') :
  ∀(r:Tf) (s:Shared) (t:SetTable) (ks:Tf) (Q:Unit->Shared->Prop),(∀p∈r,p.1<12)->SI w s.heap a t ks->(ks.length+r.length)*5<t.mask*3->s.heap.get? b=some ob ->
  (∀h' t' ks',Heap.SameBut a s.heap h'->SI w h' a t' ks'->t'.mask=t.mask->(∀n,n∈ks'.map Prod.fst↔n∈ks.map Prod.fst\/n∈r.map Prod.fst)->ks'.length<=ks.length+r.length->Q () {s with heap:=h'}) ->
  wpAny (model prog w) A (forIn (r.map el) PUnit.unit fun(x:Int×Value) (_:PUnit)=>do
   let _ <- holding [x.2] (setAddHashed a x.2 x.1)
   each
   if(<- setState b).2.1 != ep then unsupported "set.changed-during-merge"
   pure (ForInStep.yield PUnit.unit)) Q E s
 | [],s,t,ks,Q,hr,S,hm,hb,h=>by
  simp only [g0u,g2l];refine gf ?_;have:=h s.heap t ks (g1s _ _) S rfl (fun n=>by simp) (by simp);exact this
 | p :: r,s,t,ks,Q,hr,S,hm,hb,h=>by
  simp only [m5,g1k];have hp:=hr p (ma ..);have hml:(ks.length+1+r.length)*5<t.mask*3:=by simp only [mv] at hm;lia
  refine g9 ?_;refine g9 (nr (qon (n:=p.1) (k:=p.2) S hp (fun e=>by lia) fun h' t' ks' hsb S' st=>?_));have hb':h'.get? b=some ob:=by rw [hsb.2 b (fun e=>hab e.symm)];exact hb
  obtain⟨T',l',c⟩:=st;have hlen:ks'.length<=ks.length+1/\t'.mask=t.mask/\(∀n,n∈ks'.map Prod.fst↔n∈ks.map Prod.fst\/n=p.1):=by
   split at c
   ·rename_i hin
    obtain⟨rfl,rfl⟩:=c;exact⟨by lia,rfl,fun n=>⟨.inl,fun h=>h.elim id (fun e=>e ▸ hin)⟩⟩
   ·obtain⟨c1,c2⟩:=c
    rw [mf (by lia)] at c2;refine⟨by rw [c1.length_eq];simp,c2,fun n=>?_⟩;rw [(c1.map Prod.fst).mem_iff,m5,mh];exact Or.comm
  refine g9 (hea (s':={s with heap:=h'}) hb' ?_);refine g9 (hob (s':={s with heap:=h'}) hb' ?_);dsimp only;rw [mf (by simp)];refine gf ?_;refine qks hab hob hea r {s with heap:=h'} t' ks' Q (fun q hq=>hr q (gz _ hq)) S' (by rw [hlen.2.1];lia) hb' fun h2 t2 ks2 sb2 S2 m2 i2 l2=>?_;refine h h2 t2 ks2 (hsb.trans sb2) S2 (m2.trans hlen.2.1) (fun n=>?_) (by simp only [mv];lia);rw [i2 n,hlen.2.2 n,m5,mh,or_assoc]
theorem qvg{m:Nat}{Q:Unit->Shared->Prop}(S:SI w s.heap a t ks)(h7:t.mask=7->ks.length<8)(hm:m<=12)
  (h:∀h' t' ks',Heap.SameBut a s.heap h'->SI w h' a t' ks'->ks'.Perm ks->(ks.length+m)*5<t'.mask*3 ->
   ((ks.length+m)*5<t.mask*3/\t'.mask=t.mask\/t'.mask=SetTable.sizeAbove ((ks.length+m)*2)-1/\t.mask*3<=(ks.length+m)*5)->Q () {s with heap:=h'}) :
  wpAny (model prog w) A (setRoomFor a m) Q E s:=by
 unfold setRoomFor;refine g9 (S.state h7 fun ep _=>?_);dsimp only;have hsz:t.place.size=ks.length:=by rw [<- S.tb.sz];simp
 have hfl:t.fill=ks.length:=by unfold SetTable.fill;rw [S.tb.dm,hsz];simp
 have hn:=S.tb.n12;unfold SetTable.roomFor;rw [hfl,hsz];have hmk:=S.tb.mz
 by_cases c:(ks.length+m)*5>=t.mask*3
 ·rw [gw c]
  dsimp only;refine qrp S h7 (by rcases hmk with⟨e,_⟩|⟨e,_⟩ <;> lia) (by lia) fun h' t' ks' sb S' m' p'=>?_;have hc:=q47 (n:=(ks.length+m)*2) (by rcases hmk with⟨e,_⟩|⟨e,_⟩ <;> lia) (by lia);exact h h' t' ks' sb S' p' (by lia) (.inr ⟨m',c⟩)
 ·rw [mf c]
  dsimp only;refine gf ?_;exact h s.heap t ks (g1s _ _) S (g59 _) (by lia) (.inl ⟨by lia,rfl⟩)
theorem qha{each:Sem Unit}{Q:Unit->Shared->Prop}(hab:a≠b)(S:SI w s.heap a t ks)(hbm:ks=[]->t.mask=7)(h7:t.mask=7->ks.length<8)(U:SI w s.heap b u ls)(hu:ls.length<5->u.mask=7)(hu7:u.mask=7->ls.length<8)
  (hea:∀ {s':Shared} {Q:Unit->Shared->Prop},s'.heap.get? b=s.heap.get? b->Q () s'->wpAny (model prog w) A each Q E s')
  (h:∀h' t' ks',Heap.SameBut a s.heap h'->SI w h' a t' ks'->(t'.mask=7->ks'.length<8)->(∀n,n∈ks'.map Prod.fst↔n∈ks.map Prod.fst\/n∈ls.map Prod.fst)->(ks=[]->ks'=[]->t'.mask=7)->Q () {s with heap:=h'}) :
  wpAny (model prog w) A (setMerge a b each) Q E s:=by
 unfold setMerge;have hne:(a==b)=false:=by simpa using hab
 rw [hne];simp only [my, ↓reduceIte];have hn:=S.tb.n12;have hnu:=U.tb.n12;refine g9 (U.state hu7 fun ep ⟨o,ho,hx,hd⟩=>?_);dsimp only
 by_cases he:ls=[]
 ·subst he
  have:((([]:Tf).map el).toArray).isEmpty=true:=rfl;rw [gw this];refine gf ?_;exact h s.heap t ks (g1s _ _) S h7 (fun n=>by simp) (fun e _=>hbm e)
 ·have:((ls.map el).toArray).isEmpty=false:=by cases ls <;> simp_all
  rw [this];simp only [my, ↓reduceIte];have hsz:((ls.map el).toArray).size=ls.length:=by simp
  rw [hsz];refine g9 (qvg S h7 hnu fun h1 t1 ks1 sb1 S1 p1 r1 q1=>?_);have U1:SI w h1 b u ls:=U.keep fun o e=>by rw [sb1.2 b (fun e=>hab e.symm)];exact e
  have ho1:h1.get? b=some o:=by rw [sb1.2 b (fun e=>hab e.symm)];exact ho
  have hl1:ks1.length=ks.length:=p1.length_eq;have hpos:0<ls.length:=List.length_pos_iff.mpr he;refine g9 (SI.state (s:={s with heap:=h1}) S1 (fun e=>by lia) fun ep1 ⟨o1,ho1',hx1,hd1⟩=>?_);dsimp only;have hfl:t1.fill=ks.length:=by unfold SetTable.fill;rw [S1.tb.dm, <- hl1, <- S1.tb.sz];simp
  unfold SetTable.road;rw [hfl,U.tb.dm]
  by_cases hk:ks=[]
  ·subst hk
   have hk1:ks1=[]:=by simpa using hl1
   subst hk1;simp only [List.length_nil,bne_self_eq_false,my, ↓reduceIte];have hld:(t1.led&&u.led) = !byT w:=by rw [S1.ld,U.ld];simp
   have hpl:(t1.plain&&u.plain)=true:=by rw [S1.tb.pl,U.tb.pl];rfl
   by_cases hmk:t1.mask=u.mask
   ·have hc:((t1.mask==u.mask)&&(#[]:Array Nat).isEmpty)=true:=by simp [hmk]
    rw [hc];simp only [↓reduceIte];refine g1u (s:={s with heap:=h1}) ho1' hd1 ?_ (size_le U.tb);rw [hld,hpl];have T':Tb {u with dummies:= #[],finger:=t1.finger,led:= !byT w,moves:=t1.moves,plain:=true} ls:=⟨rfl,rfl,U.tb.nd,U.tb.lt,U.tb.sz,U.tb.rs,U.tb.mz⟩
    refine h _ _ ls (sb1.trans (t9 _ a _)) (S1.put T' (by rw [S1.ld])) hu7 (fun n=>by simp) (fun _ e=>absurd e he)
   ·have hc:((t1.mask==u.mask)&&(#[]:Array Nat).isEmpty)=false:=by simp [hmk]
    rw [hc];simp only [my, ↓reduceIte];have ht7:=hbm rfl;have hm1:t1.mask=15\/t1.mask=31\/t1.mask=63:=by
     rcases S1.tb.mz with⟨e,_⟩|⟨e,_⟩
     ·exfalso
      have:ls.length<5:=by rw [e] at r1;simp at r1;lia
      exact hmk (e.trans (hu this).symm)
     ·exact e
    obtain⟨t2,ord,ks2,e2,f2,p2,T2,m2,l2,c2⟩:=qa8 (f:=t1.finger) (m:=t1.moves) (led:=t1.led&&u.led) (mask:=t1.mask) hm1 U.tb.nd U.tb.lt;rw [hpl,e2];refine qbp f2 (by simp [p2.length_eq]) ?_;dsimp only;refine g1u (s:={s with heap:=h1}) ho1' hd1 ?_ (size_le T2);refine h _ t2 ks2 (sb1.trans (t9 _ a _)) (S1.put T2 (by rw [l2,hld,S1.ld])) (fun e=>by lia) (fun n=>?_) (fun _ e=>?_)
    ·rw [(p2.map Prod.fst).mem_iff];simp
    ·rw [e] at p2;exact absurd (by simpa using p2.symm) he
  ·have hfn:(ks.length != 0)=true:=by simp [hk]
   rw [hfn];simp only [↓reduceIte];refine g9 (qoo (s:={s with heap:=h1}) U1 hu7 fun xs px=>?_);rw [<- Array.forIn_toList];have hxl:xs.length=ls.length:=px.length_eq;have key:=qks (prog:=prog) (w:=w) (A:=A) (E:=E) (ls:=ls) (u:=u) (ep:=ep) (ob:=o) (each:=each) hab (fun {s'} {Q'} e q=>g2v e hd (q5s U.tb hu7) q) (fun {s'} {Q'} e q=>hea (by rw [e,ho]) q)
    xs {s with heap:=h1} t1 ks1 (fun _ s'=>wpAny (model prog w) A (pure ()) Q E s') (fun p hp=>U.tb.lt p (px.mem_iff.mp hp)) S1 (by rw [hl1,hxl];exact r1) ho1 (fun h2 t2 ks2 sb2 S2 m2 i2 l2=>?_)
   ·exact g9 key
   ·refine gf ?_
    refine h h2 t2 ks2 (sb1.trans sb2) S2 (fun e=>by lia) (fun n=>?_) (fun e=>absurd e hk);rw [i2 n,(p1.map Prod.fst).mem_iff,(px.map Prod.fst).mem_iff]
end
theorem qhb:entryFor table "set.__or__" = some Builtin.«frozenset.__or__» :=
 entryFor_alias (id':="frozenset.__or__") (by kernel_rfl) rfl (by decide +kernel) (by kernel_rfl)
theorem qkt:isSubtype (.type "set") (.type "set")=pure true:=by rw [g1x];kernel_rfl
section
variable{prog:Program}{w:World}{A:Around}{E:Ta}{s:Shared}{a b:Addr}{t u:SetTable}{ks ls:Tf}
theorem SI.typeIs(S:SI w s.heap a t ks): s.TypeIs (.ref a) "set" :=let⟨o,_,ho,hc,_⟩:=S.ob; ⟨o,ho,hc.1⟩
def vx(w:World): Obj:={cls:=.type "set",dict:=none,data:=.set #[] 0 (.fresh 0 0 (!byT w))}
theorem qrq{led:Bool}: Tb (.fresh 0 0 led) []:=⟨rfl,rfl,by simp,by simp,by simp [SetTable.fresh],by simp [SetTable.fresh],.inl ⟨rfl,by simp [SetTable.fresh]⟩⟩
theorem qhc{h:Heap}(ho:h.get? a=some (vx w)): SI w h a (.fresh 0 0 (!byT w)) []:=⟨⟨_,0,ho,⟨rfl,rfl,rfl⟩,rfl⟩,qrq,rfl⟩
theorem qop{Q:Ta}(h:Q (.ref s.heap.objs.size) {s with heap:=s.heap.push (vx w)}): wpAny (model prog w) A (newSet (.type "set")) Q E s:=by
 unfold newSet setsByText;refine g9 (g9 (t5 (gf ?_)));dsimp only;simp only [newObj];exact g9 (g53 (gf h))
theorem qhd(S:SI w s.heap a t ks){Q:Bool->Shared->Prop}(h:Q true s): wpAny (model prog w) A (Builtin.Frozenset.isAnySet (.ref a)) Q E s:=by
 unfold Builtin.Frozenset.isAnySet;show wpAny _ _ (isInstance (.ref a) (.type "set") >>= fun b=>_) _ _ _;refine g9 (g22 S.typeIs qkt ?_);exact gf h
theorem z0p{Q:Ta}(hab:a≠b)(S:SI w s.heap a t ks)(hs:ks.length<5->t.mask=7)(hs7:t.mask=7->ks.length<8)(U:SI w s.heap b u ls)(hu:ls.length<5->u.mask=7)(hu7:u.mask=7->ls.length<8)
  (h:∀h' t' ks',(∀c o,c<s.heap.objs.size->s.heap.get? c=some o->h'.get? c=some o)->SI w h' s.heap.objs.size t' ks'->(t'.mask=7->ks'.length<8)->(∀n,n∈ks'.map Prod.fst↔n∈ks.map Prod.fst\/n∈ls.map Prod.fst)->Q (.ref s.heap.objs.size) {s with heap:=h'}) :
  wpAny (model prog w) A (binaryOp .BitOr (.ref a) (.ref b)) Q E s:=by
 refine wpAny_binaryOp_same S.typeIs U.typeIs F.fills_set_or F.slot_set_or (pj F.slot_set_or S.typeIs qhb ?_ (F.args_set_or_2 _ _));have hla:a<s.heap.objs.size:=let⟨o,_,ho,_⟩:=S.ob;gu ho
 have hlb:b<s.heap.objs.size:=let⟨o,_,ho,_⟩:=U.ob;gu ho
 show wpAny _ _ ((Builtin.Frozenset.slot1 "__or__" ⟨[.ref a,.ref b],[]⟩) >>= _) _ _ _;refine g9 (gf ?_);dsimp only;refine g9 ?_;show wpAny _ _ (Builtin.Frozenset.isAnySet (.ref a) >>= _) _ _ _;refine g9 (qhd S ?_);refine qhd U ?_;simp only [g27,my, ↓reduceIte];refine g9 (gf ?_);refine g9 ?_;show wpAny _ _ (Builtin.Frozenset.copyOf a >>= _) _ _ _;refine g9 ?_;unfold Builtin.Frozenset.copyOf Builtin.Frozenset.baseOf;refine g9 (g9 (g22 S.typeIs qkt (gf ?_)));simp only [↓reduceIte];refine g9 (qop ?_);refine g9 (gf ?_);have hget:(s.heap.push (vx w)).get? s.heap.objs.size=some (vx w):=gs _ rfl;have old:∀c o,s.heap.get? c=some o->(s.heap.push (vx w)).get? c=some o:=fun c o e=>gh _ e;refine g9 (qha (s:={s with heap:=s.heap.push (vx w)}) (pd hla) (qhc hget) (fun _=>rfl) (fun _=>by simp) (S.keep (old a)) hs hs7 (fun _ q=>gf q) fun h1 t1 ks1 sb1 S1 z1 i1 g1=>?_);refine gf ?_;have old1:∀c o,c<s.heap.objs.size->s.heap.get? c=some o->h1.get? c=some o:=fun c o hc e=>by
  rw [sb1.2 c (m4 hc)];exact old c o e
 have hbne:((Value.ref b) != (Value.ref a))=true:=by simp [ml hab]
 rw [gw hbne];have U1:SI w h1 b u ls:=U.keep fun o e=>old1 b o hlb e;refine g9 (gf ?_);refine g9 (nr ?_);unfold Builtin.Frozenset.updateFrom;refine g9 (qhd (s:={s with heap:=h1}) U1 ?_);simp only [↓reduceIte];refine g9 (gf ?_);unfold Builtin.Frozenset.merge;obtain⟨ob,ep,hob,hxb,hdb⟩:=id U1.ob;refine g9 (wpAny_setEpoch_of (s:={s with heap:=h1}) hob hdb (q5s U.tb hu7) ?_);refine qha (s:={s with heap:=h1}) (pd hlb) S1 (fun e=>g1 rfl e) z1 U1 hu hu7 (fun {s'} {Q'} e q=>?_) fun h2 t2 ks2 sb2 S2 z2 i2 g2=>?_
 ·unfold Builtin.Frozenset.unchanged
  have e':s'.heap.get? b=some ob:=e.trans hob;refine g9 (wpAny_setEpoch_of e' hdb (q5s U.tb hu7) ?_);rw [mf (by simp)];exact gf q
 ·refine gf (gf ⟨_,rfl,by simp,?_⟩)
  refine h h2 t2 ks2 (fun c o hc e=>?_) S2 z2 (fun n=>?_)
  ·rw [sb2.2 c (m4 hc)];exact old1 c o hc e
  ·rw [i2 n,i1 n];simp
end
def MR(t:SetTable)(ks:Tf): Prop:=(ks.length<5->t.mask=7)/\(5<=ks.length->t.mask=31)
theorem MR.step{t t':SetTable}{ks ks':Tf}{p:Nat×Nat}(m:MR t ks)(st:Step t ks p t' ks'): MR t' ks':=by
 obtain⟨T',l',c⟩:=st
 split at c
 ·obtain⟨rfl,rfl⟩:=c;exact m
 ·obtain⟨c1,c2⟩:=c
  have hl:ks'.length=ks.length+1:=by rw [c1.length_eq];rfl
  have h12:=T'.n12
  by_cases h5:ks.length<4
  ·rw [m.1 (by lia),mf (by lia)] at c2
   exact⟨fun _=>c2,fun h=>by lia⟩
  ·by_cases h6:ks.length=4
   ·rw [m.1 (by lia),h6] at c2
    have:t'.mask=31:=by rw [c2];decide
    exact⟨fun h=>by lia,fun _=>this⟩
   ·rw [m.2 (by lia),mf (by lia)] at c2
    exact⟨fun h=>by lia,fun _=>c2⟩
theorem Step.mem{t t':SetTable}{ks ks':Tf}{p:Nat×Nat}(st:Step t ks p t' ks')(n:Nat): n∈ks'.map Prod.fst↔n∈ks.map Prod.fst\/n=p.1:=by
 obtain⟨T',l',c⟩:=st
 split at c
 ·rename_i hin
  obtain⟨rfl,rfl⟩:=c;exact⟨.inl,fun h=>h.elim id (fun e=>e ▸ hin)⟩
 ·rw [(c.1.map Prod.fst).mem_iff,m5,mh]
  exact Or.comm
def iv(p:Nat×Nat): Value:=.int (p.1:Int) p.2
section
variable{prog:Program}{w:World}{A:Around}{R:Result->Shared->Prop}{I:Addr}{fp wr:List Addr}{G:Array GenState->Array GenState->Prop}{P:Nat->Value->Prop}{St:Nat->Shared->Prop}
theorem qrr(qs:Tf)(hq:∀p∈qs,p.1<12)(W:WalksS prog w A.in1 I fp wr G qs.length P St)(S:Addr)(hSf:S∉fp)
  (hval:∀i v,P i v->∃p,qs[i]? = some p/\v=iv p) :
  ∀(k i:Nat) (s:Shared) (t:SetTable) (ks:Tf),qs.length-i=k->i<=qs.length->St i s ->
   SI w s.heap S t ks->MR t ks->(∀n,n∈ks.map Prod.fst↔n∈(qs.take i).map Prod.fst) ->
   (∀s' t' ks',Moved (S :: wr) G s s'->SI w s'.heap S t' ks'->MR t' ks'->(∀n,n∈ks'.map Prod.fst↔n∈qs.map Prod.fst)->R (.ok (.ret .none)) s') ->
   codeAny (model prog w) A (.builtin "set.update.loop" ⟨[.ref S,.ref I],[]⟩) R s:=by
 have hSw:S∉wr:=fun h=>hSf (W.sub _ h);have hsub:∀b∈wr,b∈S :: wr:=fun b hb=>gz _ hb;intro k
 induction k with
 | zero=>
  intro i s t ks hk hi hst hS hM hmem hR;have hin:i=qs.length:=by lia
  subst hin;refine pq g2i ?_;rw [p5 g0w _];show wpAny _ A.in1 (pyNext (.ref I) >>= _) _ _ s;refine g9 (W.done s _ _ hst fun s' hm=>?_);show wpAny _ A.in1 (ret Value.none) _ _ s';exact gf (hR s' t ks (hm.mono hsub) (hS.keep fun o e=>hm.heap S _ hSw e) hM (by simpa using hmem))
 | succ k ih=>
  intro i s t ks hk hi hst hS hM hmem hR;have hlt:i<qs.length:=by lia
  refine pq g2i ?_;rw [p5 g0w _];show wpAny _ A.in1 (pyNext (.ref I) >>= _) _ _ s;refine g9 (W.item i s _ _ hlt hst fun v s' hP hst' hm=>?_);obtain⟨p,hp,rfl⟩:=hval i v hP;have hp12:=hq p (uj hp);have hS':SI w s'.heap S t ks:=hS.keep fun o e=>hm.heap S _ hSw e;show wpAny _ A.in1 (holding [iv p] (setAdd S (iv p)) >>= _) _ _ s';refine g9 (nr ?_);unfold setAdd;refine nr ?_;refine g9 ((intKind prog w).pyHash (k:=(p.1:Int)) (g3k _ _ _ _) ?_);rw [q5r hp12];refine qon (s:={s' with toks:=s'.toks+1}) hS' hp12 (fun e=>g18 fun c=>by have:=hM.2 (by lia);lia) fun h' t' ks' hsb S2 st=>?_;refine gf ⟨g09 g0w _,ih (i+1) _ t' ks' (by lia) hlt (W.frame _ s' _ _ hst' (g1o _) fun b hb o e=>?_) S2 (hM.step st) (fun n=>?_) fun s'' t'' ks'' hm'' hS'' hM'' hi''=>?_⟩
  ·rw [hsb.2 b (fun h:b=S=>hSf (by rw [<- h];exact hb))];exact e
  ·rw [st.mem n,hmem n]
   have:qs.take (i+1)=qs.take i++[p]:=by
    rw [g3s,hp];rfl
   rw [this,pw,ud];simp
  ·refine hR s'' t'' ks'' (Moved.trans W.gtrans ((hm.mono hsub).then_heap (g1o _) fun b o hb e=>?_) hm'') hS'' hM'' hi''
   rw [hsb.2 b (fun h:b=S=>hb (by rw [h];exact ma))];exact e
end
theorem sub_tuple_set:isSubtype (.type "tuple") (.type "set")=pure false:=by rw [g1x];kernel_rfl
theorem sub_tuple_frozenset:isSubtype (.type "tuple") (.type "frozenset")=pure false:=by rw [g1x];kernel_rfl
section
variable{prog:Program}{w:World}{A:Around}{E:Ta}{s:Shared}
theorem qoq(a:Value){Q₁:Ta}(h:Q₁ (.ref s.heap.objs.size) {s with heap:=s.heap.push (vx w)}):
  codeAny (model prog w) A (.call (.builtin "set.__new__") ⟨[.type "set",a],[]⟩) (wants Q₁ E) s:=by
 refine g3j ?_;show wpAny _ A.in1 (do checkBuiltinCall "set.__new__" ⟨[.type "set",a],[]⟩;again (.builtin "set.__new__" ⟨[.type "set",a],[]⟩)) _ _ s;refine g9 (g50 (F.newCall_set_1 a) (gf ⟨g09 F.plain_set_new _,pq F.entry_set_new ?_⟩));rw [p5 F.plain_set_new _];unfold Builtin.«set.__new__» Builtin.Frozenset.newClass;have hsub:=sub_set_self;obtain⟨hp,g,d,tk,os⟩:=s;dsimp only
 wp_walk
 refine t5 (gf ?_);dsimp only;simp only [newObj];refine g9 (g53 (gf ?_));exact gf h
set_option maxHeartbeats 3200000 in
theorem qdf{l:Addr}(qs:Tf)(hq:∀p∈qs,p.1<12){Q:Ta}
  (hh:A.handled=none) (hl:s.heap.IsTuple l (qs.map iv).toArray)
  (h:∀(h':Heap) (tk:Nat) t ks,SI w h' s.heap.objs.size t ks->MR t ks->(∀n,n∈ks.map Prod.fst↔n∈qs.map Prod.fst)->s.toks<=tk ->
   (∀b o,b<s.heap.objs.size->s.heap.get? b=some o->h'.get? b=some o)->Q (.ref s.heap.objs.size) {s with heap:=h',toks:=tk}) :
  wpAny (model prog w) A (call (.type "set") [.ref l]) Q E s:=by
 obtain⟨c,tl,hmro⟩:=g1c.mro;have hmade:=g1c.made;have hsub:=g1c.sub;refine g0q (g3j ?_);show wpAny _ _ (callAny (.type "set") _) _ _ _;refine gf ⟨g2g _ (by decide +kernel),pq F.entry_type_call ?_⟩;rw [Around.under_plain (weight_type_call_type "set" [.ref l] []) rfl];have h1:=g1c.notType;have h2:=g1c.canCreate;have hct:=F.typeCall_set_1 (.ref l)
 repeat (any_goals (first|assumption|wp_step))
 refine g0t (qoq (.ref l) (E:=E) (Q₁:=fun obj s₁=>obj=.ref s.heap.objs.size/\s₁ = {s with heap:=s.heap.push (vx w)}) ⟨rfl,rfl⟩) fun r s₁ hr=>?_;cases r with
 | error e=>exact hr
 | ok fl=>
  cases fl with
  | ret obj=>
   obtain⟨rfl,rfl⟩:=hr;have hS:(s.heap.push (vx w)).get? s.heap.objs.size=some (vx w):=gs _ rfl;have hT:Shared.TypeIs {s with heap:=s.heap.push (vx w)} (.ref s.heap.objs.size) "set" :=⟨_,hS,rfl⟩
   have hli:=g1c.init.lookup;have hbi:=g1c.init.bind (.ref s.heap.objs.size)
   repeat (any_goals (first|assumption|wp_step))
   refine g0t (g0e (R:=wants (fun r s₂=>r=.none/\∃h' tk t ks,s₂ = {s with heap:=h',toks:=tk}/\SI w h' s.heap.objs.size t ks/\MR t ks/\(∀n,n∈ks.map Prod.fst↔n∈qs.map Prod.fst)/\s.toks<=tk /\
     (∀b o,b<s.heap.objs.size->s.heap.get? b=some o->h'.get? b=some o)) E) g1c.init.plain F.entry_set_init (check_set_init_1 hT ?_)) fun r₂ s₂ hr₂=>?_
   ·have hl1:(s.heap.push (vx w)).IsTuple l (qs.map iv).toArray:=hl.push _
    obtain⟨ol,hol,hcl,hdl⟩:=id hl1;have hsls:=sub_tuple_set;have hslf:=sub_tuple_frozenset;have hne:(Value.type "tuple" == Value.type "dict")=false:=by decide
    have hTl:Shared.TypeIs {s with heap:=s.heap.push (vx w)} (.ref l) "tuple" :=⟨_,hol,hcl⟩
    unfold Builtin.«set.__init__» noKeywords Builtin.Frozenset.updateFrom;generalize hPI:pyIter=PI
    wp_walk
    subst hPI;refine g2h hl1 ?_;refine g9 (wpAny_runValue ?_);have hlS:l<s.heap.objs.size:=let⟨_,h0,_⟩:=hl;gu h0
    have hh3:A.in1.in1.in1.handled=none:=by simp [hh]
    have hneI:l≠(s.heap.push (vx w)).objs.size:=by
     rw [ph];exact m4 (g15 hlS)
    have hSf:s.heap.objs.size∉[(s.heap.push (vx w)).objs.size,l]:=by
     rw [ph];simp only [mh,g00,uk,g0o,g58];exact⟨m4 (t8 _),pd hlS⟩
    have hval:∀(i:Nat) (v:Value),(qs.map iv).toArray[i]? = some v->∃p,qs[i]? = some p/\v=iv p:=fun i v hv=>by
     simp only [List.getElem?_toArray,mq,gp] at hv;obtain⟨p,e1,e2⟩:=hv;exact⟨p,e1,e2.symm⟩
    have W:=(Walks.tuple (prog:=prog) (w:=w) hh3 (s.heap.push (vx w)).objs.size l hneI (qs.map iv).toArray).toS;have hsz:(qs.map iv).toArray.size=qs.length:=by simp
    rw [hsz] at W;refine qrr qs hq W s.heap.objs.size hSf hval (qs.length-0) 0 _ (.fresh 0 0 (!byT w)) [] (by lia) (u6 _)
     ⟨⟨_,gs _ rfl,rfl,rfl⟩,(hl1.push _)⟩ (qhc (gh _ hS)) ⟨fun _=>rfl,fun h=>by simp at h⟩ (fun n=>by simp) fun s' t' ks' hm hS' hM' hi'=>?_
    obtain⟨h',g',d',tk',os'⟩:=s';have eg:g'=s.gens:=hm.gens;have ed:d'=s.drawn:=hm.drawn;have eo:os'=s.os:=hm.os;have etk:s.toks<=tk':=hm.toks;subst eg;subst ed;subst eo;show wpAny _ _ _ _ _ _;refine gf ?_;show wpAny _ _ (ret Value.none) _ _ _;refine gf ⟨rfl,h',tk',t',ks',rfl,hS',hM',hi',etk,fun b o hb e=>?_⟩;have hb1:b≠s.heap.objs.size:=m4 hb;have hb2:b≠(s.heap.push (vx w)).objs.size:=by
     rw [ph];exact m4 (g15 hb)
    exact hm.heap b o (by simp only [mh,g00,uk,g0o,g58];exact⟨hb1,hb2⟩) (gh _ (gh _ e))
   ·cases r₂ with
    | error e=>exact hr₂
    | ok fl₂=>
     cases fl₂ with
     | ret r=>
      obtain⟨rfl,h',tk,t,ks,rfl,hS',hM',hi',htk',hk'⟩:=hr₂
      repeat (any_goals (first|assumption|wp_step))
      exact h _ _ _ _ hS' hM' hi' htk' hk'
     | _=>exact hr₂.elim
  | _=>exact hr.elim
end
theorem qhe:Manifest.owners.lookup (String.ofList ['r','o','t','a','r','e','t','i','_','t','e','s'].reverse)=some Manifest.sig_set_iterator:=by kernel_rfl
theorem slot_si_next:Slot "set_iterator" "__next__" "set_iterator.__next__" :=
 .of (owner:="set_iterator") (n:="__next__") (by rw [g1m,g0c];kernel_rfl) (by decide +kernel) (by decide +kernel) (by decide +kernel)
  (by first|exact .inl (by decide +kernel)|exact .inr (by decide +kernel)) (by rw [g1x];kernel_rfl)
theorem q6i:entryFor table "set_iterator.__next__" = some Builtin.«set_iterator.__next__» :=entryFor_of_tree (by kernel_rfl)
theorem q7k(a:Value): argsOk "set_iterator.__next__" ⟨[a],[]⟩:=by
 unfold argsOk;rw [signature?_of (id:="set_iterator.__next__") (n:=['_','_','t','x','e','n','_','_']) (o:=['r','o','t','a','r','e','t','i','_','t','e','s']) (by kernel_rfl) qhe];kernel_rfl
theorem q7l:Slot "set_iterator" "__iter__" "set_iterator.__iter__" :=
 .of (owner:="set_iterator") (n:="__iter__") (by rw [g1m,g0c];kernel_rfl) (by decide +kernel) (by decide +kernel) (by decide +kernel)
  (by first|exact .inl (by decide +kernel)|exact .inr (by decide +kernel)) (by rw [g1x];kernel_rfl)
theorem qf8:entryFor table "set_iterator.__iter__" = some Builtin.«dict_keyiterator.__iter__» :=
 entryFor_alias (id':="dict_keyiterator.__iter__") (by kernel_rfl) rfl (by decide +kernel) (by kernel_rfl)
theorem qhf(a:Value): argsOk "set_iterator.__iter__" ⟨[a],[]⟩:=by
 unfold argsOk;rw [signature?_of (id:="set_iterator.__iter__") (n:=['_','_','r','e','t','i','_','_']) (o:=['r','o','t','a','r','e','t','i','_','t','e','s']) (by kernel_rfl) qhe];kernel_rfl
theorem qdg:entryFor table "set.__iter__" = some Builtin.«frozenset.__iter__» :=
 entryFor_alias (id':="frozenset.__iter__") (by kernel_rfl) rfl (by decide +kernel) (by kernel_rfl)
def SIt(h:Heap)(it a:Addr)(slot i n ep:Nat): Prop:=∃o,h.get? it=some o/\o.cls=.type "set_iterator" /\ o.data=.fields #[.int slot 0,.int i 0,.ref a,.int n 0,.int ep 0]
def Row(w:World)(a:Addr)(ep:Nat)(ks vals:Tf): Prop:=
 (byT w=true->(vals.map el).toArray=pickOrder (w.params.setOrder a ep) (ks.map el).toArray)/\(byT w=false->vals=ks)
theorem qy8(w:World)(a:Addr)(ep:Nat)(ks:Tf): ∃vals,Row w a ep ks vals/\vals.Perm ks:=by
 cases hb:byT w
 ·exact⟨ks,⟨by simp [hb],fun _=>rfl⟩,g59 _⟩
 ·have hp:=q4v (w.params.setOrder a ep) (ks.map el).toArray
  generalize hx:pickOrder (w.params.setOrder a ep) (ks.map el).toArray=xs at hp;have hp':xs.toList.Perm (ks.map el):=by simpa using hp
  obtain⟨ls,hl,e⟩:=qa9 hp';refine⟨ls,⟨fun _=>?_,by simp [hb]⟩,hl⟩;rw [hx, <- e]
def SAt(w:World)(h:Heap)(a:Addr)(t:SetTable)(ks:Tf)(ep:Nat): Prop:=
 (∃o,h.get? a=some o/\o.ExactSet/\o.data=.set (ks.map el).toArray ep t)/\Tb t ks/\t.led=(!byT w)/\(t.mask=7->ks.length<8)
def Far(w:World)(t:SetTable)(slot i:Nat): Prop:=byT w=false->(∀x∈t.place.toList.take i,x<slot)/\(∀x∈t.place.toList.drop i,slot<=x)
section
variable{prog:Program}{w:World}{A:Around}{E:Ta}{s:Shared}{a it:Addr}{t:SetTable}{ks vals:Tf}{ep slot i:Nat}
theorem SAt.typeIs(S:SAt w s.heap a t ks ep): s.TypeIs (.ref a) "set" :=let⟨⟨o,ho,hc,_⟩,_⟩:=S; ⟨o,ho,hc.1⟩
theorem SIt.typeIs{n:Nat}(S:SIt s.heap it a slot i n ep): s.TypeIs (.ref it) "set_iterator" :=let⟨o,ho,hc,_⟩:=S; ⟨o,ho,hc⟩
theorem SAt.state{Q:(Array (Int×Value)×Nat×SetTable)->Shared->Prop}(S:SAt w s.heap a t ks ep)(h:Q ((ks.map el).toArray,ep,t) s): wpAny (model prog w) A (setState a) Q E s:=by
 obtain⟨⟨o,ho,hc,hd⟩,T,l,h7⟩:=S;exact g2v ho hd (q5s T h7) h
theorem SAt.keep{h h':Heap}(S:SAt w h a t ks ep)(e:∀o,h.get? a=some o->h'.get? a=some o): SAt w h' a t ks ep:=by
 obtain⟨⟨o,ho,r⟩,q⟩:=S;exact⟨⟨o,e o ho,r⟩,q⟩
theorem qrs{Q:Ta}(S:SAt w s.heap a t ks ep)(h:Q (.ref s.heap.objs.size) {s with heap:=s.heap.push {cls:=.type "set_iterator",data:=.fields #[.int 0 0,.int 0 0,.ref a,.int ks.length 0,.int ep 0]} }):
  wpAny (model prog w) A (pyIter (.ref a)) Q E s:=by
 refine wpAny_pyIter_slot S.typeIs F.slot_set_iter (pj F.slot_set_iter S.typeIs qdg ?_ (F.args_set_iter_1 _));unfold Builtin.«frozenset.__iter__»;refine g9 (m:=Builtin.Frozenset.slot0 "__iter__" _) (gf ?_);refine g9 ?_;unfold Builtin.Frozenset.sizeOf setEntries;refine g9 (g9 (S.state (gf (gf ?_))));refine g9 ?_;unfold setDrawn setsByText;refine g9 (S.state ?_);dsimp only;refine g9 (g9 (t5 (gf (gf ?_))));refine p9 (fun c=>?_) (fun _=>?_)
 ·have c':(!byT w&&(!t.plain&&decide ((ks.map el).toArray.size>1)))=true:=c
  rw [S.2.1.pl] at c';simp at c'
 refine g9 (gf ?_);refine g9 ?_;unfold setEpoch;refine g9 (S.state (gf ?_));have hsz:(ks.map el).toArray.size=ks.length:=by simp
 rw [hsz];refine g9 (pb (gf ⟨_,rfl,"set_iterator",_,⟨_,gs _ rfl,rfl⟩,slot_si_next.lookup,?_⟩));exact h
theorem qbq{h:Heap}{o:Obj}{vs:Array Value}{x:Value}{j:Nat}(ho:h.get? it=some o)(hd:o.data=.fields vs):
  ∃o',(h.update it (Obj.mapFields (·.setIfInBounds j x))).get? it=some o'/\o'.cls=o.cls/\o'.data=.fields (vs.setIfInBounds j x):=
 ⟨_,pk _ ho (g0y (g01 hd _)),Obj.cls_mapFields ..,g01 hd _⟩
theorem next_item{Q:Option Value->Shared->Prop}{p:Nat×Nat}(I:SIt s.heap it a slot i ks.length ep)(S:SAt w s.heap a t ks ep)(R:Row w a ep ks vals)(F:Far w t slot i)(hp:vals[i]? = some p)
  (h:∀h' slot',SIt h' it a slot' (i+1) ks.length ep->Far w t slot' (i+1)->Heap.SameBut it s.heap h'->Q (some (.int (p.1:Int) p.2)) {s with heap:=h'}) :
  wpAny (model prog w) A (pyNext (.ref it)) Q E s:=by
 obtain⟨o,ho,hc,hd⟩:=id I;unfold pyNext;refine g9 (g1i (tw (name:=Str.ofString "__next__") I.typeIs slot_si_next
  (pj slot_si_next I.typeIs q6i ?_ (q7k _))))
 unfold Builtin.«set_iterator.__next__»;refine g9 (m:=slotArgs "__next__" 0 _) (gf ?_);dsimp only;refine g9 (wpAny_fieldsOf ho hd ?_);dsimp only;unfold setEntries;refine g9 (g9 (S.state (gf ?_)));have hsz:(((ks.map el).toArray.size:Int) != (ks.length:Int))=false:=by simp
 dsimp only;rw [hsz];simp only [my, ↓reduceIte,uq];have key:∃slot',Far w t slot' (i+1)/\∀ {Q':Option (Value×Nat)->Shared->Prop} {E':Ta},Q' (some (.int (p.1:Int) p.2,slot')) s->wpAny (model prog w) A.in1 (setNext a slot i ep) Q' E' s:=by
  cases hb:byT w
  ·have hv:vals=ks:=R.2 hb
   rw [hv] at hp;obtain⟨f1,f2⟩:=F hb;have hpl:t.place=(t.place.toList.take i++t.place.toList.drop i).toArray:=by simp
   have hi:i<ks.length:=(nj.mp hp).1;have hi':i<t.place.toList.length:=by rw [S.2.1.sz];exact hi
   have hbel:SetTable.below t.place slot=i:=by
    rw [hpl,below_at f1 f2];simp at hi' ⊢;lia
   have hpj:t.place[i]? = some (t.place.toList[i]):=by rw [<- g38];exact mw hi'
   have hei:(ks.map el).toArray[i]? = some (el p):=by simp [hp]
   have hdr:t.place.toList.drop i=t.place.toList[i] :: t.place.toList.drop (i+1):=g2a hi';have htk:t.place.toList.take (i+1)=t.place.toList.take i++[t.place.toList[i]]:=by
    rw [g3s,mw hi'];rfl
   have hrs:=S.2.1.rs;rw [<- g0z i t.place.toList,hdr] at hrs;obtain⟨r1,r2,r3⟩:=g24.mp hrs;refine⟨t.place.toList[i]+1,fun _=>⟨fun x hx=>?_,fun x hx=>?_⟩,fun {Q'} {E'} q=>?_⟩
   ·rw [htk] at hx
    rcases ud.mp hx with h|h
    ·have:=r3 x h _ (ma ..);lia
    ·have:=g00.mp h;lia
   ·have:=(g1l.mp r2).1 x hx;lia
   ·unfold setNext setsByText
    refine g9 (S.state ?_);dsimp only;refine g9 (g9 (t5 (gf ?_)));refine p9 (fun c=>?_) (fun _=>?_)
    ·have c':byT w=true:=c
     rw [hb] at c';exact absurd c' (by decide)
    refine p9 (fun c=>?_) (fun _=>?_)
    ·have c':(!t.plain&&decide ((ks.map el).toArray.size>1))=true:=c
     rw [S.2.1.pl] at c';simp at c'
    have hld:t.led=true:=by rw [S.2.2.1,hb];rfl
    show wpAny _ _ ((do if !t.led && !(ks.map el).toArray.isEmpty then unsupported "set:maker-not-led" : Sem Unit) >>= fun _=>_) _ _ _;rw [hld];simp only [g27,g3q,my, ↓reduceIte];refine g9 (gf (gf ?_));rw [hbel,hei,hpj];exact q
  ·have hv:=R.1 hb
   refine⟨slot,fun c=>?_,fun {Q'} {E'} q=>?_⟩
   ·rw [hb] at c;exact absurd c (by decide)
   ·unfold setNext setsByText
    refine g9 (S.state ?_);dsimp only;refine g9 (g9 (t5 (gf ?_)));refine p9 (fun _=>?_) (fun c=>absurd hb c);rw [mf (by simp)];refine g9 ?_;unfold setWalk setsByText;refine g9 (S.state ?_);dsimp only;refine g9 (g9 (t5 (gf ?_)));refine p9 (fun _=>?_) (fun c=>absurd hb c);refine g9 (t5 (gf (gf ?_)));have:(pickOrder (w.params.setOrder a ep) (ks.map el).toArray)[i]? = some (el p):=by rw [<- hv];simp [hp]
    show Q' (((pickOrder (w.params.setOrder a ep) (ks.map el).toArray)[i]?).map fun e=>(e.2,slot)) s;rw [this];exact q
 obtain⟨slot',F',kn⟩:=key;refine g9 (kn ?_);dsimp only;refine g9 (g0b ho hd (by simp) ?_);obtain⟨o1,ho1,hc1,hd1⟩:=qbq (x:=rawInt slot') (j:=0) ho hd;refine g9 (g0b (s:={s with heap:=s.heap.update it (Obj.mapFields (·.setIfInBounds 0 (rawInt slot')))}) ho1 hd1 (by simp) (gf ⟨_,rfl,gf (h _ slot' ?_ F' ((t9 ..).trans (t9 ..)))⟩));obtain⟨o2,ho2,hc2,hd2⟩:=qbq (x:=rawInt (i+1)) (j:=1) ho1 hd1;exact⟨o2,ho2,hc2.trans (hc1.trans hc),by rw [hd2];simp [rawInt]⟩
theorem next_end{Q:Option Value->Shared->Prop}(hh:A.handled=none)(hi:i=ks.length)(I:SIt s.heap it a slot i ks.length ep)(S:SAt w s.heap a t ks ep)(R:Row w a ep ks vals)(hvl:vals.length=ks.length)(F:Far w t slot i)
  (h:∀h',Heap.ExtBut it s.heap h'->Q none {s with heap:=h'}) :
  wpAny (model prog w) A (pyNext (.ref it)) Q E s:=by
 obtain⟨o,ho,hc,hd⟩:=id I;unfold pyNext;refine g9 (g1i (tw (name:=Str.ofString "__next__") I.typeIs slot_si_next
  (pj slot_si_next I.typeIs q6i ?_ (q7k _))))
 unfold Builtin.«set_iterator.__next__»;refine g9 (m:=slotArgs "__next__" 0 _) (gf ?_);dsimp only;refine g9 (wpAny_fieldsOf ho hd ?_);dsimp only;unfold setEntries;refine g9 (g9 (S.state (gf ?_)));have hsz:(((ks.map el).toArray.size:Int) != (ks.length:Int))=false:=by simp
 dsimp only;rw [hsz];simp only [my, ↓reduceIte,uq];have key:∀ {Q':Option (Value×Nat)->Shared->Prop} {E':Ta},Q' none s->wpAny (model prog w) A.in1 (setNext a slot i ep) Q' E' s:=by
  intro Q' E' q;unfold setNext setsByText;refine g9 (S.state ?_);dsimp only;refine g9 (g9 (t5 (gf ?_)));cases hb:byT w
  ·refine p9 (fun c=>?_) (fun _=>?_)
   ·have c':byT w=true:=c
    rw [hb] at c';exact absurd c' (by decide)
   refine p9 (fun c=>?_) (fun _=>?_)
   ·have c':(!t.plain&&decide ((ks.map el).toArray.size>1))=true:=c
    rw [S.2.1.pl] at c';simp at c'
   have hld:t.led=true:=by rw [S.2.2.1,hb];rfl
   show wpAny _ _ ((do if !t.led && !(ks.map el).toArray.isEmpty then unsupported "set:maker-not-led" : Sem Unit) >>= fun _=>_) _ _ _;rw [hld];simp only [g27,g3q,my, ↓reduceIte];refine g9 (gf (gf ?_));obtain⟨f1,f2⟩:=F hb;have hpl:t.place=(t.place.toList.take i++t.place.toList.drop i).toArray:=by simp
   have hbel:SetTable.below t.place slot=i:=by
    rw [hpl,below_at f1 f2];have:=S.2.1.sz;simp at this ⊢;lia
   have hei:(ks.map el).toArray[i]? = none:=by simp [hi]
   rw [hbel,hei];exact q
  ·refine p9 (fun _=>?_) (fun c=>absurd hb c)
   rw [mf (by simp)];refine g9 ?_;unfold setWalk setsByText;refine g9 (S.state ?_);dsimp only;refine g9 (g9 (t5 (gf ?_)));refine p9 (fun _=>?_) (fun c=>absurd hb c);refine g9 (t5 (gf (gf ?_)));have:(pickOrder (w.params.setOrder a ep) (ks.map el).toArray)[i]? = none:=by rw [<- R.1 hb];simp [hi,hvl]
   show Q' (((pickOrder (w.params.setOrder a ep) (ks.map el).toArray)[i]?).map fun e=>(e.2,slot)) s;rw [this];exact q
 refine g9 (key ?_);dsimp only;refine g9 (g0b ho hd (by simp) ?_);show wpAny _ _ (newExc (.type "StopIteration") [] >>= _) _ _ _;refine g9 ?_;simp only [newExc,newTuple];refine g9 (pb ?_ (by size_fits));refine g9 (m:=firstArgMember _ _) (g50 (a:=Value.none) (by first|rfl|(simp only [firstArgMember];rfl)) ?_);refine pb ?_ (by size_fits);simp only [raiseNew];refine g9 (wpAny_handled ?_)
 first|rw [show A.in1.handled=none from hh]|rw [hh]
 refine g9 (gf (wpAny_throw ?_));refine g9 (g22 (T:="StopIteration") (b:=true) ⟨_,gs _ rfl,rfl⟩ isSubtype_stop ?_);exact gf (h _ (((t9 ..).extBut.push _).push _))
theorem qor(hh:A.handled=none)(hne:a≠it)(R:Row w a ep ks vals)(hvl:vals.length=ks.length):
  Walks prog w A it [it,a] [it] ks.length (fun i v=>∃p,vals[i]? = some p/\v=.int (p.1:Int) p.2) (fun i h=>∃slot,SIt h it a slot i ks.length ep/\SAt w h a t ks ep/\Far w t slot i) where
 sub:=fun b hb=>by simp at hb;simp [hb]
 frame:=fun i h h' st hk=>by
  obtain⟨slot,⟨o,ho,r⟩,S,F⟩:=st;exact⟨slot,⟨o,hk it (by simp) o ho,r⟩,S.keep (fun o e=>hk a (by simp) o e),F⟩
 item:=fun i s Q E hi st hQ=>by
  obtain⟨slot,I,S,F⟩:=st;have hi':i<vals.length:=by lia
  refine next_item I S R F (mw hi') fun h' slot' I' F' sb=>?_;exact hQ _ h' s.toks ⟨_,mw hi',rfl⟩ ⟨slot',I',S.keep (fun o e=>sb.extBut a o hne e),F'⟩ fun b o hb e=>sb.extBut b o (fun h=>hb (by simp [h])) e
 done:=fun s Q E st hQ=>by
  obtain⟨slot,I,S,F⟩:=st;exact next_end hh rfl I S R hvl F fun h' he=>hQ h' s.toks fun b o hb e=>he b o (fun h=>hb (by simp [h])) e
 self:=fun i s Q E st hQ=>by
  obtain⟨slot,I,S,F⟩:=st;refine wpAny_pyIter_slot I.typeIs q7l (pj q7l I.typeIs qf8 ?_ (qhf _));show wpAny _ _ (ret (.ref it)) _ _ s;exact gf ⟨_,rfl,"set_iterator",_,I.typeIs,slot_si_next.lookup,hQ⟩
end
end Js
namespace Js
open PySem PyProof.Rows
section
variable{prog:Program}{w:World}{A:Around}{E:Ta}{s:Shared}{a:Addr}{t:SetTable}{ks vals:Tf}{ep:Nat}
theorem qrt{Q:Bool->Shared->Prop}(hT:s.TypeIs (.ref a) "set")(h:Q false s): wpAny (model prog w) A (Builtin.List.listLengthHint (.ref a)) Q E s:=by
 unfold Builtin.List.listLengthHint;refine g9 (wpAny_specialOf hT F.slot_set_len.lookup ?_);generalize hid:("set.__len__" : String)=id0;dsimp only;rw [show splitId id0=some ("set","__len__") from by subst hid;decide +kernel];subst hid;dsimp only;refine g9 (g22 (T:="set") (b:=true) hT (by rw [g1x];kernel_rfl) ?_);refine p9 (fun hab=>absurd hab (by decide)) (fun _=>?_);refine p9 (fun _=>?_) (fun hab=>absurd (by decide +kernel) hab);refine g9 (g08 hT ?_);exact gf h
def iv'(p:Nat×Nat): Value:=.int (p.1:Int) p.2
theorem qru{vals:Tf}{n:Nat}{acc:Array Value}(hn:vals.length=n)(h:ItemsOf (fun i v=>∃p,vals[i]? = some p/\v=.int (p.1:Int) p.2) acc n): acc.toList=vals.map iv':=by
 apply List.ext_getElem?;intro i
 by_cases hi:i<n
 ·have h1:i<acc.size:=by rw [h.1];exact hi
  have e:acc[i]? = some acc[i]:=g4d h1;obtain⟨p,hp,hv⟩:=h.2 i _ e;rw [g38,e,mq,hp,hv];rfl
 ·rw [g38,Array.getElem?_eq_none (by rw [h.1];omega),mq,g1y (by omega)];rfl
theorem qjb{Q:List Value->Shared->Prop}(hh:A.handled=none)(S:SAt w s.heap a t ks ep)
  (h:∀(s':Shared) (vals:Tf),vals.Perm ks->(∀b o,b<s.heap.objs.size->s.heap.get? b=some o->s'.heap.get? b=some o)->s.heap.objs.size<=s'.heap.objs.size->s'.gens=s.gens->s'.drawn=s.drawn->s'.os=s.os->s.toks<=s'.toks->Q (vals.map iv') s') :
  wpAny (model prog w) A (collect (.ref a)) Q E s:=by
 have hla:a<s.heap.objs.size:=let⟨⟨o,ho,_⟩,_⟩:=S;gu ho
 unfold collect;refine g9 (wpAny_runValue (pq F.entry_proto_collect ?_));rw [p5 F.plain_proto_collect _];show wpAny _ A.in1 (newList [] >>= fun l=>again (.builtin "list.__iadd__" ⟨[l,.ref a],[]⟩)) _ _ s;refine g9 (pb ?_);refine gf ⟨g09 g2t _,pq F.entry_list_iadd ?_⟩;rw [p5 g2t _]
 let lo:Obj:={cls:=.type "list",data:=.seq ([]:List Value).toArray}
 have S1:SAt w (s.heap.push lo) a t ks ep:=S.keep fun o e=>gh _ e;show wpAny _ A.in1 (Builtin.List.listExtendWith (.ref s.heap.objs.size) (.ref a) (.ref s.heap.objs.size)) _ _ _;unfold Builtin.List.listExtendWith;refine g9 (g08 S1.typeIs ?_);have h1:Builtin.List.listSameRef (.ref s.heap.objs.size) (.ref a)=false:=by simp [Builtin.List.listSameRef];exact pd hla
 have h2:(Value.type "set" == Value.type "list")=false:=by decide
 have h3:(Value.type "set" == Value.type "tuple")=false:=by decide
 simp only [h1,h2,h3,Bool.or_false,my,g11]
 let io:Obj:={cls:=.type "set_iterator",data:=.fields #[.int 0 0,.int 0 0,.ref a,.int ks.length 0,.int ep 0]}
 refine g9 (qrs (s:={s with heap:=s.heap.push lo}) S1 ?_);have hsz1:(s.heap.push lo).objs.size=s.heap.objs.size+1:=ph ..;have S2:SAt w ((s.heap.push lo).push io) a t ks ep:=S1.keep fun o e=>gh _ e;refine g9 (nr (qrt (s:={s with heap:=(s.heap.push lo).push io}) S2.typeIs ?_));refine p9 (fun _=>?_) (fun hab=>absurd (by decide +kernel) hab);refine g9 (g0f ?_);have hL1:((s.heap.push lo).push io).get? s.heap.objs.size=some lo:=gh _ (gs _ rfl);refine g9 ?_;show wpAny _ A.in1 (updateSeq s.heap.objs.size (·.push .none) >>= fun _=>updateSeq s.heap.objs.size (·.pop)) _ _ _;refine g9 (g4w (s:={s with heap:=(s.heap.push lo).push io}) hL1 rfl ?_);have hL2:=pk (Obj.mapSeq (·.push Value.none)) hL1 rfl;refine g4w hL2 rfl ?_;have hL3:=pk (Obj.mapSeq (·.pop)) hL2 rfl
 let h3':=(((s.heap.push lo).push io).update s.heap.objs.size (Obj.mapSeq (·.push Value.none))).update s.heap.objs.size (Obj.mapSeq (·.pop))
 have oth:∀b o,b≠s.heap.objs.size->((s.heap.push lo).push io).get? b=some o->h3'.get? b=some o:=
  fun b o hb e=>(ni _ _ (ml hb)).trans ((ni _ _ (ml hb)).trans e)
 obtain⟨vals,hR,hvp⟩:=qy8 w a ep ks;have hvl:vals.length=ks.length:=hvp.length_eq;have W:=(qor (prog:=prog) (w:=w) (A:=A.in1) (it:=(s.heap.push lo).objs.size) (t:=t) (vals:=vals) (by simpa using hh) (by rw [hsz1];exact m4 (g15 hla)) hR hvl).toS;have hIt:SIt h3' (s.heap.push lo).objs.size a 0 0 ks.length ep:=⟨io,oth _ _ (by rw [hsz1];exact Nat.succ_ne_self _) (gs _ rfl),rfl,rfl⟩
 have hn12:=S.2.1.n12;refine gf ⟨g09 F.plain_extend_loop _,codeAny_extend_loopS W (by rw [g03];omega) s.heap.objs.size (by rw [hsz1];simp only [mh,uk,g0o,g58];exact⟨m4 (t8 _),pd hla⟩) _ ks.length 0 _ _ _ rfl (u6 _)
  ⟨0,hIt,S2.keep fun o e=>oth a o (m4 hla) e,fun _=>⟨by simp,by simp⟩⟩ hL3 (ItemsOf.nil _) fun s' acc' c' hm hS' hacc=>?_⟩
 show wpAny _ A (load s.heap.objs.size >>= _) _ _ s';refine g9 (wpAny_load hS' ?_);refine gf ?_;rw [qru hvl hacc];refine h s' vals hvp (fun b o hb e=>hm.heap b o (by rw [hsz1];simp only [mh,uk,g0o,g58];exact⟨m4 hb,m4 (g15 hb)⟩) (oth b o (m4 hb) (gh _ (gh _ e)))) (g3b (gu hS')) hm.gens hm.drawn hm.os hm.toks
theorem qm7{Q:Ta}(hh:A.handled=none)(S:SAt w s.heap a t ks ep)
  (h:∀(h':Heap) (tk:Nat) (c:Addr) (out:List Value) (ns':List Int) (e:Nat),IntsAre out ns'->ns'.Perm (ks.map fun p=>(p.1:Int))->ns'.Pairwise (· <= ·)->(∀b o,b<s.heap.objs.size->s.heap.get? b=some o->h'.get? b=some o) ->
   s.heap.objs.size<=c->h'.get? c=some (seqObj "list" out.toArray e)->s.toks<=tk->Q (.ref c) {s with heap:=h',toks:=tk}) :
  wpAny (model prog w) A (call (.builtin "sorted") [.ref a]) Q E s:=by
 refine Calls.call_function_entry kind_sorted plain_sorted entry_sorted (args_sorted1 _) ?_;unfold Builtin.«sorted»;refine g9 (m:=checkCount "sorted" 1 1 _) (gf ?_);have hn12:=S.2.1.n12;refine g9 (qjb (A:=A.in1) (by simpa using hh) S fun s1 vals hp hk hz hg hd ho ht=>?_);have hvl:vals.length=ks.length:=hp.length_eq;refine g9 (wpAny_newList ?_);have hoL:(s1.heap.push (seqObj "list" (vals.map iv').toArray 0)).get? s1.heap.objs.size=some (seqObj "list" (vals.map iv').toArray 0):=gs _ rfl;have hI:IntsAre (vals.map iv') (vals.map fun p=>(p.1:Int)):=by
  clear hoL hvl hp
  induction vals with
  | nil=>exact .nil
  | cons p l ih=>exact .cons _ _ ih
 refine g9 (nr (pj slot_list_sort ⟨_,hoL,rfl⟩ entry_list_sort (list_sort_tree (s:={s1 with heap:=s1.heap.push (seqObj "list" (vals.map iv').toArray 0)}) hoL hI (by simp;omega) fun out ns' a1 a2 a3=>⟨_,rfl,?_⟩) (args_list_sort _)));refine gf ⟨_,rfl,?_⟩;obtain⟨h1,g1,d1,t1,o1⟩:=s1;dsimp only at hk hz hg hd ho ht hoL;subst hg;subst hd;subst ho;have hz1:(h1.push (seqObj "list" (vals.map iv').toArray 0)).objs.size=h1.objs.size+1:=ph ..;have e1:=g1n hoL (fun _=> #[]);have e2:=gh (seqObj "tuple" (vals.map iv').toArray 0) e1;have e3:=gh (seqObj "list" #[] 0) e2;have e4:=g1n e3 (fun _=>out);refine h (sortedHeap (h1.push (seqObj "list" (vals.map iv').toArray 0)) h1.objs.size (vals.map iv') out) t1 h1.objs.size out.toList ns' _ a1 (a2.trans (hp.map _)) a3 (fun b ob hb e=>?_) hz (by unfold sortedHeap;simpa using e4) ht;have nb:b≠h1.objs.size:=m4 (gx hb hz);unfold sortedHeap;refine(ni _ _ (ml nb)).trans ?_;refine gh _ (gh _ ?_);refine(ni _ _ (ml nb)).trans ?_;exact gh _ (hk b ob hb e)
end
end Js
namespace DL
open PySem PySem.Spec PyProof.Rows L2
variable[Lam][Pin]
def qdh:List D->Option (List Nat)
 | []=>some []
 | .int i :: r=>if 0<=i/\i<12 then(qdh r).map (i.toNat :: ·) else none
 | _ :: _=>none
def qtr:D->D->Option (List D)
 | .tup ds,.tup es=>(qdh ds).bind fun a=>(qdh es).bind fun b=>some (((List.range 12).filter fun n=>decide (n∈a\/n∈b)).map fun n=>D.int (n:Nat))
 | _,_=>none
def qts(f g:FE): FA:=fun ρ =>(f ρ).bind fun x=>(g ρ).bind fun y=>qtr x y
def q5t(w:World)(a:Addr)(ns:List Nat): HO:=.ext fun h=>∃t ks,Js.SI w h a t ks/\Js.MR t ks/\∀n,n∈ks.map Prod.fst↔n∈ns
def qm8(w:World)(a:Addr)(ns:List Nat): HO:=.ext fun h=>∃t ks,Js.SI w h a t ks/\(t.mask=7->ks.length<8)/\∀n,n∈ks.map Prod.fst↔n∈ns
def z1w(K:Frag)(w:World): List V->Hp->VK->Prop:=fun xs H Q=>∃F ds ns,Same F H/\RepL K F [.tup ds] xs/\qdh ds=some ns/\∀a,H a=none->Q (.ref a) (upd H a (q5t w a ns))
def rOr(w:World): R2:=fun x y H Q=>∃a b ns ms,x=.ref a/\y=.ref b/\a≠b/\H a=some (q5t w a ns)/\H b=some (q5t w b ms)/\∀c,H c=none->Q (.ref c) (upd H c (qm8 w c (ns++ms)))
def z0q(w:World): List V->Hp->VK->Prop:=fun xs H Q=>∃a ns,xs=[.ref a]/\H a=some (qm8 w a ns)/\∀c,H c=none->Q (.ref c) (upd H c (.lst (((List.range 12).filter fun n=>decide (n∈ns)).map fun n=>V.int (n:Nat))))
omit [Lam] [Pin] in
theorem qek{K:Frag}{F:Hp}: ∀ {ds:List D} {ys:List V} {its:List Value} {ns:List Nat},qdh ds=some ns->RepL K F ds ys->Vals ys its->∃qs:Tf,its=qs.map Js.iv/\(∀p∈qs,p.1<12)/\qs.map Prod.fst=ns
 | [],ys,its,ns,h,k,r=>by
  cases h;cases k.nil_inv;cases r;exact⟨[],rfl,by simp,rfl⟩
 | .int i :: ds,ys,its,ns,h,k,r=>by
  unfold qdh at h
  split at h
  ·rename_i hi
   obtain⟨ms,h1,rfl⟩:=gp.mp h;obtain⟨x,ys',rfl,a1,a2⟩:=k.cons_inv;cases rep_int.mp a1;cases r with
   | cons b1 b2=>
    obtain⟨qs,e1,e2,e3⟩:=qek h1 a2 b2;obtain⟨tk,rfl⟩:=b1;refine⟨(i.toNat,tk) :: qs,?_,?_,by simp [e3]⟩
    ·rw [e1,m5]
     congr 1
     show _=Value.int ((i.toNat:Nat):Int) tk;rw [g1e hi.1]
    ·intro p hp
     rcases mh.mp hp with rfl|hp
     ·show i.toNat<12
      lia
     ·exact e2 p hp
  ·cases h
 | .non :: _,_,_,_,h,_,_=>by cases h
 | .bl _ :: _,_,_,_,h,_,_=>by cases h
 | .str _ :: _,_,_,_,h,_,_=>by cases h
 | .tup _ :: _,_,_,_,h,_,_=>by cases h
 | .lst _ :: _,_,_,_,h,_,_=>by cases h
 | .dct _ _ :: _,_,_,_,h,_,_=>by cases h
 | .dtt _ _ :: _,_,_,_,h,_,_=>by cases h
 | .dt2 _ :: _,_,_,_,h,_,_=>by cases h
 | .obj _ :: _,_,_,_,h,_,_=>by cases h
 | .exc _ _ :: _,_,_,_,h,_,_=>by cases h
section
variable{X:Cx}
theorem qos(hc:X.calm=true): xk X (.type "set") (z1w X.K X.w):=fun pins s σ H xs us Q I rv ⟨F,ds,ns,fh,rl,hn,q⟩=>by
 obtain⟨x,rfl,rx⟩:=rep1 rl;obtain⟨a,ys,rfl,k1,k2⟩:=rep_tup.mp rx;obtain⟨u,rfl,ru⟩:=vals1 rv;cases ru;obtain⟨its,r1,p1,hz⟩:=I.tuple (z0 fh k1);obtain⟨qs,rfl,hq,rfl⟩:=qek hn k2 r1;refine Js.qdf qs hq (I.ok.hd hc) p1 fun h' tk t ks S M m ht old=>?_;have hnn:H s.heap.objs.size=none:=I.hok.fresh (m6 _);obtain⟨o,ep,ho,hx,hd⟩:=id S.ob;refine⟨.ref _,_,I.laid (t':=tk) (a:=s.heap.objs.size) (o:=q5t X.w s.heap.objs.size (qs.map Prod.fst)) (fun b ob qb=>old b ob (gu qb) qb) (m6 _) ⟨⟨t,ks,S,M,m⟩,⟨o,ho⟩,fun h1 h2 ⟨t,ks,S,M,m⟩ e=>⟨t,ks,S.keep e,M,m⟩⟩,rfl,q _ hnn⟩
theorem qy9:OpR X (binaryOp .BitOr) (rOr X.w):=fun pins s σ H x y v u Q I rx ry ⟨a,b,ns,ms,e1,e2,hab,ha,hb,q⟩=>by
 subst e1;subst e2;cases rx;cases ry;obtain⟨⟨t,ks,S,M,m⟩,_,_⟩:=I.hok a _ ha;obtain⟨⟨t',ks',S',M',m'⟩,_,_⟩:=I.hok b _ hb;have m7:∀ {t:SetTable} {ks:Tf},Js.MR t ks->t.mask=7->ks.length<8:=fun M e=>g18 fun c=>by
  have:=M.2 (by lia);lia
 refine Js.z0p hab S M.1 (m7 M) S' M'.1 (m7 M') fun h2 t2 ks2 old S2 h72 m2=>?_;have hnn:H s.heap.objs.size=none:=I.hok.fresh (m6 _);obtain⟨o,ep,ho,hx,hd⟩:=id S2.ob;refine⟨.ref _,_,I.laid (t':=s.toks) (a:=s.heap.objs.size) (o:=qm8 X.w s.heap.objs.size (ns++ms)) (fun c ob qb=>old c ob (gu qb) qb) (m6 _) ⟨⟨t2,ks2,S2,h72,fun n=>?_⟩,⟨o,ho⟩,fun h1 h2 ⟨t,ks,S,M,m⟩ e=>⟨t,ks,S.keep e,M,m⟩⟩,rfl,q _ hnn⟩;rw [m2 n,m n,m' n,ud]
theorem qvh(hc:X.calm=true): xk X (.builtin "sorted") (z0q X.w):=fun pins s σ H xs us Q I rv ⟨a,ns,e1,ha,q⟩=>by
 subst e1;obtain⟨u,rfl,ru⟩:=vals1 rv;cases ru;obtain⟨⟨t,ks,S,h7,m⟩,_,_⟩:=I.hok a _ ha;obtain⟨o,ep,ho,hx,hd⟩:=id S.ob;refine Js.qm7 (I.ok.hd hc) ⟨⟨o,ho,hx,hd⟩,S.tb,S.ld,h7⟩ fun h' tk c out ns' e hI hp hs old hc' hget ht=>?_;have hnn:H c=none:=I.hok.fresh hc';have hL:ns'=((List.range 12).filter fun n=>decide (n∈ns)).map fun n:Nat=>(n:Int):=by
  refine q7a (hp.trans ?_) hs ?_
  ·have:(ks.map Prod.fst).Perm ((List.range 12).filter fun n=>decide (n∈ns)):=by
    refine(g44 S.tb.nd (g19 _ g4p)).mpr fun n=>?_;rw [t6,g0n,decide_eq_true_iff, <- m n];refine⟨fun h=>⟨?_,h⟩,fun h=>h.2⟩;obtain⟨p,hp,rfl⟩:=p7.mp h;exact S.tb.lt p hp
   have h2:=this.map fun n:Nat=>(n:Int)
   rw [p6] at h2;exact h2
  ·rw [g2u]
   refine List.Pairwise.imp (fun {a b} h=>?_) (g19 _ (g54 (n:=12)));lia
 subst hL;have vo:=q1t hI;rw [p6] at vo;refine⟨.ref c,_,I.laid (t':=tk) (a:=c) (o:=.lst (((List.range 12).filter fun n=>decide (n∈ns)).map fun n=>V.int (n:Nat))) (fun b ob qb=>old b ob (gu qb) qb) hc' ⟨?_,out,e,vo,hget⟩,rfl,q _ hnn⟩;rw [gv];exact mi (nt _ _) (xn (by simp;decide))
theorem qvi{a b:Expr}{f g:FE}{p p1 p2 q1 q2 q3 pos:Pos}(hc:X.calm=true)(hgs:Gl X "sorted")(hms:X.mg "sorted" = none)(hgt:Gl X "set")(hmt:X.mg "set" = none)(ha:PE X a (tD X.K f))(hb:PE X b (tD X.K g))
  (s1:starEach [a] X.env=(false,eval a X.env) :: starEach [] X.env:=by rfl) (s2:starEach [b] X.env=(false,eval b X.env) :: starEach [] X.env:=by rfl)
  (s3:starEach [.BinOp (.Call (.Name "set" p1) [a] [] q1) .BitOr (.Call (.Name "set" p2) [b] [] q2) q3] X.env=(false,eval (.BinOp (.Call (.Name "set" p1) [a] [] q1) .BitOr (.Call (.Name "set" p2) [b] [] q2) q3) X.env) :: starEach [] X.env:=by rfl)
  (h1:∀pos,(backTo pos (starEach [] X.env)).any (·.1)=false:=by intro _;rfl) :
  PE X (.Call (.Name "sorted" p) [.BinOp (.Call (.Name "set" p1) [a] [] q1) .BitOr (.Call (.Name "set" p2) [b] [] q2) q3] [] pos) (tL X.K (qts f g)):=by
 refine zr (q9u (qvh hc) hgs hms boot_sorted (xm (qtd qy9 (q70 (qos hc) hgt hmt (T:="set") (by rfl) (xm ha wq s1) (he:=s1) (hpl:=h1 _)) (q70 (qos hc) hgt hmt (T:="set") (by rfl) (xm hb wq s2) (he:=s2) (hpl:=h1 _))) wq s3) (he:=s3) (hpl:=h1 _)) fun σ H Q ⟨F0,H0,F, ρ,ds,r,hf,q⟩=>?_;obtain⟨x,hx,hf⟩:=gc.mp hf;obtain⟨y,hy,hj⟩:=gc.mp hf;unfold qtr at hj
 split at hj
 ·rename_i xs ys
  obtain⟨ns,hn,hj⟩:=gc.mp hj;obtain⟨ms,hm,hj⟩:=gc.mp hj;cases hj;refine⟨F0,H0,F, ρ,.tup xs,r,hx,fun v F1 H1 g1 r1=>?_⟩;refine⟨F1,xs,ns,g1.fh,.cons r1 .nil,hn,fun c1 hc1=>?_⟩;have g2:Grow F1 H1 F1 (upd H1 c1 (q5t X.w c1 ns)):=Grow.own g1.fh hc1;refine⟨F0,H0,F1, ρ,.tup ys,r.grow (g1.trans g2),hy,fun u F3 H3 g3 r3=>?_⟩;refine⟨F3,ys,ms,g3.fh,.cons r3 .nil,hm,fun c2 hc2=>?_⟩;have g4:Grow F3 H3 F3 (upd H3 c2 (q5t X.w c2 ms)):=Grow.own g3.fh hc2;have e1:H3 c1=some (q5t X.w c1 ns):=g3.hh.ext _ _ za;have hne:c1≠c2:=jt e1 hc2;refine⟨c1,c2,ns,ms,rfl,rfl,hne,by rw [qr hne];exact e1,za,fun c3 hc3=>?_⟩;have g5:Grow F3 (upd H3 c2 (q5t X.w c2 ms)) F3 (upd (upd H3 c2 (q5t X.w c2 ms)) c3 (qm8 X.w c3 (ns++ms))):=Grow.own g4.fh hc3;refine⟨c3,ns++ms,rfl,za,fun c4 hc4=>?_⟩;have g6:=Grow.own (o:=.lst (((List.range 12).filter fun n=>decide (n∈ns++ms)).map fun n=>V.int (n:Nat))) g5.fh hc4;have gg:=g1.trans (g2.trans (g3.trans (g4.trans (g5.trans g6))));refine q c4 _ F3 _ gg (g5.fh.free hc4) ((g1.trans (g2.trans (g3.trans (g4.trans g5)))).hh.free hc4) za ?_
  ·have e:((List.range 12).filter fun n=>decide (n∈ns++ms))=(List.range 12).filter fun n=>decide (n∈ns\/n∈ms):=by
    congr 1;funext n;simp [ud]
   rw [e];have:=(RepL.ints (K:=X.K) (H:=F3) (ns:=((List.range 12).filter fun n=>decide (n∈ns\/n∈ms)).map fun n:Nat=>(n:Int)) (xs:=((List.range 12).filter fun n=>decide (n∈ns\/n∈ms)).map fun n=>V.int (n:Nat))).mpr (by rw [p6];rfl);rw [p6] at this;exact this
 ·cases hj
end
end DL
namespace Js
open PySem
open Sem (wp)
theorem qhg:typeLookup (.type "list") "keys" = pure none:=by rw [g1m,g0c];kernel_rfl
theorem qbr:typeLookup (.type "list") "__getattr__" = pure none:=by rw [g1m,g0c];kernel_rfl
section
variable{prog:Program}{w:World}{A:Around}{E:Ta}{s:Shared}{a:Addr}
theorem qot{xs:Array Value}{n:Nat}{u:Tok}{Q:Ta}{sl:Tg}(hx:s.heap.get? a=some {cls:=.type "list",dict:=none,data:=.seq xs n,slots:=sl})(hh:A.handled=none)
  (h:∀h' tk e,Heap.NewAttrErr s.heap h' e (.ref a) "keys" -> E (.ref e) {s with heap:=h',toks:=tk}) :
  wpAny (model prog w) A (call (.builtin "list.__getattribute__") [.ref a,.str "keys" u]) Q E s:=by
 refine pj g2j ⟨_,hx,rfl⟩ F.entry_list_ga ?_ (F.args_list_getattribute_2 _ _);obtain⟨hp,g,d,tk,os⟩:=s;have hT:(⟨hp,g,d,tk,os⟩:Shared).TypeIs (.ref a) "list" :=⟨_,hx,rfl⟩
 have f4:=qhg;unfold Builtin.«object.__getattribute__»
 repeat (any_goals (first|assumption|wp_step))
 exact wpAny_raiseAttrError (by simpa using hh) (fun h' tk e x=>h h' tk e x) (attrMsg_fits (by decide +kernel) (by size_fits))
theorem qou{xs:Array Value}{n:Nat}{Q:Option Value->Shared->Prop}{sl:Tg}(hx:s.heap.get? a=some {cls:=.type "list",dict:=none,data:=.seq xs n,slots:=sl})(hh:A.handled=none)
  (h:∀h' tk,(∀b o,s.heap.get? b=some o->h'.get? b=some o)->Q none {s with heap:=h',toks:=tk}) :
  wpAny (model prog w) A (getAttr? (.ref a) "keys") Q E s:=by
 obtain⟨hp,g,d,tk,os⟩:=s;have hT:(⟨hp,g,d,tk,os⟩:Shared).TypeIs (.ref a) "list" :=⟨_,hx,rfl⟩
 have f1:=sub_AttributeError;have f3:=g2j.lookup;have f4:=g2j.bind (.ref a);have f5:=qbr;unfold getAttr? getAttrBy? getAttrBy
 repeat (any_goals (first|assumption|((with_reducible show wpAny _ _ (call (Value.builtin "list.__getattribute__") _ _) _ _ _);refine qot hx (by first|exact hh|simpa using hh) fun h' tk' e x=>?_)|wp_step))
 obtain⟨t',u',he⟩:=x.there
 repeat (any_goals (first|assumption|wp_step))
 exact h _ _ x.keeps
end
end Js
namespace Js
open PySem
theorem q3m:entryFor table "dict.update.loop" = some Builtin.«dict.update.loop» :=entryFor_of_tree (by kernel_rfl)
theorem ym:plainId "dict.update.loop" = true:=by decide +kernel
abbrev TK(prog:Program)(w:World):=tupleKind (intKind prog w)
structure Prs{prog:Program}{w:World}{KT:Type}[DecidableEq KT](knd:HeapKind prog w KT)(h:Heap)(vs:List Value)(ps:List (KT×Addr×Value)): Prop where
 len:vs.length=ps.length
 pair:∀(i:Nat) (p:KT×Addr×Value),ps[i]? = some p->∃q,vs[i]? = some (.ref q)/\h.IsTuple q #[.ref p.2.1,p.2.2]
 key:∀p∈ps,knd.is h p.1 p.2.1
theorem q5u{prog:Program}{w:World}{h h':Heap}{k:List Int}{a:Addr}(x:(TK prog w).is h k a)(e:∀o,h.get? a=some o->h'.get? a=some o): (TK prog w).is h' k a:=by
 obtain⟨o,items,n,ho,r⟩:=x;exact⟨o,items,n,e o ho,r⟩
section
variable{prog:Program}{w:World}{A:Around}{R:Result->Shared->Prop}{KT:Type}[DecidableEq KT]{knd:HeapKind prog w KT}
structure Stays(knd:HeapKind prog w KT): Prop where
 keep:∀ {h h':Heap} {k:KT} {a:Addr},knd.is h k a->(∀b o,h.get? b=some o->h'.get? b=some o)->knd.is h' k a
 room:∀A:Around,A.units+8<cLine->knd.room A
theorem qov{vs:List Value}{ps:List (KT×Addr×Value)}{N I S L:Addr}(Y:Stays knd)(hu:A.units+9<cLine)(hh:A.in1.handled=none)(hSN:N<=S)(hIN:N<=I)(hLN:L<N)(hSI:S≠I)(h0:Heap)(hN:∀b o,h0.get? b=some o->b<N)(P0:Prs knd h0 vs ps)(hl0:h0.IsList L vs.toArray)(hnd:(ps.map (·.1)).Nodup)(hz:ps.length<=sizeLine):
  ∀(k i:Nat) (s:Shared) (j:Int) (tj:Tok),ps.length-i=k->i<=ps.length->s.heap.IsListIter I L i->(∀b o,h0.get? b=some o->s.heap.get? b=some o)->s.heap.DictOfH knd S (ps.take i) ->
   (∀s',s'.gens=s.gens->s'.drawn=s.drawn->s'.os=s.os->s.toks<=s'.toks->(∀b o,h0.get? b=some o->s'.heap.get? b=some o)->s'.heap.DictOfH knd S ps->R (.ok (.ret .none)) s') ->
   codeAny (model prog w) A (.builtin "dict.update.loop" ⟨[.ref S,.ref I,.int j tj,.none],[]⟩) R s:=by
 intro k
 induction k with
 | zero=>
  intro i s j tj hk hi hit hkeep hd hR;have hin:i=ps.length:=by lia
  subst hin;refine pq q3m ?_;rw [p5 ym _];have hls:s.heap.IsList L vs.toArray:=let⟨o,ho,r⟩:=hl0; ⟨o,hkeep L o ho,r⟩
  show wpAny _ A.in1 (pyNext (.ref I) >>= _) _ _ s;refine g9 (wpAny_pyNext_list_end hh hit hls (by simp [P0.len]) fun h' he=>?_);show wpAny _ A.in1 (Builtin.Dict.addKeywords S [] >>= _) _ _ _;refine g9 (gf (gf ?_));rw [g0r (m6 _)] at hd;refine hR _ rfl rfl rfl (m6 _) (fun b o e=>he b o (m4 (gx (hN b o e) hIN)) (hkeep b o e)) ?_;obtain⟨o,es,ep,ho,hc,hdd,hes,his,hn⟩:=hd;exact⟨o,es,ep,he S o hSI ho,hc,hdd,hes,fun x hx=>Y.keep (P0.key x hx) fun b o' e=>he b o' (m4 (gx (hN b o' e) hIN)) (hkeep b o' e),hn⟩
 | succ k ih=>
  intro i s j tj hk hi hit hkeep hd hR;have hlt:i<ps.length:=by lia
  have hp:ps[i]? = some ps[i]:=mw hlt;obtain⟨q,hq,hqt⟩:=P0.pair i _ hp;have hkey:=P0.key _ (g0p hlt);generalize ps[i]=p at hp hq hqt hkey;refine pq q3m ?_;rw [p5 ym _];have hls:s.heap.IsList L vs.toArray:=let⟨o,ho,r⟩:=hl0; ⟨o,hkeep L o ho,r⟩
  show wpAny _ A.in1 (pyNext (.ref I) >>= _) _ _ s;refine g9 (wpAny_pyNext_list_item hit hls (x:=.ref q) (by simpa using hq) fun h' hit' hs'=>?_);have keep1:∀b o,h0.get? b=some o->h'.get? b=some o:=fun b o e=>hs'.extBut b o (m4 (gx (hN b o e) hIN)) (hkeep b o e);have hqt1:h'.IsTuple q #[.ref p.2.1,p.2.2]:=let⟨o,ho,r⟩:=hqt; ⟨o,keep1 q o ho,r⟩
  have hkey1:knd.is h' p.1 p.2.1:=Y.keep hkey fun b o e=>keep1 b o e;have hd1:h'.DictOfH knd S (ps.take i):=by
   obtain⟨o,es,ep,ho,hc,hdd,hes,his,hn⟩:=hd;exact⟨o,es,ep,hs'.extBut S o hSI ho,hc,hdd,hes,fun x hx=>Y.keep (P0.key x (List.mem_of_mem_take hx)) fun b o' e=>keep1 b o' e,hn⟩
  dsimp only;refine g9 (nr ?_);refine g9 (wpAny_tryCatch ?_);unfold Builtin.Dict.pairItems;obtain⟨oq,hoq,hcq,nq,hdq⟩:=hqt1;refine g9 (g08 (s:={s with heap:=h'}) (T:="tuple") ⟨oq,hoq,hcq⟩ ?_);rw [gw (by decide)];refine g9 (g04 (s:={s with heap:=h'}) hoq hdq (gf ?_));dsimp only [Option.getD_some];refine nr ?_;have hnone:atKey (ps.take i) p.1=none:=by
   refine g4c fun jj pp e=>?_;have hjj:jj<i:=by
    have:=(nj.mp e).1;rw [u9] at this;lia
   have e':ps[jj]? = some (p.1,pp):=by rw [g2d hjj] at e;exact e
   have:=idxH_unique hnd e' (show ps[i]? = some (p.1,p.2) from hp);lia
  refine wpAny_dictSet_heap (s:={s with heap:=h'}) (Y.room A.in1 (by show A.units+1+8<cLine;lia)) hkey1 hd1 (fun h2 hd2 hs2=>?_) (by rw [u9];lia);rw [storedH_new hnone,show ps.take i++[(p.1,p.2.1,p.2.2)]=ps.take (i+1) by rw [g3s,hp];rfl] at hd2;have ne2:∀b o,h0.get? b=some o->b≠S:=fun b o e=>m4 (gx (hN b o e) hSN);refine gf ⟨g09 ym _,ih (i+1) _ _ _ (by lia) hlt ?_ (fun b o e=>?_) hd2 fun s' a1 a2 a3 a4 a5 a6=>?_⟩
  ·obtain⟨o,ho,r⟩:=hit'
   exact⟨o,hs2.extBut I o (ml hSI) ho,r⟩
  ·exact hs2.extBut b o (ne2 b o e) (keep1 b o e)
  ·exact hR s' a1 a2 a3 (mi (g25 _ _) a4) a5 a6
end
section
variable{prog:Program}{w:World}{A:Around}{E:Ta}{s:Shared}{KT:Type}[DecidableEq KT]{knd:HeapKind prog w KT}
theorem qbs{L:Addr}{vs:List Value}{n0:Nat}{ps:List (KT×Addr×Value)}{Q:Ta}(Y:Stays knd)(hu:A.units+16<cLine)(hh:A.handled=none){sl:Tg}(hL:s.heap.get? L=some {cls:=.type "list",dict:=none,data:=.seq vs.toArray n0,slots:=sl})(P0:Prs knd s.heap vs ps)(hnd:(ps.map (·.1)).Nodup)(hz:ps.length<=sizeLine)
  (h:∀h' tk,(∀b o,s.heap.get? b=some o->h'.get? b=some o)->h'.DictOfH knd s.heap.objs.size ps->Q (.ref s.heap.objs.size) {s with heap:=h',toks:=tk}) :
  wpAny (model prog w) A (call (.type "dict") [.ref L]) Q E s:=by
 refine callType_codes (Q₁:=fun obj s₁=>obj=.ref s.heap.objs.size/\s₁ = {s with heap:=s.heap.push {cls:=.type "dict",data:=.dict #[]} }) F.kt_called_dict (F.kt_typeCall_dict_1 _) F.entry_dict_init (kt_code_dict_new _ ⟨rfl,rfl⟩) ?_
 rintro obj s₁ ⟨rfl,rfl⟩
 let dO:Obj:={cls:=.type "dict",data:=.dict #[]}
 have hnew:(s.heap.push dO).DictOfH knd s.heap.objs.size []:=Heap.DictOfH.new s.heap;have hTd:Shared.TypeIs {s with heap:=s.heap.push dO} (.ref s.heap.objs.size) "dict" :=⟨dO,gs _ rfl,rfl⟩
 have hL1:(s.heap.push dO).get? L=some {cls:=.type "list",dict:=none,data:=.seq vs.toArray n0,slots:=sl}:=gh _ hL;refine⟨hTd,F.args_dict_init_2 _ _,?_⟩;unfold Builtin.«dict.__init__»;refine g9 ?_;unfold Builtin.Dict.selfAndRest;refine g9 (wpAny_notOrdered_dict hTd ?_);show wpAny _ _ (pure (s.heap.objs.size,[Value.ref L])) _ _ _;refine gf ?_;show wpAny _ _ (Builtin.Dict.updateFrom "dict.__init__" s.heap.objs.size (.ref L) [] .none) _ _ _;unfold Builtin.Dict.updateFrom;refine g9 (g08 (T:="list") ⟨_,hL1,rfl⟩ ?_);rw [gw (by decide)];refine g9 (qou (s:={s with heap:=s.heap.push dO}) hL1 (by simpa using hh) fun h1 tk1 k1=>?_);rw [gw (by rfl)];refine g9 (g0f ?_);have hL2:h1.IsList L vs.toArray:=⟨_,k1 _ _ hL1,rfl,n0,rfl⟩
 refine g9 (g1q (s:={s with heap:=h1,toks:=tk1}) hL2 ?_)
 let iO:Obj:={cls:=.type "list_iterator",data:=.fields #[.ref L,.int 0 0]}
 have hz1:s.heap.objs.size+1<=h1.objs.size:=gu (k1 _ _ (gs s.heap (o:=dO) rfl));have hLs:L<s.heap.objs.size:=gu hL;have keep:∀b o,s.heap.get? b=some o->(h1.push iO).get? b=some o:=fun b o e=>gh _ (k1 b o (gh _ e));have hd0:(h1.push iO).DictOfH knd s.heap.objs.size []:=by
  obtain⟨o,es,ep,ho,hc,hdd,hes,his,hn⟩:=hnew;exact⟨o,es,ep,gh _ (k1 _ _ ho),hc,hdd,hes,fun x hx=>(nomatch hx),hn⟩
 refine gf ⟨g09 ym _,qov (A:=A.in1) (knd:=knd) (N:=s.heap.objs.size) (I:=h1.objs.size) (S:=s.heap.objs.size) (L:=L) (vs:=vs) (ps:=ps) Y (by show A.units+1+9<cLine;lia) (by simpa using hh) (m6 _) (g0i hz1) hLs (m4 hz1) s.heap (fun b o e=>gu e) P0 ⟨_,hL,rfl,n0,rfl⟩ hnd hz
  ps.length 0 _ _ _ rfl (u6 _) ⟨iO,gs _ rfl,rfl,rfl⟩ keep hd0 fun s' a1 a2 a3 a4 a5 a6=>?_⟩
 obtain⟨h',g',d',tk',os'⟩:=s';dsimp only at a1 a2 a3 a4 a5 a6;subst a1;subst a2;subst a3;exact⟨rfl,h h' tk' a5 a6⟩
end
theorem qrv(prog:Program)(w:World): Stays (TK prog w):=⟨fun x e=>q5u x fun o z=>e _ o z,fun A h=>show A.units<cLine by lia⟩
end Js
namespace DL
open PySem PySem.Spec PyProof.Rows L2
variable[Lam][Pin]
def q2y:List D->Option (List (List Int)×List D)
 | []=>some ([],[])
 | .tup [.tup kd,v] :: r=>(jq kd).bind fun k=>(q2y r).map fun p=>(k :: p.1,v :: p.2)
 | _ :: _=>none
def qfr:Ti
 | [.lst ds]=>(q2y ds).bind fun p=>if p.1.Nodup/\ds.length<=lim then some (.dtt p.1 p.2) else none
 | _=>none
def q7m:D->D->Option D
 | .tup kd,.dtt ks _=>(jq kd).map fun k=>.bl (decide (k∈ks))
 | _,_=>none
omit [Lam] [Pin] in
theorem ints_rep{K:Frag}{F:Hp}: ∀ {kd:List D} {xs:List V} {k:List Int},jq kd=some k->RepL K F kd xs->xs=k.map V.int
 | [],xs,k,h,r=>by cases h;exact r.nil_inv
 | .int i :: kd,xs,k,h,r=>by
  obtain⟨k',h1,rfl⟩:=gp.mp h;obtain⟨x,ys,rfl,a1,a2⟩:=r.cons_inv;rw [rep_int.mp a1,ints_rep h1 a2];rfl
 | .non :: _,_,_,h,_=>by cases h
 | .bl _ :: _,_,_,h,_=>by cases h
 | .str _ :: _,_,_,h,_=>by cases h
 | .tup _ :: _,_,_,h,_=>by cases h
 | .lst _ :: _,_,_,h,_=>by cases h
 | .dct _ _ :: _,_,_,h,_=>by cases h
 | .dtt _ _ :: _,_,_,h,_=>by cases h
 | .dt2 _ :: _,_,_,h,_=>by cases h
 | .obj _ :: _,_,_,h,_=>by cases h
 | .exc _ _ :: _,_,_,h,_=>by cases h
omit [Lam] [Pin] in
theorem items_int{P:Program}{w:World}: ∀ {k:List Int} {us:List Value},Vals (k.map V.int) us->ItemsAre (intKind P w) k us
 | [],_,r=>by cases r;exact .nil
 | i :: k,_,r=>by
  cases r with
  | cons h t=>
   obtain⟨tk,rfl⟩:=h;exact .cons (g3k _ _ _ _) (items_int t)
section
variable{X:Cx}{pins:Td}{σ : St}{H F:Hp}{s:Shared}
omit [Lam] [Pin] in
theorem q0v(I:Inv X pins σ H s)(fh:Same F H){k:List Int}{a:Addr}(h:SqT X.K F a (k.map V.int)): (Js.TK X.prog X.w).is s.heap k a:=by
 obtain⟨its,r,⟨o,ho,hc,n,hd⟩,_⟩:=I.tuple (z0 fh h);exact⟨o,its.toArray,n,ho,hc,hd,by simpa using items_int r⟩
omit [Lam] [Pin] in
theorem qhh (I:Inv X pins σ H s) (fh:Same F H):∀ {ds:List D} {ys:List V} {its:List Value} {ks:List (List Int)} {vs:List D},q2y ds=some (ks,vs)->RepL X.K F ds ys->Vals ys its ->
  ∃(ps:List (List Int×Addr×Value)) (ws:List V),Js.Prs (Js.TK X.prog X.w) s.heap its ps/\ps.map (·.1)=ks/\(∀p∈ps,SqT X.K F p.2.1 (p.1.map V.int))/\Vals ws (ps.map fun p=>p.2.2)/\RepL X.K F vs ws
 | [],ys,its,ks,vs,h,k,r=>by
  cases h;cases k.nil_inv;cases r;exact⟨[],[],⟨rfl,fun i p e=>by simp at e,fun p hp=>(nomatch hp)⟩,rfl,fun p hp=>(nomatch hp),.nil,.nil⟩
 | d :: ds,ys,its,ks,vs,h,k,r=>by
  unfold q2y at h
  split at h
  ·cases ‹_ :: _=[]›
  ·rename_i kd v r' e
   injection e with e1 e2
   subst e1;subst e2;obtain⟨kk,h1,h2⟩:=gc.mp h;obtain⟨p,h3,h4⟩:=gp.mp h2;cases h4;obtain⟨x,ys',rfl,a1,a2⟩:=k.cons_inv;obtain⟨q,qs,rfl,b1,b2⟩:=rep_tup.mp a1;obtain⟨x1,z1,rfl,c1,c2⟩:=b2.cons_inv;obtain⟨x2,z2,rfl,d1,d2⟩:=c2.cons_inv;cases d2.nil_inv;obtain⟨ka,kxs,rfl,k1,k2⟩:=rep_tup.mp c1;rw [ints_rep h1 k2] at k1;cases r with
   | cons r1 r2=>
    cases r1;obtain⟨uu,hu,⟨oq,hoq,hcq,nq,hdq⟩,_⟩:=I.tuple (z0 fh b1);cases hu with
    | cons u1 u2=>
     cases u1;cases u2 with
     | cons u3 u4=>
      cases u4;rename_i uv;obtain⟨ps,ws,P,e1,e2,e3,e4⟩:=qhh I fh h3 a2 r2;refine⟨(kk,ka,uv) :: ps,x2 :: ws,⟨by simp [P.len],fun i p e=>?_,fun p hp=>?_⟩,by simp [e1],fun p hp=>?_,.cons u3 e3,.cons d1 e4⟩
      ·cases i with
       | zero=>
        simp only [g2q,g2s] at e;subst e;exact⟨q,rfl,oq,hoq,hcq,nq,hdq⟩
       | succ i=>exact P.pair i p (by simpa using e)
      ·rcases mh.mp hp with rfl|hp
       ·exact q0v I fh k1
       ·exact P.key p hp
      ·rcases mh.mp hp with rfl|hp
       ·exact k1
       ·exact e2 p hp
  ·cases h
end
section
variable{X:Cx}
theorem qvj(hc:X.calm=true)(hu:X.A.units+64<cLine): xk X (.type "dict") (rC X.K qfr):=fun pins s σ H xs us Q I rv ⟨F,ds,d,fh,rl,ho,q⟩=>by
 unfold qfr at ho
 split at ho
 ·rename_i ds'
  obtain⟨⟨ks,vs⟩,h1,h2⟩:=gc.mp ho
  split at h2
  ·rename_i hok
   cases h2;obtain⟨x,rfl,rx⟩:=rep1 rl;obtain⟨a,ys,rfl,k1,k2⟩:=rep_lst.mp rx;obtain⟨u,rfl,ru⟩:=vals1 rv;cases ru;obtain⟨its,r1,⟨o,n,e1,e2,e3,e4⟩,hz⟩:=I.list (fh.seq k1);obtain⟨oc,od,oda,osl⟩:=o;dsimp only at e2 e3 e4;subst e2;subst e3;subst e4;obtain⟨ps,ws,P,p1,p2,p3,p4⟩:=qhh I fh h1 k2 r1;have hl:ps.length<=lim:=by
    rw [<- P.len, <- r1.length, <- k2.length];exact hok.2
   refine Js.qbs (Js.qrv _ _) (by lia) (I.ok.hd hc) e1 P (by rw [p1];exact hok.1) (xn hl) fun h' tk old hd=>?_;have hnn:H s.heap.objs.size=none:=I.hok.fresh (m6 _);obtain⟨o,es,ep,g1,g2,g3,g4,_,g5⟩:=hd;have de:DE s.heap.objs.size ps ep h':=⟨o,es,g1,g2,g3,g4⟩
   refine⟨.ref _,_,I.laid (t':=tk) (a:=s.heap.objs.size) (o:=.ext (DE s.heap.objs.size ps ep)) old (m6 _) ⟨de,⟨o,g1⟩,fun h1 h2 ⟨o,es,z,r⟩ e=>⟨o,es,e o z,r⟩⟩,rfl,?_⟩;have g:=Grow.new (o:=.ext (DE s.heap.objs.size ps ep)) fh hnn;refine q _ _ _ g (rep_dtt.mpr ⟨_,ps,ws,ep,rfl,za,p1,hok.1,xn hl,g07.mpr (pd (qki I)),fun x hx=>z0 g.ff (p2 x hx),p3,p4.mono g.ff⟩)
  ·cases h2
 ·cases ho
theorem qow(hu:X.A.units+64<cLine): OpR X (compareOp .In) (rD X.K q7m):=fun pins s σ H x y v u Q I rx ry ⟨F,d1,d2,d,fh,r1,r2,ho,q⟩=>by
 unfold q7m at ho
 split at ho
 ·rename_i kd ks vs
  obtain⟨k,h1,rfl⟩:=gp.mp ho;obtain⟨b,kxs,rfl,k1,k2⟩:=rep_tup.mp r1;obtain⟨a,xs,ys,ep,rfl,e1,e2,e3,e4,e5,e6,e7,e8⟩:=rep_dtt.mp r2;cases rx;cases ry;rw [ints_rep h1 k2] at k1;obtain⟨⟨o,es,g1,g2,g3,g4⟩,_,_⟩:=(show ObjOk X.prog X.w H s.heap a _ from I.hok a _ (fh _ _ e1))
  have dd:s.heap.DictOfH (Js.TK X.prog X.w) a xs:=⟨o,es,ep,g1,g2,g3,g4,fun x hx=>q0v I fh (e6 x hx),by rw [e2];exact e3⟩
  refine wpAny_in_heap (g2k (by lia)) (q0v I fh k1) e5 dd ?_;have:(atKey xs k).isSome=decide (k∈ks):=by
   rw [<- e2,g0d,tf]
   constructor
   ·intro h
    obtain⟨p,hp⟩:=g1a.mp h;obtain⟨z,hz,rfl⟩:=gp.mp hp;have:=List.find?_some hz;exact p7.mpr ⟨z,List.mem_of_find?_eq_some hz,by simpa using this⟩
   ·intro h
    obtain⟨z,hz,rfl⟩:=p7.mp h;obtain⟨i,hi⟩:=List.mem_iff_getElem?.mp hz;rw [atKey_of_get (by rw [e2];exact e3) (show xs[i]? = some (z.1,z.2) from hi)]
    rfl
  rw [this];exact⟨.bl _,H,I.tok _,rfl,q _ F H (.refl fh) (rep_bl.mpr rfl)⟩
 ·cases ho
end
section
variable{X:Cx}{pos:Pos}
def q8r:D->D->Option D
 | .dtt ks vs,.tup kd=>(jq kd).bind fun k=>if k∈ks then vs[ks.idxOf k]? else none
 | _,_=>none
theorem qya(hu:X.A.units+64<cLine): IxR X (rD X.K q8r):=by
 intro value slice pins s σ H x y v u Q I rx ry ⟨F,d1,d2,d,fh,r1,r2,ho,q⟩ hs;unfold q8r at ho
 split at ho
 ·rename_i ks vs kd
  obtain⟨k,h1,ho⟩:=gc.mp ho
  split at ho
  ·rename_i hk
   obtain⟨b,kxs,rfl,k1,k2⟩:=rep_tup.mp r2;obtain⟨a,xs,ys,ep,rfl,e1,e2,e3,e4,e5,e6,e7,e8⟩:=rep_dtt.mp r1;cases rx;cases ry;rw [ints_rep h1 k2] at k1;obtain⟨⟨o,es,g1,g2,g3,g4⟩,_,_⟩:=(show ObjOk X.prog X.w H s.heap a _ from I.hok a _ (fh _ _ e1))
   have dd:s.heap.DictOfH (Js.TK X.prog X.w) a xs:=⟨o,es,ep,g1,g2,g3,g4,fun x hx=>q0v I fh (e6 x hx),by rw [e2];exact e3⟩
   obtain⟨w,ew,rw'⟩:=e8.get ho;obtain⟨uu,eu,ruu⟩:=e7.get ew;rw [mq] at eu;obtain⟨z,hz,rfl⟩:=gp.mp eu;have hzk:z.1=k:=by
    have h2:(xs.map (·.1))[ks.idxOf k]? = some z.1:=by rw [mq,hz];rfl
    rw [e2,mw (g1z hk),List.getElem_idxOf] at h2;exact(mr h2).symm
   refine tail_any (ops:=[.ref a,.ref b]) (T:="dict") ⟨o,g1,g2.1⟩ PySem.F.slot_dict_getitem.lookup ?_ hs;refine wpAny_getItem_heap (g2k (by lia)) (q0v I fh k1) dd (p:=z.2) ?_ ⟨w,H,I.tok _,ruu,q w F H (.refl fh) rw'⟩;rw [<- hzk];exact atKey_of_get (by rw [e2];exact e3) (show xs[ks.idxOf k]? = some (z.1,z.2) from hz)
  ·cases ho
 ·cases ho
theorem qyb{a b:Expr}{f g:FE}(hu:X.A.units+64<cLine)(ha:PE X a (tD X.K f))(hb:PE X b (tD X.K g))(hs:q2k b:=by intro _ _;rfl): PE X (.Subscript a b pos) (tD X.K (eOp q8r f g)):=zr (qb3 (qya hu) ha hb hs) fun σ H Q h=>two h
end
end DL
namespace Js
open PySem PyProof.Rows
section
variable{prog:Program}{w:World}{A:Around}{E:Ta}{s:Shared}
end
end Js
namespace DL
open PySem PySem.Spec PyProof.Rows L2
variable[Lam][Pin]
abbrev DX:=List (List Int×Addr×Value)
section
variable{X:Cx}{pos:Pos}{tg e:Expr}
end
def q3n:D->List D->Option D
 | .dtt ks vs,[.tup kd]=>(jq kd).bind fun k=>if k∈ks then vs[ks.idxOf k]? else some .non
 | .dtt ks vs,[.tup kd,d0]=>(jq kd).bind fun k=>if k∈ks then vs[ks.idxOf k]? else some d0
 | _,_=>none
def qm9(f:FE)(fa:FA): FE:=fun ρ =>(f ρ).bind fun d=>(fa ρ).bind fun xs=>q3n d xs
section
variable{X:Cx}
theorem qku{K:Frag}{F:Hp}{ks:List (List Int)}{vs:List D}{xs:DX}{ys:List V}{k:List Int}(e2:xs.map (·.1)=ks)(e3:ks.Nodup)(e7:Vals ys (xs.map fun p=>p.2.2))(e8:RepL K F vs ys){d0 d:D}{v0:V}{u0:Value}(r0:Rep K F d0 v0)(q0:RelV v0 u0)
  (h:(if k∈ks then vs[ks.idxOf k]? else some d0)=some d):∃v,Rep K F d v/\RelV v (((atKey xs k).map (·.2)).getD u0):=by
 split at h
 ·rename_i hk
  obtain⟨w,ew,rw'⟩:=e8.get h;obtain⟨uu,eu,ruu⟩:=e7.get ew;rw [mq] at eu;obtain⟨z,hz,rfl⟩:=gp.mp eu;have hzk:z.1=k:=by
   have h2:(xs.map (·.1))[ks.idxOf k]? = some z.1:=by rw [mq,hz];rfl
   rw [e2,mw (g1z hk),List.getElem_idxOf] at h2;exact(mr h2).symm
  have ha:atKey xs k=some z.2:=by
   rw [<- hzk];exact atKey_of_get (by rw [e2];exact e3) (show xs[ks.idxOf k]? = some (z.1,z.2) from hz)
  exact⟨w,rw',by rw [ha];exact ruu⟩
 ·rename_i hk
  cases h;have ha:atKey xs k=none:=g4c fun i p e=>hk (by rw [<- e2];exact p7.mpr ⟨_,uj e,rfl⟩);exact⟨v0,r0,by rw [ha];exact q0⟩
theorem qyc(hu:X.A.units+64<cLine): MtR X "dict.get" (fun x xs H Q=>∃F d ds r,Same F H/\Rep X.K F d x/\RepL X.K F ds xs/\q3n d ds=some r/\∀v,Rep X.K F r v->Q v H):=by
 intro pins s σ H x vs v us Q I rx rv h;obtain⟨F,d,ds,r,fh,r1,r2,ho,q⟩:=h;unfold q3n at ho
 split at ho
 ·rename_i ks ws kd
  obtain⟨k,h1,ho⟩:=gc.mp ho;obtain⟨x1,rfl,rx1⟩:=rep1 r2;obtain⟨u1,rfl,ru1⟩:=vals1 rv;obtain⟨b,kxs,rfl,k1,k2⟩:=rep_tup.mp rx1;obtain⟨a,xs,ys,ep,rfl,e1,e2,e3,e4,e5,e6,e7,e8⟩:=rep_dtt.mp r1;cases rx;cases ru1;rw [ints_rep h1 k2] at k1;obtain⟨⟨o,es,g1,g2,g3,g4⟩,_,_⟩:=(show ObjOk X.prog X.w H s.heap a _ from I.hok a _ (fh _ _ e1))
  have dd:s.heap.DictOfH (Js.TK X.prog X.w) a xs:=⟨o,es,ep,g1,g2,g3,g4,fun x hx=>q0v I fh (e6 x hx),by rw [e2];exact e3⟩
  obtain⟨v,rv,qv⟩:=qku e2 e3 e7 e8 (d0:=.non) (v0:=.non) (u0:=.none) (rep_non.mpr rfl) rfl ho;refine call_meetsIn g39 dd.typeIs g55 (PySem.F.args_dict_get_2 _ _) (meetsH_dict_get (Js.TK X.prog X.w) a b e5) ⟨g2k (by lia),k,xs,q0v I fh k1,dd,?_⟩;exact⟨v,H,I.tok _,qv,q v rv⟩
 ·rename_i ks ws kd d0
  obtain⟨k,h1,ho⟩:=gc.mp ho;obtain⟨x1,t1,rfl,rx1,r3⟩:=r2.cons_inv;obtain⟨x2,rfl,rx2⟩:=rep1 r3;obtain⟨u1,u2,rfl,ru1,ru2⟩:=rv.two;obtain⟨b,kxs,rfl,k1,k2⟩:=rep_tup.mp rx1;obtain⟨a,xs,ys,ep,rfl,e1,e2,e3,e4,e5,e6,e7,e8⟩:=rep_dtt.mp r1;cases rx;cases ru1;rw [ints_rep h1 k2] at k1;obtain⟨⟨o,es,g1,g2,g3,g4⟩,_,_⟩:=(show ObjOk X.prog X.w H s.heap a _ from I.hok a _ (fh _ _ e1))
  have dd:s.heap.DictOfH (Js.TK X.prog X.w) a xs:=⟨o,es,ep,g1,g2,g3,g4,fun x hx=>q0v I fh (e6 x hx),by rw [e2];exact e3⟩
  obtain⟨v,rv,qv⟩:=qku e2 e3 e7 e8 rx2 ru2 ho;refine call_meetsIn g39 dd.typeIs g55 (PySem.F.args_dict_get_3 _ _ _) (meetsH_dict_get_default (Js.TK X.prog X.w) a b e5 u2) ⟨g2k (by lia),k,xs,q0v I fh k1,dd,?_⟩;exact⟨v,H,I.tok _,qv,q v rv⟩
 ·cases ho
theorem qyd{o e:Expr}{es:List Expr}{f:FE}{fa:FA}{apos cpos:Pos}(hu:X.A.units+64<cLine)(ho:PE X o (tD X.K f))(ha:PA X (e :: es) (tDA X.K fa))
  (hbase:attributeBase o "get" X.env (eval o X.env)=eval o X.env:=by rfl)
  (hfew:((backTo cpos (starEach (e :: es) X.env)).all (fun x=> !x.1)&&(backToKw cpos (keywordEach [] X.env)).all (fun x=>x.1.isSome)
   && decide ((e :: es).length+([]:List Keyword).length+(if([]:List Keyword).isEmpty then 0 else 1)<30))=true:=by rfl)
  (hline:(apos.endLine==cpos.line)=true:=by rfl) (hs:starEach (e :: es) X.env=(false,eval e X.env) :: starEach es X.env:=by rfl) (hplain:(backTo cpos (starEach es X.env)).any (·.1)=false:=by rfl) :
  PE X (.Call (.Attribute o "get" apos) (e :: es) [] cpos) (tD X.K (qm9 f fa)):=by
 intro pins s σ H Q I ⟨F0,H0,F, ρ,d,r,hf,q⟩;obtain⟨d1,h1,hf⟩:=gc.mp hf;obtain⟨ds,h2,h3⟩:=gc.mp hf;refine wpAny_Call_method_late hbase hfew hline rfl (thn (ho pins s σ H (fun v H1=>∃F1,Grow F H F1 H1/\Rep X.K F1 d1 v) I ⟨F0,H0,F, ρ,d1,r,h1,fun v F1 H1 g1 r1=>⟨F1,g1,r1⟩⟩) fun v s1 ⟨x,H1,I1,rx,F1,g1,r1⟩=>?_);obtain⟨ks,vs,rfl⟩:∃ks vs,d1=.dtt ks vs:=by cases d1 <;> first|exact⟨_,_,rfl⟩|(simp [q3n] at h3)
 obtain⟨a,xs,ys,ep,rfl,e1,e2,e3,e4,e5,e6,e7,e8⟩:=rep_dtt.mp r1;cases rx;obtain⟨⟨ob,es',k1,k2,k3,k4⟩,_,_⟩:=(show ObjOk X.prog X.w H1 s1.heap a _ from I1.hok a _ (g1.fh _ _ e1))
 refine⟨"dict","dict.get",PySem.F.plainAttrs_dict,g39,PySem.F.type_dict_get,⟨ob,k1,k2.1⟩,fun b e=>by cases e;exact⟨ob,k1,k2.2.1⟩,?_⟩;have hA:=ha cpos pins s1 σ H1 (fun vs H2=>∃F2,Grow F1 H1 F2 H2/\RepL X.K F2 ds vs) I1 ⟨F0,H0,F1, ρ,ds,r.grow g1,h2,fun vs F2 H2 g2 r2=>⟨F2,g2,r2⟩⟩;rw [hs] at hA ⊢;refine g2x (by show(false || (backTo cpos (starEach es X.env)).any (·.1))=false;rw [hplain] <;> rfl) (g3d ?_);exact thn hA fun us s2 ⟨ws,H2,I2,rw',F2,g2,r2⟩=>qyc hu pins s2 σ H2 (.ref a) ws (.ref a) us Q I2 rfl rw' ⟨F2,.dtt ks vs,ds,d,g2.fh,r1.mono g2.ff,r2,h3,fun v rv=>q v F2 H2 (g1.trans g2) rv⟩
end
end DL
namespace Rv
open PySem PyProof.Rows
section
variable{prog:Program}{w:World}{A:Around}{E:Ta}{s:Shared}{I:Addr}{fp wr:List Addr}{G:Array GenState->Array GenState->Prop}{n:Nat}{P:Nat->Value->Prop}{St:Nat->Shared->Prop}
end
end Rv
namespace DL
open PySem PySem.Spec PyProof.Rows L2
variable[Lam][Pin]
section
variable{X:Cx}{pos:Pos}{tg:Expr}
end
end DL
namespace Rv
open PySem PyProof.Rows
section
variable{prog:Program}{w:World}{A:Around}{s:Shared}{R:Result->Shared->Prop}
variable{I:Addr}{fp wr:List Addr}{G:Array GenState->Array GenState->Prop}{n:Nat}{P:Nat->Value->Prop}{St:Nat->Shared->Prop}
end
section
variable{prog:Program}{w:World}{A:Around}{E:Ta}{s:Shared}
variable{I:Addr}{fp wr:List Addr}{G:Array GenState->Array GenState->Prop}{n:Nat}{P:Nat->Value->Prop}{St:Nat->Shared->Prop}
end
end Rv
namespace Js
open PySem
open Sem (wp)
theorem qjc:typeLookup (.type "tuple") "keys" = pure none:=by rw [g1m,g0c];kernel_rfl
theorem qdi:typeLookup (.type "tuple") "__getattr__" = pure none:=by rw [g1m,g0c];kernel_rfl
section
variable{prog:Program}{w:World}{A:Around}{E:Ta}{s:Shared}{a:Addr}
theorem qma{xs:Array Value}{n:Nat}{u:Tok}{Q:Ta}{sl:Tg}(hx:s.heap.get? a=some {cls:=.type "tuple",dict:=none,data:=.seq xs n,slots:=sl})(hh:A.handled=none)
  (h:∀h' tk e,Heap.NewAttrErr s.heap h' e (.ref a) "keys" -> E (.ref e) {s with heap:=h',toks:=tk}) :
  wpAny (model prog w) A (call (.builtin "tuple.__getattribute__") [.ref a,.str "keys" u]) Q E s:=by
 refine pj g2b ⟨_,hx,rfl⟩ F.entry_tuple_ga ?_ (F.args_tuple_getattribute_2 _ _);obtain⟨hp,g,d,tk,os⟩:=s;have hT:(⟨hp,g,d,tk,os⟩:Shared).TypeIs (.ref a) "tuple" :=⟨_,hx,rfl⟩
 have f4:=qjc;unfold Builtin.«object.__getattribute__»
 repeat (any_goals (first|assumption|wp_step))
 exact wpAny_raiseAttrError (by simpa using hh) (fun h' tk e x=>h h' tk e x) (attrMsg_fits (by decide +kernel) (by size_fits))
theorem qmb{xs:Array Value}{n:Nat}{Q:Option Value->Shared->Prop}{sl:Tg}(hx:s.heap.get? a=some {cls:=.type "tuple",dict:=none,data:=.seq xs n,slots:=sl})(hh:A.handled=none)
  (h:∀h' tk,(∀b o,s.heap.get? b=some o->h'.get? b=some o)->Q none {s with heap:=h',toks:=tk}) :
  wpAny (model prog w) A (getAttr? (.ref a) "keys") Q E s:=by
 obtain⟨hp,g,d,tk,os⟩:=s;have hT:(⟨hp,g,d,tk,os⟩:Shared).TypeIs (.ref a) "tuple" :=⟨_,hx,rfl⟩
 have f1:=sub_AttributeError;have f3:=g2b.lookup;have f4:=g2b.bind (.ref a);have f5:=qdi;unfold getAttr? getAttrBy? getAttrBy
 repeat (any_goals (first|assumption|((with_reducible show wpAny _ _ (call (Value.builtin "tuple.__getattribute__") _ _) _ _ _);refine qma hx (by first|exact hh|simpa using hh) fun h' tk' e x=>?_)|wp_step))
 obtain⟨t',u',he⟩:=x.there
 repeat (any_goals (first|assumption|wp_step))
 exact h _ _ x.keeps
end
section
variable{prog:Program}{w:World}{A:Around}{R:Result->Shared->Prop}
theorem qmc{vs:List Value}{ps:List (List Int×Addr×Value)}{N I S L:Addr}(hu:A.units+1<cLine)(hh:A.in1.handled=none)(hSN:N<=S)(hIN:N<=I)(hLN:L<N)(hSI:S≠I)(h0:Heap)(hN:∀b o,h0.get? b=some o->b<N)(P0:Prs (TK prog w) h0 vs ps)(hl0:h0.IsTuple L vs.toArray)(hnd:(ps.map (·.1)).Nodup)(hz:ps.length<=sizeLine):
  ∀(k i:Nat) (s:Shared) (j:Int) (tj:Tok),ps.length-i=k->i<=ps.length->s.heap.IsTupleIter I L i->(∀b o,h0.get? b=some o->s.heap.get? b=some o)->s.heap.DictOfH (TK prog w) S (ps.take i) ->
   (∀s',s'.gens=s.gens->s'.drawn=s.drawn->s'.os=s.os->s.toks<=s'.toks->(∀b o,h0.get? b=some o->s'.heap.get? b=some o)->s'.heap.DictOfH (TK prog w) S ps->R (.ok (.ret .none)) s') ->
   codeAny (model prog w) A (.builtin "dict.update.loop" ⟨[.ref S,.ref I,.int j tj,.none],[]⟩) R s:=by
 intro k
 induction k with
 | zero=>
  intro i s j tj hk hi hit hkeep hd hR;have hin:i=ps.length:=by lia
  subst hin;refine pq q3m ?_;rw [p5 ym _];have hls:s.heap.IsTuple L vs.toArray:=let⟨o,ho,r⟩:=hl0; ⟨o,hkeep L o ho,r⟩
  show wpAny _ A.in1 (pyNext (.ref I) >>= _) _ _ s;refine g9 (wpAny_pyNext_tuple_end hh hit hls (by simp [P0.len]) fun h' he=>?_);show wpAny _ A.in1 (Builtin.Dict.addKeywords S [] >>= _) _ _ _;refine g9 (gf (gf ?_));rw [g0r (m6 _)] at hd;refine hR _ rfl rfl rfl (m6 _) (fun b o e=>he b o (m4 (gx (hN b o e) hIN)) (hkeep b o e)) ?_;obtain⟨o,es,ep,ho,hc,hdd,hes,his,hn⟩:=hd;exact⟨o,es,ep,he S o hSI ho,hc,hdd,hes,fun x hx=>q5u (P0.key x hx) fun o' e=>he _ o' (m4 (gx (hN _ o' e) hIN)) (hkeep _ o' e),hn⟩
 | succ k ih=>
  intro i s j tj hk hi hit hkeep hd hR;have hlt:i<ps.length:=by lia
  have hp:ps[i]? = some ps[i]:=mw hlt;obtain⟨q,hq,hqt⟩:=P0.pair i _ hp;have hkey:=P0.key _ (g0p hlt);generalize ps[i]=p at hp hq hqt hkey;refine pq q3m ?_;rw [p5 ym _];have hls:s.heap.IsTuple L vs.toArray:=let⟨o,ho,r⟩:=hl0; ⟨o,hkeep L o ho,r⟩
  show wpAny _ A.in1 (pyNext (.ref I) >>= _) _ _ s;refine g9 (wpAny_pyNext_tuple_item hit hls (x:=.ref q) (by simpa using hq) fun h' hit' hs'=>?_);have keep1:∀b o,h0.get? b=some o->h'.get? b=some o:=fun b o e=>hs'.extBut b o (m4 (gx (hN b o e) hIN)) (hkeep b o e);have hqt1:h'.IsTuple q #[.ref p.2.1,p.2.2]:=let⟨o,ho,r⟩:=hqt; ⟨o,keep1 q o ho,r⟩
  have hkey1:(TK prog w).is h' p.1 p.2.1:=q5u hkey fun o e=>keep1 _ o e;have hd1:h'.DictOfH (TK prog w) S (ps.take i):=by
   obtain⟨o,es,ep,ho,hc,hdd,hes,his,hn⟩:=hd;exact⟨o,es,ep,hs'.extBut S o hSI ho,hc,hdd,hes,fun x hx=>q5u (P0.key x (List.mem_of_mem_take hx)) fun o' e=>keep1 _ o' e,hn⟩
  dsimp only;refine g9 (nr ?_);refine g9 (wpAny_tryCatch ?_);unfold Builtin.Dict.pairItems;obtain⟨oq,hoq,hcq,nq,hdq⟩:=hqt1;refine g9 (g08 (s:={s with heap:=h'}) (T:="tuple") ⟨oq,hoq,hcq⟩ ?_);rw [gw (by decide)];refine g9 (g04 (s:={s with heap:=h'}) hoq hdq (gf ?_));dsimp only [Option.getD_some];refine nr ?_;have hnone:atKey (ps.take i) p.1=none:=by
   refine g4c fun jj pp e=>?_;have hjj:jj<i:=by
    have:=(nj.mp e).1;rw [u9] at this;lia
   have e':ps[jj]? = some (p.1,pp):=by rw [g2d hjj] at e;exact e
   have:=idxH_unique hnd e' (show ps[i]? = some (p.1,p.2) from hp);lia
  refine wpAny_dictSet_heap (s:={s with heap:=h'}) (show(TK prog w).room A.in1 from hu) hkey1 hd1 (fun h2 hd2 hs2=>?_) (by rw [u9];lia);rw [storedH_new hnone,show ps.take i++[(p.1,p.2.1,p.2.2)]=ps.take (i+1) by rw [g3s,hp];rfl] at hd2;have ne2:∀b o,h0.get? b=some o->b≠S:=fun b o e=>m4 (gx (hN b o e) hSN);refine gf ⟨g09 ym _,ih (i+1) _ _ _ (by lia) hlt ?_ (fun b o e=>?_) hd2 fun s' a1 a2 a3 a4 a5 a6=>?_⟩
  ·obtain⟨o,ho,r⟩:=hit'
   exact⟨o,hs2.extBut I o (ml hSI) ho,r⟩
  ·exact hs2.extBut b o (ne2 b o e) (keep1 b o e)
  ·exact hR s' a1 a2 a3 (mi (g25 _ _) a4) a5 a6
end
section
variable{prog:Program}{w:World}{A:Around}{E:Ta}{s:Shared}
theorem qaa{L:Addr}{vs:List Value}{n0:Nat}{ps:List (List Int×Addr×Value)}{Q:Ta}(hu:A.units+4<cLine)(hh:A.handled=none){sl:Tg}(hL:s.heap.get? L=some {cls:=.type "tuple",dict:=none,data:=.seq vs.toArray n0,slots:=sl})(P0:Prs (TK prog w) s.heap vs ps)(hnd:(ps.map (·.1)).Nodup)(hz:ps.length<=sizeLine)
  (h:∀h' tk,(∀b o,s.heap.get? b=some o->h'.get? b=some o)->h'.DictOfH (TK prog w) s.heap.objs.size ps->Q (.ref s.heap.objs.size) {s with heap:=h',toks:=tk}) :
  wpAny (model prog w) A (call (.type "dict") [.ref L]) Q E s:=by
 refine callType_codes (Q₁:=fun obj s₁=>obj=.ref s.heap.objs.size/\s₁ = {s with heap:=s.heap.push {cls:=.type "dict",data:=.dict #[]} }) F.kt_called_dict (F.kt_typeCall_dict_1 _) F.entry_dict_init (kt_code_dict_new _ ⟨rfl,rfl⟩) ?_
 rintro obj s₁ ⟨rfl,rfl⟩
 let dO:Obj:={cls:=.type "dict",data:=.dict #[]}
 have hnew:(s.heap.push dO).DictOfH (TK prog w) s.heap.objs.size []:=Heap.DictOfH.new s.heap;have hTd:Shared.TypeIs {s with heap:=s.heap.push dO} (.ref s.heap.objs.size) "dict" :=⟨dO,gs _ rfl,rfl⟩
 have hL1:(s.heap.push dO).get? L=some {cls:=.type "tuple",dict:=none,data:=.seq vs.toArray n0,slots:=sl}:=gh _ hL;refine⟨hTd,F.args_dict_init_2 _ _,?_⟩;unfold Builtin.«dict.__init__»;refine g9 ?_;unfold Builtin.Dict.selfAndRest;refine g9 (wpAny_notOrdered_dict hTd ?_);show wpAny _ _ (pure (s.heap.objs.size,[Value.ref L])) _ _ _;refine gf ?_;show wpAny _ _ (Builtin.Dict.updateFrom "dict.__init__" s.heap.objs.size (.ref L) [] .none) _ _ _;unfold Builtin.Dict.updateFrom;refine g9 (g08 (T:="tuple") ⟨_,hL1,rfl⟩ ?_);rw [gw (by decide)];refine g9 (qmb (s:={s with heap:=s.heap.push dO}) hL1 (by simpa using hh) fun h1 tk1 k1=>?_);rw [gw (by rfl)];refine g9 (g0f ?_);have hL2:h1.IsTuple L vs.toArray:=⟨_,k1 _ _ hL1,rfl,n0,rfl⟩
 refine g9 (g2h (s:={s with heap:=h1,toks:=tk1}) hL2 ?_)
 let iO:Obj:={cls:=.type "tuple_iterator",data:=.fields #[.ref L,.int 0 0]}
 have hz1:s.heap.objs.size+1<=h1.objs.size:=gu (k1 _ _ (gs s.heap (o:=dO) rfl));have hLs:L<s.heap.objs.size:=gu hL;have keep:∀b o,s.heap.get? b=some o->(h1.push iO).get? b=some o:=fun b o e=>gh _ (k1 b o (gh _ e));have hd0:(h1.push iO).DictOfH (TK prog w) s.heap.objs.size []:=by
  obtain⟨o,es,ep,ho,hc,hdd,hes,his,hn⟩:=hnew;exact⟨o,es,ep,gh _ (k1 _ _ ho),hc,hdd,hes,fun x hx=>(nomatch hx),hn⟩
 refine gf ⟨g09 ym _,qmc (A:=A.in1) (N:=s.heap.objs.size) (I:=h1.objs.size) (S:=s.heap.objs.size) (L:=L) (vs:=vs) (ps:=ps) (by show A.units+1+1<cLine;lia) (by simpa using hh) (m6 _) (g0i hz1) hLs (m4 hz1) s.heap (fun b o e=>gu e) P0 ⟨_,hL,rfl,n0,rfl⟩ hnd hz
  ps.length 0 _ _ _ rfl (u6 _) ⟨iO,gs _ rfl,rfl,rfl⟩ keep hd0 fun s' a1 a2 a3 a4 a5 a6=>?_⟩
 obtain⟨h',g',d',tk',os'⟩:=s';dsimp only at a1 a2 a3 a4 a5 a6;subst a1;subst a2;subst a3;exact⟨rfl,h h' tk' a5 a6⟩
end
end Js
namespace DL
open PySem PySem.Spec PyProof.Rows L2
variable[Lam][Pin]
section
variable{X:Cx}{pos:Pos}
def q7n:Ti
 | [.tup ds]=>(q2y ds).bind fun p=>if p.1.Nodup/\ds.length<=lim then some (.dtt p.1 p.2) else none
 | _=>none
theorem qhi(hc:X.calm=true)(hu:X.A.units+64<cLine): xk X (.type "dict") (rC X.K q7n):=fun pins s σ H xs us Q I rv ⟨F,ds,d,fh,rl,ho,q⟩=>by
 unfold q7n at ho
 split at ho
 ·rename_i ds'
  obtain⟨⟨ks,vs⟩,h1,h2⟩:=gc.mp ho
  split at h2
  ·rename_i hok
   cases h2;obtain⟨x,rfl,rx⟩:=rep1 rl;obtain⟨a,ys,rfl,k1,k2⟩:=rep_tup.mp rx;obtain⟨u,rfl,ru⟩:=vals1 rv;cases ru;obtain⟨its,r1,⟨o,e1,e2,e3,n,e4⟩,hz⟩:=I.tupleX (z0 fh k1);obtain⟨oc,od,oda,osl⟩:=o;dsimp only at e2 e3 e4;subst e2;subst e3;subst e4;obtain⟨ps,ws,P,p1,p2,p3,p4⟩:=qhh I fh h1 k2 r1;have hl:ps.length<=lim:=by
    rw [<- P.len, <- r1.length, <- k2.length];exact hok.2
   refine Js.qaa (by lia) (I.ok.hd hc) e1 P (by rw [p1];exact hok.1) (xn hl) fun h' tk old hd=>?_;have hnn:H s.heap.objs.size=none:=I.hok.fresh (m6 _);obtain⟨o,es,ep,g1,g2,g3,g4,_,g5⟩:=hd;have de:DE s.heap.objs.size ps ep h':=⟨o,es,g1,g2,g3,g4⟩
   refine⟨.ref _,_,I.laid (t':=tk) (a:=s.heap.objs.size) (o:=.ext (DE s.heap.objs.size ps ep)) old (m6 _) ⟨de,⟨o,g1⟩,fun h1 h2 ⟨o,es,z,r⟩ e=>⟨o,es,e o z,r⟩⟩,rfl,?_⟩;have g:=Grow.new (o:=.ext (DE s.heap.objs.size ps ep)) fh hnn;refine q _ _ _ g (rep_dtt.mpr ⟨_,ps,ws,ep,rfl,za,p1,hok.1,xn hl,g07.mpr (pd (qki I)),fun x hx=>z0 g.ff (p2 x hx),p3,p4.mono g.ff⟩)
  ·cases h2
 ·cases ho
end
end DL
namespace DL
open PySem PyProof.Rows L2
def rkD:D->Nat
 | .int _=>0
 | .tup _=>1
 | _=>2
mutual
def q2z:D->D->Ordering
 | .int i,.int j=>if i<j then .lt else if j<i then .gt else .eq
 | .tup ds,.tup es=>q0w ds es
 | d,e=>if rkD d<rkD e then .lt else if rkD e<rkD d then .gt else .eq
def q0w:List D->List D->Ordering
 | [],[]=>.eq
 | [],_ :: _=>.lt
 | _ :: _,[]=>.gt
 | d :: ds,e :: es=>match q2z d e with
  | .eq=>q0w ds es
  | o=>o
end
def ltT(d e:D): Bool:=(q2z d e).isLT
def q30(ds es:List D): Bool:=(q0w ds es).isLT
mutual
/-- where Python compares these two, it meets only ints with ints, tuples with tuples -/
def shD:D->D->Bool
 | .int _,.int _=>true
 | .tup ds,.tup es=>shL ds es
 | _,_=>false
def shL:List D->List D->Bool
 | d :: ds,e :: es=>shD d e&&shL ds es
 | _,_=>true
end
theorem swap3{a b:Nat}: (if a<b then Ordering.lt else if b<a then .gt else .eq).swap=if b<a then .lt else if a<b then .gt else .eq:=by
 by_cases h:a<b
 ·rw [gw h,mf (by omega),gw h];rfl
 ·by_cases k:b<a
  ·rw [mf h,gw k,gw k];rfl
  ·rw [mf h,mf k,mf k,mf h];rfl
theorem swap4{a b:Int}: (if a<b then Ordering.lt else if b<a then .gt else .eq).swap=if b<a then .lt else if a<b then .gt else .eq:=by
 by_cases h:a<b
 ·rw [gw h,mf (by omega),gw h];rfl
 ·by_cases k:b<a
  ·rw [mf h,gw k,gw k];rfl
  ·rw [mf h,mf k,mf k,mf h];rfl
theorem qhj:∀n,(∀d e:D,sizeOf d<n->q2z e d=(q2z d e).swap)/\(∀ds es:List D,sizeOf ds<n->q0w es ds=(q0w ds es).swap):=by
 intro n
 induction n with
 | zero=>exact⟨fun d e h=>absurd h (t7 _),fun d e h=>absurd h (t7 _)⟩
 | succ n ih=>
  refine⟨fun d e hn=>?_,fun ds es hn=>?_⟩
  ·cases d <;> cases e <;> simp only [q2z] <;> first
    | exact swap3.symm
    | exact swap4.symm
    | exact ih.2 _ _ (by simp at hn;omega)
  ·cases ds with
   | nil=>cases es <;> simp only [q0w] <;> rfl
   | cons d ds=>
    cases es with
    | nil=>simp only [q0w];rfl
    | cons e es=>
     simp only [q0w];rw [ih.1 d e (by simp at hn;omega),ih.2 ds es (by simp at hn;omega)];cases q2z d e <;> rfl
theorem cmp_swap(d e:D): q2z e d=(q2z d e).swap:=(qhj (sizeOf d+1)).1 d e (t8 _)
theorem q3o(d e:D)(ds es:List D): q30 (d :: ds) (e :: es)=(ltT d e || (!ltT e d&&q30 ds es)):=by
 unfold q30 ltT;rw [cmp_swap d e,q0w];cases q2z d e <;> rfl
theorem q5v(ds:List D): q30 ds []=false:=by cases ds <;> simp only [q30,q0w] <;> rfl
theorem q7o(e:D)(es:List D): q30 [] (e :: es)=true:=by simp only [q30,q0w];rfl
theorem lt4{a b:Int}: (if a<b then Ordering.lt else if b<a then .gt else .eq).isLT=decide (a<b):=by
 by_cases h:a<b
 ·simp [h]
 ·by_cases k:b<a <;> simp [h,k]
theorem q8s(ds es:List D): ltT (.tup ds) (.tup es)=q30 ds es:=by unfold ltT;simp only [q2z];rfl
theorem q4w(i j:Int): ltT (.int i) (.int j)=decide (i<j):=by unfold ltT;simp only [q2z];exact lt4
end DL
namespace Srt
open PySem PyProof.Rows
structure Cmp(prog:Program)(w:World)(A:Around)(s:Shared)(κ : SortKind)(G:Value->Prop)(lt:Value->Value->Bool): Prop where
 ask:∀x y,G x->G y->∀Q:Bool->Shared->Prop,Q (lt x y) s->wpAny (model prog w) A (keyLt' κ x y) Q (fun _ _=>False) s
 asy:∀x y,lt x y=true->lt y x=false
 tra:∀x y z,lt y x=false->lt z y=false->lt z x=false
section
variable{prog:Program}{w:World}{A:Around}{E:Ta}{s:Shared}{κ : SortKind}{G:Value->Prop}{lt:Value->Value->Bool}
end
def le(lt:Value->Value->Bool)(p q:Keyed): Prop:=lt q.1 p.1=false
section
variable{lt:Value->Value->Bool}{la lb o:List Keyed}{ia ib:Nat}
end
abbrev TI:=Option (Array Keyed)×Array Keyed×Nat×Nat×Nat×Nat
abbrev TG:=Option (Array Keyed)×Array Keyed×Nat×Nat×Nat×Nat×Nat
abbrev TO:=Option (Array Keyed)×Array Keyed×Nat×Nat×Nat
section
variable(a b:Array Keyed)
end
def Eg(st st':SortSt): Prop:=kindOf st'=kindOf st/\arrOf st'=arrOf st/\pendingOf st'=pendingOf st/\failedOf st'=failedOf st
theorem Eg.trans{a b c:SortSt}(h:Eg a b)(k:Eg b c): Eg a c:=⟨k.1.trans h.1,k.2.1.trans h.2.1,k.2.2.1.trans h.2.2.1,k.2.2.2.trans h.2.2.2⟩
section
variable{prog:Program}{w:World}{A:Around}{E:Ta}{s:Shared}{κ : SortKind}{G:Value->Prop}{lt:Value->Value->Bool}
variable{a b:Array Keyed}
end
section
variable{lt:Value->Value->Bool}{la lb o:List Keyed}{ia ib:Nat}
end
section
variable(a b:Array Keyed)
end
section
variable{prog:Program}{w:World}{A:Around}{E:Ta}{s:Shared}{κ : SortKind}{G:Value->Prop}{lt:Value->Value->Bool}{a b:Array Keyed}
end
def Eqv(lt:Value->Value->Bool)(x y:Value): Prop:=lt x y=false/\lt y x=false
structure Tr(lo hi:Nat)(st st':SortSt): Prop where
 kind:kindOf st'=kindOf st
 pend:pendingOf st'=pendingOf st
 fail:failedOf st'=failedOf st
 perm:(arrOf st').Perm (arrOf st)
 out:∀k,(k<lo\/hi<=k)->(arrOf st')[k]? = (arrOf st)[k]?
theorem Tr.trans{lo hi:Nat}{a b c:SortSt}(h:Tr lo hi a b)(k:Tr lo hi b c): Tr lo hi a c:=⟨k.kind.trans h.kind,k.pend.trans h.pend,k.fail.trans h.fail,k.perm.trans h.perm,fun i hi=>(k.out i hi).trans (h.out i hi)⟩
section
variable{prog:Program}{w:World}{A:Around}{E:Ta}{s:Shared}{κ : SortKind}{G:Value->Prop}{lt:Value->Value->Bool}{N:Keyed->Nat}
theorem Eqv.trans(C:Cmp prog w A s κ G lt){x y z:Value}(h:Eqv lt x y)(k:Eqv lt y z): Eqv lt x z:=⟨C.tra z y x k.1 h.1,C.tra x y z h.2 k.2⟩
end
section
variable{prog:Program}{w:World}{A:Around}{E:Ta}{s:Shared}{κ : SortKind}{G:Value->Prop}{lt:Value->Value->Bool}{N:Keyed->Nat}
end
section
variable{prog:Program}{w:World}{A:Around}{E:Ta}{s:Shared}{κ : SortKind}{G:Value->Prop}{lt:Value->Value->Bool}
theorem cut(l:List Keyed)(a b:Nat)(h1:a<=b)(h2:b<=l.length): l=l.take a++(l.drop a).take (b-a)++l.drop b:=by
 rw [td];have e:(l.drop a).take (b-a)++l.drop b=l.drop a:=by
  have:=g0z (b-a) (l.drop a);rw [List.drop_drop,show a+(b-a)=b by lia] at this;exact this
 rw [e,g0z]
end
section
variable{prog:Program}{w:World}{A:Around}{E:Ta}{s:Shared}{κ : SortKind}{G:Value->Prop}{lt:Value->Value->Bool}{a₀:Array Keyed}{N:Keyed->Nat}
end
end Srt
namespace Srt
open PySem PySem.SeqAt PySem.AutoSeq1 PySem.MeetsSeq PySem.MeetsSeq2 PySem.MeetsSeq3 PySem.SeqRoads2
def LtAt(A:Around)(s:Shared)(y x:Value)(b:Bool): Prop:=∀(prog:Program) (w:World) (E:Ta) (Q:Ta),Q (.bool b) s->wpAny (model prog w) A (richCompare .Lt y x) Q E s
inductive LexAt(A:Around)(s:Shared)(f:Bool): List (Value×Value)->Bool->Prop
 | nil:LexAt A s f [] f
 | eq {x y r b}:EqAt A s x y true->LexAt A s f r b->LexAt A s f ((x,y) :: r) b
 | ne {x y r b}:EqAt A s x y false->LtAt A s x y b->LexAt A s f ((x,y) :: r) b
theorem qye(l b:Addr)(is js:Array Value)(n n2:Nat)(dd dd2:Option Addr)(sl sl2:Tg):
  Meets (Builtin.«tuple.__lt__» ⟨[.ref l,.ref b],[]⟩)
   (fun A R s=>s.heap.get? l=some {cls:=.type "tuple",dict:=dd,data:=.seq is n,slots:=sl}/\s.heap.get? b=some {cls:=.type "tuple",dict:=dd2,data:=.seq js n2,slots:=sl2} /\
    ∃c,LexAt A.in1 s (decide (is.size<js.size)) (is.toList.zip js.toList) c/\R (.ok (.ret (.bool c))) s):=
 .of_wp fun prog w A R s h=>by
  obtain⟨hp,g,d,tk,os⟩:=s;obtain⟨hl,hb,c,hc,h⟩:=h;have f2:=g1b
  wp_walk using g29 hl,g29 hb,wpAny_forIn_list _ (fun rest b s'=>b.1=none/\s'=⟨hp,g,d,tk,os⟩/\LexAt A.in1 ⟨hp,g,d,tk,os⟩ (decide (is.size<js.size)) rest c) _
  case turn=>
   rintro⟨y,x⟩ rest b s' ⟨hb',rfl,hx⟩
   cases hx with
   | eq e r=>
    refine g9 (e prog w _ _ ?_)
    wp_walk
    exact⟨rfl,rfl,r⟩
   | ne e k=>
    refine g9 (e prog w _ _ ?_);have k':∀ {E:Ta} {Q:Ta},Q (.bool c) ⟨hp,g,d,tk,os⟩->wpAny (model prog w) A.in1 (richCompare .Lt y x) Q E ⟨hp,g,d,tk,os⟩:=fun h=>k prog w _ _ h
    wp_walk using k'
    exact⟨_,rfl,h⟩
  case fin=>
   rintro⟨b1,b2⟩ s' ⟨hb',rfl,hx⟩
   simp only at hb';subst hb';cases hx
   wp_walk
   exact⟨_,rfl,by simpa [Builtin.Tuple.tupleCompareSizes] using h⟩
  case h=>
   exact⟨rfl,rfl,hc⟩
theorem LtAt.tuples{A:Around}{s:Shared}{l b:Addr}{is js:Array Value}{c:Bool}(hl:s.heap.IsTuple l is)(hb:s.heap.IsTuple b js)(hu:A.units<cLine)
  (he:LexAt A.in1 s (decide (is.size<js.size)) (is.toList.zip js.toList) c):LtAt A s (.ref l) (.ref b) c:=fun prog w E Q h=>by
 obtain⟨⟨cls,dd,data,sl⟩,ho,hc,n,hd⟩:=id hl;obtain⟨⟨cls2,dd2,data2,sl2⟩,ho2,hc2,n2,hd2⟩:=id hb;simp only at hc hd hc2 hd2;subst hc hd hc2 hd2;exact richCompare_meets_room (op:=.Lt) ⟨_,ho,rfl⟩ ⟨_,ho2,rfl⟩ F.slot_tuple_lt F.entry_tuple_lt (F.args_tuple_lt_2 _ _) (qye l b is js n n2 dd dd2 sl sl2)
  ⟨ho,ho2,c,he,show Value.bool c≠Value.notImplemented/\Q (.bool c) s from⟨(fun x=>nomatch x),h⟩⟩ hu
end Srt
namespace Srt
open PySem PyProof.Rows
def q0x(h:Heap)(a:Addr)(vs:List Value): Heap:=((h.update a (Obj.mapSeq fun _=> #[])).push (seqObj "tuple" vs.toArray 0)).push (seqObj "list" #[] 0)
section
variable{prog:Program}{w:World}{A:Around}{E:Ta}{s:Shared}{κ : SortKind}{G:Value->Prop}{lt:Value->Value->Bool}
def srtH(h:Heap)(vs:List Value): Heap:=((h.push (seqObj "list" #[] 0)).update h.objs.size (Obj.mapSeq (· ++ vs.toArray))).push (seqObj "list" vs.toArray 0)
end
end Srt
namespace DL
open PySem PySem.Spec PyProof.Rows L2 Srt
variable[Lam][Pin]
theorem qox:∀n,(∀d e:D,sizeOf d<n->shD d e=true->okE d e=true/\eqD d e=(!ltT d e && !ltT e d))/\(∀ds es:List D,sizeOf ds<n->shL ds es=true->xo ds es=true/\eqL ds es=(!q30 ds es && !q30 es ds)):=by
 intro n
 induction n with
 | zero=>exact⟨fun d e h=>absurd h (t7 _),fun d e h=>absurd h (t7 _)⟩
 | succ n ih=>
  refine⟨fun d e hn h=>?_,fun ds es hn h=>?_⟩
  ·cases d <;> cases e <;> simp only [shD] at h <;> first|(cases h;done)|skip
   ·refine⟨by simp [okE,flat,flD],?_⟩
    rw [q4w,q4w];simp only [eqD,eqF];rename_i i j
    by_cases e1:i=j
    ·subst e1;simp
    ·have:(i==j)=false:=by simpa using e1
     rw [this]
     by_cases e2:i<j
     ·simp [e2]
     ·have e3:j<i:=by lia
      simp [e3]
   ·rw [q8s,q8s]
    simp only [okE,eqD];exact ih.2 _ _ (by simp at hn;lia) h
  ·cases ds with
   | nil=>cases es <;> simp [xo,eqL,q5v,q7o]
   | cons d ds=>
    cases es with
    | nil=>simp [xo,eqL,q5v,q7o]
    | cons e es=>
     simp only [shL,mn] at h;obtain⟨a1,a2⟩:=ih.1 d e (by simp at hn;lia) h.1;obtain⟨b1,b2⟩:=ih.2 ds es (by simp at hn;lia) h.2;refine⟨by simp only [xo,a1,b1,Bool.and_true],?_⟩;rw [q3o,q3o];simp only [eqL,a2,b2];cases e1:ltT d e <;> cases e2:ltT e d <;> simp
theorem z0r{d e:D}(h:shD d e=true): okE d e=true:=((qox (sizeOf d+1)).1 d e (t8 _) h).1
theorem qtt{d e:D}(h:shD d e=true): eqD d e=(!ltT d e && !ltT e d):=((qox (sizeOf d+1)).1 d e (t8 _) h).2
section
variable{X:Cx}{pins:Td}{σ : St}{F H:Hp}{s:Shared}
theorem qdj{A:Around}(I:Inv X pins σ H s)(fh:Same F H)(f:Bool): ∀ {ds es:List D} {xs ys:List V} {us vs:List Value},(∀d∈ds,∀e x y u v,shD d e=true->A.units+kg d<cLine->Rep X.K F d x->Rep X.K F e y->RelV x u->RelV y v->LtAt A s u v (ltT d e)) ->
  shL ds es=true->A.units+xp ds<cLine->RepL X.K F ds xs->RepL X.K F es ys->Vals xs us->Vals ys vs->f=decide (ds.length<es.length)->LexAt A s f (us.zip vs) (q30 ds es)
 | [],es,xs,ys,us,vs,_,_,_,k1,k2,w1,w2,hf=>by
  cases k1.nil_inv;cases w1;cases es with
  | nil=>rw [q5v];simp only [List.zip_nil_left];rw [show false=f by rw [hf];simp];exact .nil
  | cons e es=>rw [q7o];simp only [List.zip_nil_left];rw [show true=f by rw [hf];simp];exact .nil
 | d :: ds,[],xs,ys,us,vs,_,_,_,k1,k2,w1,w2,hf=>by
  cases k2.nil_inv;cases w2;rw [q5v];simp only [List.zip_nil_right];rw [show false=f by rw [hf];simp];exact .nil
 | d :: ds,e :: es,xs,ys,us,vs,ih,hs,hu,k1,k2,w1,w2,hf=>by
  obtain⟨x,r,rfl,a1,a2⟩:=k1.cons_inv;obtain⟨y,r',rfl,b1,b2⟩:=k2.cons_inv;cases w1 with
  | cons p1 p2=>
   cases w2 with
   | cons p3 p4=>
    simp only [shL,mn] at hs;simp only [xp] at hu;rw [List.zip_cons_cons];have he:=qbf I fh A (z0r hs.1) (by lia) a1 b1 p1 p3;have hl:=ih d ma e x y _ _ hs.1 (by lia) a1 b1 p1 p3;rw [qtt hs.1] at he;rw [q3o];cases e1:ltT d e
    ·cases e2:ltT e d
     ·rw [e1,e2] at he
      simp only [g5b,g2o,g5d];exact .eq he (qdj I fh f (fun d' hd'=>ih d' (gz _ hd')) hs.2 (by lia) a2 b2 p2 p4 (by rw [hf];simp))
     ·rw [e1,e2] at he
      rw [e1] at hl;exact .ne he hl
    ·rw [e1] at he hl
     exact .ne he hl
theorem qyf(I:Inv X pins σ H s)(fh:Same F H): ∀ {d e:D} {x y:V} {u v:Value} (A:Around),shD d e=true->A.units+kg d<cLine->Rep X.K F d x->Rep X.K F e y->RelV x u->RelV y v->LtAt A s u v (ltT d e):=by
 suffices hh:∀n,(∀d e x y u v (A:Around),sizeOf d<n->shD d e=true->A.units+kg d<cLine->Rep X.K F d x->Rep X.K F e y->RelV x u->RelV y v->LtAt A s u v (ltT d e)) from
  fun {d e x y u v} A=>hh (sizeOf d+1) d e x y u v A (t8 _)
 intro n
 induction n with
 | zero=>intro d e x y u v A h;exact absurd h (t7 _)
 | succ n ih=>
  intro d e x y u v A hn hs hu r1 r2 q1 q2;cases d <;> cases e <;> simp only [shD] at hs <;> first|(cases hs;done)|skip
  ·cases rep_int.mp r1
   cases rep_int.mp r2;obtain⟨t,rfl⟩:=q1;obtain⟨t',rfl⟩:=q2;rw [q4w];intro prog w E Q h;exact lt_int h
  ·rename_i ds es
   obtain⟨a,xs,rfl,k1,k2⟩:=rep_tup.mp r1;obtain⟨b,ys,rfl,k3,k4⟩:=rep_tup.mp r2;cases q1;cases q2;obtain⟨i1,v1,t1,_⟩:=I.tuple (z0 fh k1);obtain⟨i2,v2,t2,_⟩:=I.tuple (z0 fh k3);simp only [kg] at hu;rw [q8s];refine LtAt.tuples (show s.heap.IsTuple a i1.toArray from t1) (show s.heap.IsTuple b i2.toArray from t2) (by lia) ?_;refine qdj I fh _ (fun d hd e x y u v s1 s2 s3 s4 s5 s6=>ih d e x y u v A.in1 ?_ s1 s2 s3 s4 s5 s6) hs (by show A.units+1+xp ds<cLine;lia) k2 k4 v1 v2 ?_
   ·have:=List.sizeOf_lt_of_mem hd
    simp at hn;lia
   ·rw [gq,gq, <- v1.length, <- v2.length, <- k2.length, <- k4.length]
open Classical in
end
end DL
namespace DL
open PySem PySem.Spec PyProof.Rows L2 Srt PySem.W
variable[Lam][Pin]
def qmd:D->Bool
 | .tup (.int _ :: _)=>true
 | _=>false
section
variable{X:Cx}{pins:Td}{σ : St}{F H:Hp}{s:Shared}
theorem qoy{prog:Program}{w:World}{A:Around}{f c:Bool}{Q:Bool->Shared->Prop}{l:List (Value×Value)}(h:LexAt A s f l c): ∀i,1<=i->Q c s->KatLex prog w A true f Q l i s:=by
 induction h with
 | nil=>intro i _ q;exact kat_nil q
 | eq e _ ih=>intro i hi q;exact kat_cons (e prog w _ _ (kat_yes (ih (i+1) (by lia) q)))
 | ne e k=>
  intro i hi q;refine kat_cons (e prog w _ _ (kat_no ?_));have:(true&&i==0)=false:=by simp;lia
  rw [this];exact kat_one _ _ (k prog w _ _ q)
theorem qbt{h:Heap}: ∀ {vs:List Value},(∀v∈vs,∃a o xs n i t,v=.ref a/\h.get? a=some o/\o.cls=.type "tuple" /\ o.data=.seq xs n/\xs[0]? = some (Value.int i t)) ->
  ∃fs:List Value,KatTups h vs fs/\fs.length=vs.length/\∀v∈fs,∃i t,v=Value.int i t
 | [],_=>⟨[],.nil,rfl,fun v hv=>by cases hv⟩
 | v :: vs,hh=>by
  obtain⟨a,o,xs,n,i,t,rfl,h1,h2,h3,h4⟩:=hh v ma;obtain⟨fs,k1,k2,k3⟩:=qbt fun v hv=>hh v (gz _ hv);refine⟨.int i t :: fs,.cons h1 h2 h3 h4 k1,by simp [k2],fun v hv=>?_⟩;rcases mh.mp hv with rfl|hv
  ·exact⟨i,t,rfl⟩
  ·exact k3 v hv
end
end DL
namespace Srt
open PySem PyProof.Rows
section
variable{prog:Program}{w:World}{A:Around}{E:Ta}{s:Shared}
theorem qhk{kS:Addr}{f:Value}{vs:List Value}{J:List Value->Shared->Prop}{body:Value->PUnit->Sem (ForInStep PUnit)}(hz:vs.length<=sizeLine)
  (hb:∀x ks (s:Shared) (C:Ta),ks.length<vs.length->wpAny (model prog w) A (call f [x]) (fun k s'=>(∃e,s'.heap.get? kS=some (seqObj "list" (List.toArray ks) e))/\C k {s' with heap:=s'.heap.update kS (Obj.mapSeq (·.push k))}) (fun _ _=>False) s ->
   wpAny (model prog w) A (body x ⟨⟩) (fun r s'=>r=.yield ⟨⟩/\∃k,C k s') E s)
  (hstep:∀l v r,vs=l++v :: r->∀ks s',ks.length=l.length->J ks s'->wpAny (model prog w) A (call f [v]) (fun k s''=>(∃e,s''.heap.get? kS=some (seqObj "list" (List.toArray ks) e))/\J (ks++[k]) {s'' with heap:=s''.heap.update kS (Obj.mapSeq (·.push k))}) (fun _ _=>False) s') :
  ∀(r l ks:List Value) (s:Shared),vs=l++r->ks.length=l.length->J ks s->wpAny (model prog w) A (forIn r PUnit.unit body) (fun _ s'=>∃ks,ks.length=vs.length/\J ks s') E s
 | [],l,ks,s,h1,h2,h3=>by
  rw [g2l];exact gf ⟨ks,by rw [h2,h1];simp,h3⟩
 | x :: r,l,ks,s,h1,h2,h3=>by
  rw [g1k];refine g9 (nu (hb x ks s (fun k s'=>J (ks++[k]) s') (by rw [h1,h2];simp) (hstep l x r h1 ks s h2 h3)) (fun q s' hq=>?_) fun _ _ x=>x);obtain⟨rfl,k,hk⟩:=hq;show wpAny (model prog w) A (forIn r PUnit.unit body) _ E s';exact qhk hz hb hstep r (l++[x]) (ks++[k]) s' (by rw [h1];simp) (by simp [h2]) hk
end
end Srt
namespace DL
open PySem PySem.Spec PyProof.Rows L2 Srt PySem.W
variable[Lam]
section
variable{X:Cx}{pins:Td}{σ : St}{F H:Hp}{s:Shared}
structure Late(X:Cx)(pins:Td)(b:Addr): Prop where
 loc:b≠X.env.locals
 up:X.s₀.heap.objs.size<=b
 cel:∀x c,X.env.cells.lookup x=some c->c≠b
 pin:∀p∈X.pn++pins,p.1≠b
 frs:b∉frs X.stack
theorem qyg(I:Inv X pins σ H s){b:Addr}(hb:s.heap.objs.size<=b): Late X pins b where
 loc:=pd (gx I.lt hb)
 up:=mi I.sz hb
 cel:=fun x c e z=>by
  subst z;obtain⟨v,o,ho,_⟩:=I.cell x c e;exact absurd (gu ho) (Nat.not_lt.mpr hb)
 pin:=fun p hp z=>by
  subst z;exact absurd (gu (I.pin p hp).1) (Nat.not_lt.mpr hb)
 frs:=fun z=>(mh.mp (I.stkSub b z)).elim (pd (gx I.lt hb)) (I.nofs hb)
theorem qhl(I:Inv X pins σ H s){b:Addr}(l:Late X pins b){h':Heap}(k:∀c o,c≠b->s.heap.get? c=some o->h'.get? c=some o)(hn:H b=none): Inv X pins σ H {s with heap:=h'}:=
 I.turned (t':=s.toks) k hn l.loc (.inr l.up) l.cel l.pin
theorem qoz(I:Inv X pins σ H s){b:Addr}(l:Late X pins b){h':Heap}{o:HO}(k:∀c o,c≠b->s.heap.get? c=some o->h'.get? c=some o)(hn:H b=none)(new:ObjOk X.prog X.w (upd H b o) h' b o):
  Inv X pins σ (upd H b o) {s with heap:=h'}:=by
 have nb:∀c u,H c=some u->c≠b:=fun c u e z=>by rw [z,hn] at e;cases e
 refine I.step (t':=s.toks) (g':=s.gens) (d':=s.drawn) (ch:=[b]) (fun c hc=>?_) (fun c u _ _ hc e _=>k c u (fun z=>hc (by simp [z])) e) (fun c u _ _ hc e _=>⟨u.slots,k c u (fun z=>hc (by simp [z])) e⟩)
  (fun c u hc _ n=>by rw [qr (fun z=>hc (by simp [z]))];exact n) (fun c u hc e=>⟨u,k c u (fun z=>hc (by simp [z])) e⟩) (fun c xs e=>by rw [qr (nb c _ e)];exact e) (fun c _ _ e=>by rw [qr (nb c _ e)];exact e)
  (fun c ps e=>⟨#[],by rw [qr (nb c _ e),e];simp⟩) (fun m hm=>?_) (fun c u e=>?_) I.bare
 ·have e:c=b:=by simpa using hc
  subst e;exact⟨.inr l.up,l.loc,l.cel,l.pin⟩
 ·obtain⟨u,es,ep,ho,r⟩:=hm
  exact⟨u,es,ep,k _ u (ml l.loc) ho,r⟩
 ·by_cases hc:c=b
  ·subst hc;rw [za] at e;cases e;exact new
  ·rw [qr hc] at e
   refine(I.hok c u e).stay (fun d v hd q=>k d v ?_ q) (fun d q=>by rw [qr (nb d _ q)];exact q) fun d xs q=>by rw [qr (nb d _ q)];exact q
   rcases hd with z|z
   ·rw [z];exact hc
   ·exact nb d _ z
def q06(op:Ti): List D->Option (List D)
 | []=>some []
 | d :: ds=>(op [d]).bind fun k=>(q06 op ds).map fun ks=>k :: ks
theorem qbu{op:Ti}: ∀ {l:List D} {d k:D} {ks:List D},q06 op l=some ks->op [d]=some k->q06 op (l++[d])=some (ks++[k])
 | [],d,k,ks,h,e=>by
  cases h;simp [q06,e]
 | x :: l,d,k,ks,h,e=>by
  simp only [q06] at h;obtain⟨k1,h1,h2⟩:=gc.mp h;obtain⟨ks1,h3,h4⟩:=gp.mp h2;subst h4;simp only [g35,q06,h1,gj,qbu h3 e,mx]
theorem qel{op:Ti}: ∀ {l ks:List D},q06 op l=some ks->ks.length=l.length
 | [],ks,h=>by cases h;rfl
 | x :: l,ks,h=>by
  simp only [q06] at h;obtain⟨k1,h1,h2⟩:=gc.mp h;obtain⟨ks1,h3,h4⟩:=gp.mp h2;subst h4;simp [qel h3]
theorem qem{op:Ti}: ∀ {l ks:List D} {d:D},q06 op l=some ks->d∈l->∃k,op [d]=some k
 | x :: l,ks,d,h,hd=>by
  simp only [q06] at h;obtain⟨k1,h1,h2⟩:=gc.mp h;obtain⟨ks1,h3,h4⟩:=gp.mp h2;rcases mh.mp hd with rfl|hd
  ·exact⟨k1,h1⟩
  ·exact qem h3 hd
theorem qhm{h:Heap}{a:Addr}{ks:List Value}{e:Nat}(ho:h.get? a=some (seqObj "list" ks.toArray e))(k:Value): ∃e',(h.update a (Obj.mapSeq (·.push k))).get? a=some (seqObj "list" (ks++[k]).toArray e'):=by
 have:=g1n ho (·.push k);have e2:(ks.toArray.push k)=(ks++[k]).toArray:=by simp
 rw [e2] at this;exact⟨_,this⟩
end
end DL
namespace Srt
open PySem PyProof.Rows PySem.W
def qhn{α : Type}(n:Nat)(lt:Nat->Nat->Bool): KasT α -> Option α
 | .ret a=>some a
 | .ask i j k=>if i<n/\j<n then qhn n lt (k (lt i j)) else none
theorem qp0{α : Type}{n:Nat}{lt:Nat->Nat->Bool}{cmp:Nat->Nat->(Bool->Shared->Prop)->Shared->Prop}{G : α -> Shared->Prop}{s:Shared}(hc:∀i j C,i<n->j<n->C (lt i j) s->cmp i j C s): ∀(t:KasT α) {a : α},qhn n lt t=some a->G a s->t.kasWp cmp G s
 | .ret _,_,h,g=>by cases h;exact g
 | .ask i j k,_,h,g=>by
  unfold qhn at h
  split at h
  ·rename_i hij
   exact hc i j _ hij.1 hij.2 (qp0 hc (k (lt i j)) h g)
  ·cases h
section
variable{prog:Program}{w:World}{A:Around}{E:Ta}{s:Shared}
def Fin(prog:Program)(w:World)(A:Around)(ks vs out:List Value)(s:Shared): Prop:=(vs.length<2->out=vs)/\(2<=vs.length->∃(κ : SortKind) (lt:Nat->Nat->Bool) (p:Array Nat),(∀(E:Ta) (Q:SortKind->Shared->Prop),Q κ s->wpAny (model prog w) A (keyKind' ks.toArray) Q E s) /\
 (∀i j C,i<vs.length->j<vs.length->C (lt i j) s->kas_ask prog w A κ ks i j C s)/\qhn vs.length lt (kas_sort vs.length)=some p/\out=p.toList.map fun i=>vs.getD i Value.none)
theorem qp1{a:Addr}{f:Value}{vs:List Value}{n:Nat}{P:PySem.Fin->Shared->Prop}(ho:s.heap.get? a=some (seqObj "list" vs.toArray n))(hz:vs.length<=sizeLine)(h64:vs.length<64)(J:List Value->Shared->Prop)
  (h0:J [] {s with heap:=q0x s.heap a vs})
  (hstep:∀l v r,vs=l++v :: r->∀ks s',ks.length=l.length->J ks s'->wpAny (model prog w) A (call f [v]) (fun k s''=>(∃e,s''.heap.get? (s.heap.objs.size+1)=some (seqObj "list" (List.toArray ks) e))/\J (ks++[k]) {s'' with heap:=s''.heap.update (s.heap.objs.size+1) (Obj.mapSeq (·.push k))}) (fun _ _=>False) s')
  (hfin:∀ks s',ks.length=vs.length->J ks s'->(∃e,s'.heap.get? (s.heap.objs.size+1)=some (seqObj "list" (List.toArray ks) e))/\s'.heap.get? a=(q0x s.heap a vs).get? a /\
   ∃out,Srt.Fin prog w A ks vs out s'/\P (.done (.ret .none)) {s' with heap:=(s'.heap.update (s.heap.objs.size+1) (Obj.mapSeq fun _=> #[])).update a (Obj.mapSeq fun _=>out.toArray)}) :
  wpAny (model prog w) A (ksk_tree a f false) P E s:=by
 have ha:a<s.heap.objs.size:=gu ho;obtain⟨e1,ho1⟩:∃e1,(s.heap.update a (Obj.mapSeq fun _=>(#[]:Array Value))).get? a=some (seqObj "list" #[] e1):=⟨_,g1n ho fun _=> #[]⟩
 have hkS:((s.heap.update a (Obj.mapSeq fun _=>(#[]:Array Value))).push (seqObj "tuple" vs.toArray 0)).objs.size=s.heap.objs.size+1:=by rw [g0g,um]
 have ho6:(q0x s.heap a vs).get? a=some (seqObj "list" #[] e1):=by
  unfold q0x;rw [g05 _ _ _ (by rw [g0g,um];exact m4 (g15 ha)),g05 _ _ _ (by rw [um];exact m4 ha)];exact ho1
 unfold ksk_tree;refine g9 (listItems_at ho rfl ?_);refine g9 (listUpdate_at ho rfl ?_ (by simpa using hz) (u6 _));refine g9 (seqEpoch_at ho1 rfl ?_);refine g9 (wpAny_newTuple ?_ (by simpa using hz));refine g9 (wpAny_newList ?_ (u6 _));refine nr ?_;rw [hkS];show wpAny (model prog w) A (ksk_rest a f false vs.toArray e1 (.ref (s.heap.objs.size+1))) P E {s with heap:=q0x s.heap a vs};unfold ksk_rest;refine g9 (g0f ?_);rw [List.forIn_toArray];refine g9 (nu (qhk (vs:=vs) (J:=J) hz (fun x ks s' C hl hx=>?_) hstep vs [] [] _ rfl rfl h0) (fun _ s' hd=>?_) fun _ _ x=>x)
 ·refine g9 (g1i (nu hx (fun k s'' hk=>?_) fun _ _ hF=>hF.elim))
  obtain⟨⟨e,he⟩,hc⟩:=hk;dsimp only;refine g9 (listUpdate_at he rfl ?_ (by rw [gq];lia) (mi (g5e (Array.size_push ..)) (by rw [gq];lia)));exact gf ⟨rfl,k,hc⟩
 ·obtain⟨ks,hl,hJ⟩:=hd
  obtain⟨⟨e,he⟩,hA,out,⟨f1,f2⟩,fin⟩:=hfin ks s' hl hJ;rw [ho6] at hA;refine g9 (listItems_at he rfl ?_);unfold ksk_end;dsimp only;rw [mf (by simp)];have hks:a≠s.heap.objs.size+1:=m4 (g15 ha);have tail:∀st':SortSt,failedOf st'=none->(arrOf st').map (·.2)=out.toArray->out.length=vs.length->wpAny (model prog w) A (ksk_tail a false e1 (.ref (s.heap.objs.size+1)) st') P E s':=by
   intro st' hf eo hlen;unfold ksk_tail;dsimp only;rw [eo];refine g9 (listUpdate_at he rfl ?_ (by rw [gq,hl];exact hz) (u6 _));refine g9 (g51 ?_);have hA2:(s'.heap.update (s.heap.objs.size+1) (Obj.mapSeq fun _=> #[])).get? a=some (seqObj "list" #[] e1):=by
    rw [uw _ _ _ _ hks];exact hA
   refine g9 (seqEpoch_at hA2 rfl ?_);refine g9 (listUpdate_at hA2 rfl ?_ (u6 _) (by simp only [my,g11];rw [gq,hlen];lia));rw [hf];simp only [bne_self_eq_false,my,g11];exact gf fin
  have hsz:vs.toArray.size=vs.length:=by simp
  by_cases h2:vs.toArray.size<2
  ·rw [gw h2,gw h2]
   refine g9 (gf ?_);rw [StateT.run_pure];refine g9 (gf ?_);dsimp only;rw [f1 (by rw [<- hsz];exact h2)] at tail;refine tail _ rfl ?_ rfl;apply Array.ext';show((ks.toArray.zip vs.toArray).map (·.2)).toList=_;simp [List.map_snd_zip,hl]
  ·rw [mf h2,mf h2]
   have h2':2<=vs.length:=by lia
   obtain⟨κ,lt,p,hkind,hc,hp,rfl⟩:=f2 h2';refine g9 (hkind _ _ ?_);refine g9 (nu (kat_run (G:=fun q s''=>q=p/\s''=s') (Q:=fun st' s''=>s''=s'/\failedOf st'=none/\(arrOf st').map (·.2)=(p.toList.map fun i=>vs.getD i Value.none).toArray/\p.size=vs.length) hl h2' h64
    (fun q st' s'' z1 z2 z3 z4=>by obtain⟨rfl,rfl⟩:=z4;exact⟨rfl,z3,kat_snds hl z2,z1⟩) (qp0 hc _ hp ⟨rfl,rfl⟩)) ?_ fun _ _ e=>e)
   rintro⟨⟨⟩,st'⟩ s'' ⟨rfl,hf,eo,hz⟩
   dsimp only;exact tail st' hf eo (by rw [gv,g0l,hz])
theorem qjd{l fa:Addr}{vs:List Value}{Q:Ta}(hl:s.heap.IsList l vs.toArray)(hz:vs.length<=sizeLine)(h64:vs.length<64)(J:List Value->Shared->Prop)
  (h0:J [] {s with heap:=q0x (srtH s.heap vs) (s.heap.objs.size+1) vs})
  (hstep:∀l v r,vs=l++v :: r->∀ks s',ks.length=l.length->J ks s'->wpAny (model prog w) A.in1.in1 (call (.ref fa) [v]) (fun k s''=>(∃e,s''.heap.get? (s.heap.objs.size+3)=some (seqObj "list" (List.toArray ks) e))/\J (ks++[k]) {s'' with heap:=s''.heap.update (s.heap.objs.size+3) (Obj.mapSeq (·.push k))}) (fun _ _=>False) s')
  (hfin:∀ks s',ks.length=vs.length->J ks s'->(∃e,s'.heap.get? (s.heap.objs.size+3)=some (seqObj "list" (List.toArray ks) e))/\s'.heap.get? (s.heap.objs.size+1)=(q0x (srtH s.heap vs) (s.heap.objs.size+1) vs).get? (s.heap.objs.size+1) /\
   ∃out,Srt.Fin prog w A.in1.in1 ks vs out s'/\Q (.ref (s.heap.objs.size+1)) {s' with heap:=(s'.heap.update (s.heap.objs.size+3) (Obj.mapSeq fun _=> #[])).update (s.heap.objs.size+1) (Obj.mapSeq fun _=>out.toArray)}) :
  wpAny (model prog w) A (call (.builtin "sorted") [.ref l] [(Str.ofString "key",.ref fa)]) Q E s:=by
 refine call_function_entry_kw kind_sorted plain_sorted entry_sorted (ksk_s1 _ _) ?_;unfold Builtin.«sorted»;refine g9 (m:=checkCount "sorted" 1 1 _) (gf ?_);refine g9 (collect_list hl ?_ hz);refine g9 (wpAny_newList ?_ (by simpa using hz));have hsz:((s.heap.push (seqObj "list" #[] 0)).update s.heap.objs.size (Obj.mapSeq (· ++ vs.toArray))).objs.size=s.heap.objs.size+1:=by
  rw [um,g0g]
 have hsz2:(srtH s.heap vs).objs.size+1=s.heap.objs.size+3:=by unfold srtH;rw [g0g,hsz]
 have hoL:(srtH s.heap vs).get? (s.heap.objs.size+1)=some (seqObj "list" vs.toArray 0):=by
  unfold srtH;rw [<- hsz];exact gs _ rfl
 show wpAny _ _ _ _ _ {s with heap:=srtH s.heap vs};rw [hsz];refine g9 (nr (wpAny_call_entry_kw slot_list_sort ⟨_,hoL,rfl⟩ entry_list_sort ?_ (ksk_l1 _ _)));show wpAny (model prog w) A.in1.in1 (Builtin.«list.sort» ⟨[.ref (s.heap.objs.size+1)],[(Str.ofString "key",.ref fa)]⟩) _ _ _;rw [ksk_t1];refine qp1 (s:={s with heap:=srtH s.heap vs}) hoL hz h64 J h0 (by dsimp only;rw [hsz2];exact hstep) ?_;intro ks s' h1 h2;obtain⟨b1,b2,out,b3,b4⟩:=hfin ks s' h1 h2;dsimp only;rw [hsz2];exact⟨b1,b2,out,b3,_,rfl,gf ⟨_,rfl,b4⟩⟩
end
end Srt
namespace DL
open PySem PySem.Spec PyProof.Rows L2 Srt PySem.W
variable[Lam]
section
variable{X:Cx}{pins:Td}{σ : St}{F H:Hp}{s:Shared}
def qrw(ks:List D): Bool:=(ks.all fun d=>ks.all fun e=>shD d e)&&(ks.all qmd&&ks.all fun d=>decide (kg d<=50))
omit [Lam] in
theorem q5w{K:Frag}{ds:List D}{ys:List V}(k:RepL K F ds ys)(i:Nat): Rep K F (ds.getD i .non) (ys.getD i .non):=by
 cases e:ds[i]? with
 | some d=>
  obtain⟨y,e2,r⟩:=k.get e;rw [nv,nv,e,e2];exact r
 | none=>
  have:ys[i]? = none:=g1y (by rw [<- k.length];exact g4f.mp e);rw [nv,nv,e,this];exact rep_non.mpr rfl
omit [Lam] in
theorem q3p{ys:List V}{us:List Value}(k:Vals ys us)(i:Nat): RelV (ys.getD i .non) (us.getD i .none):=by
 cases e:ys[i]? with
 | some d=>
  obtain⟨y,e2,r⟩:=k.get e;rw [nv,nv,e,e2];exact r
 | none=>
  have:us[i]? = none:=g1y (by rw [<- k.length];exact g4f.mp e);rw [nv,nv,e,this];rfl
omit [Lam] in
theorem getD_mem{ks:List D}{i:Nat}(h:i<ks.length): ks.getD i .non∈ks:=by
 rw [nv,mw h];exact g0p h
omit [Lam] in
theorem qab{K:Frag}{ds:List D}{ys:List V}{us:List Value}(k:RepL K F ds ys)(r:Vals ys us): ∀l:List Nat,Vals (l.map fun i=>ys.getD i .non) (l.map fun i=>us.getD i .none)/\RepL K F (l.map fun i=>ds.getD i .non) (l.map fun i=>ys.getD i .non)
 | []=>⟨.nil,.nil⟩
 | i :: l=>⟨.cons (q3p r i) (qab k r l).1,.cons (q5w k i) (qab k r l).2⟩
theorem qdk{d:D}(h:qmd d=true): ∃i ds,d=.tup (.int i :: ds):=by
 unfold qmd at h
 split at h
 ·exact⟨_,_,rfl⟩
 ·cases h
theorem z1x(I:Inv X pins σ H s)(fh:Same F H)(A:Around)(hu:A.units+60<cLine){us:List Value}{ks:List D}{xs:List V}(rk:RepL X.K F ks xs)(vk:Vals xs us)(ok:qrw ks=true):
  (0<us.length->∀(E:Ta) (Q:SortKind->Shared->Prop),Q (tuples' true) s->wpAny (model X.prog X.w) A (keyKind' us.toArray) Q E s) /\
   ∀i j C,i<us.length->j<us.length->C (ltT (ks.getD i .non) (ks.getD j .non)) s->kas_ask X.prog X.w A (tuples' true) us i j C s:=by
 unfold qrw at ok;rw [mn,mn] at ok;obtain⟨o2,o3,o4⟩:=ok;have ll:us.length=ks.length:=by rw [<- vk.length,rk.length]
 refine⟨fun h2 E Q q=>?_,fun i j C hi hj q=>?_⟩
 ·obtain⟨fs,k1,k2,k3⟩:=qbt (h:=s.heap) (vs:=us) fun v hv=>by
   obtain⟨i,hi,rfl⟩:=List.mem_iff_getElem.mp hv;have r:=q5w rk i;have qx:=q3p vk i;obtain⟨n0,ds,e⟩:=qdk (t4.mp o3 _ (getD_mem (by rw [<- ll];exact hi)));rw [e] at r;rw [nv (l:=us),mw hi] at qx;obtain⟨a,ys,e2,q1,q2⟩:=rep_tup.mp r;rw [e2] at qx;obtain⟨x0,r0,rfl,z1,z2⟩:=q2.cons_inv;cases rep_int.mp z1;obtain⟨its,r1,⟨o,ho,hc,n,hd⟩,_⟩:=I.tuple (z0 fh q1);cases r1 with
   | cons p1 p2=>
    obtain⟨t,rfl⟩:=p1;exact⟨a,o,_,n,n0,t,qx,ho,hc,hd,by simp⟩
  refine kat_kind (T:=.type "int") k1 (by rw [k2];exact h2) (fun v hv=>?_) (by rfl) q;obtain⟨i,t,rfl⟩:=k3 v hv;exact Looks.of_pure rfl
 ·show wpAny _ _ (keyLt' _ (us.getD i Value.none) (us.getD j Value.none)) _ _ _
  have r:=q5w rk i;have r':=q5w rk j;have qx:=q3p vk i;have qy:=q3p vk j;have md:=getD_mem (ks:=ks) (i:=i) (by rw [<- ll];exact hi);have me:=getD_mem (ks:=ks) (i:=j) (by rw [<- ll];exact hj);have hs:=t4.mp (t4.mp o2 _ md) _ me;have dp:=ur (t4.mp o4 _ md);obtain⟨m0,ds,e1⟩:=qdk (t4.mp o3 _ md);obtain⟨n0,es,e2⟩:=qdk (t4.mp o3 _ me);rw [e1] at r hs dp q;rw [e2] at r' hs q;generalize us.getD i Value.none=u at qx ⊢;generalize us.getD j Value.none=v at qy ⊢;obtain⟨a,xs',e3,q1,q2⟩:=rep_tup.mp r;obtain⟨b,ys',e4,q3,q4⟩:=rep_tup.mp r';rw [e3] at qx;rw [e4] at qy;cases qx;cases qy;obtain⟨x0,r0,rfl,z1,z2⟩:=q2.cons_inv;obtain⟨y0,w0,rfl,z3,z4⟩:=q4.cons_inv;have z1':=z1;have z3':=z3;cases rep_int.mp z1;cases rep_int.mp z3;obtain⟨its,r1,⟨o,ho,hc,n,hdt⟩,_⟩:=I.tuple (z0 fh q1);obtain⟨its2,r2,⟨o2,ho2,hc2,n2,hdt2⟩,_⟩:=I.tuple (z0 fh q3);cases r1 with
  | cons p1 p2=>
   cases r2 with
   | cons p3 p4=>
    have hp1:=p1;have hp3:=p3;obtain⟨t,rfl⟩:=p1;obtain⟨t',rfl⟩:=p3;simp only [shD,shL,mn] at hs;simp only [kg,xp] at dp;refine kat_lt ho hdt ho2 hdt2 ?_;rw [q8s,q3o] at q;have hE:=qbf I fh A (d:=.int m0) (e:=.int n0) (by simp [okE,flat,flD]) (by simp only [kg];lia) z1' z3' hp1 hp3;rw [qtt (by simp only [shD])] at hE;simp only [List.zip_cons_cons];have lex:=qdj I fh (A:=A) (decide (ds.length<es.length)) (fun d _ e x y u v s1 s2 s3 s4 s5 s6=>qyf I fh A s1 s2 s3 s4 s5 s6) hs.2 (by lia) z2 z4 p2 p4 rfl;rw [show ∀l1 l2,Paired RelV r0 l1->Paired RelV w0 l2->decide ((Value.int m0 t :: l1).toArray.size<(Value.int n0 t' :: l2).toArray.size)=decide (ds.length<es.length) from fun l1 l2 a3 a4=>by
     simp only [gq,mv];rw [<- g41 a3, <- g41 a4, <- z2.length, <- z4.length];simp] <;> try assumption
    cases c1:ltT (.int m0) (.int n0)
    ·have c1':decide (m0<n0)=false:=by rw [<- q4w];exact c1
     cases c2:ltT (.int n0) (.int m0)
     ·rw [c1,c2] at hE q
      simp only [g5b,g2o,g5d] at q;exact kat_cons (hE X.prog X.w _ _ (kat_yes (qoy lex 1 (m6 _) q)))
     ·rw [c1,c2] at hE q
      exact kat_cons (hE X.prog X.w _ _ (kat_no (oneLt_int (by rw [c1'];exact q))))
    ·have c1':decide (m0<n0)=true:=by rw [<- q4w];exact c1
     rw [c1] at hE q;exact kat_cons (hE X.prog X.w _ _ (kat_no (oneLt_int (by rw [c1'];exact q))))
def q7p(op:Ti): List D->Option (List D)
 | [.lst ds]=>(q06 op ds).bind fun ks=>if qrw ks&&decide (ds.length<64) then(if ds.length<2 then some ds else(qhn ds.length (fun i j=>ltT (ks.getD i .non) (ks.getD j .non)) (kas_sort ds.length)).bind fun p=>if p.size<64 then some (p.toList.map fun i=>ds.getD i .non) else none) else none
 | _=>none
theorem qp2{k k':Nat}{fn l:Addr}{fd:FuncData}{ps:List Str}{sp:Sp}{op:Ti}{ds es:List D}{Q:VK}(Fk:FnOk X.prog X.w X.K X.mg X.base CX0 k fn fd ps sp)
  (hsp:∀(F' H':Hp) (dv kd:D) (x:V) (Q':VK),Grow F H F' H'->Rep X.K F' dv x->op [dv]=some kd->(∀v F'' H'',Grow F' H' F'' H''->Rep X.K F'' kd v->Q' v H'')->sp [x] H' Q' E0) (hb:Binds X.K fd ps []) (hr:Room k' X.A) (hk:k+2<=k')
  (I:Inv X pins σ H s) (fh:Same F H) (rl:Rep X.K F (.lst ds) (.ref l)) (ho:q7p op [.lst ds]=some es)
  (q:∀a ys F' H',Grow F H F' H'->F' a=none->H a=none->H' a=some (.lst ys)->RepL X.K F' es ys->Q (.ref a) H') :
  wpAny (model X.prog X.w) X.A (call (.builtin "sorted") [.ref l] [(Str.ofString "key",.ref fn)]) (EP X pins σ Q) X.xe s:=by
 have rm:Room k X.A.in1.in1:=((hr.mono hk).in1).in1;unfold q7p at ho;obtain⟨dks,hks,ho⟩:=gc.mp ho
 split at ho
 case isFalse=>cases ho
 rename_i hok;rw [mn] at hok;have h64:=ur hok.2;obtain⟨a,ys,z,k1,k2⟩:=rep_lst.mp rl;cases z;obtain⟨its,r1,p1,hz⟩:=I.list (fh.seq k1);have hlen:its.length<=sizeLine:=by rw [<- r1.length];exact hz
 have hlds:ds.length=its.length:=by rw [k2.length,r1.length]
 have hlks:=qel hks;have L1:Late X pins (s.heap.objs.size+1):=qyg I (g1o _);have L3:Late X pins (s.heap.objs.size+3):=qyg I (g25 _ _);have hu:X.A.in1.in1.units+60<cLine:=by have:=rm.units;lia
 have z1:((s.heap.push (seqObj "list" #[] 0)).update s.heap.objs.size (Obj.mapSeq (· ++ its.toArray))).objs.size=s.heap.objs.size+1:=by rw [um,g0g]
 have zs:(srtH s.heap its).objs.size=s.heap.objs.size+2:=by unfold srtH;rw [g0g,z1]
 have keep:∀b o,s.heap.get? b=some o->(q0x (srtH s.heap its) (s.heap.objs.size+1) its).get? b=some o:=fun b o qb=>by
  have hlt:b<s.heap.objs.size:=gu qb;unfold q0x srtH;have ne:∀k,b≠s.heap.objs.size+k:=fun k=>m4 (gx hlt (g25 _ _));rw [g05 _ _ _ (by rw [g0g,um,g0g,z1];exact ne 3),g05 _ _ _ (by rw [um,g0g,z1];exact ne 2),uw _ _ _ _ (ne 1),
   g05 _ _ _ (by rw [z1];exact ne 1),uw _ _ _ _ (show b≠s.heap.objs.size from ne 0),g05 _ _ _ (show b≠s.heap.objs.size from ne 0)]
  exact qb
 have I6:Inv X pins σ H {s with heap:=q0x (srtH s.heap its) (s.heap.objs.size+1) its}:=I.kept (t':=s.toks) keep;have hoL:(srtH s.heap its).get? (s.heap.objs.size+1)=some (seqObj "list" its.toArray 0):=by
  unfold srtH;rw [<- z1];exact gs _ rfl
 obtain⟨e1,ho1⟩:∃e1,((srtH s.heap its).update (s.heap.objs.size+1) (Obj.mapSeq fun _=>(#[]:Array Value))).get? (s.heap.objs.size+1)=some (seqObj "list" #[] e1):=⟨_,g1n hoL fun _=> #[]⟩
 have hoA:(q0x (srtH s.heap its) (s.heap.objs.size+1) its).get? (s.heap.objs.size+1)=some (seqObj "list" #[] e1):=by
  unfold q0x;rw [g05 _ _ _ (by rw [g0g,um,zs];exact m4 (by lia)),g05 _ _ _ (by rw [um,zs];exact m4 (by lia))];exact ho1
 have hoK:(q0x (srtH s.heap its) (s.heap.objs.size+1) its).get? (s.heap.objs.size+3)=some (seqObj "list" ([]:List Value).toArray 0):=by
  unfold q0x;have:s.heap.objs.size+3=(((srtH s.heap its).update (s.heap.objs.size+1) (Obj.mapSeq fun _=>(#[]:Array Value))).push (seqObj "tuple" its.toArray 0)).objs.size:=by rw [g0g,um,zs]
  rw [this];exact gs _ rfl
 have hn1:H (s.heap.objs.size+1)=none:=I.hok.fresh (g1o _);have hn3:H (s.heap.objs.size+3)=none:=I.hok.fresh (g25 _ _);refine qjd p1.isList hlen (by rw [<- hlds];exact h64) (fun ks s'=>∃F' H' xks kds e,Inv X pins σ H' s'/\Grow F H F' H'/\RepL X.K F' kds xks/\Vals xks ks/\q06 op (ds.take ks.length)=some kds /\
  s'.heap.get? (s.heap.objs.size+3)=some (seqObj "list" ks.toArray e)/\H' (s.heap.objs.size+3)=none/\s'.heap.get? (s.heap.objs.size+1)=some (seqObj "list" #[] e1)/\H' (s.heap.objs.size+1)=none)
  ⟨F,H,[],[],0,I6,.refl fh,.nil,.nil,rfl,hoK,hn3,hoA,hn1⟩ ?_ ?_
 ·rintro l0 v r0 hv ks s' hl ⟨F',H',xks,kds,e,I',g',rk,vk,hkd,hK,nK,hA,nA⟩
  have hi:ks.length<ds.length:=by rw [hlds,hv,hl];simp
  have hvi:its[ks.length]? = some v:=by rw [hv,hl];simp
  obtain⟨dv,hdv⟩:∃dv,ds[ks.length]? = some dv:=⟨_,getElem?_pos ds _ hi⟩
  obtain⟨x,hx,rx⟩:=k2.get hdv;obtain⟨u,hu',ru⟩:=r1.get hx;rw [hvi] at hu';obtain rfl:v=u:=mr hu';obtain⟨kd,hkd'⟩:=qem hks (uj hdv);have hsp':=hsp F' H' dv kd x (fun v H''=>∃F'',Grow F' H' F'' H''/\Rep X.K F'' kd v) g' (rx.mono g'.ff) hkd' fun v F'' H'' g'' r''=>⟨F'',g'',r''⟩
  refine g0q (g0t (Fk.run X.A.in1.in1 X.stack s' H' ⟨[v],[]⟩ [v] [x] _ E0 rm ⟨I'.ok.frames,I'.ok.mod,I'.bs,mi I'.ok.bsz I'.sz,I'.stack,I'.stkFree,I'.hok,I'.bare⟩ (hb s' [v] I'.kIn (by simpa using Fk.len _ _ _ _ hsp')) (.cons ru .nil) hsp') fun r s'' hq=>?_);cases r with
  | error er=>exact hq.elim
  | ok fl=>
   cases fl with
   | next=>exact False.elim hq
   | brk=>exact False.elim hq
   | cont=>exact False.elim hq
   | ret kv=>
    obtain⟨vv,H'',os,bare,un,hok',rv,F'',g'',rr⟩:=(show CE X.stack X.prog X.w H' s' _ kv s'' from hq)
    have hK2:=un.keep _ _ hK nK L3.frs (by simp);have hA2:=un.keep _ _ hA nA L1.frs (by simp);have nK2:=un.free _ _ hK nK (by simp);have nA2:=un.free _ _ hA nA (by simp);obtain⟨hh,gg,dd,tt,oo⟩:=s'';obtain rfl:oo=s'.os:=os;have I2:=I'.call (h':=hh) (g':=gg) (d':=dd) (t':=tt) (ch:=[]) un hok' bare (fun b z=>absurd z (by simp));obtain⟨e',hK3⟩:=qhm hK2 kv;have I3:=qhl I2 L3 (h':=hh.update (s.heap.objs.size+3) (Obj.mapSeq (·.push kv))) (fun c o hc e=>by rw [uw _ _ _ _ hc];exact e) nK2;refine⟨⟨e,hK2⟩,F'',H'',xks++[vv],kds++[kd],e',I3,g'.trans g'',(rk.mono g''.ff).append (.cons rr .nil),vk.append (.cons rv .nil),?_,hK3,nK2,?_,nA2⟩
    ·rw [ng,g37,List.take_succ_eq_append_getElem hi]
     refine qbu hkd ?_;have:ds[ks.length]=dv:=by rw [getElem?_pos ds _ hi] at hdv;exact mr hdv
     rw [this];exact hkd'
    ·show(hh.update _ _).get? _=_
     rw [uw _ _ _ _ (m4 (by lia))];exact hA2
 ·rintro ks s' hl ⟨F',H',xks,kds,e,I',g',rk,vk,hkd,hK,nK,hA,nA⟩
  rw [hl, <- hlds,g4m,hks] at hkd;obtain rfl:dks=kds:=mr hkd;refine⟨⟨e,hK⟩,by rw [hA,hoA],?_⟩;obtain⟨c1,c2⟩:=z1x I' g'.fh X.A.in1.in1 hu rk vk hok.1;have fin:∀(out:List Value) (ys':List V),Vals ys' out->RepL X.K F' es ys'->ys'.length<=sizeLine->EP X pins σ Q (.ref (s.heap.objs.size+1)) {s' with heap:=(s'.heap.update (s.heap.objs.size+3) (Obj.mapSeq fun _=> #[])).update (s.heap.objs.size+1) (Obj.mapSeq fun _=>out.toArray)}:=fun out ys' vo ro ll=>by
   have I8:=qhl I' L3 (h':=s'.heap.update (s.heap.objs.size+3) (Obj.mapSeq fun _=> #[])) (fun c o hc e=>by rw [uw _ _ _ _ hc];exact e) nK;have hA8:(s'.heap.update (s.heap.objs.size+3) (Obj.mapSeq fun _=> #[])).get? (s.heap.objs.size+1)=some (seqObj "list" #[] e1):=by
    rw [uw _ _ _ _ (m4 (by lia))];exact hA
   have hA9:=g1n hA8 fun _=>out.toArray;have I9:=qoz I8 L1 (o:=.lst ys') (h':=(s'.heap.update (s.heap.objs.size+3) (Obj.mapSeq fun _=> #[])).update (s.heap.objs.size+1) (Obj.mapSeq fun _=>out.toArray))
    (fun c o hc e=>by rw [uw _ _ _ _ hc];exact e) nA ⟨ll,_,_,vo,hA9⟩
   have gg:Grow F' H' F' (upd H' (s.heap.objs.size+1) (.lst ys')):=Grow.own g'.fh nA;exact⟨.ref (s.heap.objs.size+1),_,I9,rfl,q _ _ F' _ (g'.trans gg) (g'.fh.free nA) hn1 za ro⟩
  by_cases h2:ds.length<2
  ·rw [gw h2] at ho
   cases ho;exact⟨its,⟨fun _=>rfl,fun h=>by omega⟩,fin its ys r1 (k2.mono g'.ff) hz⟩
  ·rw [mf h2] at ho
   obtain⟨p,hp,ho⟩:=gc.mp ho
   split at ho
   case isFalse=>cases ho
   rename_i hp64;cases ho;have hp':=hp;rw [hlds] at hp';refine⟨p.toList.map fun i=>its.getD i Value.none,⟨fun h=>by omega,fun _=>⟨_,_,p,c1 (by omega),fun i j C hi hj=>c2 i j C (by omega) (by omega),hp',rfl⟩⟩,?_⟩;obtain⟨m1,m2⟩:=qab (k2.mono g'.ff) r1 p.toList;exact fin _ _ m1 m2 (by rw [gv,g0l];exact mi (g3b hp64) (by decide))
theorem qrx{e:Expr}{p pg kp pos:Pos}{g:Str}{k k':Nat}{fn:Addr}{fd:FuncData}{ps:List Str}{op:Ti}{fa:FA}(C:Cal X.prog X.w X.K X.mg X.base g k ps 1 op fn fd)(b:Binds X.K fd ps [])(hr:Room k' X.A)(hk:k+2<=k')
  (hgs:Gl X "sorted") (hms:X.mg "sorted" = none) (hgg:Gl X g) (ha:PA X [e] (tDA X.K fa)) (hdb:(g==("__debug__" : Str))=false:=by decide) (he:backTo pos (starEach [e] X.env)=(false,eval e X.env) :: backTo pos (starEach [] X.env):=by rfl)
  (hpl:(backTo pos (starEach [e] X.env)).any (·.1)=false:=by rfl):PE X (.Call (.Name "sorted" p) [e] [⟨some "key",.Name g pg,kp⟩] pos) (tL X.K (qlx (q7p op) fa)):=by
 intro pins s σ H Q I h;obtain⟨F0,H0,F, ρ,ds,r,hf,q⟩:=h;obtain⟨es,h1,h2⟩:=gc.mp hf;have h2':=h2;unfold q7p at h2
 split at h2
 ·rename_i ds'
  refine g0a (q0n I hgs hms boot_sorted ?_ (by decide) (by decide));refine callWith_kw (thn (ha pos pins s σ H (fun vs H1=>∃F1,Grow F H F1 H1/\RepL X.K F1 [.lst ds'] vs) I ⟨F0,H0,F, ρ,[.lst ds'],r,h1,fun vs F1 H1 g1 r1=>⟨F1,g1,r1⟩⟩) fun us s1 ⟨vs,H1,I1,rv,F1,g1,r1⟩=>?_) he hpl rfl rfl;refine kws_cons (k9 I1 hgg C.mg (kws_nil ?_) hdb);obtain⟨x,rfl,rx⟩:=rep1 r1;obtain⟨u,rfl,ru⟩:=vals1 rv;obtain⟨a,ys,rfl,_⟩:=rep_lst.mp rx;cases ru;exact qp2 C.ok (fun F' H' dv kd x Q' g' rx' hk' q'=>⟨F',[dv],kd,(r.sameT g1).grow g',.cons rx' .nil,rfl,hk',q'⟩) b hr hk I1 g1.fh rx h2' fun a ys F2 H2 g2 k1 k2 k3 k4=>q a ys F2 H2 (g1.trans g2) k1 (g1.hh.free k2) k3 k4
 ·cases h2
end
end DL
namespace DL
open PySem PySem.Spec PyProof.Rows L2
variable[Lam][Pin]
def qdl(i:Nat)(ρ : Rho): Option (List (Str×Flds)):=match ρ[i]? with
 | some (some (.od (.many l)))=>some l
 | _=>none
omit [Lam] [Pin] in
theorem qen{i:Nat}{ρ : Rho}{l:List (Str×Flds)}(h:qdl i ρ = some l): ρ[i]? = some (some (.od (.many l))):=by
 unfold qdl at h
 split at h
 ·rename_i e;rw [e,mr h]
 ·cases h
section
variable{K:Frag}{F0 H0 F H F' H':Hp}{σ : St}{ρ : Rho}
omit [Lam] [Pin] in
theorem OBs.get:∀ {as:List Addr} {l:List (Str×Flds)} {n:Nat} {o:Str×Flds},OBs K F H H0 as l->l[n]? = some o->∃a,as[n]? = some a/\OB0 K F H H0 a o
 | [],_,_,_,h,e=>by cases h;cases e
 | a :: as,_,0,_,⟨o,r,rfl,h1,h2⟩,e=>by cases e;exact⟨a,rfl,h1⟩
 | a :: as,_,n+1,_,⟨o,r,rfl,h1,h2⟩,e=>h2.get (n:=n) e
omit [Lam] [Pin] in
theorem OBs.len:∀ {as:List Addr} {l:List (Str×Flds)},OBs K F H H0 as l->as.length=l.length
 | [],_,h=>by cases h;rfl
 | a :: as,_,⟨o,r,rfl,h1,h2⟩=>by rw [mv,mv,h2.len]
omit [Lam] [Pin] in
theorem OBs.put{k:Addr}{o':Str×Flds}(ho:OB0 K F' H' H0 k o')(f:∀a o,a≠k->OB0 K F H H0 a o->OB0 K F' H' H0 a o): ∀ {as:List Addr} {l:List (Str×Flds)} {n:Nat},as.Nodup->as[n]? = some k->OBs K F H H0 as l->OBs K F' H' H0 as (l.set n o')
 | [],_,_,_,e,_=>by cases e
 | a :: as,_,0,d,e,⟨o,r,rfl,h1,h2⟩=>by
  cases e;have key:∀ {bs:List Addr} {l:List (Str×Flds)},k∉bs->OBs K F H H0 bs l->OBs K F' H' H0 bs l:=by
   intro bs
   induction bs with
   | nil=>intro l _ h;exact h
   | cons b bs ih=>
    intro l hb ⟨o,r,e,h1,h2⟩;exact⟨o,r,e,f _ _ (fun z=>hb (z ▸ .head _)) h1,ih (fun z=>hb (.tail _ z)) h2⟩
  exact⟨o',r,rfl,ho,key (uy.mp d).1 h2⟩
 | a :: as,_,n+1,d,e,⟨o,r,rfl,h1,h2⟩=>
  ⟨o,r.set n o',rfl,f _ _ (fun z=>(uy.mp d).1 (z ▸ uj (i:=n) e)) h1,OBs.put ho f (uy.mp d).2 e h2⟩
theorem RS.osGet(r:RS K F0 H0 F H σ ρ){i n:Nat}{l:List (Str×Flds)}{o:Str×Flds}(h1 : ρ[i]? = some (some (.od (.many l))))(hn:l[n]? = some o):
  ∃(a:Addr) (as:List Addr) (k:Addr), σ[i]? = some (some (.ref a))/\H a=some (.lst (as.map .ref))/\as.length=l.length/\as[n]? = some k/\OB0 K F H H0 k o /\
   ∀F1 H1,Grow F H F1 H1->∀F' H' o',Grow F1 (less H1 k) F' H'->OB0 K F' H' (less H1 k) k o'->RS K F0 H0 F' H' σ (ρ.set i (some (.od (.many (l.set n o'))))):=by
 obtain⟨a,bs,e1,t,dj⟩:=r.od i _ h1;obtain⟨hb,as,e2,e3,e4,e5,e6⟩:=t.x;obtain⟨k,e7,ok⟩:=e6.get hn;refine⟨a,as,k,e1,e2,e6.len,e7,ok,fun F1 H1 g1 F' H' o' g o0=>?_⟩;have ok1:=ok.grow g1;obtain⟨C,dx,vs,z1,_⟩:=ok1.ex;have l1:less H1 k a=some (.lst (as.map .ref)):=by
  have:=g1.hh.lst _ _ e2;rw [y6,this];intro z;subst z;rw [this] at z1;cases z1
 refine(r.grow g1).callG h1 ok.z z1 g ⟨a,[a],e1,⟨⟨rfl,as,g.hh.lst _ _ l1,q2n g (q2n g1 e3 e2) l1,e4,e5,OBs.put (o0.at ok.z) (fun b ob nb x=>?_) e5 e7 (e6.imp fun _ _ x=>x.grow g1)⟩,t.pn⟩,fun j es b p1 p2=>dj j es b p1 (by rw [hb];exact p2)⟩;obtain⟨C,dx,vs,y1,y2,y3⟩:=x.ex;have y4:less H1 k b=some (.ins C dx vs):=by rw [y6 nb];exact y1
 exact⟨⟨C,dx,vs,g.hh.dk b (.inl (C,dx,_)) y4,y2,y3.mono g.ff⟩,q2n g x.f y4,x.z⟩
omit [Lam] [Pin] in
theorem qkv{as:List Addr}{n:Nat}{j:Int}{k:Addr}(h:ixN as.length j=some n)(e:as[n]? = some k): atI (as.map V.ref) j=some (.ref k):=by
 unfold atI;rw [gv,h];show(as.map V.ref)[n]? = _;rw [mq,e];rfl
end
section
variable{X:Cx}{e ie:Expr}{es es2:List Expr}{pos p px p2 apos p3 q3 spos:Pos}{f g gi:FE}{fa fb:FA}
def qac(l:List (Str×Flds)): D->Option (Nat×(Str×Flds))
 | .int j=>(ixN l.length j).bind fun n=>l[n]?.map fun o=>(n,o)
 | _=>none
omit [Lam] [Pin] in
theorem qeo{l:List (Str×Flds)}{d:D}{n:Nat}{o:Str×Flds}(h:qac l d=some (n,o)): ∃j,d=.int j/\ixN l.length j=some n/\l[n]? = some o:=by
 cases d <;> simp only [qac] at h <;> first|(cases h;done)|skip
 obtain⟨m,h1,h2⟩:=gc.mp h;obtain⟨o',h3,h4⟩:=gp.mp h2;cases h4;exact⟨_,rfl,h1,h3⟩
def q1k(c:Str)(i ar:Nat)(op:Th)(gi:FE)(fa:FA): FM:=fun ρ =>(qdl i ρ).bind fun l=>(gi ρ).bind fun k=>(qac l k).bind fun o=>(fa ρ).bind fun ds=>if o.2.1=c/\ds.length=ar then(op o.2.2 ds).map fun p=>(p.2, ρ.set i (some (.od (.many (l.set o.1 (c,p.1)))))) else none
theorem q4x{c x g:Str}{k k' ar i:Nat}{fn:Addr}{fd:FuncData}{ps:List Str}{op:Th}(C:CalO X.prog X.w X.K X.mg X.base g c k ps ar op fn fd)(b:Binds X.K fd ps [])(hr:Room k' X.A)(hk:k<=k')(hg:Gl X g)(hv:PE X (.Name x px) (vp i))(hi:PE X ie (tD X.K gi))(ha:PA X es (tDA X.K fa))(hs:q2k ie:=by intro _ _;rfl)(hdb:(g==("__debug__" : Str))=false:=by decide)
  (he:starEach (.Subscript (.Name x px) ie p2 :: es) X.env=(false,eval (.Subscript (.Name x px) ie p2) X.env) :: starEach es X.env:=by rfl) (hpl:(backTo pos (starEach es X.env)).any (·.1)=false:=by rfl):PE X (.Call (.Name g p) (.Subscript (.Name x px) ie p2 :: es) [] pos) (tDM X.K (q1k c i ar op gi fa)):=
 zr (q8j C.ok (hr.mono hk) hg C.mg C.kp b .nil q0o (xm (qb3 qb4 hv hi hs) ha he) hdb he hpl) fun σ H Q ⟨F0,H0,F, ρ,d, ρ',r,hf,q⟩=>by
  obtain⟨l,h1,hf⟩:=gc.mp hf;obtain⟨kd,h2,hf⟩:=gc.mp hf;obtain⟨⟨n,y,fs⟩,h3,hf⟩:=gc.mp hf;obtain⟨ds,h4,hf⟩:=gc.mp hf
  split at hf
  ·rename_i hc
   obtain⟨⟨fs',d'⟩,h5,h6⟩:=gp.mp hf;cases h6;obtain⟨rfl,hl⟩:=hc;obtain⟨j,rfl,h7,h8⟩:=qeo h3;obtain⟨a,as,ak,e1,e2,e3,e4,ob,bk⟩:=r.osGet (qen h1) h8;refine⟨.ref a,e1,F0,H0,F, ρ,_,r,h2,fun u F1 H1 g1 r1=>.inl ⟨a,_,j,.ref ak,rfl,rep_int.mp r1,SqL.of (g1.hh.lst _ _ e2),qkv (by rw [e3];exact h7) e4,F0,H0,F1, ρ,ds,r.grow g1,h4,fun ws F2 H2 g2 r2=>?_⟩⟩;have g12:=g1.trans g2;refine⟨F2,ak,fs,fs',ds,d',ws,by rw [ny],r.sameT g12,r2,hl,(ob.grow g12).at vz,h5,fun v F3 H3 g3 o3 rv=>?_⟩;exact q v F3 H3 (g12.ff.trans g3.ff) (bk F2 H2 g12 F3 H3 _ g3 o3) rv
  ·cases hf
def qbv(c m:Str)(i:Nat)(op:Th)(gi:FE): FM:=fun ρ =>(qdl i ρ).bind fun l=>(gi ρ).bind fun k=>(qac l k).bind fun o=>if o.2.1=c/\(o.2.2.lookup m).isNone=true then(op o.2.2 []).map fun p=>(p.2, ρ.set i (some (.od (.many (l.set o.1 (c,p.1)))))) else none
theorem qvk{c x m:Str}{C:Addr}{k k' i:Nat}{fn:Addr}{fd:FuncData}{ps fl:List Str}{op:Th}{pl:Sem Bool}(O:ClsF X.K c C fl)
  (M:CalF X.prog X.w X.K X.mg X.base c m C k ps 0 op fn fd) (b:Binds X.K fd ps []) (hr:Room k' X.A) (hk:k<=k') (hv:PE X (.Name x px) (vp i)) (hi:PE X ie (tD X.K gi)) (hs:q2k ie:=by intro _ _;rfl)
  (ht:eval (.Call (.Attribute (.Subscript (.Name x px) ie p2) m apos) [] [] pos) X.env=(do
   let ov <- eval (.Subscript (.Name x px) ie p2) X.env
   standAt apos.atName
   let(f,first) <- holding [ov] (getMethod ov m pl)
   callWith pos f first (backTo pos (starEach [] X.env)) (backToKw pos (keywordEach [] X.env))):=by rfl) :
  PE X (.Call (.Attribute (.Subscript (.Name x px) ie p2) m apos) [] [] pos) (tDM X.K (qbv c m i op gi)):=
 zr (qg8 (pl:=pl) (qb3 qb4 hv hi hs) O.cls M.me M.ok (hr.mono hk) b .nil q0o ht) fun σ H Q ⟨F0,H0,F, ρ,d, ρ',r,hf,q⟩=>by
  obtain⟨l,h1,hf⟩:=gc.mp hf;obtain⟨kd,h2,hf⟩:=gc.mp hf;obtain⟨⟨n,y,fs⟩,h3,hf⟩:=gc.mp hf
  split at hf
  ·rename_i hc
   obtain⟨⟨fs',d'⟩,h5,h6⟩:=gp.mp hf;cases h6;obtain⟨rfl,hn⟩:=hc;obtain⟨j,rfl,h7,h8⟩:=qeo h3;obtain⟨a,as,ak,e1,e2,e3,e4,ob,bk⟩:=r.osGet (qen h1) h8;refine⟨.ref a,e1,F0,H0,F, ρ,_,r,h2,fun u F1 H1 g1 r1=>.inl ⟨a,_,j,.ref ak,rfl,rep_int.mp r1,SqL.of (g1.hh.lst _ _ e2),qkv (by rw [e3];exact h7) e4,?_⟩⟩;obtain⟨C',dx,vs,z1,z2,z3⟩:=(ob.grow g1).ex;have hC:C'=C:=by
    have:=z2.symm.trans O.ns;cases this;rfl
   subst hC;refine⟨ak,dx,vs,rfl,z1,z3.miss (g17.mp hn),F1,ak,fs,fs',[],d',[],rfl,r.sameT g1,.nil,rfl,(ob.grow g1).at vz,h5,fun v F3 H3 g3 o3 rv=>?_⟩;exact q v F3 H3 (g1.ff.trans g3.ff) (bk F1 H1 g1 F3 H3 _ g3 o3) rv
  ·cases hf
def qbw(i:Nat)(g:FE)(f:FM): FS:=fun ρ =>(f ρ).bind fun p=>(q23 i p.2).bind fun ds=>(g p.2).bind fun k=>match k with
 | .int j=>(ixN ds.length j).map fun n=>(.nx,p.2.set i (some (.ow (ds.set n p.1))))
 | _=>none
theorem qry{i:Nat}{x:Str}{f:FM}(hv:PE X (.Name x px) (vp i))(hi:PE X ie (tD X.K g))(he:PE X e (tDM X.K f))
  (ha:∀v,assign (.Subscript (.Name x px) ie p2) X.env v=(do
   let ov <- holding [v] (eval (.Name x px) X.env)
   let iv <- holding [v,ov] (eval ie X.env)
   standAt p2
   holding [v,ov,iv] (setItem ov iv v)
   release [v,ov,iv] []):=by intro _;rfl)
  (hs:swapsWithSole [.Subscript (.Name x px) ie p2] e pos.line X.env=pure false:=by rfl) (hw:swappedStores [.Subscript (.Name x px) ie p2] e X.env=pure none:=by rfl)
  (h1:(assignEach [.Subscript (.Name x px) ie p2] X.env).map (·.2)=[assign (.Subscript (.Name x px) ie p2) X.env]:=by rfl) :
  PS X (.Assign [.Subscript (.Name x px) ie p2] e pos) (tDS X.K (qbw i g f)):=
 je (qna he (qwq hv hi set_list ha) hs hw h1) fun D σ H ⟨F0,H0,F, ρ,fl, ρ',r,hf,q⟩=>by
  obtain⟨⟨d, ρ1⟩,h1,hf⟩:=gc.mp hf;obtain⟨ds,h2,hf⟩:=gc.mp hf;obtain⟨kd,h3,hf⟩:=gc.mp hf;have h2:=q3h h2
  split at hf
  ·rename_i j
   obtain⟨n,h4,h5⟩:=gp.mp hf;cases h5;refine⟨F0,H0,F, ρ,d, ρ1,r,h1,fun v F1 H1 s1 r1 rv=>?_⟩;obtain⟨a,xs,e1,e2,e3,e4,e5⟩:=r1.ow i ds h2;refine⟨.ref a,e1,F0,H0,F1, ρ1,.int j,r1,h3,fun u F2 H2 g2 r2=>?_⟩;refine⟨a,xs,j,n,rfl,rep_int.mp r2,g2.hh.lst _ _ e2,by rw [<- e5.length];exact h4,?_⟩;exact q _ F2 _ (s1.trans g2.ff) ((r1.grow g2).wrt h2 e1 (qgx (rv.mono g2.ff) n (e5.mono g2.ff)))
  ·cases hf
theorem qkw{K:Frag}{c:Str}{C:Addr}{ar:Nat}{op:Th}{F0 H0 F H:Hp}{σ : St}{ρ : Rho}{P:Hp->Prop}{ds:List D}{vs:List V}{fs':Flds}{d:D}{x dx:Addr}(hns:PySem.W.nsIn K mainGlobals c=some (some (.ref C)))
  (r:RS K F0 H0 F H σ ρ) (h4:op [] ds=some (fs',d)) (hd:qm2 d=true) (hl:ds.length=ar) (rl:RepL K F ds vs) (n1:H x=none) (n2:H dx=none) (n3:dx≠x)
  (q:∀F' H',Grow F H F' H'->OB0 K F' H' H0 x (c,fs')->P H') :
  qa4 K c ar op (.ref x :: vs) (upd (upd H dx (.own x)) x (.ins C dx [])) (fun v H3=>v=.non/\P H3) E0:=by
 obtain rfl:d=.non:=by cases d <;> first|rfl|cases hd
 have hF:F x=none:=r.fh.free n1;have gd:Grow F H F (upd H dx (.own x)):=Grow.own r.fh n2;have hx':upd H dx (.own x) x=none:=by rw [qr (ml n3)];exact n1
 have lx:less (upd (upd H dx (.own x)) x (.ins C dx [])) x=upd H dx (.own x):=by
  funext b
  by_cases z:b=x
  ·subst z;rw [vz,hx']
  ·rw [y6 z,qr z]
 have g2:Grow F H F (upd (upd H dx (.own x)) x (.ins C dx [])):=gd.trans (Grow.own gd.fh hx');refine⟨F,x,[],fs',ds,.non,vs,rfl,r.sameT g2,rl,hl,⟨⟨C,dx,[],za,hns,rfl⟩,hF,vz⟩,h4,fun v F2 H2 g3 o3 rv=>⟨rep_non.mp rv,?_⟩⟩;rw [lx] at g3;exact q F2 H2 (gd.trans g3) (o3.at (r.g.hh.free n1))
def qfs(c:Str)(i ar:Nat)(dd1 dd2:List D)(op:Th)(fa fb:FA): FS:=fun ρ =>(fa ρ).bind fun d1=>(fb ρ).bind fun d2=>if qh4 i ρ = true/\(d1++dd1).length=ar/\(d2++dd2).length=ar then(op [] (d1++dd1)).bind fun p=>(op [] (d2++dd2)).bind fun p'=>if qm2 p.2/\qm2 p'.2 then some (.nx, ρ.set i (some (.od (.many [(c,p.1),(c,p'.1)])))) else none else none
theorem qvl{c x:Str}{C:Addr}{i k k' ar:Nat}{fn:Addr}{fd:FuncData}{ps:List Str}{op:Th}{e2:Expr}{dv1 dv2:List V}{dd1 dd2:List D}{dw1 dw2:List Value}{p4 q4:Pos}(hp:Pin.pin=none)(M:MkF X.prog X.w X.K X.mg X.base c C k ps ar op fn fd)(hr:Room k' X.A)(hk:k+1<=k')(hg:Gl X c)
  (hb1:Binds X.K fd ps dw1) (hd1:Vals dv1 dw1) (hdd1:∀H,RepL X.K H dd1 dv1) (hb2:Binds X.K fd ps dw2) (hd2:Vals dv2 dw2) (hdd2:∀H,RepL X.K H dd2 dv2) (ha:PA X (e :: es) (tDA X.K fa)) (hb:PA X (e2 :: es2) (tDA X.K fb)) (hN:X.N.Nodup) (hi:X.N[i]? = some x) (hx:Loc X.env.scope x)
  (hs:swapsWith (.List [.Call (.Name c p) (e :: es) [] pos,.Call (.Name c p4) (e2 :: es2) [] q4] p3) (some (.Name x px)) spos.line X.env=pure false:=by rfl) (hf:X.fn x=true\/X.env.scope.names.lookup x=some .local:=by first|exact .inl rfl|exact .inr rfl|assumption)
  (hdb:(c==("__debug__" : Str))=false:=by decide) (he:starEach (e :: es) X.env=(false,eval e X.env) :: starEach es X.env:=by rfl) (hpl:(backTo pos (starEach es X.env)).any (·.1)=false:=by rfl)
  (he2:starEach (e2 :: es2) X.env=(false,eval e2 X.env) :: starEach es2 X.env:=by rfl) (hpl2:(backTo q4 (starEach es2 X.env)).any (·.1)=false:=by rfl) :
  PS X (.Assign [.Name x px] (.List [.Call (.Name c p) (e :: es) [] pos,.Call (.Name c p4) (e2 :: es2) [] q4] p3) spos) (tDS X.K (qfs c i ar dd1 dd2 op fa fb)):=
 je (qaz hN hi hx (qnl (xm (qk6 M.mks M.ok (hr.mono hk) hg M.mg hb1 hd1 q0o ha hdb he hpl) (xm (qk6 M.mks M.ok (hr.mono hk) hg M.mg hb2 hd2 q0o hb hdb he2 hpl2) wq))) hs hf) fun D σ H ⟨F0,H0,F, ρ,fl, ρ',r,hf',q⟩=>by
  obtain⟨d1,h1,hf'⟩:=gc.mp hf';obtain⟨d2,h2,hf'⟩:=gc.mp hf'
  split at hf'
  ·rename_i hc
   obtain⟨⟨fs1,u1⟩,h3,hf'⟩:=gc.mp hf';obtain⟨⟨fs2,u2⟩,h4,hf'⟩:=gc.mp hf'
   split at hf'
   ·rename_i hn
    cases hf';refine⟨F0,H0,F, ρ,d1,r,h1,fun vs F1 H1 g1 r1 x dx n1 n2 n3=>?_⟩;refine qkw M.ns (r.grow g1) h3 hn.1 hc.2.1 (r1.append (hdd1 F1)) n1 n2 n3 fun F2 H2 g2 o2=>?_;have ra:=(r.grow g1).grow g2;refine⟨F0,H0,F2, ρ,d2,ra,h2,fun vs' F3 H3 g3 r3 x' dx' m1 m2 m3=>?_⟩;refine qkw M.ns (ra.grow g3) h4 hn.2 hc.2.2 (r3.append (hdd2 F3)) m1 m2 m3 fun F4 H4 g4 o4=>⟨(by decide:2<=sizeLine),fun l hl=>?_⟩
    have o2':=(o2.grow g3)
    have nx:x≠x':=fun z=>by
     subst z;obtain⟨_,_,_,z,_⟩:=o2'.ex;rw [m1] at z;cases z
    have rb:=(ra.grow g3).grow g4;have g5:Grow F4 H4 F4 (upd H4 l (.lst [.ref x,.ref x'])):=Grow.own rb.fh hl;refine q _ F4 _ (((g1.ff.trans g2.ff).trans g3.ff).trans g4.ff) ((rb.grow g5).setOV (bs:=[l]) hc.1 ⟨⟨rfl,[x,x'],za,rb.fh.free hl,rb.g.hh.free hl,by simp [nx],_,_,rfl,(o2'.grow g4).grow g5,_,_,rfl,o4.grow g5,rfl⟩,fun p z=>by rw [hp] at z;cases z⟩ fun j es b p1 p2=>?_);obtain rfl:=g00.mp p2;intro z;obtain⟨a,xs,y1,y2,_⟩:=rb.ow j es p1;rw [z] at y1;obtain rfl:b=a:=by simpa using y1
    rw [hl] at y2;cases y2
   ·cases hf'
  ·cases hf'
def qft(x:Str)(ar:Nat)(op:Ti)(g:FE)(fa:FAM): FM:=fun ρ =>(g ρ).bind fun d=>(fa ρ).bind fun p=>if isO x d then(qt ar [] op (d :: p.1)).map fun v=>(v,p.2) else none
theorem qvm{x m:Str}{C:Addr}{o e:Expr}{es:List Expr}{apos pos:Pos}{k k' ar:Nat}{fn:Addr}{fd:FuncData}{ps:List Str}{op:Ti}{g:FE}{fa:FAM}{pl:Sem Bool}(O:ClsOk X.K x C)
  (M:CalM X.prog X.w X.K X.mg X.base x m C k ps ar op fn fd) (b:Binds X.K fd ps []) (hr:Room k' X.A) (hk:k<=k') (ho:PE X o (tD X.K g)) (ha:PA X (e :: es) (qdd X.K fa))
  (hst:starEach (e :: es) X.env=(false,eval e X.env) :: starEach es X.env:=by rfl) (hpl:(backTo pos (starEach es X.env)).any (·.1)=false:=by rfl)
  (ht:eval (.Call (.Attribute o m apos) (e :: es) [] pos) X.env=(do
   let ov <- eval o X.env
   standAt apos.atName
   let(f,first) <- holding [ov] (getMethod ov m pl)
   callWith pos f first (backTo pos (starEach (e :: es) X.env)) (backToKw pos (keywordEach [] X.env))):=by rfl) :
  PE X (.Call (.Attribute o m apos) (e :: es) [] pos) (tDM X.K (qft x ar op g fa)):=
 zr (q8k (pl:=pl) ho O.cls M.me M.ok (hr.mono hk) b .nil q0o ha hst hpl ht) fun σ H Q ⟨F0,H0,F, ρ,d, ρ',r,hf,q⟩=>by
  obtain⟨d1,h1,hf⟩:=gc.mp hf;obtain⟨⟨ds, ρ1⟩,h2,hf⟩:=gc.mp hf
  split at hf
  ·rename_i hi
   obtain⟨v,h3,h4⟩:=gp.mp hf;cases h4;obtain rfl:d1=.obj x:=by
    cases d1 <;> simp only [isO] at hi <;> first|(cases hi;done)|skip
    rw [(by simpa using hi:x=_)]
   refine⟨F0,H0,F, ρ,.obj x,r,h1,fun v F1 H1 g1 r1=>?_⟩;obtain⟨a,dx,C',rfl,e1,e2,e3⟩:=rep_obj.mp r1;have hC:C'=C:=by
    have:=e2.symm.trans O.ns;cases this;rfl
   subst hC;refine⟨a,dx,[],rfl,g1.fh _ _ e1,rfl,F0,H0,F1, ρ,ds, ρ1,r.grow g1,h2,fun vs F2 H2 s2 r2 rl=>?_⟩;unfold qt at h3
   split at h3
   ·rename_i hl
    exact⟨F2,(.obj x :: ds)++[],d,r2.sameT (.refl r2.fh),(RepL.cons (r1.mono s2) rl).append .nil,hl,h3,fun v F3 H3 g3 r3=>q v F3 H3 ((g1.ff.trans s2).trans g3.ff) (r2.grow g3) r3⟩
   ·cases h3
  ·cases hf
def qho(f g:FM): FM:=fun ρ =>(f ρ).bind fun p=>(isB p.1).bind fun c=>if c then g p.2 else some (.bl false,p.2)
theorem qp3{op}{a:Expr}{f:FM}(h:PE X a (tDM X.K f)): PE X (.BoolOp op [a] pos) (tDM X.K f):=qn7 h
theorem qp4{a b:Expr}{rest:List Expr}{f g:FM}(ha:PE X a (tDM X.K f))(hb:PE X (.BoolOp .And (b :: rest) pos) (tDM X.K g)): PE X (.BoolOp .And (a :: b :: rest) pos) (tDM X.K (qho f g)):=zr (qn8 ha hb) fun σ H Q ⟨F0,H0,F, ρ,d, ρ',r,hf,q⟩=>by
 obtain⟨⟨x, ρ1⟩,h1,hf⟩:=gc.mp hf;obtain⟨c,h2,h3⟩:=gc.mp hf;refine⟨F0,H0,F, ρ,x, ρ1,r,h1,fun v F' H' s' r' rv=>?_⟩;have h2':x=.bl c:=q5h h2;rw [h2'] at rv;refine⟨c,rep_bl.mp rv,?_⟩;cases c with
 | true=>rw [gw rfl] at h3 ⊢;exact⟨F0,H0,F', ρ1,d, ρ',r',h3,fun w F2 H2 s2 r2 rw2=>q w F2 H2 (s'.trans s2) r2 rw2⟩
 | false=>rw [mf gy] at h3 ⊢;cases h3;exact q _ F' H' s' r' (rep_bl.mpr rfl)
end
section
variable{X:Cx}{C C1 C2:Addr}{c1 c2:Str}{p1 p2 tpos hpos:Pos}{b₀:Stmt}{suite:List Stmt}{rest:List ExceptHandler}{ts:TS}{us:FS}{kk:Nat}
theorem qje(he:PySem.W.exmAny X.K (.ref C) [.ref C1,.ref C2]=some true)(hg1:Gl X c1)(hm1:X.mg c1=some (.ref C1))(hg2:Gl X c2)(hm2:X.mg c2=some (.ref C2))
  (hb:∀a,PSs (inX X a) (b₀ :: suite) ts) (hd1:(c1==("__debug__" : Str))=false:=by decide) (hd2:(c2==("__debug__" : Str))=false:=by decide) :
  Handles X C (.ExceptHandler (some (.Tuple [.Name c1 p1,.Name c2 p2] kk tpos)) none (b₀ :: suite) hpos :: rest) (fun _ _=>ts):=by
 intro pins σ H H2 s s' B a od D I hna hH2 inv hfl q;have I5:=qv1 inv hfl.1;refine wpAny_handleBy_cons (codeAny_handlers_test ?_) (by intro q;cases q);refine wpAny_Tuple ?_;refine wpAny_items_cons (k9 (qdc (a:=a) I5) hg1 hm1 ?_ hd1);refine wpAny_items_cons (k9 (qdc (a:=a) I5) hg2 hm2 ?_ hd2);refine wpAny_items_nil ⟨by size_fits,?_⟩;have kp:∀q o,s'.heap.get? q=some o->(s'.heap.push {cls:=.type "tuple",data:=.seq [Value.ref C1,.ref C2].toArray}).get? q=some o:=fun _ _ z=>gh _ z;refine(PySem.W.exm_tup2 (I5.kIn.keeps kp) ((q2m (z0k hfl)).keeps kp) (gs s'.heap rfl) he).here ?_;have hfl':Fl.Fly B (X.env :: X.outer) a (PX C od) .none (s'.heap.push {cls:=.type "tuple",data:=.seq [Value.ref C1,.ref C2].toArray}):=by
  obtain⟨k1,k2,k3,ob,ws,T,ot,us,e1,hp,hd,e2,e3,e4,e5,e6,e7⟩:=hfl;exact⟨fun b o z=>kp _ _ (k1 b o z),k2,k3.of_keeps fun b o z _=>⟨o,kp b o z,rfl⟩,ob,ws,T,ot,us,kp _ _ e1,hp,hd,e2,e3,e4,kp _ _ e5,e6,e7⟩
 refine codeAny_handlers_suite (Fl.off hfl' fun h6 fl6 sm6=>?_);have I6:=inv h6 fl6.1 ((Heap.UpToSlots.of_keeps kp).trans sm6);exact nu (hb a pins _ _ _ D (qdc I6) q) (fun f s9 z=>qv2 I.ok z) fun _ _ z=>z.elim
theorem qp5(he:PySem.W.exmAny X.K (.ref C) [.ref C1,.ref C2]=some true)(hg1:Gl X c1)(hm1:X.mg c1=some (.ref C1))(hg2:Gl X c2)(hm2:X.mg c2=some (.ref C2))
  (hb:∀a,PSs (inX X a) (b₀ :: suite) (tDS X.K us)) (hd1:(c1==("__debug__" : Str))=false:=by decide) (hd2:(c2==("__debug__" : Str))=false:=by decide) :
  Handles X C (.ExceptHandler (some (.Tuple [.Name c1 p1,.Name c2 p2] kk tpos)) none (b₀ :: suite) hpos :: rest) (fun _ od=>qrh X.K (fun _=>us) od):=
 (qje he hg1 hm1 hg2 hm2 hb hd1 hd2).imp fun a od D σ H hna ⟨F0,H0,F, ρ,f,fl, ρ',r,xf,hf,q⟩=>⟨F0,H0,F, ρ,fl, ρ',r,hf,q⟩
end
end DL
namespace DL
open PySem PySem.Spec PyProof.Rows L2
structure Dg(K:Frag)(mg:Tc)(x q:Str)(st:Stmt) where
 {fa:Addr}
 {fd:FuncData}
 {dV:Value}
 m:mg x=some (.ref fa)
 F:Fun2 K x q st dV fa fd
structure Df(K:Frag)(mg:Tc)(x q:Str)(st:Stmt) where
 {fa:Addr}
 {fd:FuncData}
 m:mg x=some (.ref fa)
 F:Fun2 K x q st .none fa fd
structure Dn(K:Frag)(C:Addr)(x q:Str)(st:Stmt) where
 {fa:Addr}
 {fd:FuncData}
 {dV:Value}
 z:PySem.W.findIn K (.ref C) x=some (some (.ref fa))
 i:PySem.W.isFn K (.ref fa)=true
 F:Fun2 K x q st dV fa fd
structure Dm(K:Frag)(C:Addr)(x q:Str)(st:Stmt) where
 {fa:Addr}
 {fd:FuncData}
 z:PySem.W.findIn K (.ref C) x=some (some (.ref fa))
 i:PySem.W.isFn K (.ref fa)=true
 F:Fun2 K x q st .none fa fd
theorem Dm.me{K:Frag}{C:Addr}{x q:Str}{st:Stmt}(d:Dm K C x q st): Meth K C x d.fa:=⟨d.z,d.i,d.F.kp⟩
structure Cw(K:Frag)(mg:Tc)(x:Str) where
 {C:Addr}
 m:mg x=some (.ref C)
 O:ClsOk K x C
structure Cf(K:Frag)(mg:Tc)(x:Str)(fl:List Str) where
 {C:Addr}
 m:mg x=some (.ref C)
 O:ClsF K x C fl
 k:PySem.W.makesIn K C=true
 p:PySem.W.keepIn K (.ref C)=true
def Dfl(K:Frag)(dV:Value)(l:Array Value): Prop:=∃T oc od n sl,dV=.ref T/\K.lookup T=some ⟨oc,od,.seq l n,sl⟩
theorem ln1{s:Shared}{fd:FuncData}{ps:List Str}(h:∀a0,BindsTo s fd ⟨[a0],[]⟩ (ps.zip ([a0]++[]))): ∀us:List Value,(us++[]).length=1->BindsTo s fd ⟨us,[]⟩ (ps.zip (us++[]))
 | [a0],_=>h a0
theorem ln2{s:Shared}{fd:FuncData}{ps:List Str}(h:∀a0 a1,BindsTo s fd ⟨[a0,a1],[]⟩ (ps.zip ([a0,a1]++[]))): ∀us:List Value,(us++[]).length=2->BindsTo s fd ⟨us,[]⟩ (ps.zip (us++[]))
 | [a0,a1],_=>h a0 a1
theorem ln3{s:Shared}{fd:FuncData}{ps:List Str}(h:∀a0 a1 a2,BindsTo s fd ⟨[a0,a1,a2],[]⟩ (ps.zip ([a0,a1,a2]++[]))): ∀us:List Value,(us++[]).length=3->BindsTo s fd ⟨us,[]⟩ (ps.zip (us++[]))
 | [a0,a1,a2],_=>h a0 a1 a2
theorem ln4{s:Shared}{fd:FuncData}{ps:List Str}(h:∀a0 a1 a2 a3,BindsTo s fd ⟨[a0,a1,a2,a3],[]⟩ (ps.zip ([a0,a1,a2,a3]++[]))): ∀us:List Value,(us++[]).length=4->BindsTo s fd ⟨us,[]⟩ (ps.zip (us++[]))
 | [a0,a1,a2,a3],_=>h a0 a1 a2 a3
theorem ln5{s:Shared}{fd:FuncData}{ps:List Str}(h:∀a0 a1 a2 a3 a4,BindsTo s fd ⟨[a0,a1,a2,a3,a4],[]⟩ (ps.zip ([a0,a1,a2,a3,a4]++[]))): ∀us:List Value,(us++[]).length=5->BindsTo s fd ⟨us,[]⟩ (ps.zip (us++[]))
 | [a0,a1,a2,a3,a4],_=>h a0 a1 a2 a3 a4
section
variable[Lam]{P:Program}{w:World}{K:Frag}{mg:Tc}{base:Heap}{x q c:Str}{st:Stmt}{N ps:List Str}{k n k1 ar:Nat}{u:FS}{C:Addr}
theorem Df.rd(d:Df K mg x q st)(S:FnScope N ps (qj st))(hb:∀(cdv:Value) (A:Around) (outer:List Env) (s:Shared) (H:Hp) (E:XK),Room k (A.deeper (envOfC q (qj st) s.heap.objs.size d.fa cdv))->PSs (zx CX0 P w K mg base N q (qj st) d.fa cdv A outer s H E).nox (ja st) (tDS K u))(hn:N.length=n:=by rfl)(ha:ps.length=ar:=by rfl)(hk:k+1=k1:=by rfl): Cal P w K mg base x k1 ps ar (zf n u) d.fa d.fd:=⟨d.F.okn S hn ha hk hb,d.m,d.F.kp⟩
theorem Dg.rd(d:Dg K mg x q st)(S:FnScope N ps (qj st))(hb:∀(cdv:Value) (A:Around) (outer:List Env) (s:Shared) (H:Hp) (E:XK),Room k (A.deeper (envOfC q (qj st) s.heap.objs.size d.fa cdv))->PSs (zx CX0 P w K mg base N q (qj st) d.fa cdv A outer s H E).nox (ja st) (tDS K u))(hn:N.length=n:=by rfl)(ha:ps.length=ar:=by rfl)(hk:k+1=k1:=by rfl): Cal P w K mg base x k1 ps ar (zf n u) d.fa d.fd:=⟨d.F.okn S hn ha hk hb,d.m,d.F.kp⟩
theorem Dm.rd(d:Dm K C x q st)(S:FnScope N ps (qj st))(hb:∀(cdv:Value) (A:Around) (outer:List Env) (s:Shared) (H:Hp) (E:XK),Room k (A.deeper (envOfC q (qj st) s.heap.objs.size d.fa cdv))->PSs (zx CX0 P w K mg base N q (qj st) d.fa cdv A outer s H E).nox (ja st) (tDS K u))(hn:N.length=n:=by rfl)(ha:ps.length=ar:=by rfl)(hk:k+1=k1:=by rfl): CalM P w K mg base c x C k1 ps ar (zf n u) d.fa d.fd:=⟨d.F.okn S hn ha hk hb,d.me⟩
theorem Dm.rdO(d:Dm K C x q st)(S:FnScope N ps (qj st))(hb:∀(Pn:Pin) (cdv:Value) (A:Around) (outer:List Env) (s:Shared) (H:Hp) (E:XK),Room k (A.deeper (envOfC q (qj st) s.heap.objs.size d.fa cdv))->PSs (zx CX0 P w K mg base N q (qj st) d.fa cdv A outer s H E).nox (ja st) (letI:Pin:=Pn;tDS K u))(hn:N.length=n:=by rfl)(ha:ps.length=ar+1:=by rfl)(hk:k+1=k1:=by rfl): CalF P w K mg base c x C k1 ps ar (jy n c u) d.fa d.fd:=⟨d.F.okOB S hn ha hk hb,d.me⟩
theorem Df.rdO(d:Df K mg x q st)(S:FnScope N ps (qj st))(hb:∀(Pn:Pin) (cdv:Value) (A:Around) (outer:List Env) (s:Shared) (H:Hp) (E:XK),Room k (A.deeper (envOfC q (qj st) s.heap.objs.size d.fa cdv))->PSs (zx CX0 P w K mg base N q (qj st) d.fa cdv A outer s H E).nox (ja st) (letI:Pin:=Pn;tDS K u))(hn:N.length=n:=by rfl)(ha:ps.length=ar+1:=by rfl)(hk:k+1=k1:=by rfl): CalO P w K mg base x c k1 ps ar (jy n c u) d.fa d.fd:=⟨d.F.okOB S hn ha hk hb,d.m,d.F.kp⟩
theorem Df.b(d:Df K mg x q st)(h:∀kV doc pm an cdv ct,Binds K (PySem.W.fnOf x q (q2l st) (ja st) (qj st) .none kV doc pm an cdv ct) ps []): Binds K d.fd ps []:=d.F.bindsTo (P:=fun fd=>Binds K fd ps []) h
theorem Dm.b(d:Dm K C x q st)(h:∀kV doc pm an cdv ct,Binds K (PySem.W.fnOf x q (q2l st) (ja st) (qj st) .none kV doc pm an cdv ct) ps []): Binds K d.fd ps []:=d.F.bindsTo (P:=fun fd=>Binds K fd ps []) h
end
end DL
namespace My
open PySem PySem.Spec PyProof.Rows L2 DL
local macro_rules | `(tactic| walk_at "A")=> `(tactic| ((refine qkb (hs:=?hs) ?a ?_);(case hs=>exact q4p rfl)))
local macro_rules | `(tactic| walk_at "L")=> `(tactic| first|exact .inl rfl|exact .inr rfl|assumption)
local macro_rules | `(tactic| walk_at "a")=> `(tactic| (walk_at "A";exact(qa (pv 1))))
local macro_rules | `(tactic| walk_at "b")=> `(tactic| (exact rfl;walk_at "L";refine(qm ?_ ?_)))
local macro_rules | `(tactic| walk_at "c")=> `(tactic| (walk_at "A";exact(qa (pv 2));exact qg))
local macro_rules | `(tactic| walk_at "d")=> `(tactic| (walk_at "A";exact(qa (pv 0))))
local macro_rules | `(tactic| walk_at "e")=> `(tactic| (exact rfl;exact(Or.inl rfl)))
local macro_rules | `(tactic| walk_at "f")=> `(tactic| (refine(qo ?_);refine(z8 ?_)))
local macro_rules | `(tactic| walk_at "g")=> `(tactic| (walk_at "A";refine(jc ?_)))
local macro_rules | `(tactic| walk_at "h")=> `(tactic| (refine(qp zt ?_ qi);refine(qp va ?_ qi)))
local macro_rules | `(tactic| walk_at "i")=> `(tactic| (refine(qm ?_ ?_);refine(zb (i:=2) ?_ ?_ ?_ ?_ ?_ ?_)))
local macro_rules | `(tactic| walk_at "j")=> `(tactic| (walk_at "A";exact(qa (pv 5));exact qg))
local macro_rules | `(tactic| walk_at "k")=> `(tactic| (exact(qa (pv 0))))
local macro_rules | `(tactic| walk_at "l")=> `(tactic| (walk_at "A";exact qi;walk_at "A"))
local macro_rules | `(tactic| walk_at "m")=> `(tactic| (walk_at "a";exact qg))
local macro_rules | `(tactic| walk_at "n")=> `(tactic| (exact(qa (pv 1))))
local macro_rules | `(tactic| walk_at "o")=> `(tactic| (refine(ju ?_ (qo ?_) j6)))
local macro_rules | `(tactic| walk_at "p")=> `(tactic| (walk_at "A";exact qi;exact qg))
local macro_rules | `(tactic| walk_at "q")=> `(tactic| (refine(qm ?_ ?_)))
local macro_rules | `(tactic| walk_at "r")=> `(tactic| (walk_at "A";refine(jn ?_ qi)))
local macro_rules | `(tactic| walk_at "s")=> `(tactic| (walk_at "A";exact(qa (pv 6))))
local macro_rules | `(tactic| walk_at "t")=> `(tactic| (refine(zb (i:=3) ?_ ?_ ?_ ?_ ?_ ?_)))
local macro_rules | `(tactic| walk_at "u")=> `(tactic| (refine(j8 ?_);walk_at "k"))
local macro_rules | `(tactic| walk_at "v")=> `(tactic| (exact(qa (pv 2))))
local macro_rules | `(tactic| walk_at "w")=> `(tactic| (refine(zb (i:=5) ?_ ?_ ?_ ?_ ?_ ?_)))
local macro_rules | `(tactic| walk_at "x")=> `(tactic| (walk_at "d";exact qg))
local macro_rules | `(tactic| walk_at "B")=> `(tactic| first|exact fun _ _ _ _ _ _ s us hk hl=>ln1 (fun _=>.of_eq rfl) us hl|exact fun _ _ _ _ _ _ s us hk hl=>ln2 (fun _ _=>.of_eq rfl) us hl|exact fun _ _ _ _ _ _ s us hk hl=>ln3 (fun _ _ _=>.of_eq rfl) us hl|exact fun _ _ _ _ _ _ s us hk hl=>ln4 (fun _ _ _ _=>.of_eq rfl) us hl|exact fun _ _ _ _ _ _ s us hk hl=>ln5 (fun _ _ _ _ _=>.of_eq rfl) us hl)
local macro_rules | `(tactic| walk_at "S")=> `(tactic| exact⟨rfl,rfl,rfl,by decide +kernel,rfl,by decide +kernel,by decide +kernel⟩)
def top(i:Nat): Stmt:=PySem.Challenge.pw_oftentogether_k44_whole_store_anew.main.body.getD i (.Pass ⟨0,0,0,0⟩)
def q0b(i j:Nat): Stmt:=match top i with | .ClassDef _ _ _ body _ _ _ _ _ _ _=>body.getD j (.Pass ⟨0,0,0,0⟩)|x=>x
abbrev vn:Stmt:=q0b 43 0
abbrev q96:Stmt:=top 1
abbrev q97:Stmt:=top 2
abbrev yq:Stmt:=q0b 50 0
abbrev q98:Stmt:=top 53
abbrev qbx:Stmt:=top 52
abbrev q31:Stmt:=top 54
abbrev q7q:Stmt:=top 55
abbrev qhp:Stmt:=top 5
abbrev qhq:Stmt:=top 18
abbrev y9:Stmt:=q0b 50 3
abbrev qhr:Stmt:=top 49
abbrev q7r:Stmt:=top 47
abbrev q32:Stmt:=q0b 50 4
abbrev q1l:Stmt:=q0b 50 1
abbrev q99:Stmt:=top 48
abbrev q0y:Stmt:=q0b 50 2
abbrev qep:Stmt:=top 56
abbrev q7s:Stmt:=top 58
abbrev q9a:Stmt:=top 57
abbrev qby:Stmt:=top 63
abbrev q7t:Stmt:=q0b 50 5
abbrev qbz:Stmt:=top 24
abbrev qeq:Stmt:=top 6
abbrev qhs:Stmt:=top 21
abbrev q3q:Stmt:=top 12
abbrev q33:Stmt:=top 14
abbrev qkx:Stmt:=top 27
abbrev q4y:Stmt:=top 22
abbrev q27:Stmt:=q0b 28 1
abbrev q3r:Stmt:=q0b 28 0
abbrev q6j:Stmt:=q0b 50 7
abbrev qc0:Stmt:=top 10
abbrev qht:Stmt:=top 7
abbrev qc1:Stmt:=top 11
abbrev q9b:Stmt:=q0b 25 0
abbrev qhu:Stmt:=top 9
abbrev q3s:Stmt:=top 13
abbrev q3t:Stmt:=top 36
abbrev qhv:Stmt:=top 37
abbrev q4z:Stmt:=q0b 50 8
abbrev q6k:Stmt:=top 34
abbrev qc2:Stmt:=top 30
abbrev q34:Stmt:=q0b 50 9
abbrev qhw:Stmt:=top 32
abbrev q50:Stmt:=q0b 50 10
abbrev q9c:Stmt:=top 59
abbrev qhx:Stmt:=top 60
abbrev q7u:Stmt:=top 8
abbrev qky:Stmt:=top 19
abbrev q6l:Stmt:=q0b 50 6
abbrev q3u:Stmt:=top 61
abbrev q6m:Stmt:=top 62
abbrev qfu:Stmt:=top 64
structure Zs(K:Frag)(mg:Tc) where
 w0:Cf K mg "Store" ["wares","window","runs"]
 w1:Cw K mg "Growing"
 w2:Cw K mg "Way"
 {n3:Addr}
 {n4:Addr}
 {n5:Addr}
 n6:mg "OftenError" = some (.ref n3)
 n7:mg "NoRun" = some (.ref n5)
 n8:PySem.W.nsIn K mainGlobals "NoRun" = some (some (.ref n5))
 n9:mg "NotThere" = some (.ref n4)
 n10:PySem.W.nsIn K mainGlobals "NotThere" = some (some (.ref n4))
 d2:Dm K n4 "__init__" "NotThere.__init__" vn
 d25:Df K mg "is_number" "is_number" q96
 d28:Df K mg "is_within" "is_within" q97
 d3:Dn K w0.C "__init__" "Store.__init__" yq
 d35:Df K mg "_law_mixed" "_law_mixed" q98
 d30:Df K mg "_law_cell" "_law_cell" qbx
 d34:Df K mg "_law_many_deeds" "_law_many_deeds" q31
 d36:Df K mg "_law_number" "_law_number" q7q
 d27:Dg K mg "is_set" "is_set" qhp
 d26:Df K mg "is_run" "is_run" qhq
 d4:Dm K w0.C "check_run" "Store.check_run" y9
 d49:Dg K mg "parted" "parted" qhr
 d18:Df K mg "baskets_of" "baskets_of" q7r
 d13:Dm K w0.C "too_many" "Store.too_many" q32
 d10:Dm K w0.C "put" "Store.put" q1l
 d50:Df K mg "runs_like" "runs_like" q99
 d12:Dm K w0.C "take" "Store.take" q0y
 d38:Df K mg "_law_set" "_law_set" qep
 d41:Df K mg "_law_within" "_law_within" q7s
 d39:Df K mg "_law_taken" "_law_taken" q9a
 d32:Df K mg "_law_deed" "_law_deed" qby
 d9:Dm K w0.C "pile" "Store.pile" q7t
 d17:Df K mg "at_least" "at_least" qbz
 d44:Df K mg "mark_of" "mark_of" qeq
 d45:Df K mg "marked" "marked" qhs
 d47:Df K mg "one_ware_more" "one_ware_more" q3q
 d46:Df K mg "one_ware_fewer" "one_ware_fewer" q33
 d23:Df K mg "grown" "grown" qkx
 d21:Df K mg "count_marked" "count_marked" q4y
 d0:Dm K w1.C "counted" "Growing.counted" q27
 d1:Dm K w1.C "often" "Growing.often" q3r
 d8:Dm K w0.C "often" "Store.often" q6j
 d48:Df K mg "order_of" "order_of" qc0
 d52:Df K mg "set_of" "set_of" qht
 d15:Df K mg "all_sets" "all_sets" qc1
 d14:Dm K w2.C "often" "Way.often" q9b
 d29:Df K mg "joined" "joined" qhu
 d16:Df K mg "any_ware_more" "any_ware_more" q3s
 d43:Df K mg "loses_by_each" "loses_by_each" q3t
 d19:Df K mg "closed" "closed" qhv
 d5:Dm K w0.C "closed" "Store.closed" q4z
 d24:Df K mg "is_greatest" "is_greatest" q6k
 d22:Df K mg "greatest" "greatest" qc2
 d7:Dm K w0.C "greatest" "Store.greatest" q34
 d51:Df K mg "seldom" "seldom" qhw
 d11:Dm K w0.C "seldom" "Store.seldom" q50
 d31:Df K mg "_law_count" "_law_count" q9c
 d33:Df K mg "_law_is" "_law_is" qhx
 d42:Df K mg "lies_below" "lies_below" q7u
 d20:Df K mg "count" "count" qky
 d6:Dm K w0.C "count" "Store.count" q6l
 d40:Df K mg "_law_told_anew" "_law_told_anew" q3u
 d37:Df K mg "_law_refused" "_law_refused" q6m
 dlaw:Df K mg "law" "law" qfu
 n11:PySem.W.specialIn K (.ref n3) "__getattribute__" = some (some (.builtin "type.__getattribute__"))
 n12:PySem.W.readsIn K n3 (.type "type")=true
 n13:PySem.W.findCls K (.ref n3) (.type "type") "__init__" = some (.val (.builtin "ValueError.__init__"))
 n14:q4u K n4 d2.fa=true
 n15:ClsI K n4 "there"
 n16:mg "isinstance" = none
 n17:mg "int" = none
 n18:mg "bool" = none
 n19:∃t,mg "MOST_WARES" = some (.int 12 t)
 n20:∃t,mg "MOST_WINDOW" = some (.int 1000000000000000 t)
 n21:mg "len" = none
 n22:mg "max" = none
 n23:mg "min" = none
 n24:mg "all" = none
 n25:mg "tuple" = none
 n26:mg "zip" = none
 n27:∃t,mg "MOST_MANY" = some (.int 1000000000000 t)
 n28:qgy K n5
 n29:mg "sum" = none
 n30:∃t,mg "MOST_RUNS" = some (.int 200 t)
 n31:PySem.W.typeIn K (.ref d2.fa)=some (.type "function")
 n32:PySem.W.keepIn K (.ref n4)=true
 n33:mg "range" = none
 n34:mg "dict" = none
 n35:mg "sorted" = none
 n36:mg "set" = none
 n37:mg "closed_closures" = some (.ref d19.fa)
 n38:mg "any" = none
 n39:mg "greatest_borders" = some (.ref d22.fa)
 n40:mg "seldom_borders" = some (.ref d51.fa)
 n41:mg "count_piles" = some (.ref d20.fa)
 n42:qls K n5
 n43:qls K n4
 n44:PySem.W.typeIn K (.ref n5)=some (.type "type")
 n45:PySem.W.mroIn K n5 (.ref n5)=some true
 n46:PySem.W.mroIn K n4 (.ref n5)=some false
 n47:PySem.W.typeIn K (.ref n4)=some (.type "type")
 n48:PySem.W.mroIn K n5 (.ref n4)=some false
 n49:PySem.W.mroIn K n4 (.ref n4)=some true
 n50:PySem.W.exmAny K (.ref n5) [.ref n5,.ref n4]=some true
 n51:PySem.W.exmAny K (.ref n4) [.ref n5,.ref n4]=some true
 e3:Dfl K d3.dV #[.none]
 e27:∃t,Dfl K d27.dV #[.int 12 t]
 e49:Dfl K d49.dV #[.none]
section
variable[Lam]{P:Program}{w:World}{K:Frag}{mg:Tc}{base:Heap}(Z:Zs K mg)
noncomputable def q17:List Str:=["self","there"]
theorem q5x:FnScope q17 ["self","there"] (qj vn):=by walk_at "S"
theorem q5y{cdv:Value}{A:Around}{outer:List Env}{s:Shared}{H:Hp}{E:XK}(Z:Zs K mg):
  PSs (zx CX0 P w K mg base q17 "NotThere.__init__" (qj vn) Z.d2.fa cdv A outer s H E).nox (ja vn) (tIn Z.n4 "there"):=
 qrj (qv9 rfl Z.n6 Z.n11 Z.n12 Z.n13 Z.n14 (pv 0) (pv 1) (by decide) (by decide)) (qva Z.n15 (pv 0) (pv 1))
theorem q5z(Z:Zs K mg): FnOk P w K mg base CX0 1 Z.d2.fa Z.d2.fd ["self","there"] (spI Z.n4 "there"):=
 Z.d2.F.okI (k:=0) q5x rfl rfl rfl fun cdv A outer s H E hr=>q5y Z
theorem b_2:Binds K Z.d2.fd ["self","there"] []:=Z.d2.b (by walk_at "B")
noncomputable def qjf:List Str:=["thing"]
theorem qhy:FnScope qjf ["thing"] (qj q96):=by walk_at "S"
noncomputable def q9d:FS:=(ze (q5g (q76 .int (eV 0)) (q5g (q9w (q76 .bool (eV 0))) (eOp oGe (eV 0) (eC (.int 0))))))
noncomputable def wz:Ti:=zf 1 q9d
theorem qyh:Cal P w K mg base "is_number" 1 ["thing"] 1 wz Z.d25.fa Z.d25.fd:=
 Z.d25.rd (k:=0) qhy fun _ _ _ _ _ _ hr=>by
 unfold q9d;refine(qo ?_);refine(z8 ?_);refine(q2t ?_ (q2t ?_ (q73 ?_)));refine(q4r .int rfl Z.n16 rfl Z.n17 DL.boot_int ?_);exact(qa (pv 0));refine(qgg ?_);refine(q4r .bool rfl Z.n16 rfl Z.n18 DL.boot_bool ?_);exact(qa (pv 0));refine(q1u qlt ?_ qi);exact(qa (pv 0))
theorem qyi:Binds K Z.d25.fd ["thing"] []:=Z.d25.b (by walk_at "B")
noncomputable def qjg:List Str:=["thing","lowest","highest"]
theorem qhz:FnScope qjg ["thing","lowest","highest"] (qj q97):=by walk_at "S"
noncomputable def q48:FS:=(ze (q5g (qk (qt 1 [] wz) (qc (eV 0) qh)) (qbg oLe oLe (eV 1) (eV 0) (eV 2))))
noncomputable def q00:Ti:=zf 3 q48
theorem qrz:Cal P w K mg base "is_within" 2 ["thing","lowest","highest"] 3 q00 Z.d28.fa Z.d28.fd:=
 Z.d28.rd (k:=1) qhz fun _ _ _ _ _ _ hr=>by
 unfold q48;walk_at "f";refine(q2t ?_ (q73 ?_));refine(z6 (qyh Z) (qyi Z) hr (by decide) rfl ?_);walk_at "x";refine(qr2 qtf qtf ?_ ?_ ?_);walk_at "n";walk_at "k";walk_at "v"
theorem qs0:Binds K Z.d28.fd ["thing","lowest","highest"] []:=Z.d28.b (by walk_at "B")
noncomputable def q35:List Str:=["self","wares","window"]
theorem q8w:FnScope q35 ["self","wares","window"] (qj yq):=by walk_at "S"
noncomputable def yr:FS:=(qz (sIf (q21 (bT (qk (qt 3 [] q00) (qc (eV 1) (qc (eC (.int 0)) (qc (eC (.int 12)) qh)))))) q1w j9) (qz (sIf (q22 (zl (oIs true) (eV 2) (eC .non)) (q21 (bT (qk (qt 3 [] q00) (qc (eV 2) (qc (eC (.int 1)) (qc (eC (.int 1000000000000000)) qh))))))) q1w j9) (qz (q3i "Store" 0 "wares" (eV 1)) (qz (q3i "Store" 0 "window" (eV 2)) (q3i "Store" 0 "runs" (jd qh))))))
noncomputable def yt:Th:=jy 3 "Store" yr
theorem q8x(Z:Zs K mg): FnOk P w K mg base CX0 3 Z.d3.fa Z.d3.fd ["self","wares","window"] (qa4 K "Store" 2 yt):=
 Z.d3.F.okOB (c:="Store") (k:=2) (n:=3) (ar:=2) (k1:=3) (u:=yr) q8w rfl rfl rfl fun Pn cdv A outer s H E hr=>by
 show PSs (zx CX0 P w K mg base q35 "Store.__init__" (qj yq) _ cdv A outer s H E).nox (ja yq) (tDS K yr);unfold yr;walk_at "q";refine(ju ?_ (qo q1b) j6);refine(q2s ?_);refine(yc ?_);refine(z6 (qrz Z) (qs0 Z) hr (by decide) rfl ?_);walk_at "a";walk_at "l";exact(q4t rfl Z.n19);exact qg;walk_at "q";refine(ju ?_ (qo q1b) j6);refine(PW.pt (qba ?_ (q8o ?_)));refine(zp (qgo rfl) ?_ q72);walk_at "v";refine(q2s ?_);refine(yc ?_);refine(z6 (qrz Z) (qs0 Z) hr (by decide) rfl ?_);walk_at "A";walk_at "v";walk_at "l";exact(q4t rfl Z.n20);exact qg;walk_at "q";refine(q7d Z.w0.O (by decide) (pv 0) ?_);walk_at "n";walk_at "q";refine(q7d Z.w0.O (by decide) (pv 0) ?_);walk_at "v";refine(qo ?_);refine(q7d Z.w0.O (by decide) (pv 0) ?_);exact(jf qg)
theorem qvn(Z:Zs K mg): MkF P w K mg base "Store" Z.w0.C 3 ["self","wares","window"] 2 yt Z.d3.fa Z.d3.fd:=⟨q8x Z,⟨Z.w0.k,Z.d3.z,Z.d3.i,Z.w0.p⟩,Z.w0.m,Z.w0.O.ns⟩
theorem b_3:Binds K Z.d3.fd ["self","wares","window"] []:=by obtain⟨T,oc,od,n,sl,e,d⟩:=Z.e3;have F:=Z.d3.F;rw [e] at F;exact F.bindsTo (P:=fun fd=>Binds K fd ["self","wares","window"] []) fun _ _ _ _ _ _ s us hk hl=>ln3 (fun _ _ _=>g1f rfl (hk _ _ d) rfl rfl rfl) us hl
theorem q6v:Binds K Z.d3.fd ["self","wares","window"] [.none]:=by obtain⟨T,oc,od,n,sl,e,d⟩:=Z.e3;have F:=Z.d3.F;rw [e] at F;exact F.bindsTo (P:=fun fd=>Binds K fd ["self","wares","window"] [.none]) fun _ _ _ _ _ _=>qtl 2 rfl fun s us hk hl=>match us,hl with | [_,_],_=>g1f rfl (hk _ _ d) rfl rfl rfl
theorem q6w:Vals [V.non] [.none]:=.cons rfl (.nil)
theorem q6x{H:Hp}: RepL K H [.non] [V.non]:=RepL.cons (by simp only [Rep]) (RepL.nil)
noncomputable def q9e:List Str:=["_law_cell_here","_law_k","_law_first","_law_second"]
theorem q7v:(q9e).Nodup:=by decide +kernel
theorem qi0:FnScope q9e ["_law_cell_here","_law_k"] (qj q98):=by walk_at "S"
noncomputable def q49:FS:=(qz (zj 2 (eOp oMod (eOp zw (eOp zw (eOp jx (eOp oMod (eV 0) (eC (.int 2147483629))) (eC (.int 48271))) (eOp jx (eOp jx (eV 1) (eV 1)) (eC (.int 7919)))) (eC (.int 104729))) (eC (.int 2147483647)))) (qz (zj 3 (eOp oMod (eOp jx (eV 2) (eV 2)) (eC (.int 2147483629)))) (ze (eOp oMod (eOp jx (eOp oMod (eOp zw (eOp zw (eOp jx (eV 3) (eC (.int 69621))) (eOp jx (eV 1) (eC (.int 40692)))) (eC (.int 7))) (eC (.int 2147483587))) (eV 3)) (eC (.int 2147483579))))))
noncomputable def y8:Ti:=zf 4 q49
theorem qme:Cal P w K mg base "_law_mixed" 1 ["_law_cell_here","_law_k"] 2 y8 Z.d35.fa Z.d35.fd:=
 Z.d35.rd (k:=0) qi0 fun _ _ _ _ _ _ hr=>by
 unfold q49;walk_at "i";exact q7v;walk_at "e";refine(qp zt ?_ qi);refine(qp jb ?_ qi);refine(qp jb ?_ ?_);refine(qp ky ?_ qi);refine(qp zt ?_ qi);walk_at "k";refine(qp ky ?_ qi);refine(qp ky ?_ ?_);walk_at "n";walk_at "n";walk_at "b";walk_at "t";exact q7v;walk_at "e";refine(qp zt ?_ qi);refine(qp ky ?_ ?_);walk_at "v";walk_at "v";exact rfl;walk_at "L";walk_at "f";refine(qp zt ?_ qi);refine(qp ky ?_ ?_);refine(qp zt ?_ qi);refine(qp jb ?_ qi);refine(qp jb ?_ ?_);refine(qp ky ?_ qi);exact(qa (pv 3));refine(qp ky ?_ qi);walk_at "n";exact(qa (pv 3))
theorem qmf:Binds K Z.d35.fd ["_law_cell_here","_law_k"] []:=Z.d35.b (by walk_at "B")
noncomputable def qmg:List Str:=["_law_script","_law_k"]
theorem qjh:FnScope qmg ["_law_script","_law_k"] (qj qbx):=by walk_at "S"
noncomputable def q2f:FS:=(qz (sIf (zl oLt' (eV 1) (qk yo (qc (eV 0) qh))) (ze (eOp oIx (eV 0) (eV 1))) j9) (ze (eC (.int 0))))
noncomputable def jz:Ti:=zf 2 q2f
theorem q7w:Cal P w K mg base "_law_cell" 1 ["_law_script","_law_k"] 2 jz Z.d30.fa Z.d30.fd:=
 Z.d30.rd (k:=0) qjh fun _ _ _ _ _ _ hr=>by
 unfold q2f;walk_at "q";walk_at "o";refine(zp wy ?_ ?_);walk_at "n";refine(zd (wx) rfl Z.n21 DL.vg ?_);walk_at "x";refine(z8 ?_);refine(jn ?_ ?_);walk_at "k";walk_at "n";refine(qo ?_);exact(z8 qi)
theorem q7x:Binds K Z.d30.fd ["_law_script","_law_k"] []:=Z.d30.b (by walk_at "B")
noncomputable def qad:List Str:=["_law_script"]
theorem q8y:FnScope qad ["_law_script"] (qj q31):=by walk_at "S"
noncomputable def yu:FS:=(qz (sIf (zl oEq (eOp oMod (qk (qt 2 [] jz) (qc (eV 0) (qc (eC (.int 0)) qh))) (eC (.int 2))) (eC (.int 0))) (ze (qk oMax (qc (eC (.int 0)) (qc (qk oMin (qc (eOp oSub (qk yo (qc (eV 0) qh)) (eC (.int 1))) (qc (eC (.int 62)) qh))) qh)))) j9) (ze (eOp zw (eC (.int 6)) (eOp oMod (qk (qt 2 [] y8) (qc (qk (qt 2 [] jz) (qc (eV 0) (qc (eC (.int 0)) qh))) (qc (eC (.int 3)) qh))) (eC (.int 10))))))
noncomputable def yw:Ti:=zf 1 yu
theorem z1y:Cal P w K mg base "_law_many_deeds" 2 ["_law_script"] 1 yw Z.d34.fa Z.d34.fd:=
 Z.d34.rd (k:=1) q8y fun _ _ _ _ _ _ hr=>by
 unfold yu;walk_at "q";walk_at "o";refine(zp (vt hr.units) ?_ qi);refine(qp zt ?_ qi);refine(z6 (q7w Z) (q7x Z) hr (by decide) rfl ?_);walk_at "d";walk_at "p";refine(z8 ?_);refine(zd (q79 rfl) rfl Z.n22 DL.boot_max ?_);walk_at "l";refine(zd (q78 rfl) rfl Z.n23 DL.boot_min ?_);walk_at "A";refine(qp vj ?_ qi);refine(zd (wx) rfl Z.n21 DL.vg ?_);walk_at "x";walk_at "p";exact qg;walk_at "f";refine(qp jb qi ?_);refine(qp zt ?_ qi);refine(z6 (qme Z) (qmf Z) hr (by decide) rfl ?_);walk_at "A";refine(z6 (q7w Z) (q7x Z) hr (by decide) rfl ?_);walk_at "d";walk_at "p";walk_at "p"
theorem z1z:Binds K Z.d34.fd ["_law_script"] []:=Z.d34.b (by walk_at "B")
noncomputable def qi1:List Str:=["_law_script","_law_k"]
theorem qf9:FnScope qi1 ["_law_script","_law_k"] (qj q7q):=by walk_at "S"
noncomputable def q7y:FS:=(qz (sIf (zl oEq (eOp oMod (qk (qt 2 [] jz) (qc (eV 0) (qc (eC (.int 0)) qh))) (eC (.int 2))) (eC (.int 0))) (ze (eOp oMod (qk (qt 2 [] jz) (qc (eV 0) (qc (eOp zw (eC (.int 1)) (eV 1)) qh))) (eOp oPow (eC (.int 10)) (eC (.int 60))))) j9) (ze (eOp zw (eOp jx (qk (qt 2 [] y8) (qc (qk (qt 2 [] jz) (qc (eV 0) (qc (eOp zw (eC (.int 1)) (eOp oMod (eV 1) (qk oMax (qc (eC (.int 1)) (qc (eOp oSub (qk yo (qc (eV 0) qh)) (eC (.int 1))) qh))))) qh))) (qc (eOp zw (eV 1) (eC (.int 5))) qh))) (eC (.int 2147483647))) (qk (qt 2 [] y8) (qc (eV 1) (qc (eC (.int 9)) qh))))))
noncomputable def q36:Ti:=zf 2 q7y
theorem z20:Cal P w K mg base "_law_number" 2 ["_law_script","_law_k"] 2 q36 Z.d36.fa Z.d36.fd:=
 Z.d36.rd (k:=1) qf9 fun _ _ _ _ _ _ hr=>by
 unfold q7y;walk_at "q";walk_at "o";refine(zp (vt hr.units) ?_ qi);refine(qp zt ?_ qi);refine(z6 (q7w Z) (q7x Z) hr (by decide) rfl ?_);walk_at "d";walk_at "p";refine(z8 ?_);refine(qp zt ?_ ?_);refine(z6 (q7w Z) (q7x Z) hr (by decide) rfl ?_);walk_at "d";walk_at "A";refine(qp jb qi ?_);walk_at "n";exact qg;exact(qp q4o qi qi);walk_at "f";refine(qp jb ?_ ?_);refine(qp ky ?_ qi);refine(z6 (qme Z) (qmf Z) hr (by decide) rfl ?_);walk_at "A";refine(z6 (q7w Z) (q7x Z) hr (by decide) rfl ?_);walk_at "d";walk_at "A";refine(qp jb qi ?_);refine(qp zt ?_ ?_);walk_at "n";refine(zd (q79 rfl) rfl Z.n22 DL.boot_max ?_);walk_at "l";refine(qp vj ?_ qi);refine(zd (wx) rfl Z.n21 DL.vg ?_);walk_at "x";exact qg;exact qg;walk_at "A";refine(qp jb ?_ qi);walk_at "n";exact qg;refine(z6 (qme Z) (qmf Z) hr (by decide) rfl ?_);walk_at "a";walk_at "p"
theorem z21:Binds K Z.d36.fd ["_law_script","_law_k"] []:=Z.d36.b (by walk_at "B")
noncomputable def qi2:List Str:=["thing","wares","bound"]
theorem qp6:(qi2).Nodup:=by decide +kernel
theorem qp7:FnScope qi2 ["thing","wares"] (qj qhp):=by walk_at "S"
theorem qji:(["ware","bound"]:List Str).Nodup:=by decide +kernel
theorem q9f:(["lower","higher"]:List Str).Nodup:=by decide +kernel
noncomputable def qi3:FS:=(qz (sIf (q21 (bT (q76 .tuple (eV 0)))) (ze (eC (.bl false))) j9) (qz (zj 2 (qk oMin (qc (eV 1) (qc (eC (.int 12)) qh)))) (qz (sIf (q21 (bT (qk q44 (qc (eL (zi (jm (eV 0)) [none,some 2] (bN 0) zu (q5g (qk (qt 1 [] wz) (qc (eV 0) qh)) (eOp oLt' (eV 0) (eV 1))))) qh)))) (ze (eC (.bl false))) j9) (ze (qk q44 (qc (eL (zi (qxs (qc (eV 0) (qc (eSl (eV 0) (oAt (eC (.int 1))) oNo) qh))) [none,none] (xj 2 (zh (bN 0) (zh (bN 1) xi))) zu (eOp oLt' (eV 0) (eV 1)))) qh))))))
noncomputable def q37:Ti:=zf 3 qi3
theorem z22:Cal P w K mg base "is_set" 2 ["thing","wares"] 2 q37 Z.d27.fa Z.d27.fd:=
 Z.d27.rd (k:=1) qp7 fun _ _ _ _ _ _ hr=>by
 unfold qi3;walk_at "q";walk_at "o";refine(q2s ?_);refine(yc ?_);refine(q4r .tuple rfl Z.n16 rfl Z.n25 DL.boot_tuple ?_);walk_at "k";exact(z8 q05);walk_at "i";exact qp6;exact rfl;exact(Or.inr rfl);refine(zd (q78 rfl) rfl Z.n23 DL.boot_min ?_);walk_at "a";walk_at "A";exact(q4t rfl Z.n19);exact qg;walk_at "b";walk_at "o";refine(q2s ?_);refine(yc ?_);refine(zd (q77 rfl) rfl Z.n24 DL.boot_all ?_);walk_at "g";refine(zo (N':=["ware","bound"]) (cap:=[none,some 2]) rfl (zc rfl rfl) (zk rfl) ?_ (fun _ _ _ _ _=>(z9 qji rfl (Or.inl rfl) (.inr rfl))) (fun _ _ _ _ _=>xt) (fun _ _ _ _ _=>?_));walk_at "u";refine(q2t ?_ (q73 ?_));refine(z6 (qyh Z) (qyi Z) hr (by decide) rfl ?_);walk_at "x";refine(q1u wy ?_ ?_);walk_at "k";walk_at "n";exact qg;exact(z8 q05);walk_at "f";refine(zd (q77 rfl) rfl Z.n24 DL.boot_all ?_);walk_at "g";refine(zo (N':=["lower","higher"]) (cap:=[none,none]) rfl (zc rfl rfl) (q0h (jl rfl (jl rfl wg))) ?_ (fun _ _ _ _ _=>(wu rfl (jg (z9 q9f rfl (Or.inl rfl) (.inr rfl)) (jg (z9 q9f rfl (Or.inl rfl) (.inr rfl)) wt)))) (fun _ _ _ _ _=>xt) (fun _ _ _ _ _=>?_));refine(qxt rfl Z.n26 ?_);walk_at "d";walk_at "A";refine(qa0 ?_ (q9z qi) q9y);walk_at "k";exact qg;refine(q1u wy ?_ ?_);walk_at "k";walk_at "n";exact qg
theorem z23:Binds K Z.d27.fd ["thing","wares"] []:=by obtain⟨t,T,oc,od,n,sl,e,d⟩:=Z.e27;have F:=Z.d27.F;rw [e] at F;exact F.bindsTo (P:=fun fd=>Binds K fd ["thing","wares"] []) fun _ _ _ _ _ _ s us hk hl=>ln2 (fun _ _=>g1f rfl (hk _ _ d) rfl rfl rfl) us hl
noncomputable def qs1:List Str:=["thing","wares"]
theorem qp8:FnScope qs1 ["thing","wares"] (qj qhq):=by walk_at "S"
noncomputable def qae:FS:=(qz (sIf (bOr (q21 (bT (q76 .tuple (eV 0)))) (zl q20 (qk yo (qc (eV 0) qh)) (eC (.int 2)))) (ze (eC (.bl false))) j9) (ze (q5g (qk (qt 3 [] q00) (qc (eOp oIx (eV 0) (eC (.int 0))) (qc (eC (.int 1)) (qc (eC (.int 1000000000000)) qh)))) (qk (qt 2 [] q37) (qc (eOp oIx (eV 0) (eC (.int 1))) (qc (eV 1) qh))))))
noncomputable def w8:Ti:=zf 2 qae
theorem qyj:Cal P w K mg base "is_run" 3 ["thing","wares"] 2 w8 Z.d26.fa Z.d26.fd:=
 Z.d26.rd (k:=2) qp8 fun _ _ _ _ _ _ hr=>by
 unfold qae;walk_at "q";walk_at "o";refine(PW.pt (qtg ?_ (qnx ?_)));refine(q2s ?_);refine(yc ?_);refine(q4r .tuple rfl Z.n16 rfl Z.n25 DL.boot_tuple ?_);walk_at "k";refine(zp qge ?_ qi);refine(zd (wx) rfl Z.n21 DL.vg ?_);walk_at "x";exact(z8 q05);walk_at "f";refine(q2t ?_ (q73 ?_));refine(z6 (qrz Z) (qs0 Z) hr (by decide) rfl ?_);walk_at "r";walk_at "k";walk_at "l";exact(q4t rfl Z.n27);exact qg;refine(z6 (z22 Z) (z23 Z) hr (by decide) rfl ?_);walk_at "r";walk_at "k";walk_at "m"
theorem qyk:Binds K Z.d26.fd ["thing","wares"] []:=Z.d26.b (by walk_at "B")
noncomputable def q28:List Str:=["self","many","basket"]
theorem q1x:FnScope q28 ["self","many","basket"] (qj y9):=by walk_at "S"
noncomputable def q29:FS:=(sIf (q21 (bT (qk (qt 2 [] w8) (qc (jd (qc (eV 1) (qc (eV 2) qh))) (qc (wo "Store" 0 "wares") qh))))) q1w j9)
noncomputable def xb:Th:=jy 3 "Store" q29
theorem c_4:CalF P w K mg base "Store" "check_run" Z.w0.C 4 ["self","many","basket"] 2 xb Z.d4.fa Z.d4.fd:=
 Z.d4.rdO (k:=3) q1x fun _ _ _ _ _ _ _ hr=>by
 unfold q29;refine(qo ?_);refine(ju ?_ (qo q1b) j6);refine(q2s ?_);refine(yc ?_);refine(z6 (qyj Z) (qyk Z) hr (by decide) rfl ?_);walk_at "A";refine(jf ?_);walk_at "a";walk_at "c";walk_at "A";exact(kz Z.w0.O (by decide) (pv 0));exact qg
theorem b_4:Binds K Z.d4.fd ["self","many","basket"] []:=Z.d4.b (by walk_at "B")
noncomputable def xc:FX:=(xIf (q21 (bT (qk (qt 2 [] w8) (qc (jd (qc (eV 1) (qc (eV 2) qh))) (qc (wo "Store" 0 "wares") qh))))) (qof "NoRun") q0u)
noncomputable def xg:Flds->List D->Option (XV×Flds):=fun fs ds=>(xc (ki 3 "Store" fs ds)).bind fun p=>(yp 0 p.2).bind fun o=>if o.1="Store" then some (p.1,o.2) else none
theorem q18(Z:Zs K mg): FnOk P w K mg base (CXR P w) 4 Z.d4.fa Z.d4.fd ["self","many","basket"] (q7g K "Store" 2 xg):=
 q7h (c:="Store") (k:=3) (n:=3) (v:=xc) Z.d4.F q1x rfl rfl rfl fun Pn cdv A outer s H E hr=>by
 show PSs (zx (CXR P w) P w K mg base q28 "Store.check_run" (qj y9) _ cdv A outer s H E) (ja y9) (tXS K xc E);unfold xc;refine(qh5 (qtp (PT.nox ?_) (qh5 (qrg Z.n28 rfl Z.n7 Z.n8)) q3l));refine(q2s ?_);refine(yc ?_);refine(z6 (qyj Z) (qyk Z) hr (by decide) rfl ?_);walk_at "A";refine(jf ?_);walk_at "a";walk_at "c";walk_at "A";exact(kz Z.w0.O (by decide) (pv 0));exact qg
noncomputable def qi4:List Str:=["runs","number","chosen","gone","kept","left","many","basket","going"]
theorem w9:(qi4).Nodup:=by decide +kernel
theorem qp9:FnScope qi4 ["runs","number","chosen"] (qj qhr):=by walk_at "S"
noncomputable def q1m:FS:=(qz (zj 8 (eIf (bOr (zl (oIs false) (eV 2) (eC .non)) (zl oEq (eV 7) (eV 2))) (qk oMin (qc (eV 6) (qc (eV 5) qh))) (eC (.int 0)))) (qz (zj 5 (eOp oSub (eV 5) (eV 8))) (qz (sIf (zl oGt (eV 8) (eC (.int 0))) (q5i 3 (jd (qc (eV 8) (qc (eV 7) qh)))) j9) (sIf (zl oLt' (eV 8) (eV 6)) (q5i 4 (jd (qc (eOp oSub (eV 6) (eV 8)) (qc (eV 7) qh)))) j9))))
noncomputable def qi5:FS:=(qz (q0p 3 (ye qh)) (qz (q0p 4 (ye qh)) (qz (zj 5 (eV 1)) (qz (q41 (jm (eV 0)) (xj 2 (zh (bN 6) (zh (bN 7) xi))) q1m) (q1a 4 (q1a 3 (ze (jd (qc (qk xu (qc (eV 3) qh)) (qc (qk xu (qc (eV 4) qh)) qh))))))))))
noncomputable def q60:Ti:=zf 9 qi5
theorem qyl:Cal P w K mg base "parted" 1 ["runs","number","chosen"] 3 q60 Z.d49.fa Z.d49.fd:=
 Z.d49.rd (k:=0) qp9 fun _ _ _ _ _ _ hr=>by
 unfold qi5 q1m;walk_at "q";exact(q2u (i:=3) w9 rfl (Or.inl rfl) (vm qg));walk_at "q";exact(q2u (i:=4) w9 rfl (Or.inl rfl) (vm qg));walk_at "q";walk_at "w";exact w9;walk_at "e";walk_at "n";walk_at "b";refine(q4q g10 rfl ?_ (wu rfl (jg (z9 w9 rfl (Or.inl rfl) (.inl rfl)) (jg (z9 w9 rfl (Or.inl rfl) (.inl rfl)) wt))) (qm ?_ ?_));walk_at "u";refine(zb (i:=8) ?_ ?_ ?_ ?_ ?_ ?_);exact w9;walk_at "e";refine(qlu ?_ ?_ qi);refine(PW.pt (qtg ?_ (qnx ?_)));refine(zp (qtm rfl) ?_ q72);walk_at "v";refine(zp (vt hr.units) ?_ ?_);exact(qa (pv 7));walk_at "v";refine(zd (q78 rfl) rfl Z.n23 DL.boot_min ?_);walk_at "s";walk_at "j";walk_at "b";refine(quv (i:=5) w9 rfl (Or.inl rfl) ?_);exact(qa (pv 8));walk_at "q";walk_at "o";refine(zp q8m ?_ qi);exact(qa (pv 8));refine(q74 (pv 3) ?_);refine(jf ?_);walk_at "A";exact(qa (pv 8));walk_at "A";exact(qa (pv 7));exact qg;refine(qo ?_);walk_at "o";refine(zp wy ?_ ?_);exact(qa (pv 8));exact(qa (pv 6));refine(q74 (pv 4) ?_);refine(jf ?_);walk_at "A";refine(qp vj ?_ ?_);exact(qa (pv 6));exact(qa (pv 8));walk_at "A";exact(qa (pv 7));exact qg;refine(q0q 4 (q0q 3 (qo ?_)));refine(z8 ?_);refine(jf ?_);walk_at "A";refine(jh (v8) rfl Z.n25 DL.boot_tuple ?_);walk_at "A";exact(qa (pv 3));exact qg;walk_at "A";refine(jh (v8) rfl Z.n25 DL.boot_tuple ?_);walk_at "A";exact(qa (pv 4));exact qg;exact qg
theorem z24:Binds K Z.d49.fd ["runs","number","chosen"] []:=by obtain⟨T,oc,od,n,sl,e,d⟩:=Z.e49;have F:=Z.d49.F;rw [e] at F;exact F.bindsTo (P:=fun fd=>Binds K fd ["runs","number","chosen"] []) fun _ _ _ _ _ _ s us hk hl=>ln3 (fun _ _ _=>g1f rfl (hk _ _ d) rfl rfl rfl) us hl
theorem qjj:Binds K Z.d49.fd ["runs","number","chosen"] [.none]:=by obtain⟨T,oc,od,n,sl,e,d⟩:=Z.e49;have F:=Z.d49.F;rw [e] at F;exact F.bindsTo (P:=fun fd=>Binds K fd ["runs","number","chosen"] [.none]) fun _ _ _ _ _ _=>qtl 2 rfl fun s us hk hl=>match us,hl with | [_,_],_=>g1f rfl (hk _ _ d) rfl rfl rfl
theorem qjk:Vals [V.non] [.none]:=.cons rfl (.nil)
theorem qjl{H:Hp}: RepL K H [.non] [V.non]:=RepL.cons (by simp only [Rep]) (RepL.nil)
noncomputable def qi6:List Str:=["runs"]
theorem qfa:FnScope qi6 ["runs"] (qj q7r):=by walk_at "S"
theorem qc3:(["run"]:List Str).Nodup:=by decide +kernel
noncomputable def q7z:FS:=(ze (qk q43 (qc (eL (zi (jm (eV 0)) [none] (bN 0) zu (eOp oIx (eV 0) (eC (.int 0))))) qh)))
noncomputable def wa:Ti:=zf 1 q7z
theorem qs2:Cal P w K mg base "baskets_of" 1 ["runs"] 1 wa Z.d18.fa Z.d18.fd:=
 Z.d18.rd (k:=0) qfa fun _ _ _ _ _ _ hr=>by
 unfold q7z;walk_at "f";refine(zd (q4s rfl) rfl Z.n29 DL.boot_sum ?_);walk_at "g";refine(zo (N':=["run"]) (cap:=[none]) rfl (zc rfl rfl) (zk rfl) ?_ (fun _ _ _ _ _=>(z9 qc3 rfl (Or.inl rfl) (.inr rfl))) (fun _ _ _ _ _=>xt) (fun _ _ _ _ _=>?_));walk_at "u";refine(jn ?_ qi);walk_at "k";exact qg
theorem qs3:Binds K Z.d18.fd ["runs"] []:=Z.d18.b (by walk_at "B")
noncomputable def qaf:List Str:=["self","runs"]
theorem q8z:FnScope qaf ["self","runs"] (qj q32):=by walk_at "S"
noncomputable def q38:FS:=(ze (eIf (zl (oIs false) (wo "Store" 0 "window") (eC .non)) (eC (.int 0)) (qk oMax (qc (eC (.int 0)) (qc (eOp oSub (qk (qt 1 [] wa) (qc (eV 1) qh)) (wo "Store" 0 "window")) qh)))))
noncomputable def q0c:Th:=jy 2 "Store" q38
theorem z25:CalF P w K mg base "Store" "too_many" Z.w0.C 2 ["self","runs"] 1 q0c Z.d13.fa Z.d13.fd:=
 Z.d13.rdO (k:=1) q8z fun _ _ _ _ _ _ _ hr=>by
 unfold q38;walk_at "f";refine(qlu ?_ qi ?_);refine(zp (qtm rfl) ?_ q72);exact(kz Z.w0.O (by decide) (pv 0));refine(zd (q79 rfl) rfl Z.n22 DL.boot_max ?_);walk_at "l";refine(qp vj ?_ ?_);refine(z6 (qs2 Z) (qs3 Z) hr (by decide) rfl ?_);walk_at "m";exact(kz Z.w0.O (by decide) (pv 0));exact qg
theorem z26:Binds K Z.d13.fd ["self","runs"] []:=Z.d13.b (by walk_at "B")
noncomputable def q4a:List Str:=["self","many","basket","runs","halves"]
theorem q80:(q4a).Nodup:=by decide +kernel
theorem q81:FnScope q4a ["self","many","basket"] (qj q1l):=by walk_at "S"
noncomputable def q9g:FS:=(qz (w4 (xv "Store" "check_run" 0 2 xb (qc (eV 1) (qc (eV 2) qh)))) (qz (sIf (zl oGe (qk yo (qc (wo "Store" 0 "runs") qh)) (eC (.int 200))) q1w j9) (qz (zj 3 (eOp zw (wo "Store" 0 "runs") (jd (qc (jd (qc (eV 1) (qc (eV 2) qh))) qh)))) (qz (qfq 4 (q0s (qt 3 [.non] q60) (k8 (mP (eV 3)) (k8 (xv "Store" "too_many" 0 1 q0c (qc (eV 3) qh)) (amP qh))))) (qz (q3i "Store" 0 "runs" (eOp oIx (eV 4) (eC (.int 1)))) (ze (eOp oIx (eV 4) (eC (.int 0)))))))))
noncomputable def q1n:Th:=jy 5 "Store" q9g
theorem qym:CalF P w K mg base "Store" "put" Z.w0.C 5 ["self","many","basket"] 2 q1n Z.d10.fa Z.d10.fd:=
 Z.d10.rdO (k:=4) q81 fun _ _ _ _ _ _ _ hr=>by
 unfold q9g;walk_at "q";refine(w6 ?_);refine(vw Z.w0.O (c_4 Z) (b_4 Z) hr (by decide) (pv 0) ?_);walk_at "a";walk_at "c";walk_at "q";refine(ju ?_ (qo q1b) j6);refine(zp qlt ?_ ?_);refine(zd (wx) rfl Z.n21 DL.vg ?_);walk_at "A";exact(kz Z.w0.O (by decide) (pv 0));exact qg;exact(q4t rfl Z.n30);walk_at "q";walk_at "t";exact q80;walk_at "e";refine(qp jb ?_ ?_);exact(kz Z.w0.O (by decide) (pv 0));refine(jf ?_);walk_at "A";refine(jf ?_);walk_at "a";walk_at "c";exact qg;walk_at "b";refine(quz (i:=4) q80 rfl (Or.inl rfl) ?_);refine(quy (qyl Z) (qjj Z) qjk (fun _=>qjl) hr (by decide) rfl (q0j ?_ ?_));refine(q1d ?_);exact(qa (pv 3));refine(q0j ?_ ?_);refine(vw Z.w0.O (z25 Z) (z26 Z) hr (by decide) (pv 0) ?_);walk_at "A";exact(qa (pv 3));exact qg;exact(q1e qg);walk_at "q";refine(q7d Z.w0.O (by decide) (pv 0) ?_);refine(jn ?_ qi);exact(qa (pv 4));walk_at "f";refine(jn ?_ qi);exact(qa (pv 4))
theorem qs4:Binds K Z.d10.fd ["self","many","basket"] []:=Z.d10.b (by walk_at "B")
noncomputable def q01:FX:=(q24 (w4 (xv "Store" "check_run" 0 2 xb (qc (eV 1) (qc (eV 2) qh)))) (q2e "Store" "check_run" 0 2 xg (qc (eV 1) (qc (eV 2) qh))) q0u)
noncomputable def q1o:Flds->List D->Option (XV×Flds):=fun fs ds=>(q01 (ki 5 "Store" fs ds)).bind fun p=>(yp 0 p.2).bind fun o=>if o.1="Store" then some (p.1,o.2) else none
theorem qfb(Z:Zs K mg): FnOk P w K mg base (CXR P w) 5 Z.d10.fa Z.d10.fd ["self","many","basket"] (q7g K "Store" 2 q1o):=
 q7h (c:="Store") (k:=4) (n:=5) (v:=q01) Z.d10.F q81 rfl rfl rfl fun Pn cdv A outer s H E hr=>by
 show PSs (zx (CXR P w) P w K mg base q4a "Store.put" (qj q1l) _ cdv A outer s H E) (ja q1l) (tXS K q01 E);unfold q01;refine(qbm (PS.nox ?_) (qkp (qko Z.w0.O (q18 Z) Z.d4.me (b_4 Z) hr (by decide) (pv 0) ?_)) q3l);refine(w6 ?_);refine(vw Z.w0.O (c_4 Z) (b_4 Z) hr (by decide) (pv 0) ?_);walk_at "a";walk_at "c";walk_at "a";walk_at "c"
noncomputable def qjm:List Str:=["runs","basket"]
theorem qi7:FnScope qjm ["runs","basket"] (qj q99):=by walk_at "S"
theorem qdm:(["run","basket"]:List Str).Nodup:=by decide +kernel
noncomputable def q9h:FS:=(ze (eL (zi (jm (eV 0)) [none,some 1] (bN 0) (zl oEq (eOp oIx (eV 0) (eC (.int 1))) (eV 1)) (eV 0))))
noncomputable def q1p:Ti:=zf 2 q9h
theorem qyn:Cal P w K mg base "runs_like" 1 ["runs","basket"] 2 q1p Z.d50.fa Z.d50.fd:=
 Z.d50.rd (k:=0) qi7 fun _ _ _ _ _ _ hr=>by
 unfold q9h;refine(qo ?_);refine(z8 ?_);refine(jc ?_);refine(zo (N':=["run","basket"]) (cap:=[none,some 1]) rfl (zc rfl rfl) (zk rfl) ?_ (fun _ _ _ _ _=>(z9 qdm rfl (Or.inl rfl) (.inr rfl))) (fun _ _ _ _ _=>(k7 ?_)) (fun _ _ _ _ _=>?_));refine(j8 ?_);exact(qa (pv 0));refine(zp (vt hr.units) ?_ ?_);refine(jn ?_ qi);exact(qa (pv 0));exact(qa (pv 1));exact(qa (pv 0))
theorem qyo:Binds K Z.d50.fd ["runs","basket"] []:=Z.d50.b (by walk_at "B")
noncomputable def q39:List Str:=["self","many","basket","there"]
theorem q6n:(q39).Nodup:=by decide +kernel
theorem q6o:FnScope q39 ["self","many","basket"] (qj q0y):=by walk_at "S"
noncomputable def q82:FS:=(qz (w4 (xv "Store" "check_run" 0 2 xb (qc (eV 1) (qc (eV 2) qh)))) (qz (zj 3 (qk (qt 1 [] wa) (qc (qk (qt 2 [] q1p) (qc (wo "Store" 0 "runs") (qc (eV 2) qh))) qh))) (qz (sIf (zl oLt' (eV 3) (eV 1)) q1w j9) (q3i "Store" 0 "runs" (eOp oIx (qk (qt 3 [] q60) (qc (wo "Store" 0 "runs") (qc (eV 1) (qc (eV 2) qh)))) (eC (.int 1)))))))
noncomputable def q0z:Th:=jy 4 "Store" q82
theorem qyp:CalF P w K mg base "Store" "take" Z.w0.C 5 ["self","many","basket"] 2 q0z Z.d12.fa Z.d12.fd:=
 Z.d12.rdO (k:=4) q6o fun _ _ _ _ _ _ _ hr=>by
 unfold q82;walk_at "q";refine(w6 ?_);refine(vw Z.w0.O (c_4 Z) (b_4 Z) hr (by decide) (pv 0) ?_);walk_at "a";walk_at "c";walk_at "q";walk_at "t";exact q6n;walk_at "e";refine(z6 (qs2 Z) (qs3 Z) hr (by decide) rfl ?_);walk_at "A";refine(z6 (qyn Z) (qyo Z) hr (by decide) rfl ?_);walk_at "A";exact(kz Z.w0.O (by decide) (pv 0));walk_at "c";exact qg;walk_at "b";refine(ju ?_ (qo q1b) j6);refine(zp wy ?_ ?_);exact(qa (pv 3));walk_at "n";refine(qo ?_);refine(q7d Z.w0.O (by decide) (pv 0) ?_);refine(jn ?_ qi);refine(z6 (qyl Z) (z24 Z) hr (by decide) rfl ?_);walk_at "A";exact(kz Z.w0.O (by decide) (pv 0));walk_at "a";walk_at "c"
theorem qs5:Binds K Z.d12.fd ["self","many","basket"] []:=Z.d12.b (by walk_at "B")
noncomputable def wb:FX:=(q24 (w4 (xv "Store" "check_run" 0 2 xb (qc (eV 1) (qc (eV 2) qh)))) (q2e "Store" "check_run" 0 2 xg (qc (eV 1) (qc (eV 2) qh))) (q24 (zj 3 (qk (qt 1 [] wa) (qc (qk (qt 2 [] q1p) (qc (wo "Store" 0 "runs") (qc (eV 2) qh))) qh))) q0u (q24 (sIf (zl oLt' (eV 3) (eV 1)) q1w j9) (xIf (zl oLt' (eV 3) (eV 1)) (qde "NotThere" "there" (eV 3)) q0u) q0u)))
noncomputable def q10:Flds->List D->Option (XV×Flds):=fun fs ds=>(wb (ki 4 "Store" fs ds)).bind fun p=>(yp 0 p.2).bind fun o=>if o.1="Store" then some (p.1,o.2) else none
theorem qdn(Z:Zs K mg): FnOk P w K mg base (CXR P w) 5 Z.d12.fa Z.d12.fd ["self","many","basket"] (q7g K "Store" 2 q10):=
 q7h (c:="Store") (k:=4) (n:=4) (v:=wb) Z.d12.F q6o rfl rfl rfl fun Pn cdv A outer s H E hr=>by
 show PSs (zx (CXR P w) P w K mg base q39 "Store.take" (qj q0y) _ cdv A outer s H E) (ja q0y) (tXS K wb E);unfold wb;refine(qbm (PS.nox ?_) (qkp (qko Z.w0.O (q18 Z) Z.d4.me (b_4 Z) hr (by decide) (pv 0) ?_)) (qbm (PS.nox ?_) qrf (qbm (PS.nox ?_) (qtp (PT.nox ?_) (qh5 (qoj Z.n14 (q5z Z) (b_2 Z) Z.n31 Z.n32 hr (by decide) rfl Z.n9 Z.n10 ?_)) q3l) q3l)));refine(w6 ?_);refine(vw Z.w0.O (c_4 Z) (b_4 Z) hr (by decide) (pv 0) ?_);walk_at "a";walk_at "c";walk_at "a";walk_at "c";walk_at "t";exact q6n;walk_at "e";refine(z6 (qs2 Z) (qs3 Z) hr (by decide) rfl ?_);walk_at "A";refine(z6 (qyn Z) (qyo Z) hr (by decide) rfl ?_);walk_at "A";exact(kz Z.w0.O (by decide) (pv 0));walk_at "c";exact qg;exact rfl;walk_at "L";refine(ju ?_ (qo q1b) j6);refine(zp wy ?_ ?_);exact(qa (pv 3));walk_at "n";refine(zp wy ?_ ?_);exact(qa (pv 3));walk_at "n";exact(qa (pv 3))
noncomputable def qpa:List Str:=["_law_mark","_law_wares"]
theorem qmh:FnScope qpa ["_law_mark","_law_wares"] (qj qep):=by walk_at "S"
theorem qi8:(["_law_ware","_law_mark"]:List Str).Nodup:=by decide +kernel
noncomputable def qer:FS:=(ze (qk xu (qc (eL (zi (iR1 (qc (eV 1) qh)) [none,some 0] (bN 0) (zl oEq (eOp oMod (eOp oDivB (eV 1) (eOp oIx (eL (ye (qc (eC (.int 1)) (qc (eC (.int 2)) (qc (eC (.int 4)) (qc (eC (.int 8)) (qc (eC (.int 16)) qh))))))) (eV 0))) (eC (.int 2))) (eC (.int 1))) (eV 0))) qh)))
noncomputable def q0k:Ti:=zf 2 qer
theorem qs6:Cal P w K mg base "_law_set" 1 ["_law_mark","_law_wares"] 2 q0k Z.d38.fa Z.d38.fd:=
 Z.d38.rd (k:=0) qmh fun _ _ _ _ _ _ hr=>by
 unfold qer;walk_at "f";refine(jh (v8) rfl Z.n25 DL.boot_tuple ?_);walk_at "g";refine(zo (N':=["_law_ware","_law_mark"]) (cap:=[none,some 0]) rfl (zc rfl rfl) (zk rfl) ?_ (fun _ _ _ _ _=>(z9 qi8 rfl (Or.inl rfl) (.inr rfl))) (fun _ _ _ _ _=>(k7 ?_)) (fun _ _ _ _ _=>?_));refine(q0g rfl Z.n33 ?_);walk_at "m";refine(zp (vt hr.units) ?_ qi);refine(qp zt ?_ qi);refine(qp qkk ?_ ?_);walk_at "n";refine(jn ?_ ?_);refine(jc ?_);refine(vm ?_);walk_at "l";exact qi;walk_at "l";exact qi;walk_at "p";walk_at "k";walk_at "k";exact qg
theorem qs7:Binds K Z.d38.fd ["_law_mark","_law_wares"] []:=Z.d38.b (by walk_at "B")
noncomputable def q83:List Str:=["_law_runs","_law_most","_law_over","_law_left","_law_many","_law_basket","_law_going"]
theorem v9:(q83).Nodup:=by decide +kernel
theorem qfc:FnScope q83 ["_law_runs","_law_most"] (qj q7s):=by walk_at "S"
theorem q3v:(["_law_many","_law_basket"]:List Str).Nodup:=by decide +kernel
noncomputable def kj:FS:=(qz (zj 6 (qk oMax (qc (eC (.int 0)) (qc (qk oMin (qc (eV 4) (qc (eV 2) qh))) qh)))) (qz (zj 2 (eOp oSub (eV 2) (eV 6))) (sIf (zl oGt (eV 4) (eV 6)) (q5i 3 (jd (qc (eOp oSub (eV 4) (eV 6)) (qc (eV 5) qh)))) j9)))
noncomputable def q84:FS:=(qz (zj 2 (eUn qa2 (eC (.int 1)))) (qz (sIf (zl (oIs true) (eV 1) (eC .non)) (zj 2 (eOp oSub (qk q43 (qc (eL (zi (jm (eV 0)) [none,none] (xj 2 (zh (bN 0) (zh (bN 1) xi))) zu (eV 0))) qh)) (eV 1))) j9) (qz (q0p 3 (ye qh)) (qz (q41 (jm (eV 0)) (xj 2 (zh (bN 4) (zh (bN 5) xi))) kj) (q1a 3 (ze (eV 3)))))))
noncomputable def q11:Ti:=zf 7 q84
theorem z27:Cal P w K mg base "_law_within" 1 ["_law_runs","_law_most"] 2 q11 Z.d41.fa Z.d41.fd:=
 Z.d41.rd (k:=0) qfc fun _ _ _ _ _ _ hr=>by
 unfold q84 kj;walk_at "i";exact v9;walk_at "e";exact(qo8 qi);walk_at "b";walk_at "o";refine(zp (qgo rfl) ?_ q72);walk_at "n";refine(zb (i:=2) ?_ ?_ ?_ ?_ ?_ ?_);exact v9;walk_at "e";refine(qp vj ?_ ?_);refine(zd (q4s rfl) rfl Z.n29 DL.boot_sum ?_);walk_at "g";refine(zo (N':=["_law_many","_law_basket"]) (cap:=[none,none]) rfl (zc rfl rfl) (q0h (jl rfl (jl rfl wg))) ?_ (fun _ _ _ _ _=>(wu rfl (jg (z9 q3v rfl (Or.inl rfl) (.inr rfl)) (jg (z9 q3v rfl (Or.inl rfl) (.inr rfl)) wt)))) (fun _ _ _ _ _=>xt) (fun _ _ _ _ _=>?_));walk_at "u";walk_at "k";exact qg;walk_at "n";walk_at "b";exact(q2u (i:=3) v9 rfl (Or.inl rfl) (vm qg));walk_at "q";refine(q4q g10 rfl ?_ (wu rfl (jg (z9 v9 rfl (Or.inl rfl) (.inl rfl)) (jg (z9 v9 rfl (Or.inl rfl) (.inl rfl)) wt))) (qm ?_ ?_));walk_at "u";refine(zb (i:=6) ?_ ?_ ?_ ?_ ?_ ?_);exact v9;walk_at "e";refine(zd (q79 rfl) rfl Z.n22 DL.boot_max ?_);walk_at "l";refine(zd (q78 rfl) rfl Z.n23 DL.boot_min ?_);walk_at "A";exact(qa (pv 4));walk_at "c";exact qg;walk_at "b";refine(zb (i:=2) ?_ ?_ ?_ ?_ ?_ ?_);exact v9;walk_at "e";refine(qp vj ?_ ?_);walk_at "v";exact(qa (pv 6));exact rfl;walk_at "L";refine(qo ?_);walk_at "o";refine(zp q8m ?_ ?_);exact(qa (pv 4));exact(qa (pv 6));refine(q74 (pv 3) ?_);refine(jf ?_);walk_at "A";refine(qp vj ?_ ?_);exact(qa (pv 4));exact(qa (pv 6));walk_at "j";refine(q0q 3 (qo ?_));refine(z8 ?_);exact(qa (pv 3))
theorem z28:Binds K Z.d41.fd ["_law_runs","_law_most"] []:=Z.d41.b (by walk_at "B")
noncomputable def q9i:List Str:=["_law_runs","_law_many","_law_basket","_law_kept","_law_own","_law_other","_law_going"]
theorem yf:(q9i).Nodup:=by decide +kernel
theorem qi9:FnScope q9i ["_law_runs","_law_many","_law_basket"] (qj q9a):=by walk_at "S"
noncomputable def wj:FS:=(qz (zj 6 (eC (.int 0))) (qz (sIf (zl oEq (eV 5) (eV 2)) (zj 6 (qk oMin (qc (eV 4) (qc (eV 1) qh)))) j9) (qz (zj 1 (eOp oSub (eV 1) (eV 6))) (sIf (zl oGt (eV 4) (eV 6)) (q5i 3 (jd (qc (eOp oSub (eV 4) (eV 6)) (qc (eV 5) qh)))) j9))))
noncomputable def q9j:FS:=(qz (q0p 3 (ye qh)) (qz (q41 (jm (eV 0)) (xj 2 (zh (bN 4) (zh (bN 5) xi))) wj) (q1a 3 (ze (eV 3)))))
noncomputable def q4b:Ti:=zf 7 q9j
theorem z29:Cal P w K mg base "_law_taken" 1 ["_law_runs","_law_many","_law_basket"] 3 q4b Z.d39.fa Z.d39.fd:=
 Z.d39.rd (k:=0) qi9 fun _ _ _ _ _ _ hr=>by
 unfold q9j wj;walk_at "q";exact(q2u (i:=3) yf rfl (Or.inl rfl) (vm qg));walk_at "q";refine(q4q g10 rfl ?_ (wu rfl (jg (z9 yf rfl (Or.inl rfl) (.inl rfl)) (jg (z9 yf rfl (Or.inl rfl) (.inl rfl)) wt))) (qm ?_ ?_));walk_at "u";refine(zb (i:=6) ?_ ?_ ?_ qi ?_ ?_);exact yf;walk_at "e";walk_at "b";walk_at "o";refine(zp (vt hr.units) ?_ ?_);exact(qa (pv 5));walk_at "v";refine(zb (i:=6) ?_ ?_ ?_ ?_ ?_ ?_);exact yf;walk_at "e";refine(zd (q78 rfl) rfl Z.n23 DL.boot_min ?_);walk_at "A";exact(qa (pv 4));walk_at "m";walk_at "b";refine(zb (i:=1) ?_ ?_ ?_ ?_ ?_ ?_);exact yf;walk_at "e";refine(qp vj ?_ ?_);walk_at "n";exact(qa (pv 6));exact rfl;walk_at "L";refine(qo ?_);walk_at "o";refine(zp q8m ?_ ?_);exact(qa (pv 4));exact(qa (pv 6));refine(q74 (pv 3) ?_);refine(jf ?_);walk_at "A";refine(qp vj ?_ ?_);exact(qa (pv 4));exact(qa (pv 6));walk_at "j";refine(q0q 3 (qo ?_));refine(z8 ?_);exact(qa (pv 3))
theorem z2a:Binds K Z.d39.fd ["_law_runs","_law_many","_law_basket"] []:=Z.d39.b (by walk_at "B")
noncomputable def qc4:List Str:=["_law_store","_law_runs","_law_number_here","_law_wares","_law_most","_law_rest","_law_many","_law_basket"]
theorem kb:(qc4).Nodup:=by decide +kernel
theorem qjn:FnScope qc4 ["_law_store","_law_runs","_law_number_here","_law_wares","_law_most"] (qj qby):=by walk_at "S"
noncomputable def qc5:FS:=(qz (zj 5 (eOp oDiv (eV 2) (eC (.int 1024)))) (qz (sIf (zl oLt' (eOp oMod (eV 2) (eC (.int 8))) (eC (.int 4))) (qz (zj 6 (eOp zw (eC (.int 1)) (eOp oMod (eV 5) (eOp oIx (eL (ye (qc (eC (.int 9)) (qc (eOp oPow (eC (.int 10)) (eC (.int 12))) qh)))) (eOp oMod (eOp oDiv (eV 2) (eC (.int 512))) (eC (.int 2))))))) (qz (zj 7 (qk (qt 2 [] q0k) (qc (eOp oMod (eOp oDiv (eV 2) (eC (.int 8))) (eC (.int 32))) (qc (eV 3) qh)))) (qz (w4 (xv "Store" "put" 0 2 q1n (qc (eV 6) (qc (eV 7) qh)))) (ze (qk (qt 2 [] q11) (qc (eOp zw (eV 1) (eL (ye (qc (jd (qc (eV 6) (qc (eV 7) qh))) qh)))) (qc (eV 4) qh))))))) j9) (qz (sIf (q22 (zl oEq (eOp oMod (eV 2) (eC (.int 8))) (eC (.int 4))) (zl oGt (qk yo (qc (eV 1) qh)) (eC (.int 0)))) (qz (qbc (eOp oIx (eV 1) (eOp oMod (eV 5) (qk yo (qc (eV 1) qh)))) (xj 2 (zh (bN 6) (zh (bN 7) xi)))) (qz (zj 6 (eOp zw (eC (.int 1)) (eOp oMod (eOp oDivB (eV 5) (qk yo (qc (eV 1) qh))) (eV 6)))) (qz (w4 (xv "Store" "take" 0 2 q0z (qc (eV 6) (qc (eV 7) qh)))) (ze (qk (qt 3 [] q4b) (qc (eV 1) (qc (eV 6) (qc (eV 7) qh)))))))) j9) (ze (eV 1)))))
noncomputable def q61:Th:=jy 8 "Store" qc5
theorem z2b:CalO P w K mg base "_law_deed" "Store" 6 ["_law_store","_law_runs","_law_number_here","_law_wares","_law_most"] 4 q61 Z.d32.fa Z.d32.fd:=
 Z.d32.rdO (k:=5) qjn fun _ _ _ _ _ _ _ hr=>by
 unfold qc5;walk_at "q";walk_at "w";exact kb;walk_at "e";refine(qp va ?_ qi);walk_at "v";walk_at "b";refine(ju ?_ (qm ?_ ?_) j6);refine(zp wy ?_ qi);refine(qp zt ?_ qi);walk_at "v";refine(zb (i:=6) ?_ ?_ ?_ ?_ ?_ ?_);exact kb;walk_at "e";refine(qp jb qi ?_);refine(qp zt ?_ ?_);exact(qa (pv 5));refine(jn ?_ ?_);refine(jc ?_);refine(vm ?_);walk_at "l";exact(qp q4o qi qi);exact qg;walk_at "h";walk_at "v";walk_at "b";refine(zb (i:=7) ?_ ?_ ?_ ?_ ?_ ?_);exact kb;walk_at "e";refine(z6 (qs6 Z) (qs7 Z) hr (by decide) rfl ?_);walk_at "A";walk_at "h";walk_at "v";walk_at "A";exact(qa (pv 3));exact qg;walk_at "b";refine(w6 ?_);refine(vw Z.w0.O (qym Z) (qs4 Z) hr (by decide) (pv 0) ?_);walk_at "s";walk_at "A";exact(qa (pv 7));exact qg;walk_at "f";refine(z6 (z27 Z) (z28 Z) hr (by decide) rfl ?_);walk_at "A";refine(qp jb ?_ ?_);walk_at "n";refine(jc ?_);refine(vm ?_);walk_at "A";refine(jf ?_);walk_at "s";walk_at "A";exact(qa (pv 7));exact qg;exact qg;walk_at "A";exact(qa (pv 4));exact qg;walk_at "q";refine(ju ?_ (qm ?_ ?_) j6);refine(PW.pt (qba ?_ (q8o ?_)));refine(zp (vt hr.units) ?_ qi);refine(qp zt ?_ qi);walk_at "v";refine(zp q8m ?_ qi);refine(zd (wx) rfl Z.n21 DL.vg ?_);walk_at "m";refine(qul ?_ (wu rfl (jg (z9 kb rfl (Or.inl rfl) (.inl rfl)) (jg (z9 kb rfl (Or.inl rfl) (.inl rfl)) wt))));refine(jn ?_ ?_);walk_at "n";refine(qp zt ?_ ?_);exact(qa (pv 5));refine(zd (wx) rfl Z.n21 DL.vg ?_);walk_at "m";walk_at "q";refine(zb (i:=6) ?_ ?_ ?_ ?_ ?_ ?_);exact kb;walk_at "e";refine(qp jb qi ?_);refine(qp zt ?_ ?_);refine(qp qkk ?_ ?_);exact(qa (pv 5));refine(zd (wx) rfl Z.n21 DL.vg ?_);walk_at "m";exact(qa (pv 6));walk_at "b";refine(w6 ?_);refine(vw Z.w0.O (qyp Z) (qs5 Z) hr (by decide) (pv 0) ?_);walk_at "s";walk_at "A";exact(qa (pv 7));exact qg;walk_at "f";refine(z6 (z29 Z) (z2a Z) hr (by decide) rfl ?_);walk_at "a";walk_at "s";walk_at "A";exact(qa (pv 7));exact qg;walk_at "f";walk_at "n"
theorem z2c:Binds K Z.d32.fd ["_law_store","_law_runs","_law_number_here","_law_wares","_law_most"] []:=Z.d32.b (by walk_at "B")
noncomputable def qia:List Str:=["self"]
theorem qfd:FnScope qia ["self"] (qj q7t):=by walk_at "S"
noncomputable def q85:FS:=(ze (jd (qc (wo "Store" 0 "wares") (qc (wo "Store" 0 "runs") qh))))
noncomputable def ji:Th:=jy 1 "Store" q85
theorem c_9:CalF P w K mg base "Store" "pile" Z.w0.C 1 ["self"] 0 ji Z.d9.fa Z.d9.fd:=
 Z.d9.rdO (k:=0) qfd fun _ _ _ _ _ _ _ hr=>by
 unfold q85;walk_at "f";refine(jf ?_);walk_at "A";exact(kz Z.w0.O (by decide) (pv 0));walk_at "A";exact(kz Z.w0.O (by decide) (pv 0));exact qg
theorem b_9:Binds K Z.d9.fd ["self"] []:=Z.d9.b (by walk_at "B")
noncomputable def qmi:List Str:=["pairs","least"]
theorem qjo:FnScope qmi ["pairs","least"] (qj qbz):=by walk_at "S"
theorem qfe:(["pair","least"]:List Str).Nodup:=by decide +kernel
noncomputable def q2g:FS:=(ze (qk xu (qc (eL (zi (jm (eV 0)) [none,some 1] (bN 0) (zl oGe (eOp oIx (eV 0) (eC (.int 1))) (eV 1)) (eV 0))) qh)))
noncomputable def wk:Ti:=zf 2 q2g
theorem qs8:Cal P w K mg base "at_least" 1 ["pairs","least"] 2 wk Z.d17.fa Z.d17.fd:=
 Z.d17.rd (k:=0) qjo fun _ _ _ _ _ _ hr=>by
 unfold q2g;walk_at "f";refine(jh (v8) rfl Z.n25 DL.boot_tuple ?_);walk_at "g";refine(zo (N':=["pair","least"]) (cap:=[none,some 1]) rfl (zc rfl rfl) (zk rfl) ?_ (fun _ _ _ _ _=>(z9 qfe rfl (Or.inl rfl) (.inr rfl))) (fun _ _ _ _ _=>(k7 ?_)) (fun _ _ _ _ _=>?_));walk_at "u";refine(zp qlt ?_ ?_);refine(jn ?_ qi);walk_at "k";walk_at "n";walk_at "k";exact qg
theorem qs9:Binds K Z.d17.fd ["pairs","least"] []:=Z.d17.b (by walk_at "B")
noncomputable def qpb:List Str:=["some"]
theorem qmj:FnScope qpb ["some"] (qj qeq):=by walk_at "S"
theorem qib:(["ware"]:List Str).Nodup:=by decide +kernel
noncomputable def q86:FS:=(ze (qk q43 (qc (eL (zi (jm (eV 0)) [none] (bN 0) zu (eOp oShl (eC (.int 1)) (eV 0)))) qh)))
noncomputable def q0l:Ti:=zf 1 q86
theorem qyq:Cal P w K mg base "mark_of" 1 ["some"] 1 q0l Z.d44.fa Z.d44.fd:=
 Z.d44.rd (k:=0) qmj fun _ _ _ _ _ _ hr=>by
 unfold q86;walk_at "f";refine(zd (q4s rfl) rfl Z.n29 DL.boot_sum ?_);walk_at "g";refine(zo (N':=["ware"]) (cap:=[none]) rfl (zc rfl rfl) (zk rfl) ?_ (fun _ _ _ _ _=>(z9 qib rfl (Or.inl rfl) (.inr rfl))) (fun _ _ _ _ _=>xt) (fun _ _ _ _ _=>?_));walk_at "u";refine(qp qnv qi ?_);walk_at "k";exact qg
theorem qyr:Binds K Z.d44.fd ["some"] []:=Z.d44.b (by walk_at "B")
noncomputable def qsa:List Str:=["pile"]
theorem qpc:FnScope qsa ["pile"] (qj qhs):=by walk_at "S"
theorem q9k:(["many","basket"]:List Str).Nodup:=by decide +kernel
noncomputable def qag:FS:=(ze (eL (zi (jm (eOp oIx (eV 0) (eC (.int 1)))) [none,none] (xj 2 (zh (bN 0) (zh (bN 1) xi))) zu (jd (qc (eV 0) (qc (qk (qt 1 [] q0l) (qc (eV 1) qh)) qh))))))
noncomputable def q62:Ti:=zf 1 qag
theorem qys:Cal P w K mg base "marked" 2 ["pile"] 1 q62 Z.d45.fa Z.d45.fd:=
 Z.d45.rd (k:=1) qpc fun _ _ _ _ _ _ hr=>by
 unfold qag;walk_at "f";refine(jc ?_);refine(zo (N':=["many","basket"]) (cap:=[none,none]) rfl (zc rfl rfl) (q0h (jl rfl (jl rfl wg))) ?_ (fun _ _ _ _ _=>(wu rfl (jg (z9 q9k rfl (Or.inl rfl) (.inr rfl)) (jg (z9 q9k rfl (Or.inl rfl) (.inr rfl)) wt)))) (fun _ _ _ _ _=>xt) (fun _ _ _ _ _=>?_));refine(j8 ?_);refine(jn ?_ qi);walk_at "k";refine(jf ?_);walk_at "d";walk_at "A";refine(z6 (qyq Z) (qyr Z) hr (by decide) rfl ?_);walk_at "m";exact qg
theorem qyt:Binds K Z.d45.fd ["pile"] []:=Z.d45.b (by walk_at "B")
noncomputable def q3w:List Str:=["some","wares","first"]
theorem qah:(q3w).Nodup:=by decide +kernel
theorem qai:FnScope q3w ["some","wares"] (qj q3q):=by walk_at "S"
theorem q87:(["ware","some"]:List Str).Nodup:=by decide +kernel
noncomputable def kl:FS:=(qz (zj 2 (eIf (bT (eV 0)) (eOp zw (eOp oIx (eV 0) (eUn qa2 (eC (.int 1)))) (eC (.int 1))) (eC (.int 0)))) (ze (eL (zi (iR2 (qc (eV 2) (qc (eV 1) qh))) [none,some 0] (bN 0) zu (eOp zw (eV 1) (jd (qc (eV 0) qh)))))))
noncomputable def km:Ti:=zf 3 kl
theorem z2d:Cal P w K mg base "one_ware_more" 1 ["some","wares"] 2 km Z.d47.fa Z.d47.fd:=
 Z.d47.rd (k:=0) qai fun _ _ _ _ _ _ hr=>by
 unfold kl;walk_at "i";exact qah;walk_at "e";refine(qlu ?_ ?_ qi);refine(yc ?_);walk_at "k";refine(qp jb ?_ qi);refine(jn ?_ ?_);walk_at "k";exact(qo8 qi);exact rfl;walk_at "L";walk_at "f";refine(jc ?_);refine(zo (N':=["ware","some"]) (cap:=[none,some 0]) rfl (zc rfl rfl) (zk rfl) ?_ (fun _ _ _ _ _=>(z9 q87 rfl (Or.inl rfl) (.inr rfl))) (fun _ _ _ _ _=>xt) (fun _ _ _ _ _=>?_));refine(qo1 rfl Z.n33 ?_);walk_at "A";walk_at "v";walk_at "m";refine(qp jb ?_ ?_);walk_at "n";refine(jf ?_);walk_at "x"
theorem z2e:Binds K Z.d47.fd ["some","wares"] []:=Z.d47.b (by walk_at "B")
noncomputable def qaj:List Str:=["some"]
theorem q90:FnScope qaj ["some"] (qj q33):=by walk_at "S"
theorem q6y:(["place","some"]:List Str).Nodup:=by decide +kernel
noncomputable def q0d:FS:=(ze (eL (zi (iR1 (qc (qk yo (qc (eV 0) qh)) qh)) [none,some 0] (bN 0) zu (eOp zw (eSl (eV 1) oNo (oAt (eV 0))) (eSl (eV 1) (oAt (eOp zw (eV 0) (eC (.int 1)))) oNo)))))
noncomputable def yx:Ti:=zf 1 q0d
theorem z2f:Cal P w K mg base "one_ware_fewer" 1 ["some"] 1 yx Z.d46.fa Z.d46.fd:=
 Z.d46.rd (k:=0) q90 fun _ _ _ _ _ _ hr=>by
 unfold q0d;walk_at "f";refine(jc ?_);refine(zo (N':=["place","some"]) (cap:=[none,some 0]) rfl (zc rfl rfl) (zk rfl) ?_ (fun _ _ _ _ _=>(z9 q6y rfl (Or.inl rfl) (.inr rfl))) (fun _ _ _ _ _=>xt) (fun _ _ _ _ _=>?_));refine(q0g rfl Z.n33 ?_);walk_at "A";refine(zd (wx) rfl Z.n21 DL.vg ?_);walk_at "x";exact qg;refine(qp jb ?_ ?_);refine(qa0 ?_ q9y (q9z ?_));walk_at "n";walk_at "k";refine(qa0 ?_ (q9z ?_) q9y);walk_at "n";refine(qp jb ?_ qi);walk_at "k"
theorem z2g:Binds K Z.d46.fd ["some"] []:=Z.d46.b (by walk_at "B")
noncomputable def qkz:List Str:=["layer","wares","known","found","some","longer"]
theorem q63:(qkz).Nodup:=by decide +kernel
theorem qsb:FnScope qkz ["layer","wares"] (qj qkx):=by walk_at "S"
theorem qmk:(["some"]:List Str).Nodup:=by decide +kernel
theorem qml:(["shorter","known"]:List Str).Nodup:=by decide +kernel
noncomputable def yy:FS:=(sIf (bT (qk q44 (qc (eL (zi (jm (qk (qt 1 [] yx) (qc (eV 5) qh))) [none,some 2] (bN 0) zu (eOp q7m (eV 0) (eV 1)))) qh))) (q5i 3 (eV 5)) j9)
noncomputable def q12:FS:=(q41 (jm (qk (qt 2 [] km) (qc (eV 4) (qc (eV 1) qh)))) (bN 5) yy)
noncomputable def qdo:FS:=(qz (zj 2 (qk qfr (qc (eL (zi (jm (eV 0)) [none] (bN 0) zu (jd (qc (eV 0) (qc (eC (.bl true)) qh))))) qh))) (qz (q0p 3 (ye qh)) (qz (q41 (jm (eV 0)) (bN 4) q12) (q1a 3 (ze (eV 3))))))
noncomputable def qdp:Ti:=zf 6 qdo
theorem z2h:Cal P w K mg base "grown" 2 ["layer","wares"] 2 qdp Z.d23.fa Z.d23.fd:=
 Z.d23.rd (k:=1) qsb fun _ _ _ _ _ _ hr=>by
 unfold qdo q12 yy;walk_at "i";exact q63;exact rfl;exact(Or.inr rfl);refine(jh (qvj rfl hr.units) rfl Z.n34 DL.boot_dict ?_);walk_at "g";refine(zo (N':=["some"]) (cap:=[none]) rfl (zc rfl rfl) (zk rfl) ?_ (fun _ _ _ _ _=>(z9 qmk rfl (Or.inl rfl) (.inr rfl))) (fun _ _ _ _ _=>xt) (fun _ _ _ _ _=>?_));walk_at "u";refine(jf ?_);walk_at "d";walk_at "A";exact q05;exact qg;exact qg;walk_at "b";exact(q2u (i:=3) q63 rfl (Or.inl rfl) (vm qg));walk_at "q";refine(q4q g10 rfl ?_ (z9 q63 rfl (Or.inl rfl) (.inl rfl)) (qo ?_));walk_at "u";refine(q4q g10 rfl ?_ (z9 q63 rfl (Or.inl rfl) (.inl rfl)) (qo ?_));refine(j8 ?_);refine(z6 (z2d Z) (z2e Z) hr (by decide) rfl ?_);walk_at "A";exact(qa (pv 4));walk_at "m";walk_at "o";refine(yc ?_);refine(zd (q77 rfl) rfl Z.n24 DL.boot_all ?_);walk_at "g";refine(zo (N':=["shorter","known"]) (cap:=[none,some 2]) rfl (zc rfl rfl) (zk rfl) ?_ (fun _ _ _ _ _=>(z9 qml rfl (Or.inl rfl) (.inr rfl))) (fun _ _ _ _ _=>xt) (fun _ _ _ _ _=>?_));refine(j8 ?_);refine(z6 (z2f Z) (z2g Z) hr (by decide) rfl ?_);walk_at "j";refine(q1u (qow hr.units) ?_ ?_);walk_at "k";walk_at "n";exact qg;refine(q74 (pv 3) ?_);exact(qa (pv 5));refine(q0q 3 (qo ?_));refine(z8 ?_);exact(qa (pv 3))
theorem z2i:Binds K Z.d23.fd ["layer","wares"] []:=Z.d23.b (by walk_at "B")
noncomputable def q51:List Str:=["marked_runs","some","mark"]
theorem qc6:(q51).Nodup:=by decide +kernel
theorem qc7:FnScope q51 ["marked_runs","some"] (qj q4y):=by walk_at "S"
theorem q2a:(["many","basket","mark"]:List Str).Nodup:=by decide +kernel
noncomputable def q1g:FS:=(qz (zj 2 (qk (qt 1 [] q0l) (qc (eV 1) qh))) (ze (qk q43 (qc (eL (zi (jm (eV 0)) [none,none,some 2] (xj 2 (zh (bN 0) (zh (bN 1) xi))) (zl oEq (eOp oBand (eV 1) (eV 2)) (eV 2)) (eV 0))) qh))))
noncomputable def yg:Ti:=zf 3 q1g
theorem qyu:Cal P w K mg base "count_marked" 2 ["marked_runs","some"] 2 yg Z.d21.fa Z.d21.fd:=
 Z.d21.rd (k:=1) qc7 fun _ _ _ _ _ _ hr=>by
 unfold q1g;walk_at "i";exact qc6;exact rfl;exact(Or.inr rfl);refine(z6 (qyq Z) (qyr Z) hr (by decide) rfl ?_);walk_at "m";exact rfl;walk_at "L";walk_at "f";refine(zd (q4s rfl) rfl Z.n29 DL.boot_sum ?_);walk_at "g";refine(zo (N':=["many","basket","mark"]) (cap:=[none,none,some 2]) rfl (zc rfl rfl) (q0h (jl rfl (jl rfl wg))) ?_ (fun _ _ _ _ _=>(wu rfl (jg (z9 q2a rfl (Or.inl rfl) (.inr rfl)) (jg (z9 q2a rfl (Or.inl rfl) (.inr rfl)) wt)))) (fun _ _ _ _ _=>(k7 ?_)) (fun _ _ _ _ _=>?_));walk_at "u";refine(zp (vt hr.units) ?_ ?_);refine(qp qut ?_ ?_);walk_at "n";walk_at "v";walk_at "v";walk_at "k";exact qg
theorem qyv:Binds K Z.d21.fd ["marked_runs","some"] []:=Z.d21.b (by walk_at "B")
noncomputable def q2b:List Str:=["self","pile","least","runs","told","layer","pairs"]
theorem xw:(q2b).Nodup:=by decide +kernel
theorem q88:FnScope q2b ["self","pile","least"] (qj q27):=by walk_at "S"
theorem q64:(["some","runs"]:List Str).Nodup:=by decide +kernel
theorem q65:(["pair"]:List Str).Nodup:=by decide +kernel
noncomputable def x9:FS:=(qz (q0p 6 (zi (jm (eV 5)) [none,some 3] (bN 0) zu (jd (qc (eV 0) (qc (qk (qt 2 [] yg) (qc (eV 1) (qc (eV 0) qh))) qh))))) (q1a 6 (qz (qr7 4 (eV 6)) (zj 5 (qk (qt 2 [] qdp) (qc (eL (zi (jm (qk (qt 2 [] wk) (qc (eV 6) (qc (eV 2) qh)))) [none] (bN 0) zu (eOp oIx (eV 0) (eC (.int 0))))) (qc (eOp oIx (eV 1) (eC (.int 0))) qh)))))))
noncomputable def xh:FS:=(qz (zj 3 (qk (qt 1 [] q62) (qc (eV 1) qh))) (qz (q0p 4 (ye qh)) (qz (zj 5 (eL (ye (qc (jd qh) qh)))) (qz (yn (bT (eV 5)) x9 100000) (q1a 6 (q1a 4 (ze (qk xu (qc (eV 4) qh)))))))))
noncomputable def ya:Ti:=zf 7 xh
theorem c_0:CalM P w K mg base "Growing" "counted" Z.w1.C 3 ["self","pile","least"] 3 ya Z.d0.fa Z.d0.fd:=
 Z.d0.rd (k:=2) q88 fun _ _ _ _ _ _ hr=>by
 unfold xh x9;walk_at "q";walk_at "t";exact xw;exact rfl;exact(Or.inr rfl);refine(z6 (qys Z) (qyt Z) hr (by decide) rfl ?_);walk_at "m";walk_at "b";exact(q2u (i:=4) xw rfl (Or.inl rfl) (vm qg));walk_at "q";walk_at "w";exact xw;walk_at "e";refine(jc ?_);refine(vm ?_);walk_at "A";exact(jf qg);exact qg;walk_at "b";refine(qqt 100000 g10 ?_ (qm ?_ ?_));refine(yc ?_);exact(qa (pv 5));refine(qrb (i:=6) rfl xw rfl rfl (N':=["some","runs"]) (cap:=[none,some 3]) (zc rfl rfl) (zk rfl) ?_ (fun _ _ _ _ _=>(z9 q64 rfl (Or.inl rfl) (.inr rfl))) (fun _ _ _ _ _=>xt) (fun _ _ _ _ _=>?_));refine(j8 ?_);exact(qa (pv 5));refine(jf ?_);walk_at "d";walk_at "A";refine(z6 (qyu Z) (qyv Z) hr (by decide) rfl ?_);walk_at "a";walk_at "x";exact qg;refine(q0q 6 (qm ?_ ?_));refine(qxx (pv 4) ?_);exact(qa (pv 6));refine(qo ?_);walk_at "w";exact xw;walk_at "e";refine(z6 (z2h Z) (z2i Z) hr (by decide) rfl ?_);walk_at "g";refine(zo (N':=["pair"]) (cap:=[none]) rfl (zc rfl rfl) (zk rfl) ?_ (fun _ _ _ _ _=>(z9 q65 rfl (Or.inl rfl) (.inr rfl))) (fun _ _ _ _ _=>xt) (fun _ _ _ _ _=>?_));refine(j8 ?_);refine(z6 (qs8 Z) (qs9 Z) hr (by decide) rfl ?_);walk_at "s";walk_at "c";refine(jn ?_ qi);walk_at "k";walk_at "r";walk_at "n";exact qg;exact rfl;walk_at "L";refine(q0q 6 (q0q 4 (qo ?_)));refine(z8 ?_);refine(jh (v8) rfl Z.n25 DL.boot_tuple ?_);walk_at "A";exact(qa (pv 4));exact qg
theorem b_0:Binds K Z.d0.fd ["self","pile","least"] []:=Z.d0.b (by walk_at "B")
noncomputable def qc8:List Str:=["self","pile","least"]
theorem qak:FnScope qc8 ["self","pile","least"] (qj q3r):=by walk_at "S"
noncomputable def q13:FS:=(ze (qk (qt 2 [] wk) (qc (q5q "Growing" 3 ya (eV 0) (qc (eV 1) (qc (eV 2) qh))) (qc (eV 2) qh))))
noncomputable def v5:Ti:=zf 3 q13
theorem c_1:CalM P w K mg base "Growing" "often" Z.w1.C 4 ["self","pile","least"] 3 v5 Z.d1.fa Z.d1.fd:=
 Z.d1.rd (k:=3) qak fun _ _ _ _ _ _ hr=>by
 unfold q13;walk_at "f";refine(z6 (qs8 Z) (qs9 Z) hr (by decide) rfl ?_);walk_at "A";refine(q7j Z.w1.O (c_0 Z) (b_0 Z) hr (by decide) ?_ ?_);walk_at "k";walk_at "a";walk_at "c";walk_at "c"
theorem b_1:Binds K Z.d1.fd ["self","pile","least"] []:=Z.d1.b (by walk_at "B")
noncomputable def qff:List Str:=["self","least"]
theorem qdq:FnScope qff ["self","least"] (qj q6j):=by walk_at "S"
noncomputable def q6p:FS:=(q0t (qft "Growing" 3 v5 (eC (.obj "Growing")) (k8 (xv "Store" "pile" 0 0 ji qh) (amP (qc (eV 1) qh)))))
noncomputable def q25:Th:=jy 2 "Store" q6p
theorem c_8:CalF P w K mg base "Store" "often" Z.w0.C 5 ["self","least"] 1 q25 Z.d8.fa Z.d8.fd:=
 Z.d8.rdO (k:=4) qdq fun _ _ _ _ _ _ _ hr=>by
 unfold q6p;refine(qo ?_);refine(q1f ?_);refine(qvm Z.w1.O (c_1 Z) (b_1 Z) hr (by decide) ?_ ?_);exact(q7i Z.w1.O Z.w1.m rfl);refine(q0j ?_ ?_);exact(q2o Z.w0.O (c_9 Z) (b_9 Z) hr (by decide) (pv 0));refine(q1e ?_);walk_at "m"
theorem b_8:Binds K Z.d8.fd ["self","least"] []:=Z.d8.b (by walk_at "B")
noncomputable def qmm:List Str:=["some"]
theorem qjp:FnScope qmm ["some"] (qj qc0):=by walk_at "S"
noncomputable def qc9:FS:=(ze (jd (qc (qk yo (qc (eV 0) qh)) (qc (eV 0) qh))))
noncomputable def qca:Ti:=zf 1 qc9
theorem z2j:Cal P w K mg base "order_of" 1 ["some"] 1 qca Z.d48.fa Z.d48.fd:=
 Z.d48.rd (k:=0) qjp fun _ _ _ _ _ _ hr=>by
 unfold qc9;walk_at "f";refine(jf ?_);walk_at "A";refine(zd (wx) rfl Z.n21 DL.vg ?_);walk_at "x";walk_at "x"
theorem z2k:Binds K Z.d48.fd ["some"] []:=Z.d48.b (by walk_at "B")
noncomputable def qsc:List Str:=["mark"]
theorem qpd:FnScope qsc ["mark"] (qj qht):=by walk_at "S"
theorem qjq:(["ware","mark"]:List Str).Nodup:=by decide +kernel
noncomputable def qic:FS:=(ze (qk xu (qc (eL (zi (iR1 (qc (eUn oBits (eV 0)) qh)) [none,some 0] (bN 0) (zl oEq (eOp oMod (eOp oShr (eV 1) (eV 0)) (eC (.int 2))) (eC (.int 1))) (eV 0))) qh)))
noncomputable def qid:Ti:=zf 1 qic
theorem z2l:Cal P w K mg base "set_of" 1 ["mark"] 1 qid Z.d52.fa Z.d52.fd:=
 Z.d52.rd (k:=0) qpd fun _ _ _ _ _ _ hr=>by
 unfold qic;walk_at "f";refine(jh (v8) rfl Z.n25 DL.boot_tuple ?_);walk_at "g";refine(zo (N':=["ware","mark"]) (cap:=[none,some 0]) rfl (zc rfl rfl) (zk rfl) ?_ (fun _ _ _ _ _=>(z9 qjq rfl (Or.inl rfl) (.inr rfl))) (fun _ _ _ _ _=>(k7 ?_)) (fun _ _ _ _ _=>?_));refine(q0g rfl Z.n33 ?_);walk_at "A";refine(quo ?_);walk_at "k";exact qg;refine(zp (vt hr.units) ?_ qi);refine(qp zt ?_ qi);refine(qp qxi ?_ ?_);walk_at "n";walk_at "k";walk_at "k";exact qg
theorem z2m:Binds K Z.d52.fd ["mark"] []:=Z.d52.b (by walk_at "B")
noncomputable def qmn:List Str:=["wares"]
theorem qjr:FnScope qmn ["wares"] (qj qc1):=by walk_at "S"
theorem qfg:(["mark"]:List Str).Nodup:=by decide +kernel
noncomputable def qcb:FS:=(ze (eL (qlx (q7p qca) (qc (eL (zi (iR1 (qc (eOp oShl (eC (.int 1)) (eV 0)) qh)) [none] (bN 0) zu (qk (qt 1 [] qid) (qc (eV 0) qh)))) qh))))
noncomputable def q66:Ti:=zf 1 qcb
theorem z2n:Cal P w K mg base "all_sets" 4 ["wares"] 1 q66 Z.d15.fa Z.d15.fd:=
 Z.d15.rd (k:=3) qjr fun _ _ _ _ _ _ hr=>by
 unfold qcb;walk_at "f";refine(jc ?_);refine(qrx (z2j Z) (z2k Z) hr (by decide) rfl Z.n35 rfl ?_);walk_at "g";refine(zo (N':=["mark"]) (cap:=[none]) rfl (zc rfl rfl) (zk rfl) ?_ (fun _ _ _ _ _=>(z9 qfg rfl (Or.inl rfl) (.inr rfl))) (fun _ _ _ _ _=>xt) (fun _ _ _ _ _=>?_));refine(q0g rfl Z.n33 ?_);walk_at "A";refine(qp qnv qi ?_);walk_at "k";exact qg;refine(z6 (z2l Z) (z2m Z) hr (by decide) rfl ?_);walk_at "x";exact qg
theorem z2o:Binds K Z.d15.fd ["wares"] []:=Z.d15.b (by walk_at "B")
noncomputable def q9l:List Str:=["self","pile","least","runs"]
theorem qie:(q9l).Nodup:=by decide +kernel
theorem qif:FnScope q9l ["self","pile","least"] (qj q9b):=by walk_at "S"
theorem qdr:(["some","runs"]:List Str).Nodup:=by decide +kernel
noncomputable def q9m:FS:=(qz (zj 3 (qk (qt 1 [] q62) (qc (eV 1) qh))) (ze (qk (qt 2 [] wk) (qc (eL (zi (jm (qk (qt 1 [] q66) (qc (eOp oIx (eV 1) (eC (.int 0))) qh))) [none,some 3] (bN 0) zu (jd (qc (eV 0) (qc (qk (qt 2 [] yg) (qc (eV 1) (qc (eV 0) qh))) qh))))) (qc (eV 2) qh)))))
noncomputable def q4c:Ti:=zf 4 q9m
theorem z2p:CalM P w K mg base "Way" "often" Z.w2.C 5 ["self","pile","least"] 3 q4c Z.d14.fa Z.d14.fd:=
 Z.d14.rd (k:=4) qif fun _ _ _ _ _ _ hr=>by
 unfold q9m;walk_at "q";walk_at "t";exact qie;exact rfl;exact(Or.inr rfl);refine(z6 (qys Z) (qyt Z) hr (by decide) rfl ?_);walk_at "m";exact rfl;walk_at "L";walk_at "f";refine(z6 (qs8 Z) (qs9 Z) hr (by decide) rfl ?_);walk_at "g";refine(zo (N':=["some","runs"]) (cap:=[none,some 3]) rfl (zc rfl rfl) (zk rfl) ?_ (fun _ _ _ _ _=>(z9 qdr rfl (Or.inl rfl) (.inr rfl))) (fun _ _ _ _ _=>xt) (fun _ _ _ _ _=>?_));refine(j8 ?_);refine(z6 (z2n Z) (z2o Z) hr (by decide) rfl ?_);walk_at "r";walk_at "n";exact qg;refine(jf ?_);walk_at "d";walk_at "A";refine(z6 (qyu Z) (qyv Z) hr (by decide) rfl ?_);walk_at "a";walk_at "x";exact qg;walk_at "c"
theorem z2q:Binds K Z.d14.fd ["self","pile","least"] []:=Z.d14.b (by walk_at "B")
noncomputable def qsd:List Str:=["one","other"]
theorem qpe:FnScope qsd ["one","other"] (qj qhu):=by walk_at "S"
noncomputable def qig:FS:=(ze (qk xu (qc (eL (qts (eV 0) (eV 1))) qh)))
noncomputable def qih:Ti:=zf 2 qig
theorem z2r:Cal P w K mg base "joined" 1 ["one","other"] 2 qih Z.d29.fa Z.d29.fd:=
 Z.d29.rd (k:=0) qpe fun _ _ _ _ _ _ hr=>by
 unfold qig;walk_at "f";refine(jh (v8) rfl Z.n25 DL.boot_tuple ?_);walk_at "g";refine(qvi rfl rfl Z.n35 rfl Z.n36 ?_ ?_);walk_at "k";walk_at "n";exact qg
theorem z2s:Binds K Z.d29.fd ["one","other"] []:=Z.d29.b (by walk_at "B")
noncomputable def qcc:List Str:=["some","wares"]
theorem qal:FnScope qcc ["some","wares"] (qj q3s):=by walk_at "S"
theorem q89:(["ware","some"]:List Str).Nodup:=by decide +kernel
noncomputable def q3x:FS:=(ze (eL (zi (iR1 (qc (eV 1) qh)) [none,some 0] (bN 0) (zl (oIn true) (eV 0) (eV 1)) (qk (qt 2 [] qih) (qc (eV 1) (qc (jd (qc (eV 0) qh)) qh))))))
noncomputable def ko:Ti:=zf 2 q3x
theorem qyw:Cal P w K mg base "any_ware_more" 2 ["some","wares"] 2 ko Z.d16.fa Z.d16.fd:=
 Z.d16.rd (k:=1) qal fun _ _ _ _ _ _ hr=>by
 unfold q3x;walk_at "f";refine(jc ?_);refine(zo (N':=["ware","some"]) (cap:=[none,some 0]) rfl (zc rfl rfl) (zk rfl) ?_ (fun _ _ _ _ _=>(z9 q89 rfl (Or.inl rfl) (.inr rfl))) (fun _ _ _ _ _=>(k7 ?_)) (fun _ _ _ _ _=>?_));refine(q0g rfl Z.n33 ?_);walk_at "m";refine(zp qgj ?_ ?_);walk_at "k";walk_at "n";refine(z6 (z2r Z) (z2s Z) hr (by decide) rfl ?_);walk_at "a";walk_at "A";refine(jf ?_);walk_at "x";exact qg
theorem qyx:Binds K Z.d16.fd ["some","wares"] []:=Z.d16.b (by walk_at "B")
noncomputable def qcd:List Str:=["some","counts","wares"]
theorem qam:FnScope qcd ["some","counts","wares"] (qj q3t):=by walk_at "S"
theorem q8a:(["longer","counts","some"]:List Str).Nodup:=by decide +kernel
noncomputable def q3y:FS:=(ze (qk q44 (qc (eL (zi (jm (qk (qt 2 [] ko) (qc (eV 0) (qc (eV 2) qh)))) [none,some 1,some 0] (bN 0) zu (eOp q20 (qm9 (eV 1) (qc (eV 0) qh)) (eOp q8r (eV 1) (eV 2))))) qh)))
noncomputable def q14:Ti:=zf 3 q3y
theorem z2t:Cal P w K mg base "loses_by_each" 3 ["some","counts","wares"] 3 q14 Z.d43.fa Z.d43.fd:=
 Z.d43.rd (k:=2) qam fun _ _ _ _ _ _ hr=>by
 unfold q3y;walk_at "f";refine(zd (q77 rfl) rfl Z.n24 DL.boot_all ?_);walk_at "g";refine(zo (N':=["longer","counts","some"]) (cap:=[none,some 1,some 0]) rfl (zc rfl rfl) (zk rfl) ?_ (fun _ _ _ _ _=>(z9 q8a rfl (Or.inl rfl) (.inr rfl))) (fun _ _ _ _ _=>xt) (fun _ _ _ _ _=>?_));refine(j8 ?_);refine(z6 (qyw Z) (qyx Z) hr (by decide) rfl ?_);walk_at "d";walk_at "c";refine(q1u qge ?_ ?_);refine(qyd hr.units ?_ ?_);walk_at "n";walk_at "x";refine(qyb hr.units ?_ ?_);walk_at "n";walk_at "v";exact qg
theorem z2u:Binds K Z.d43.fd ["some","counts","wares"] []:=Z.d43.b (by walk_at "B")
noncomputable def qii:List Str:=["pile","least","pairs","counts"]
theorem qes:(qii).Nodup:=by decide +kernel
theorem qpf:FnScope qii ["pile","least"] (qj qhv):=by walk_at "S"
theorem qjs:(["pair","counts","pile"]:List Str).Nodup:=by decide +kernel
noncomputable def qij:FS:=(qz (zj 2 (q5q "Growing" 3 v5 (eC (.obj "Growing")) (qc (eV 0) (qc (eV 1) qh)))) (qz (zj 3 (qk q7n (qc (eV 2) qh))) (ze (qk xu (qc (eL (zi (jm (eV 2)) [none,some 3,some 0] (bN 0) (bT (qk (qt 3 [] q14) (qc (eOp oIx (eV 0) (eC (.int 0))) (qc (eV 1) (qc (eOp oIx (eV 2) (eC (.int 0))) qh))))) (eV 0))) qh)))))
noncomputable def q67:Ti:=zf 4 qij
theorem qyy:Cal P w K mg base "closed" 5 ["pile","least"] 2 q67 Z.d19.fa Z.d19.fd:=
 Z.d19.rd (k:=4) qpf fun _ _ _ _ _ _ hr=>by
 unfold qij;walk_at "i";exact qes;walk_at "e";refine(q7j Z.w1.O (c_1 Z) (b_1 Z) hr (by decide) ?_ ?_);exact(q7i Z.w1.O Z.w1.m rfl);walk_at "d";walk_at "m";walk_at "b";walk_at "t";exact qes;exact rfl;exact(Or.inr rfl);refine(jh (qhi rfl hr.units) rfl Z.n34 DL.boot_dict ?_);walk_at "c";exact rfl;walk_at "L";walk_at "f";refine(jh (v8) rfl Z.n25 DL.boot_tuple ?_);walk_at "g";refine(zo (N':=["pair","counts","pile"]) (cap:=[none,some 3,some 0]) rfl (zc rfl rfl) (zk rfl) ?_ (fun _ _ _ _ _=>(z9 qjs rfl (Or.inl rfl) (.inr rfl))) (fun _ _ _ _ _=>(k7 ?_)) (fun _ _ _ _ _=>?_));refine(j8 ?_);walk_at "v";refine(yc ?_);refine(z6 (z2t Z) (z2u Z) hr (by decide) rfl ?_);walk_at "r";walk_at "k";walk_at "a";walk_at "r";walk_at "v";exact qg;walk_at "k";exact qg
theorem qyz:Binds K Z.d19.fd ["pile","least"] []:=Z.d19.b (by walk_at "B")
noncomputable def qds:List Str:=["self","least"]
theorem qce:FnScope qds ["self","least"] (qj q4z):=by walk_at "S"
noncomputable def q52:FS:=(q0t (q0s (qt 2 [] q67) (k8 (xv "Store" "pile" 0 0 ji qh) (amP (qc (eV 1) qh)))))
noncomputable def q53:Th:=jy 2 "Store" q52
theorem c_5:CalF P w K mg base "Store" "closed" Z.w0.C 6 ["self","least"] 1 q53 Z.d5.fa Z.d5.fd:=
 Z.d5.rdO (k:=5) qce fun _ _ _ _ _ _ _ hr=>by
 unfold q52;refine(qo ?_);refine(q1f ?_);refine(q7e ((qyy Z).as Z.n37) (qyz Z) hr (by decide) rfl (q0j ?_ ?_));exact(q2o Z.w0.O (c_9 Z) (b_9 Z) hr (by decide) (pv 0));refine(q1e ?_);walk_at "m"
theorem b_5:Binds K Z.d5.fd ["self","least"] []:=Z.d5.b (by walk_at "B")
noncomputable def qfh:List Str:=["some","known","wares"]
theorem qdt:FnScope qfh ["some","known","wares"] (qj q6k):=by walk_at "S"
theorem qan:(["longer","known"]:List Str).Nodup:=by decide +kernel
noncomputable def q6q:FS:=(ze (q9w (qk qlw (qc (eL (zi (jm (qk (qt 2 [] ko) (qc (eV 0) (qc (eV 2) qh)))) [none,some 1] (bN 0) zu (eOp q7m (eV 0) (eV 1)))) qh))))
noncomputable def q26:Ti:=zf 3 q6q
theorem z2v:Cal P w K mg base "is_greatest" 3 ["some","known","wares"] 3 q26 Z.d24.fa Z.d24.fd:=
 Z.d24.rd (k:=2) qdt fun _ _ _ _ _ _ hr=>by
 unfold q6q;walk_at "f";refine(qgg ?_);refine(zd (qxo rfl) rfl Z.n38 DL.boot_any ?_);walk_at "g";refine(zo (N':=["longer","known"]) (cap:=[none,some 1]) rfl (zc rfl rfl) (zk rfl) ?_ (fun _ _ _ _ _=>(z9 qan rfl (Or.inl rfl) (.inr rfl))) (fun _ _ _ _ _=>xt) (fun _ _ _ _ _=>?_));refine(j8 ?_);refine(z6 (qyw Z) (qyx Z) hr (by decide) rfl ?_);walk_at "d";walk_at "c";refine(q1u (qow hr.units) ?_ ?_);walk_at "k";walk_at "n";exact qg
theorem z2w:Binds K Z.d24.fd ["some","known","wares"] []:=Z.d24.b (by walk_at "B")
noncomputable def qcf:List Str:=["pile","least","pairs","known"]
theorem q9n:(qcf).Nodup:=by decide +kernel
theorem qjt:FnScope qcf ["pile","least"] (qj qc2):=by walk_at "S"
theorem qfi:(["pair","known","pile"]:List Str).Nodup:=by decide +kernel
noncomputable def qcg:FS:=(qz (zj 2 (q5q "Growing" 3 v5 (eC (.obj "Growing")) (qc (eV 0) (qc (eV 1) qh)))) (qz (zj 3 (qk q7n (qc (eV 2) qh))) (ze (qk xu (qc (eL (zi (jm (eV 2)) [none,some 3,some 0] (bN 0) (bT (qk (qt 3 [] q26) (qc (eOp oIx (eV 0) (eC (.int 0))) (qc (eV 1) (qc (eOp oIx (eV 2) (eC (.int 0))) qh))))) (eV 0))) qh)))))
noncomputable def q2h:Ti:=zf 4 qcg
theorem qz0:Cal P w K mg base "greatest" 5 ["pile","least"] 2 q2h Z.d22.fa Z.d22.fd:=
 Z.d22.rd (k:=4) qjt fun _ _ _ _ _ _ hr=>by
 unfold qcg;walk_at "i";exact q9n;walk_at "e";refine(q7j Z.w1.O (c_1 Z) (b_1 Z) hr (by decide) ?_ ?_);exact(q7i Z.w1.O Z.w1.m rfl);walk_at "d";walk_at "m";walk_at "b";walk_at "t";exact q9n;exact rfl;exact(Or.inr rfl);refine(jh (qhi rfl hr.units) rfl Z.n34 DL.boot_dict ?_);walk_at "c";exact rfl;walk_at "L";walk_at "f";refine(jh (v8) rfl Z.n25 DL.boot_tuple ?_);walk_at "g";refine(zo (N':=["pair","known","pile"]) (cap:=[none,some 3,some 0]) rfl (zc rfl rfl) (zk rfl) ?_ (fun _ _ _ _ _=>(z9 qfi rfl (Or.inl rfl) (.inr rfl))) (fun _ _ _ _ _=>(k7 ?_)) (fun _ _ _ _ _=>?_));refine(j8 ?_);walk_at "v";refine(yc ?_);refine(z6 (z2v Z) (z2w Z) hr (by decide) rfl ?_);walk_at "r";walk_at "k";walk_at "a";walk_at "r";walk_at "v";exact qg;walk_at "k";exact qg
theorem qz1:Binds K Z.d22.fd ["pile","least"] []:=Z.d22.b (by walk_at "B")
noncomputable def qao:List Str:=["self","least"]
theorem q91:FnScope qao ["self","least"] (qj q34):=by walk_at "S"
noncomputable def q3a:FS:=(q0t (q0s (qt 2 [] q2h) (k8 (xv "Store" "pile" 0 0 ji qh) (amP (qc (eV 1) qh)))))
noncomputable def q3b:Th:=jy 2 "Store" q3a
theorem c_7:CalF P w K mg base "Store" "greatest" Z.w0.C 6 ["self","least"] 1 q3b Z.d7.fa Z.d7.fd:=
 Z.d7.rdO (k:=5) q91 fun _ _ _ _ _ _ _ hr=>by
 unfold q3a;refine(qo ?_);refine(q1f ?_);refine(q7e ((qz0 Z).as Z.n39) (qz1 Z) hr (by decide) rfl (q0j ?_ ?_));exact(q2o Z.w0.O (c_9 Z) (b_9 Z) hr (by decide) (pv 0));refine(q1e ?_);walk_at "m"
theorem b_7:Binds K Z.d7.fd ["self","least"] []:=Z.d7.b (by walk_at "B")
noncomputable def qse:List Str:=["pile","least"]
theorem qpg:FnScope qse ["pile","least"] (qj qhw):=by walk_at "S"
theorem qju:(["pair","least"]:List Str).Nodup:=by decide +kernel
noncomputable def qik:FS:=(ze (qk xu (qc (eL (zi (jm (q5q "Growing" 3 ya (eC (.obj "Growing")) (qc (eV 0) (qc (eV 1) qh)))) [none,some 1] (bN 0) (zl oLt' (eOp oIx (eV 0) (eC (.int 1))) (eV 1)) (eV 0))) qh)))
noncomputable def q68:Ti:=zf 2 qik
theorem qz2:Cal P w K mg base "seldom" 4 ["pile","least"] 2 q68 Z.d51.fa Z.d51.fd:=
 Z.d51.rd (k:=3) qpg fun _ _ _ _ _ _ hr=>by
 unfold qik;walk_at "f";refine(jh (v8) rfl Z.n25 DL.boot_tuple ?_);walk_at "g";refine(zo (N':=["pair","least"]) (cap:=[none,some 1]) rfl (zc rfl rfl) (zk rfl) ?_ (fun _ _ _ _ _=>(z9 qju rfl (Or.inl rfl) (.inr rfl))) (fun _ _ _ _ _=>(k7 ?_)) (fun _ _ _ _ _=>?_));refine(j8 ?_);refine(q7j Z.w1.O (c_0 Z) (b_0 Z) hr (by decide) ?_ ?_);exact(q7i Z.w1.O Z.w1.m rfl);walk_at "d";walk_at "m";refine(zp wy ?_ ?_);refine(jn ?_ qi);walk_at "k";walk_at "n";walk_at "k";exact qg
theorem qz3:Binds K Z.d51.fd ["pile","least"] []:=Z.d51.b (by walk_at "B")
noncomputable def qdu:List Str:=["self","least"]
theorem qch:FnScope qdu ["self","least"] (qj q50):=by walk_at "S"
noncomputable def q54:FS:=(q0t (q0s (qt 2 [] q68) (k8 (xv "Store" "pile" 0 0 ji qh) (amP (qc (eV 1) qh)))))
noncomputable def q55:Th:=jy 2 "Store" q54
theorem z2x:CalF P w K mg base "Store" "seldom" Z.w0.C 5 ["self","least"] 1 q55 Z.d11.fa Z.d11.fd:=
 Z.d11.rdO (k:=4) qch fun _ _ _ _ _ _ _ hr=>by
 unfold q54;refine(qo ?_);refine(q1f ?_);refine(q7e ((qz2 Z).as Z.n40) (qz3 Z) hr (by decide) rfl (q0j ?_ ?_));exact(q2o Z.w0.O (c_9 Z) (b_9 Z) hr (by decide) (pv 0));refine(q1e ?_);walk_at "m"
theorem z2y:Binds K Z.d11.fd ["self","least"] []:=Z.d11.b (by walk_at "B")
noncomputable def qjv:List Str:=["_law_runs","_law_some"]
theorem qil:FnScope qjv ["_law_runs","_law_some"] (qj q9c):=by walk_at "S"
theorem q56:(["_law_many","_law_basket","_law_some"]:List Str).Nodup:=by decide +kernel
theorem qdv:(["_law_ware","_law_basket"]:List Str).Nodup:=by decide +kernel
noncomputable def q9o:FS:=(ze (qk q43 (qc (eL (zi (jm (eV 0)) [none,none,some 1] (xj 2 (zh (bN 0) (zh (bN 1) xi))) (zl oEq (eL (zi (jm (eV 2)) [none,some 1] (bN 0) (zl (oIn true) (eV 0) (eV 1)) (eV 0))) (eL (ye qh))) (eV 0))) qh)))
noncomputable def kc:Ti:=zf 2 q9o
theorem qsf:Cal P w K mg base "_law_count" 1 ["_law_runs","_law_some"] 2 kc Z.d31.fa Z.d31.fd:=
 Z.d31.rd (k:=0) qil fun _ _ _ _ _ _ hr=>by
 unfold q9o;walk_at "f";refine(zd (q4s rfl) rfl Z.n29 DL.boot_sum ?_);walk_at "g";refine(zo (N':=["_law_many","_law_basket","_law_some"]) (cap:=[none,none,some 1]) rfl (zc rfl rfl) (q0h (jl rfl (jl rfl wg))) ?_ (fun _ _ _ _ _=>(wu rfl (jg (z9 q56 rfl (Or.inl rfl) (.inr rfl)) (jg (z9 q56 rfl (Or.inr rfl) (.inl rfl)) wt)))) (fun _ _ _ _ _=>(k7 ?_)) (fun _ _ _ _ _=>?_));walk_at "u";refine(zp (vt hr.units) ?_ ?_);refine(jc ?_);refine(zo (N':=["_law_ware","_law_basket"]) (cap:=[none,some 1]) rfl (zc rfl rfl) (zk rfl) ?_ (fun _ _ _ _ _=>(z9 qdv rfl (Or.inl rfl) (.inr rfl))) (fun _ _ _ _ _=>(k7 ?_)) (fun _ _ _ _ _=>?_));refine(j8 ?_);walk_at "v";refine(zp qgj ?_ ?_);walk_at "k";walk_at "n";walk_at "k";refine(jc ?_);exact(vm qg);walk_at "k";exact qg
theorem qsg:Binds K Z.d31.fd ["_law_runs","_law_some"] []:=Z.d31.b (by walk_at "B")
noncomputable def qsh:List Str:=["_law_found","_law_due"]
theorem qph:FnScope qsh ["_law_found","_law_due"] (qj qhx):=by walk_at "S"
noncomputable def qap:FS:=(ze (q5g (q76 .int (eV 0)) (q5g (q9w (q76 .bool (eV 0))) (eOp oEq (eV 0) (eV 1)))))
noncomputable def qaq:Ti:=zf 2 qap
theorem z2z:Cal P w K mg base "_law_is" 1 ["_law_found","_law_due"] 2 qaq Z.d33.fa Z.d33.fd:=
 Z.d33.rd (k:=0) qph fun _ _ _ _ _ _ hr=>by
 unfold qap;refine(qo ?_);refine(z8 ?_);refine(q2t ?_ (q2t ?_ (q73 ?_)));refine(q4r .int rfl Z.n16 rfl Z.n17 DL.boot_int ?_);exact(qa (pv 0));refine(qgg ?_);refine(q4r .bool rfl Z.n16 rfl Z.n18 DL.boot_bool ?_);exact(qa (pv 0));refine(q1u (vt hr.units) ?_ ?_);exact(qa (pv 0));exact(qa (pv 1))
theorem z30:Binds K Z.d33.fd ["_law_found","_law_due"] []:=Z.d33.b (by walk_at "B")
noncomputable def qim:List Str:=["one","other"]
theorem qfj:FnScope qim ["one","other"] (qj q7u):=by walk_at "S"
theorem qci:(["ware","other"]:List Str).Nodup:=by decide +kernel
noncomputable def q8b:FS:=(ze (qk q44 (qc (eL (zi (jm (eV 0)) [none,some 1] (bN 0) zu (eOp (oIn false) (eV 0) (eV 1)))) qh)))
noncomputable def q15:Ti:=zf 2 q8b
theorem z31:Cal P w K mg base "lies_below" 1 ["one","other"] 2 q15 Z.d42.fa Z.d42.fd:=
 Z.d42.rd (k:=0) qfj fun _ _ _ _ _ _ hr=>by
 unfold q8b;walk_at "f";refine(zd (q77 rfl) rfl Z.n24 DL.boot_all ?_);walk_at "g";refine(zo (N':=["ware","other"]) (cap:=[none,some 1]) rfl (zc rfl rfl) (zk rfl) ?_ (fun _ _ _ _ _=>(z9 qci rfl (Or.inl rfl) (.inr rfl))) (fun _ _ _ _ _=>xt) (fun _ _ _ _ _=>?_));walk_at "u";refine(q1u z0f ?_ ?_);walk_at "k";walk_at "n";exact qg
theorem z32:Binds K Z.d42.fd ["one","other"] []:=Z.d42.b (by walk_at "B")
noncomputable def qvo:List Str:=["pile","some"]
theorem qsi:FnScope qvo ["pile","some"] (qj qky):=by walk_at "S"
theorem qcj:(["many","basket","some"]:List Str).Nodup:=by decide +kernel
noncomputable def ql0:FS:=(ze (qk q43 (qc (eL (zi (jm (eOp oIx (eV 0) (eC (.int 1)))) [none,none,some 1] (xj 2 (zh (bN 0) (zh (bN 1) xi))) (bT (qk (qt 2 [] q15) (qc (eV 2) (qc (eV 1) qh)))) (eV 0))) qh)))
noncomputable def qdw:Ti:=zf 2 ql0
theorem z33:Cal P w K mg base "count" 2 ["pile","some"] 2 qdw Z.d20.fa Z.d20.fd:=
 Z.d20.rd (k:=1) qsi fun _ _ _ _ _ _ hr=>by
 unfold ql0;walk_at "f";refine(zd (q4s rfl) rfl Z.n29 DL.boot_sum ?_);walk_at "g";refine(zo (N':=["many","basket","some"]) (cap:=[none,none,some 1]) rfl (zc rfl rfl) (q0h (jl rfl (jl rfl wg))) ?_ (fun _ _ _ _ _=>(wu rfl (jg (z9 qcj rfl (Or.inl rfl) (.inr rfl)) (jg (z9 qcj rfl (Or.inl rfl) (.inr rfl)) wt)))) (fun _ _ _ _ _=>(k7 ?_)) (fun _ _ _ _ _=>?_));refine(j8 ?_);refine(jn ?_ qi);walk_at "k";refine(yc ?_);refine(z6 (z31 Z) (z32 Z) hr (by decide) rfl ?_);walk_at "A";walk_at "v";walk_at "m";walk_at "k";exact qg
theorem z34:Binds K Z.d20.fd ["pile","some"] []:=Z.d20.b (by walk_at "B")
noncomputable def qfk:List Str:=["self","some"]
theorem qdx:FnScope qfk ["self","some"] (qj q6l):=by walk_at "S"
noncomputable def q6r:FS:=(q0t (q0s (qt 2 [] qdw) (k8 (xv "Store" "pile" 0 0 ji qh) (amP (qc (eV 1) qh)))))
noncomputable def q6s:Th:=jy 2 "Store" q6r
theorem c_6:CalF P w K mg base "Store" "count" Z.w0.C 3 ["self","some"] 1 q6s Z.d6.fa Z.d6.fd:=
 Z.d6.rdO (k:=2) qdx fun _ _ _ _ _ _ _ hr=>by
 unfold q6r;refine(qo ?_);refine(q1f ?_);refine(q7e ((z33 Z).as Z.n41) (z34 Z) hr (by decide) rfl (q0j ?_ ?_));exact(q2o Z.w0.O (c_9 Z) (b_9 Z) hr (by decide) (pv 0));refine(q1e ?_);walk_at "m"
theorem b_6:Binds K Z.d6.fd ["self","some"] []:=Z.d6.b (by walk_at "B")
noncomputable def q3z:List Str:=["_law_store","_law_wares","_law_runs","_law_number_here","_law_some","_law_least","_law_pile"]
theorem yz:(q3z).Nodup:=by decide +kernel
theorem qar:FnScope q3z ["_law_store","_law_wares","_law_runs","_law_number_here"] (qj q3u):=by walk_at "S"
noncomputable def q40:FS:=(qz (zj 4 (qk (qt 2 [] q0k) (qc (eOp oMod (eV 3) (eC (.int 32))) (qc (eV 1) qh)))) (qz (zj 5 (qk oMax (qc (eC (.int 1)) (qc (eOp zw (qk (qt 2 [] kc) (qc (eV 2) (qc (qk (qt 2 [] q0k) (qc (eOp oMod (eOp oDiv (eV 3) (eC (.int 32))) (eC (.int 32))) (qc (eV 1) qh))) qh))) (eOp oMod (eOp oDiv (eV 3) (eC (.int 1024))) (eC (.int 2)))) qh)))) (qz (sIf (zl oEq (eOp oMod (eOp oDiv (eV 3) (eC (.int 2048))) (eC (.int 8))) (eC (.int 0))) (zj 5 (eOp zw (eC (.int 1)) (eOp oMod (eOp oDiv (eV 3) (eC (.int 16384))) (eOp oPow (eC (.int 10)) (eC (.int 13)))))) j9) (qz (zj 6 (jd (qc (eV 1) (qc (qk xu (qc (eV 2) qh)) qh)))) (qz (q2w (qh3 (q3j (mbT (q0s (qt 2 [] qaq) (k8 (xv "Store" "count" 0 1 q6s (qc (eV 4) qh)) (amP (qc (qk (qt 2 [] kc) (qc (eV 2) (qc (eV 4) qh))) qh)))))) (q3k qa3 (xv "Store" "pile" 0 0 ji qh) (mP (eV 6)))) (ze (eC (.bl false))) j9) (qz (q2w (qh3 (q3k qa3 (xv "Store" "often" 0 1 q25 (qc (eV 5) qh)) (mP (q5q "Way" 3 q4c (eC (.obj "Way")) (qc (eV 6) (qc (eV 5) qh))))) (q3k qa3 (xv "Store" "closed" 0 1 q53 (qc (eV 5) qh)) (mP (qk (qt 2 [] q67) (qc (eV 6) (qc (eV 5) qh)))))) (ze (eC (.bl false))) j9) (q0t (qho (mOp oEq (xv "Store" "greatest" 0 1 q3b (qc (eV 5) qh)) (mP (qk (qt 2 [] q2h) (qc (eV 6) (qc (eV 5) qh))))) (mOp oEq (xv "Store" "seldom" 0 1 q55 (qc (eV 5) qh)) (mP (qk (qt 2 [] q68) (qc (eV 6) (qc (eV 5) qh)))))))))))))
noncomputable def v7:Th:=jy 7 "Store" q40
theorem qsj:CalO P w K mg base "_law_told_anew" "Store" 7 ["_law_store","_law_wares","_law_runs","_law_number_here"] 3 v7 Z.d40.fa Z.d40.fd:=
 Z.d40.rdO (k:=6) qar fun _ _ _ _ _ _ _ hr=>by
 unfold q40;walk_at "q";refine(zb (i:=4) ?_ ?_ ?_ ?_ ?_ ?_);exact yz;walk_at "e";refine(z6 (qs6 Z) (qs7 Z) hr (by decide) rfl ?_);walk_at "A";refine(qp zt ?_ qi);exact(qa (pv 3));walk_at "m";walk_at "b";walk_at "w";exact yz;walk_at "e";refine(zd (q79 rfl) rfl Z.n22 DL.boot_max ?_);walk_at "l";refine(qp jb ?_ ?_);refine(z6 (qsf Z) (qsg Z) hr (by decide) rfl ?_);walk_at "A";walk_at "v";walk_at "A";refine(z6 (qs6 Z) (qs7 Z) hr (by decide) rfl ?_);walk_at "A";walk_at "h";exact(qa (pv 3));walk_at "m";exact qg;walk_at "h";exact(qa (pv 3));exact qg;walk_at "b";walk_at "o";refine(zp (vt hr.units) ?_ qi);walk_at "h";exact(qa (pv 3));walk_at "w";exact yz;walk_at "e";refine(qp jb qi ?_);refine(qp zt ?_ ?_);refine(qp va ?_ qi);exact(qa (pv 3));exact(qp q4o qi qi);walk_at "b";refine(zb (i:=6) ?_ ?_ ?_ ?_ ?_ ?_);exact yz;walk_at "e";refine(jf ?_);walk_at "a";walk_at "A";refine(jh (v8) rfl Z.n25 DL.boot_tuple ?_);walk_at "c";exact qg;walk_at "b";refine(q7f ?_ ?_ ?_);refine(PW.pt (qto ?_ ?_));refine(qh2 ?_);refine(qh1 ?_);refine(q7e (z2z Z) (z30 Z) hr (by decide) rfl (q0j ?_ ?_));refine(vw Z.w0.O (c_6 Z) (b_6 Z) hr (by decide) (pv 0) ?_);walk_at "A";exact(qa (pv 4));exact qg;refine(q1e ?_);walk_at "A";refine(z6 (qsf Z) (qsg Z) hr (by decide) rfl ?_);walk_at "A";walk_at "v";walk_at "A";exact(qa (pv 4));exact qg;exact qg;refine(qoe ?_);refine(qbl (qbk hr.units) ?_ ?_);exact(q2o Z.w0.O (c_9 Z) (b_9 Z) hr (by decide) (pv 0));refine(q1d ?_);exact(qa (pv 6));refine(qo ?_);exact(z8 q05);exact j6;walk_at "q";refine(q7f ?_ ?_ ?_);refine(PW.pt (qto ?_ ?_));refine(qbl (qbk hr.units) ?_ ?_);refine(vw Z.w0.O (c_8 Z) (b_8 Z) hr (by decide) (pv 0) ?_);walk_at "j";refine(q1d ?_);refine(q7j Z.w2.O (z2p Z) (z2q Z) hr (by decide) ?_ ?_);exact(q7i Z.w2.O Z.w2.m rfl);walk_at "s";walk_at "j";refine(qoe ?_);refine(qbl (qbk hr.units) ?_ ?_);refine(vw Z.w0.O (c_5 Z) (b_5 Z) hr (by decide) (pv 0) ?_);walk_at "j";refine(q1d ?_);refine(z6 ((qyy Z).as Z.n37) (qyz Z) hr (by decide) rfl ?_);walk_at "s";walk_at "j";refine(qo ?_);exact(z8 q05);exact j6;refine(qo ?_);refine(q1f ?_);refine(qp4 ?_ ?_);refine ?_;refine(qok (vt hr.units) ?_ ?_);refine(vw Z.w0.O (c_7 Z) (b_7 Z) hr (by decide) (pv 0) ?_);walk_at "j";refine(q1d ?_);refine(z6 ((qz0 Z).as Z.n39) (qz1 Z) hr (by decide) rfl ?_);walk_at "s";walk_at "j";refine(qp3 ?_);refine(qok (vt hr.units) ?_ ?_);refine(vw Z.w0.O (z2x Z) (z2y Z) hr (by decide) (pv 0) ?_);walk_at "j";refine(q1d ?_);refine(z6 ((qz2 Z).as Z.n40) (qz3 Z) hr (by decide) rfl ?_);walk_at "s";walk_at "j"
theorem qsk:Binds K Z.d40.fd ["_law_store","_law_wares","_law_runs","_law_number_here"] []:=Z.d40.b (by walk_at "B")
noncomputable def q6t:List Str:=["_law_store","_law_number_here","_law_wares","_law_kept"]
theorem q1h:(q6t).Nodup:=by decide +kernel
theorem qdy:FnScope q6t ["_law_store","_law_number_here","_law_wares"] (qj q6m):=by walk_at "S"
noncomputable def q6u:FS:=(qz (zj 3 (eC (.bl false))) (qz (qbn (sIf (zl oEq (eOp oMod (eV 1) (eC (.int 2))) (eC (.int 0))) (w4 (xv "Store" "put" 0 2 q1n (qc (eOp zw (eC (.int 1)) (eOp oMod (eOp oDiv (eV 1) (eC (.int 4))) (eC (.int 9)))) (qc (jd (qc (eV 2) qh)) qh)))) (w4 (xv "Store" "take" 0 2 q0z (qc (eOp oSub (eOp oPow (eC (.int 10)) (eC (.int 12))) (eOp oMod (eOp oDiv (eV 1) (eC (.int 4))) (eC (.int 9)))) (qc (q5o (eV 2)) qh))))) (xIf (zl oEq (eOp oMod (eV 1) (eC (.int 2))) (eC (.int 0))) (q2e "Store" "put" 0 2 q1o (qc (eOp zw (eC (.int 1)) (eOp oMod (eOp oDiv (eV 1) (eC (.int 4))) (eC (.int 9)))) (qc (jd (qc (eV 2) qh)) qh))) (q2e "Store" "take" 0 2 q10 (qc (eOp oSub (eOp oPow (eC (.int 10)) (eC (.int 12))) (eOp oMod (eOp oDiv (eV 1) (eC (.int 4))) (eC (.int 9)))) (qc (q5o (eV 2)) qh)))) ["NoRun","NotThere"] (z1t [("NoRun",(fun _=>(zj 3 (eC (.bl true))))),("NotThere",(fun _=>(zj 3 (eC (.bl true)))))])) (ze (eV 3))))
noncomputable def q07:Th:=jy 4 "Store" q6u
theorem z35:CalO P w K mg base "_law_refused" "Store" 6 ["_law_store","_law_number_here","_law_wares"] 2 q07 Z.d37.fa Z.d37.fd:=
 Z.d37.rdO (k:=5) qdy fun _ _ _ _ _ _ _ hr=>by
 unfold q6u;walk_at "q";refine(zb (i:=3) ?_ ?_ ?_ q05 ?_ ?_);exact q1h;walk_at "e";walk_at "b";refine(qv7 ⟨rfl,rfl⟩ ?_ ?_ ?_ ?_);intro pins σ0 Ex;refine PSs.nox ?_;refine(qo ?_);refine(ju ?_ (qo ?_) (qo ?_));refine(zp (vt hr.units) ?_ qi);refine(qp zt ?_ qi);walk_at "n";refine(w6 ?_);refine(vw Z.w0.O (qym Z) (qs4 Z) hr (by decide) (pv 0) ?_);walk_at "A";refine(qp jb qi ?_);walk_at "h";walk_at "n";walk_at "A";refine(jf ?_);walk_at "c";exact qg;refine(w6 ?_);refine(vw Z.w0.O (qyp Z) (qs5 Z) hr (by decide) (pv 0) ?_);walk_at "A";refine(qp vj ?_ ?_);exact(qp q4o qi qi);walk_at "h";walk_at "n";walk_at "A";refine(q7c rfl rfl Z.n25 rfl Z.n33 ?_);walk_at "v";exact qg;intro pins σ0 Ex;refine(qa5 (z0m (PT.nox ?_) (qa5 (qkq (qkr Z.w0.O (qfb Z) Z.d10.me (qs4 Z) hr (by decide) (pv 0) ?_))) (qa5 (qkq (qkr Z.w0.O (qdn Z) Z.d12.me (qs5 Z) hr (by decide) (pv 0) ?_)))));refine(zp (vt hr.units) ?_ qi);refine(qp zt ?_ qi);walk_at "n";walk_at "A";refine(qp jb qi ?_);walk_at "h";walk_at "n";walk_at "A";refine(jf ?_);walk_at "c";exact qg;walk_at "A";refine(qp vj ?_ ?_);exact(qp q4o qi qi);walk_at "h";walk_at "n";walk_at "A";refine(q7c rfl rfl Z.n25 rfl Z.n33 ?_);walk_at "v";exact qg;intro y C hy hn;simp only [mh,g34,g0o] at hy;rcases hy with rfl|rfl;cases Z.n8.symm.trans hn;refine(qp5 Z.n50 rfl Z.n7 rfl Z.n9 ?_);intro a;refine(qo ?_);refine(zb (i:=3) ?_ ?_ ?_ q05 ?_ ?_);exact q1h;walk_at "e";exact rfl;walk_at "L";cases Z.n10.symm.trans hn;refine(qp5 Z.n51 rfl Z.n7 rfl Z.n9 ?_);intro a;refine(qo ?_);refine(zb (i:=3) ?_ ?_ ?_ q05 ?_ ?_);exact q1h;walk_at "e";exact rfl;walk_at "L";intro y hy;simp only [mh,g34,g0o] at hy;rcases hy with rfl|rfl;exact⟨_,Z.n8⟩;exact⟨_,Z.n10⟩;walk_at "f";exact(qa (pv 3))
theorem z36:Binds K Z.d37.fd ["_law_store","_law_number_here","_law_wares"] []:=Z.d37.b (by walk_at "B")
noncomputable def qmo:List Str:=["_law_script","_law_wares","_law_most","_law_stores_here","_law_runs","_law_left","_law_k","_law_number_here","_law_at","_law_last"]
theorem q02:(qmo).Nodup:=by decide +kernel
theorem qz4:FnScope qmo ["_law_script"] (qj qfu):=by walk_at "S"
noncomputable def qas:FS:=(qz (zj 7 (qk (qt 2 [] q36) (qc (eV 0) (qc (eV 6) qh)))) (qz (zj 8 (eOp oMod (eOp oDiv (eV 7) (eC (.int 256))) (eC (.int 2)))) (qz (qbw 4 (eV 8) (q1k "Store" 3 4 q61 (eV 8) (qc (q45 4 (eV 8)) (qc (eV 7) (qc (eV 1) (qc (eOp oIx (eV 2) (eV 8)) qh)))))) (qz (sIf (q22 (zl oEq (eOp oMod (eV 7) (eC (.int 8))) (eC (.int 5))) (zl oLt' (qk (qt 2 [] kc) (qc (q45 4 (eV 8)) (qc (q5o (eV 1)) qh))) (eOp oSub (eOp oPow (eC (.int 10)) (eC (.int 12))) (eC (.int 9))))) (q2w (q3j (mbT (q1k "Store" 3 2 q07 (eV 8) (qc (eOp oDiv (eV 7) (eC (.int 512))) (qc (eV 1) qh))))) (ze (eC (.bl false))) j9) j9) (sIf (q22 (zl oGt (eOp oMod (eV 7) (eC (.int 8))) (eC (.int 5))) (zl oGt (eV 5) (eC (.int 0)))) (qz (zj 5 (eOp oSub (eV 5) (eC (.int 1)))) (qz (q2w (q3j (mbT (q1k "Store" 3 3 v7 (eV 8) (qc (eV 1) (qc (q45 4 (eV 8)) (qc (eOp oDiv (eV 7) (eC (.int 512))) qh)))))) (ze (eC (.bl false))) j9) (q2w (q3k qa3 (qbv "Store" "pile" 3 ji (eOp oSub (eC (.int 1)) (eV 8))) (mP (jd (qc (eV 1) (qc (qk xu (qc (q45 4 (eOp oSub (eC (.int 1)) (eV 8))) qh)) qh))))) (ze (eC (.bl false))) j9))) j9)))))
noncomputable def qfv:FS:=(qz (zj 1 (eOp oMod (eOp oDiv (qk (qt 2 [] jz) (qc (eV 0) (qc (eC (.int 0)) qh))) (eC (.int 2))) (eC (.int 5)))) (qz (zj 2 (eL (ye (qc (eC .non) (qc (eOp zw (eC (.int 1)) (eOp oMod (eOp oDiv (qk (qt 2 [] jz) (qc (eV 0) (qc (eC (.int 0)) qh))) (eC (.int 12))) (eC (.int 60)))) qh))))) (qz (qfs "Store" 3 2 [.non] [] yt (qc (eV 1) qh) (qc (eV 1) (qc (eOp oIx (eV 2) (eC (.int 1))) qh))) (qz (q0p 4 (ye (qc (eL (ye qh)) (qc (eL (ye qh)) qh)))) (qz (zj 5 (eC (.int 3))) (qz (q41 (iR1 (qc (qk (qt 1 [] yw) (qc (eV 0) qh)) qh)) (bN 6) qas) (q1a 4 (qz (zj 9 (qk (qt 2 [] y8) (qc (qk (qt 2 [] jz) (qc (eV 0) (qc (eC (.int 0)) qh))) (qc (eC (.int 77)) qh)))) (q0t (qho (q1k "Store" 3 3 v7 (eC (.int 0)) (qc (eV 1) (qc (eOp oIx (eV 4) (eC (.int 0))) (qc (eV 9) qh)))) (q1k "Store" 3 3 v7 (eC (.int 1)) (qc (eV 1) (qc (eOp oIx (eV 4) (eC (.int 1))) (qc (eV 9) qh))))))))))))))
noncomputable def qmp:Ti:=zf 10 qfv
theorem qz5(Z:Zs K mg): FnOk P w K mg base CX0 8 Z.dlaw.fa Z.dlaw.fd ["_law_script"] (spD K 1 qmp):=
 Z.dlaw.F.okn (k:=7) (n:=10) (ar:=1) (k1:=8) (u:=qfv) qz4 rfl rfl rfl fun cdv A outer s H E hr=>by
 show PSs (zx CX0 P w K mg base qmo "law" (qj qfu) _ cdv A outer s H E).nox (ja qfu) (tDS K qfv);unfold qfv qas;walk_at "q";refine(zb (i:=1) ?_ ?_ ?_ ?_ ?_ ?_);exact q02;walk_at "e";walk_at "h";refine(z6 (q7w Z) (q7x Z) hr (by decide) rfl ?_);walk_at "d";walk_at "p";walk_at "b";refine(zb (i:=2) ?_ ?_ ?_ ?_ ?_ ?_);exact q02;walk_at "e";refine(jc ?_);refine(vm ?_);walk_at "A";exact q72;walk_at "A";refine(qp jb qi ?_);walk_at "h";refine(z6 (q7w Z) (q7x Z) hr (by decide) rfl ?_);walk_at "d";walk_at "p";exact qg;walk_at "b";refine(qvl (i:=3) rfl (qvn Z) hr (by decide) rfl (q6v Z) q6w (fun _=>q6x) (b_3 Z) .nil (fun _=>.nil) ?_ ?_ q02 rfl (Or.inl rfl));refine ?_;walk_at "m";refine ?_;walk_at "a";walk_at "r";walk_at "v";exact qg;walk_at "q";refine(q2u (i:=4) q02 rfl (Or.inl rfl) (vm ?_));walk_at "g";exact(vm qg);walk_at "g";exact(vm qg);exact qg;walk_at "q";refine(zb (i:=5) ?_ ?_ ?_ qi ?_ ?_);exact q02;walk_at "e";walk_at "b";refine(q4q g10 rfl ?_ (z9 q02 rfl (Or.inl rfl) (.inl rfl)) (qm ?_ ?_));refine(q0g rfl Z.n33 ?_);walk_at "A";refine(z6 (z1y Z) (z1z Z) hr (by decide) rfl ?_);walk_at "x";exact qg;refine(zb (i:=7) ?_ ?_ ?_ ?_ ?_ ?_);exact q02;walk_at "e";refine(z6 (z20 Z) (z21 Z) hr (by decide) rfl ?_);walk_at "d";walk_at "s";exact qg;walk_at "b";refine(zb (i:=8) ?_ ?_ ?_ ?_ ?_ ?_);exact q02;walk_at "e";walk_at "h";exact(qa (pv 7));walk_at "b";refine(qry (pv 4) ?_ ?_);refine ?_;exact(qa (pv 8));refine ?_;refine(q4x (z2b Z) (z2c Z) hr (by decide) rfl (pv 3) ?_ ?_);refine ?_;exact(qa (pv 8));refine ?_;walk_at "A";refine(qbh (pv 4) ?_);exact(qa (pv 8));walk_at "A";exact(qa (pv 7));walk_at "a";walk_at "A";refine(jn ?_ ?_);walk_at "v";exact(qa (pv 8));exact qg;walk_at "q";walk_at "o";refine(PW.pt (qba ?_ (q8o ?_)));refine(zp (vt hr.units) ?_ qi);refine(qp zt ?_ qi);exact(qa (pv 7));refine(zp wy ?_ ?_);refine(z6 (qsf Z) (qsg Z) hr (by decide) rfl ?_);walk_at "A";refine(qbh (pv 4) ?_);exact(qa (pv 8));walk_at "A";refine(q7c rfl rfl Z.n25 rfl Z.n33 ?_);walk_at "n";exact qg;refine(qp vj ?_ qi);exact(qp q4o qi qi);refine(q7f ?_ ?_ ?_);refine(qh2 ?_);refine(qh1 ?_);refine(q4x (z35 Z) (z36 Z) hr (by decide) rfl (pv 3) ?_ ?_);refine ?_;exact(qa (pv 8));refine ?_;walk_at "A";refine(qp va ?_ qi);exact(qa (pv 7));walk_at "m";refine(qo ?_);exact(z8 q05);exact j6;refine(qo ?_);refine(ju ?_ (qm ?_ ?_) j6);refine(PW.pt (qba ?_ (q8o ?_)));refine(zp q8m ?_ qi);refine(qp zt ?_ qi);exact(qa (pv 7));refine(zp q8m ?_ qi);exact(qa (pv 5));walk_at "w";exact q02;walk_at "e";refine(qp vj ?_ qi);exact(qa (pv 5));walk_at "b";refine(q7f ?_ ?_ ?_);refine(qh2 ?_);refine(qh1 ?_);refine(q4x (qsj Z) (qsk Z) hr (by decide) rfl (pv 3) ?_ ?_);refine ?_;exact(qa (pv 8));refine ?_;walk_at "a";walk_at "A";refine(qbh (pv 4) ?_);exact(qa (pv 8));walk_at "A";refine(qp va ?_ qi);exact(qa (pv 7));exact qg;refine(qo ?_);exact(z8 q05);exact j6;refine(qo ?_);refine(q7f ?_ ?_ ?_);refine(qbl (qbk hr.units) ?_ ?_);refine(qvk Z.w0.O (c_9 Z) (b_9 Z) hr (by decide) (pv 3) ?_);refine(qp vj qi ?_);exact(qa (pv 8));refine(q1d ?_);refine(jf ?_);walk_at "a";walk_at "A";refine(jh (v8) rfl Z.n25 DL.boot_tuple ?_);walk_at "A";refine(qbh (pv 4) ?_);refine(qp vj qi ?_);exact(qa (pv 8));exact qg;exact qg;refine(qo ?_);exact(z8 q05);exact j6;refine(q0q 4 (qm ?_ ?_));refine(zb (i:=9) ?_ ?_ ?_ ?_ ?_ ?_);exact q02;walk_at "e";refine(z6 (qme Z) (qmf Z) hr (by decide) rfl ?_);walk_at "A";refine(z6 (q7w Z) (q7x Z) hr (by decide) rfl ?_);walk_at "d";walk_at "p";walk_at "p";exact rfl;walk_at "L";refine(qo ?_);refine(q1f ?_);refine(qp4 ?_ ?_);refine ?_;refine(q4x (qsj Z) (qsk Z) hr (by decide) rfl (pv 3) ?_ ?_);exact qi;refine ?_;walk_at "a";walk_at "r";exact(qa (pv 4));walk_at "A";exact(qa (pv 9));exact qg;refine(qp3 ?_);refine(q4x (qsj Z) (qsk Z) hr (by decide) rfl (pv 3) ?_ ?_);exact qi;refine ?_;walk_at "a";walk_at "r";exact(qa (pv 4));walk_at "A";exact(qa (pv 9));exact qg
end
end My
namespace DL
open PySem L2
theorem qin(a b:Int): decide (V.int a=V.int b)=decide (a=b):=decide_eq_decide.mpr ⟨fun h=>by injection h,fun h=>by rw [h]⟩
theorem yh(a b:Int): oEq (.int a) (.int b)=some (.bl (decide (a=b))):=by
 simp only [oEq,qqr,flD,qd3,gj,uh,g2m,qin]
theorem ql1(a b:Int): q20 (.int a) (.int b)=some (.bl (!decide (a=b))):=by
 simp only [q20,flD,qd3,gj,uh,qin]
theorem qz6(a b:Bool): oEq (.bl a) (.bl b)=some (.bl (a==b)):=by
 cases a <;> cases b <;> rfl
theorem j5(a b:Int)(h:0<b): oMod (.int a) (.int b)=some (.int (a%b)):=by simp [oMod,oI,h]
theorem jv(a b:Int)(h:0<b)(h2:b<1073741824): oDiv (.int a) (.int b)=some (.int (a / b)):=by simp [oDiv,oI,h,h2]
theorem wc(a b:Int): zw (.int a) (.int b)=some (.int (a+b)):=rfl
theorem q69(a b:Int): oSub (.int a) (.int b)=some (.int (a-b)):=rfl
theorem ke(a b:Int): oLt' (.int a) (.int b)=some (.bl (decide (a<b))):=rfl
theorem qvp(a b:Int): oLe (.int a) (.int b)=some (.bl (decide (a<=b))):=rfl
theorem vq(a b:Int): oGt (.int a) (.int b)=some (.bl (decide (b<a))):=rfl
theorem ql2(a b:Int): oGe (.int a) (.int b)=some (.bl (decide (b<=a))):=rfl
theorem q6a(a b:Int): oMin [.int a,.int b]=some (.int (if b<a then b else a)):=rfl
theorem q8c(xs ys:List D)(h:xs.length+ys.length<=1000000): zw (.tup xs) (.tup ys)=some (.tup (xs++ys)):=by
 show(oAdd (.tup xs) (.tup ys)).or (qa1 (.tup xs) (.tup ys))=_;simp only [oAdd,oI,g2n,qa1,lim,gw h]
theorem qpi(xs ys:List D)(h:xs.length+ys.length<=1000000): zw (.lst xs) (.lst ys)=some (.lst (xs++ys)):=by
 show(oAdd (.lst xs) (.lst ys)).or (qa1 (.lst xs) (.lst ys))=_;simp only [oAdd,oI,g2n,qa1,lim,gw h]
theorem qsl(a b:Int)(h:0<=b)(h2:b<=1000000)(h3:a.natAbs<2 ^ 64): oShl (.int a) (.int b)=some (.int (a*2 ^ b.toNat)):=by simp [oShl,oI,h,h2,h3]
theorem q1i(a b:Int)(h:0<=b)(h2:b<=1000000)(h3:a.natAbs<2 ^ 64): oPow (.int a) (.int b)=some (.int (a ^ b.toNat)):=by simp [oPow,oI,h,h2,h3]
theorem q0m(ns:List Int): q43 [.lst (ns.map .int)]=some (.int ns.sum):=by simp [q43,o1L,kx]
theorem qck(bs:List Bool): q44 [.lst (bs.map .bl)]=some (.bl (bs.all id)):=by simp [q44,o1L,q5m]
theorem qmq(bs:List Bool): qlw [.lst (bs.map .bl)]=some (.bl (bs.any id)):=by simp [qlw,o1L,q5m]
theorem qdz{α : Type}{xs:List α}{i:Int}(h0:0<=i): atI xs i=xs[i.toNat]? :=by
 unfold atI ixN;rw [gw h0]
 by_cases h:i<xs.length
 ·rw [gw h];rfl
 ·rw [mf h,g1y (by omega)];rfl
theorem qsm{α : Type}(xs:List α): atI xs (-1)=xs.getLast? :=by
 unfold atI ixN;rw [mf (by decide)];cases xs with
 | nil=>rfl
 | cons a r=>
  rw [gw (by simp only [mv];omega)];show(a :: r)[((-1:Int)+((a :: r).length:Nat)).toNat]? = _;rw [List.getLast?_eq_getElem?]
  congr 1
  simp only [mv];omega
section
variable{b:FB}{body:FS}{d:D}{ds:List D}{ρ ρ1 ρ2:Rho}
theorem wd(h1:b d ρ = some ρ1)(h2:body ρ1=some (.nx, ρ2)): runFor b body (d :: ds) ρ = runFor b body ds ρ2:=by simp only [runFor,h1,h2,gj]
end
theorem qcl{b:FB}{c:FT}{f:FE}{ρ : Rho}(p:D->Bool)(g:D->D): ∀ {ds:List D},(∀d∈ds,∃ ρ1,b d ρ = some ρ1/\c ρ1=some (p d)/\(p d=true->f ρ1=some (g d)))->zg b c f ρ ds=some ((ds.filter p).map g)
 | [],_=>rfl
 | d :: ds,h=>by
  obtain⟨ρ1,e1,e2,e3⟩:=h d ma;have ih:=qcl p g fun e he=>h e (gz _ he);simp only [zg,e1,e2,gj];cases hp:p d with
  | true=>simp only [uh,e3 hp,gj,ih,mx,p8,hp,m5]
  | false=>simp only [my,g11,ih,p8,hp]
theorem q4d{b:FB}{f:FE}{ρ : Rho}(g:D->D){ds:List D}(h:∀d∈ds,∃ ρ1,b d ρ = some ρ1/\f ρ1=some (g d)): zg b zu f ρ ds=some (ds.map g):=by
 have:=qcl (b:=b) (c:=zu) (f:=f) (ρ := ρ) (fun _=>true) g (ds:=ds) fun d hd=>let⟨ρ1,e1,e2⟩:=h d hd; ⟨ρ1,e1,rfl,fun _=>e2⟩
 rw [g1g.mpr (fun _ _=>rfl)] at this;exact this
theorem qjw(lo:Int)(n:Nat): zy lo (n+1)=.int lo :: zy (lo+1) n:=by
 unfold zy;rw [g1p,m5,p6]
 congr 1
 ·simp
 ·apply g3o
  intro a _;simp only [Function.comp,Nat.succ_eq_add_one,Int.natCast_add]
  congr 1
  omega
theorem qcm(lo:Int)(n:Nat): (zy lo n).length=n:=by simp [zy]
theorem ql3(fa:FA)(ρ : Rho)(j:Int)(h:fa ρ = some [.int j])(h1 : -(2 ^ 62)<=j)(h2:j<2 ^ 62): iR1 fa ρ = some (zy 0 j.toNat):=by
 simp only [iR1,h,gj,mj h1,mj h2,g5c,uh]
theorem qjx{α : Type}(xs:List D)(k:Nat): cutD xs none (some (k:Int))=xs.take k:=by
 unfold cutD;rw [HT.sIx_nat,HT.sIx_none];simp only [g57,Nat.sub_zero]
 by_cases h:k<=xs.length
 ·rw [Nat.min_eq_left h]
 ·rw [Nat.min_eq_right (by omega),g4m,g0r (by omega)]
theorem qsn{α : Type}(xs:List D)(k:Nat): cutD xs (some (k:Int)) none=xs.drop k:=by
 unfold cutD;rw [HT.sIx_nat,HT.sIx_none]
 by_cases h:k<=xs.length
 ·rw [Nat.min_eq_left h,g0r (by rw [g31];exact m6 _)]
 ·rw [Nat.min_eq_right (by omega),g4j,List.drop_eq_nil_of_le (by omega)];simp
section
variable{ρ ρ1 ρ':Rho}{f g:FE}{d x y z:D}{i n m ar:Nat}{fa fk:FA}{ds es:List D}{t t2:FT}{c:Bool}{u w:FS}{r:Option (Fl×Rho)}
theorem x_c:eC d ρ = some d:=rfl
theorem x_v(h : ρ[i]? = some (some (.fz d))): eV i ρ = some d:=by unfold eV;rw [h]
theorem qu{o:D->D->Option D}(h1:f ρ = some x)(h2:g ρ = some y)(h3:o x y=some z): eOp o f g ρ = some z:=by unfold eOp;rw [h1,gj,h2,gj,h3]
theorem qz7{o:D->Option D}(h1:f ρ = some x)(h3:o x=some z): eUn o f ρ = some z:=by unfold eUn;rw [h1,gj,h3]
theorem ql:qh ρ = some []:=rfl
theorem qf(h1:f ρ = some d)(h2:fa ρ = some ds): qc f fa ρ = some (d :: ds):=by unfold qc;rw [h1,gj,h2,mx]
theorem x_call{o:Ti}(h1:fa ρ = some ds)(h2:o ds=some d): qk o fa ρ = some d:=by unfold qk;rw [h1,gj,h2]
theorem zm{o:Ti}{dds:List D}(h1:fa ρ = some ds)(hl:(ds++dds).length=ar)(h2:o (ds++dds)=some d): qk (qt ar dds o) fa ρ = some d:=by unfold qk qt;rw [h1,gj,gw hl,h2]
theorem yb(h1:fa ρ = some ds)(hl:ds.length<=lim): jd fa ρ = some (.tup ds):=by unfold jd;rw [h1,gj,gw hl]
theorem q1q(h1:fa ρ = some ds)(hl:ds.length<=lim): ye fa ρ = some ds:=by unfold ye;rw [h1,gj,gw hl]
theorem x_l(h1:fa ρ = some ds): eL fa ρ = some (.lst ds):=by unfold eL;rw [h1,mx]
theorem z0s(h1:f ρ = some (.bl c)): q9w f ρ = some (.bl (!c)):=by unfold q9w;rw [h1,gj];rfl
theorem ql4(h1:t ρ = some c)(hc:c=true)(h2:f ρ = some d): eIf t f g ρ = some d:=by subst hc;unfold eIf;rw [h1,gj];exact h2
theorem ql5(h1:t ρ = some c)(hc:c=false)(h2:g ρ = some d): eIf t f g ρ = some d:=by subst hc;unfold eIf;rw [h1,gj];exact h2
theorem we{it:FA}{cap:Te}{b:FB}{q:FT}(h1:it ρ = some ds)(hl:ds.length<=lim)(h2:zg b q f (ku cap ρ) ds=some es): zi it cap b q f ρ = some es:=by unfold zi;rw [h1,gj,gw hl,h2]
theorem vy(h1:f ρ = some d)(h2:q5j d=some ds): jm f ρ = some ds:=by unfold jm;rw [h1,gj,h2]
theorem zq{o:D->D->Option D}(h1:f ρ = some x)(h2:g ρ = some y)(h3:o x y=some (.bl c)): zl o f g ρ = some c:=by unfold zl;rw [qu h1 h2 h3,gj];rfl
theorem q6b(h1:f ρ = some d)(h2:q9v d=some c): bT f ρ = some c:=by unfold bT;rw [h1,gj,h2]
theorem qcn(h1:t ρ = some c): q21 t ρ = some (!c):=by unfold q21;rw [h1,mx]
theorem q3c{e:Bool}(h1:t ρ = some c)(hc:c=true)(h2:t2 ρ = some e): q22 t t2 ρ = some e:=by subst hc;unfold q22;rw [h1,gj];exact h2
theorem q6c(h1:t ρ = some c)(hc:c=false): q22 t t2 ρ = some false:=by subst hc;unfold q22;rw [h1,gj];rfl
theorem qvq(h1:t ρ = some c)(hc:c=true): bOr t t2 ρ = some true:=by subst hc;unfold bOr;rw [h1,gj];rfl
theorem qvr{e:Bool}(h1:t ρ = some c)(hc:c=false)(h2:t2 ρ = some e): bOr t t2 ρ = some e:=by subst hc;unfold bOr;rw [h1,gj];exact h2
theorem z7(h1:u ρ = some (.nx, ρ1))(h2:w ρ1=r): qz u w ρ = r:=by unfold qz;rw [h1,gj];exact h2
theorem qio(h1:u ρ = some (.rt d, ρ1)): qz u w ρ = some (.rt d, ρ1):=by unfold qz;rw [h1,gj]
theorem yi(h1:t ρ = some c)(hc:c=true)(h2:u ρ = r): sIf t u w ρ = r:=by subst hc;unfold sIf;rw [h1,gj];exact h2
theorem jr(h1:t ρ = some c)(hc:c=false)(h2:w ρ = r): sIf t u w ρ = r:=by subst hc;unfold sIf;rw [h1,gj];exact h2
theorem xa(h1:f ρ = some d): ze f ρ = some (.rt d, ρ):=by unfold ze;rw [h1,mx]
theorem jk:j9 ρ = some (.nx, ρ):=rfl
theorem j7(h1:f ρ = some d): zj i f ρ = some (.nx, ρ.set i (some (.fz d))):=by unfold zj;rw [h1,mx]
theorem qco(h1:fa ρ = some ds): q0p i fa ρ = some (.nx, ρ.set i (some (.ow ds))):=by unfold q0p;rw [h1,mx]
theorem q6d(h0 : ρ[i]? = some (some (.ow ds)))(h1:f ρ = some d)(hl:ds.length<lim): q5i i f ρ = some (.nx, ρ.set i (some (.ow (ds++[d])))):=by unfold q5i q23;rw [h0];simp only [gj,h1,gw hl]
theorem qfw{it:FA}{b:FB}{body:FS}(h1:it ρ = some ds)(h2:runFor b body ds ρ = r): q41 it b body ρ = r:=by unfold q41;rw [h1,gj];exact h2
theorem qcp(h1:frz i ρ = ρ1)(h2:u ρ1=r): q1a i u ρ = r:=by unfold q1a;rw [h1];exact h2
theorem qz8{b:FB}(h1:f ρ = some d)(h2:b d ρ = some ρ1): qbc f b ρ = some (.nx, ρ1):=by unfold qbc;rw [h1,gj,h2,mx]
theorem xx(h:u (ds.map (fun d=>some (.fz d))++List.replicate (n-ds.length) none)=some (.rt d, ρ')): zf n u ds=some d:=by unfold zf;rw [h]
end
theorem eV0(d:D)(r:Rho): eV 0 (some (.fz d) :: r)=some d:=rfl
theorem eVs(i:Nat)(x:Option B)(r:Rho): eV (i+1) (x :: r)=eV i r:=rfl
theorem qmr(ds:List D): yo [.tup ds]=some (.int ds.length):=rfl
theorem qms(ds:List D): yo [.lst ds]=some (.int ds.length):=rfl
theorem z37(i:Int): (match D.int i with | .int i=>some (some i)|_=>none:Option (Option Int))=some (some i):=rfl
theorem z38(ds:List D)(r:Rho): frz 0 (some (.ow ds) :: r)=some (.fz (.lst ds)) :: r:=rfl
theorem frzs(i:Nat)(x:Option B)(r:Rho): frz (i+1) (x :: r)=x :: frz i r:=by
 unfold frz;rw [g1h];cases h:r[i]? with
 | none=>rfl
 | some y=>
  cases y with
  | none=>rfl
  | some z=>cases z <;> rfl
theorem vd(a b:Int)(h : -(2 ^ 64)<b/\b<2 ^ 64): jx (.int a) (.int b)=some (.int (a*b)):=by
 have h2:(decide (-(2 ^ 64)<b)&&decide (b<2 ^ 64))=true:=by rw [mj h.1,mj h.2];rfl
 show(if((decide (-(2 ^ 64)<a)&&decide (a<2 ^ 64)) || (decide (-(2 ^ 64)<b)&&decide (b<2 ^ 64)))=true then some (D.int (a*b)) else none).or _=_;rw [h2,g5g,gw rfl,g2m]
theorem qjy(a b:Int)(h : -(2 ^ 64)<a/\a<2 ^ 64): jx (.int a) (.int b)=some (.int (a*b)):=by
 have h2:(decide (-(2 ^ 64)<a)&&decide (a<2 ^ 64))=true:=by rw [mj h.1,mj h.2];rfl
 show(if((decide (-(2 ^ 64)<a)&&decide (a<2 ^ 64)) || (decide (-(2 ^ 64)<b)&&decide (b<2 ^ 64)))=true then some (D.int (a*b)) else none).or _=_;rw [h2,Bool.true_or,gw rfl,g2m]
theorem qz9(ds:List D)(i:Int): oIx (.lst ds) (.int i)=atI ds i:=rfl
theorem qza(ds:List D)(i:Int): oIx (.tup ds) (.int i)=atI ds i:=rfl
theorem qvs{α : Type}(xs:List α)(n:Nat): atI xs (no_index (OfNat.ofNat n:Int))=xs[n]? :=by
 show atI xs (n:Int)=xs[n]?;rw [qdz (show(0:Int)<=(n:Int) by omega)]
 rfl
theorem qso{α : Type}(xs:List α)(n:Nat): atI xs (n:Int)=xs[n]? :=by
 rw [qdz (show(0:Int)<=(n:Int) by omega)]
 rfl
theorem qvt(ds:List D): qtj [.lst ds]=some ds:=rfl
theorem qvu(ds:List D): qtj [.tup ds]=some ds:=rfl
theorem q0e(ds:List D): xu [.lst ds]=some (.tup ds):=rfl
theorem qsp(ds:List D): xu [.tup ds]=some (.tup ds):=rfl
theorem qtu(ds:List D)(r:Rho): q23 0 (some (.ow ds) :: r)=some ds:=rfl
theorem qtv(i:Nat)(x:Option B)(r:Rho): q23 (i+1) (x :: r)=q23 i r:=rfl
theorem jw{n:Nat}{u:FS}{ds:List D}{d:D}(h:(u (ds.map (fun d=>some (.fz d))++List.replicate (n-ds.length) none)).map Prod.fst=some (.rt d)): zf n u ds=some d:=by
 cases e:u (ds.map (fun d=>some (.fz d))++List.replicate (n-ds.length) none) with
 | none=>rw [e] at h;cases h
 | some p=>
  obtain⟨fl, ρ'⟩:=p;rw [e] at h;have h':fl=.rt d:=by simpa using h
  subst h';exact xx e
theorem qvv:j3 .int .non=false/\(∀b:Bool,j3 .int (.bl b)=true)/\(∀i:Int,j3 .int (.int i)=true)/\(∀x:Str,j3 .int (.str x)=false)/\(∀ds:List D,j3 .int (.tup ds)=false)/\(∀ds:List D,j3 .int (.lst ds)=false)/\(∀(ks:List Key) (vs:List D),j3 .int (.dct ks vs)=false)/\(∀(ks:List (List Int)) (vs:List D),j3 .int (.dtt ks vs)=false)/\j3 .bool .non=false/\(∀b:Bool,j3 .bool (.bl b)=true)/\(∀i:Int,j3 .bool (.int i)=false)/\(∀x:Str,j3 .bool (.str x)=false)/\(∀ds:List D,j3 .bool (.tup ds)=false)/\(∀ds:List D,j3 .bool (.lst ds)=false)/\(∀(ks:List Key) (vs:List D),j3 .bool (.dct ks vs)=false)/\(∀(ks:List (List Int)) (vs:List D),j3 .bool (.dtt ks vs)=false)/\j3 .tuple .non=false/\(∀b:Bool,j3 .tuple (.bl b)=false)/\(∀i:Int,j3 .tuple (.int i)=false)/\(∀x:Str,j3 .tuple (.str x)=false)/\(∀ds:List D,j3 .tuple (.tup ds)=true)/\(∀ds:List D,j3 .tuple (.lst ds)=false)/\(∀(ks:List Key) (vs:List D),j3 .tuple (.dct ks vs)=false)/\(∀(ks:List (List Int)) (vs:List D),j3 .tuple (.dtt ks vs)=false)/\j3 .list .non=false/\(∀b:Bool,j3 .list (.bl b)=false)/\(∀i:Int,j3 .list (.int i)=false)/\(∀x:Str,j3 .list (.str x)=false)/\(∀ds:List D,j3 .list (.tup ds)=false)/\(∀ds:List D,j3 .list (.lst ds)=true)/\(∀(ks:List Key) (vs:List D),j3 .list (.dct ks vs)=false)/\(∀(ks:List (List Int)) (vs:List D),j3 .list (.dtt ks vs)=false)/\j3 .str .non=false/\(∀b:Bool,j3 .str (.bl b)=false)/\(∀i:Int,j3 .str (.int i)=false)/\(∀x:Str,j3 .str (.str x)=true)/\(∀ds:List D,j3 .str (.tup ds)=false)/\(∀ds:List D,j3 .str (.lst ds)=false)/\(∀(ks:List Key) (vs:List D),j3 .str (.dct ks vs)=false)/\(∀(ks:List (List Int)) (vs:List D),j3 .str (.dtt ks vs)=false)/\j3 .dict .non=false/\(∀b:Bool,j3 .dict (.bl b)=false)/\(∀i:Int,j3 .dict (.int i)=false)/\(∀x:Str,j3 .dict (.str x)=false)/\(∀ds:List D,j3 .dict (.tup ds)=false)/\(∀ds:List D,j3 .dict (.lst ds)=false)/\(∀(ks:List Key) (vs:List D),j3 .dict (.dct ks vs)=true)/\(∀(ks:List (List Int)) (vs:List D),j3 .dict (.dtt ks vs)=true):=by
 refine⟨?_,?_,?_,?_,?_,?_,?_,?_,?_,?_,?_,?_,?_,?_,?_,?_,?_,?_,?_,?_,?_,?_,?_,?_,?_,?_,?_,?_,?_,?_,?_,?_,?_,?_,?_,?_,?_,?_,?_,?_,?_,?_,?_,?_,?_,?_,?_,?_⟩ <;> intros <;> rfl
theorem qe0{x:Int}{n:Nat}(hn:0<n): ∃k:Nat,k<n/\oMod (.int x) (.int (n:Int))=some (.int (k:Int)):=by
 have h1:=g06 x (show(n:Int)≠0 by omega);have h2:=g02 x (show(0:Int)<(n:Int) by omega);refine⟨(x%n).toNat,by omega,?_⟩;rw [j5 _ _ (by omega),g1e h1]
section
variable{ρ ρ1 ρ2 ρ':Rho}{f g:FE}{d x y z:D}{i n m ar:Nat}{fa fk:FA}{ds es:List D}{t:FT}{b:Bool}{u w:FS}{r:Option (Fl×Rho)}{c nm:Str}{fs fs':Flds}{fm gm:FM}{am:FAM}{tm:FTM}
theorem q08(h : ρ[i]? = some (some (.od (c,fs))))(h2:fs.lookup nm=some d): wo c i nm ρ = some d:=by
 unfold wo yp;rw [h];simp only [gj,uh,h2]
theorem q8d(h1:f ρ = some d)(h : ρ[i]? = some (some (.od (c,fs))))(hl:fs.length<100): q3i c i nm f ρ = some (.nx, ρ.set i (some (.od (c,putD nm d fs)))):=by
 unfold q3i yp;rw [h1,h];simp only [gj];rw [gw ⟨trivial,hl⟩]
theorem kr{op:Th}(h : ρ[i]? = some (some (.od (c,fs))))(h1:fa ρ = some ds)(hl:ds.length=ar)(hn:fs.lookup nm=none)(h2:op fs ds=some (fs',d)): xv c nm i ar op fa ρ = some (d, ρ.set i (some (.od (c,fs')))):=by
 unfold xv yp;rw [h,h1];simp only [gj,h2,mx];rw [gw ⟨trivial,hl,by rw [hn];rfl⟩]
theorem qat(h:f ρ = some d): mP f ρ = some (d, ρ):=by unfold mP;rw [h,mx]
theorem qfx(h:fa ρ = some ds): amP fa ρ = some (ds, ρ):=by unfold amP;rw [h,mx]
theorem q3d(h1:fm ρ = some (d, ρ1))(h2:am ρ1=some (ds, ρ2)): k8 fm am ρ = some (d :: ds, ρ2):=by unfold k8;rw [h1,gj,h2,mx]
theorem qe1{o:Ti}{dds:List D}(h1:am ρ = some (ds, ρ1))(hl:(ds++dds).length=ar)(h2:o (ds++dds)=some d): q0s (qt ar dds o) am ρ = some (d, ρ1):=by
 unfold q0s qt;rw [h1,gj,gw hl,h2,mx]
theorem qmt(h1:fm ρ = some (d, ρ1))(h2:q9v d=some b): mbT fm ρ = some (b, ρ1):=by unfold mbT;rw [h1,gj,h2,mx]
theorem qe2(h1:tm ρ = some (b, ρ1)): q3j tm ρ = some (!b, ρ1):=by unfold q3j;rw [h1,mx]
theorem q8t{o:D->D->Option D}(h1:fm ρ = some (x, ρ1))(h2:gm ρ1=some (y, ρ2))(h3:o x y=some (.bl b)): q3k o fm gm ρ = some (b, ρ2):=by unfold q3k;rw [h1,gj,h2,gj,h3];rfl
theorem qip{tm2:FTM}{b2:Bool}(h1:tm ρ = some (b, ρ1))(hb:b=false)(h2:tm2 ρ1=some (b2, ρ2)): qh3 tm tm2 ρ = some (b2, ρ2):=by subst hb;unfold qh3;rw [h1,gj];exact h2
theorem q57(h1:tm ρ = some (b, ρ1))(hb:b=false)(h2:w ρ1=r): q2w tm u w ρ = r:=by subst hb;unfold q2w;rw [h1,gj];exact h2
theorem qcq(h1:fm ρ = some (d, ρ1)): q0t fm ρ = some (.rt d, ρ1):=by unfold q0t;rw [h1,mx]
theorem q58(h1:fm ρ = some (d, ρ1)): w4 fm ρ = some (.nx, ρ1):=by unfold w4;rw [h1,mx]
theorem qzb(h1:fm ρ = some (d, ρ1)): qfq i fm ρ = some (.nx, ρ1.set i (some (.fz d))):=by unfold qfq;rw [h1,mx]
theorem q8e(h:u (ki n c fs ds)=some (.nx, ρ'))(h2 : ρ'[0]? = some (some (.od (c,fs')))): jy n c u fs ds=some (fs',.non):=by unfold jy yp;rw [h];simp only [h2,gj,uh]
theorem xy(h:u (ki n c fs ds)=some (.rt d, ρ'))(h2 : ρ'[0]? = some (some (.od (c,fs')))): jy n c u fs ds=some (fs',d):=by unfold jy yp;rw [h];simp only [h2,gj,uh]
end
end DL
namespace DL
open PySem PyProof.Rows L2
section
variable{u w:FS}{t:FT}{f:FE}{fa:FA}{ρ ρ1:Rho}{d:D}{ds:List D}{i n:Nat}{c:Bool}{r:Option Fl}
abbrev g1(x:Option (Fl×Rho)): Option Fl:=x.map Prod.fst
end
end DL
open PySem PyProof.Rows L2 DL
local macro_rules | `(tactic| simp! [$a,*])=> `(tactic| simp (config:={decide:=true,implicitDefEqProofs:=false}) only [zf,qz,sIf,zj,ze,z0a,j9,q0p,z1o,z1p,z0b,q41,q1a,qbc,eOp,eC,eV0,eVs,qk,qc,qh,jd,eL,ye,qlx,eSl,oNo,oAt,z37,q22,zl,q21,bT,bOr,q5g,eOr,q9w,eIf,q76,qvv,eUn,isB,q9v,qa2,qmr,qms,z38,frzs,jm,q5j,qt,z0g,z1s,bN,xj,zh,xi,ku,qxm,m5,g0u,mv,List.length_nil,gv,Nat.reduceAdd,Nat.reduceSub,Nat.reduceEqDiff,List.replicate,g35,uz,ny,List.set_cons_zero,List.set_cons_succ,List.set_nil,g2q,g1h,gj,Option.bind_none,mx,Option.map_none,g33,Option.join_none,j5,jv,wc,q69,vd,qjy,yh,ql1,qz6,ke,qvp,vq,ql2,q0e,qsp,uh,g11,g56,g4r,my,g27,g2o,and_true,true_and,and_self,ite_true,ite_false,Int.reduceSub,Int.reduceMod,Int.reduceAdd,Int.reduceDiv,Int.reducePow,Int.reduceMul,Int.reduceNeg,Int.reduceEq,Int.reduceLT,Int.reduceLE,Int.reduceToNat,qz9,qza,qvs,qvt,qvu,q1i,reduceCtorEq,List.isEmpty_nil,List.isEmpty_cons,List.isEmpty_iff, $a,*])
namespace My
open PySem PyProof.Rows L2 DL
abbrev TI(ns:List Int): D:=.tup (ns.map .int)
abbrev Run:=Int×List Int
abbrev runD(r:Run): D:=.tup [.int r.1,TI r.2]
abbrev ve(w:Nat)(rs:List Run): D:=.tup [.int (w:Int),.tup (rs.map runD)]
def bit(m i:Nat): Bool:=m / 2 ^ i%2==1
def qq(n m:Nat): List Int:=((List.range n).filter fun i=>bit m i).map fun i:Nat=>(i:Int)
def mk(b:List Int): Int:=(b.map fun x=>(2:Int) ^ x.toNat).sum
theorem qvw(a b:Nat): Builtin.bitAnd (a:Int) (b:Int)=((a &&& b:Nat):Int):=by
 unfold Builtin.bitAnd;rw [mj (by omega:(0:Int)<=(a:Int)),mj (by omega:(0:Int)<=(b:Int))];simp
theorem qet(a b:Int): oBand (.int a) (.int b)=some (.int (Builtin.bitAnd a b)):=rfl
theorem ql6(n:Nat): zy 0 n=(List.range n).map fun i:Nat=>.int (i:Int):=by
 unfold zy;simp only [Int.zero_add]
theorem q2i:∀k:Nat,k<64->qq (Builtin.Int.intBits (k:Int)) k=qq 12 k/\mk (qq 12 k)=(k:Int):=by decide
theorem qiq:∀a:Nat,a<64->∀b:Nat,b<64->qq 12 a=qq 12 b->a=b:=fun a ha b hb h=>by
 have h1:=(q2i a ha).2;have h2:=(q2i b hb).2;rw [h,h2] at h1;omega
theorem q6e(n m:Nat): (qq n m).length<=n:=by
 unfold qq;rw [gv];exact mi (nt _ _) (by simp)
theorem qir{n m:Nat}{x:Int}(h:x∈qq n m): ∃i:Nat,x=(i:Int)/\i<n:=by
 unfold qq at h;obtain⟨i,hi,rfl⟩:=p7.mp h;exact⟨i,rfl,by simpa using(t6.mp hi).1⟩
theorem qvx(b:List Int)(hb:∀x∈b,0<=x/\x<100)(ρ : Rho): zg (bN 0) zu (eOp oShl (eC (.int 1)) (eV 0)) (none :: ρ) (b.map D.int)=some ((b.map fun x=>(2:Int) ^ x.toNat).map D.int):=by
 have:=q4d (b:=bN 0) (f:=eOp oShl (eC (.int 1)) (eV 0)) (ρ :=none :: ρ) (fun d=>match d with | .int x=>.int (2 ^ x.toNat)|_=>.non) (ds:=b.map D.int) fun d hd=>by
  obtain⟨x,hx,rfl⟩:=p7.mp hd;have:=hb x hx;refine⟨_,rfl,qu x_c (x_v rfl) ?_⟩;rw [qsl 1 x (by omega) (by omega) (by decide),Int.one_mul]
 rw [this,p6,p6]
 rfl
theorem qcr(b:List Int)(hb:∀x∈b,0<=x/\x<100)(hl:b.length<=1000): q0l [TI b]=some (.int (mk b)):=by
 have hl':b.length<=lim:=by show _<=1000000;omega
 have c:=qvx b hb [];have a:=q0m (b.map fun x=>(2:Int) ^ x.toNat)
 (refine jw ?_;simp! [q86,zi,hl',c,a])
 rfl
theorem qpj(a b:Int)(h:0<b)(h2:b<1606938044258990275541962092341162602522202993782792835301376): oDivB (.int a) (.int b)=some (.int (a / b)):=by simp [oDivB,oI,h,h2]
theorem q3e(a b:Int): oMax [.int a,.int b]=some (.int (if a<b then b else a)):=rfl
theorem qeu:∀ns:List Int,xp (ns.map D.int)=0
 | []=>by simp [xp]
 | n :: ns=>by simp only [m5,xp,kg,qeu ns];rfl
theorem qpk:∀ns ms:List Int,xo (ns.map D.int) (ms.map D.int)=true
 | [],ms=>by cases ms <;> rfl
 | n :: ns,[]=>rfl
 | n :: ns,m :: ms=>by simp only [m5,xo,qpk ns ms,Bool.and_true];rfl
theorem qtw:∀ns ms:List Int,eqL (ns.map D.int) (ms.map D.int)=decide (ns=ms)
 | [],[]=>rfl
 | [],m :: ms=>rfl
 | n :: ns,[]=>rfl
 | n :: ns,m :: ms=>by
  simp only [m5,eqL,qtw ns ms];show((n==m)&&decide (ns=ms))=_;rw [g0d];simp
theorem qcs(a b:List Int): oEq (TI a) (TI b)=some (.bl (decide (a=b))):=by
 show(none:Option D).or (if(xo (a.map D.int) (b.map D.int)&&decide (xp (a.map D.int)<=60))=true then some (D.bl (eqL (a.map D.int) (b.map D.int))) else none)=_;rw [qpk,qeu,qtw];rfl
abbrev qw(k:Nat): D:=TI (qq 12 k)
theorem xr{α : Type}{b:FB}{c:FT}{e:FE}{ρ : Rho}(f : α -> D)(p : α -> Bool)(g : α -> D): ∀(as:List α),(∀a∈as,∃ ρ1,b (f a) ρ = some ρ1/\c ρ1=some (p a)/\(p a=true->e ρ1=some (g a)))->zg b c e ρ (as.map f)=some ((as.filter p).map g)
 | [],_=>rfl
 | a :: as,h=>by
  obtain⟨ρ1,e1,e2,e3⟩:=h a ma;have ih:=xr f p g as fun x hx=>h x (gz _ hx);simp only [m5,zg,e1,e2,gj,p8];cases hp:p a with
  | true=>simp only [uh,e3 hp,gj,ih,mx,m5]
  | false=>simp only [my,g11,ih]
def q6f:Option D->Bool->Bool
 | some (.bl b),c=>b==c
 | _,_=>false
theorem qe3{o:Option D}{c:Bool}(h:q6f o c=true): o=some (.bl c):=by
 unfold q6f at h
 split at h
 ·rw [eq_of_beq h]
 ·cases h
theorem qsq:∀w:Nat,w<5->∀t:Nat,t<2 ^ w->q6f (q37 [qw t,.int (w:Int)]) true=true:=by decide +kernel
theorem qsr:∀w:Nat,w<5->q6f (q37 [.tup [.int (w:Int)],.int (w:Int)]) false=true:=by decide +kernel
theorem qau{a lo hi:Int}(h0:0<=a)(h1:lo<=a)(h2:a<=hi): q00 [.int a,.int lo,.int hi]=some (.bl true):=by
 have n':wz [.int a]=some (.bl true):=by rw [show wz [.int a]=some (.bl (decide (0<=a))) from rfl,mj h0]
 (refine jw ?_;simp! [q48,n',qbg,h1,h2])
structure GoodR(w:Nat)(r:Run): Prop where
 lo:1<=r.1
 hi:r.1<=1000000000000
 b:∃t:Nat,t<2 ^ w/\r.2=qq 12 t
theorem qis{w:Nat}{many:Int}{d:D}{c:Bool}(h1:1<=many)(h2:many<=1000000000000)(h:q37 [d,.int (w:Int)]=some (.bl c)): w8 [.tup [.int many,d],.int (w:Int)]=some (.bl c):=by
 have h1:=qau (a:=many) (lo:=1) (hi:=1000000000000) (by omega) h1 h2
 (refine jw ?_;simp! [qae,h1,h])
theorem qit{w:Nat}{many:Int}{b:List Int}(hw:w<5)(g:GoodR w (many,b)): w8 [.tup [.int many,TI b],.int (w:Int)]=some (.bl true):=by
 obtain⟨t,ht,e⟩:=g.b;dsimp only at e;subst e;exact qis g.lo g.hi (qe3 (qsq w hw t ht))
abbrev stF(w:Nat)(m:D)(rs:List Run): Flds:=[("wares",.int (w:Int)),("window",m),("runs",.tup (rs.map runD))]
abbrev oS(fs:Flds): Option B:=some (.od (.one ("Store",fs)))
def q4e(rs:List Run): Int:=(rs.map (·.1)).sum
def q8u(m:D): Prop:=m=.non\/∃M:Int,m=.int M/\1<=M/\M<=60
def ovr(m:D)(rs:List Run): Int:=match m with
 | .int M=>if 0<q4e rs-M then q4e rs-M else 0
 | _=>0
theorem ql7{w:Nat}{m:D}(h1:w<5)(hm:q8u m): yt [] [.int (w:Int),m]=some (stF w m [],.non):=by
 have e1:=qau (a:=(w:Int)) (lo:=0) (hi:=12) (by omega) (by omega) (by omega);refine q8e (ρ':=[oS (stF w m []),some (.fz (.int (w:Int))),some (.fz m)]) ?_ rfl;refine z7 (jr (c:=false) (qcn (q6b (zm (qf (x_v rfl) (qf x_c (qf x_c ql))) rfl e1) rfl)) rfl jk) ?_;refine z7 (jr (c:=false) ?_ rfl jk) ?_
 ·rcases hm with rfl|⟨M,rfl,h2,h3⟩
  ·exact q6c (c:=false) (zq (x_v rfl) x_c rfl) rfl
  ·have e2:=qau (a:=M) (lo:=1) (hi:=1000000000000000) (by omega) h2 (by omega)
   exact q3c (c:=true) (zq (x_v rfl) x_c rfl) rfl (qcn (q6b (zm (qf (x_v rfl) (qf x_c (qf x_c ql))) rfl e2) rfl))
 refine z7 (ρ1:=[oS ([("wares",.int (w:Int))]),some (.fz (.int (w:Int))),some (.fz m)]) (q8d (fs:=[]) (x_v rfl) rfl (by show 0<100;decide)) ?_;refine z7 (ρ1:=[oS ([("wares",.int (w:Int)),("window",m)]),some (.fz (.int (w:Int))),some (.fz m)]) (q8d (fs:=[("wares",.int (w:Int))]) (x_v rfl) rfl (by show 1<100;decide)) ?_;exact q8d (fs:=[("wares",.int (w:Int)),("window",m)]) (yb ql (by decide)) rfl (by show 2<100;decide)
theorem q8v(w:Nat)(m:D)(rs:List Run): ji (stF w m rs) []=some (stF w m rs,ve w rs):=
 xy (xa (yb (qf (q08 rfl rfl) (qf (q08 rfl rfl) ql)) (by show 2<=1000000;decide))) rfl
theorem qav{w:Nat}{m:D}{many:Int}{rs:List Run}{b:List Int}(hw:w<5)(g:GoodR w (many,b)): xb (stF w m rs) [.int many,TI b]=some (stF w m rs,.non):=by
 refine q8e (ρ':=[oS (stF w m rs),some (.fz (.int many)),some (.fz (TI b))]) ?_ rfl;exact jr (c:=false) (qcn (q6b (zm (qf (yb (qf (x_v rfl) (qf (x_v rfl) ql)) (by show 2<=1000000;decide)) (qf (q08 rfl rfl) ql)) rfl (qit hw g)) rfl)) rfl jk
theorem q6g(c:D)(rs:List Run)(hc:q5j c=some (rs.map runD))(hl:rs.length<=1000): wa [c]=some (.int (q4e rs)):=by
 have h:=xr (b:=bN 0) (c:=zu) (e:=eOp oIx (eV 0) (eC (.int 0))) (ρ :=[none]) runD (fun _=>true) (fun r=>D.int r.1) rs fun r _=>⟨_,rfl,rfl,fun _=>rfl⟩
 rw [g1g.mpr (fun _ _=>rfl)] at h;have h':(rs.map fun r=>D.int r.1)=(rs.map (·.1)).map D.int:=by rw [p6];rfl
 rw [h'] at h;have hl2:(rs.map runD).length<=lim:=by rw [gv];exact mi hl (by decide)
 exact xx (ρ':=_) (xa (x_call (qf (x_l (we (cap:=[none]) (vy (x_v rfl) hc) hl2 h)) ql) (q0m _)))
def q1j(rs:List Run)(b:List Int): List Run:=rs.filter fun r=>decide (r.2=b)
theorem like_eq(rs:List Run)(b:List Int)(hl:rs.length<=1000): q1p [.tup (rs.map runD),TI b]=some (.lst ((q1j rs b).map runD)):=by
 have h:=xr (b:=bN 0) (c:=zl oEq (eOp oIx (eV 0) (eC (.int 1))) (eV 1)) (e:=eV 0) (ρ :=[none,some (.fz (TI b))]) runD (fun r=>decide (r.2=b)) runD rs fun r _=>⟨_,rfl,zq (qu (x_v rfl) x_c rfl) (x_v rfl) (qcs r.2 b),fun _=>rfl⟩
 have hl2:(rs.map runD).length<=lim:=by rw [gv];exact mi hl (by decide)
 exact xx (ρ':=_) (xa (x_l (we (cap:=[none,some 1]) (vy (x_v rfl) rfl) hl2 h)))
theorem qzc(w:Nat)(m:D)(rs rs2:List Run)(hm:q8u m)(hl:rs2.length<=1000): q0c (stF w m rs) [.tup (rs2.map runD)]=some (stF w m rs,.int (ovr m rs2)):=by
 rcases hm with rfl|⟨M,rfl,_⟩
 ·exact xy (xa (ql4 (c:=true) (zq (q08 rfl rfl) x_c rfl) rfl x_c)) rfl
 ·have e:=q6g (.tup (rs2.map runD)) rs2 rfl hl
  refine xy (xa (ql5 (c:=false) (zq (q08 rfl rfl) x_c rfl) rfl (x_call (qf x_c (qf (qu (zm (qf (x_v rfl) ql) rfl e) (q08 rfl rfl) rfl) ql)) (q3e _ _)))) rfl
def vf(sel:Run->Bool)(r:Run)(left:Int): Int:=if sel r then(if left<r.1 then left else r.1) else 0
def part(sel:Run->Bool): List Run->Int->List Run×List Run
 | [],_=>([],[])
 | r :: rs,left=>((if 0<vf sel r left then [(vf sel r left,r.2)] else [])++(part sel rs (left-vf sel r left)).1,(if vf sel r left<r.1 then [(r.1-vf sel r left,r.2)] else [])++(part sel rs (left-vf sel r left)).2)
theorem qaw(sel:Run->Bool): ∀(rs:List Run) (left:Int),(part sel rs left).1.length<=rs.length/\(part sel rs left).2.length<=rs.length
 | [],_=>⟨m6 _,m6 _⟩
 | r :: rs,left=>by
  obtain⟨h1,h2⟩:=qaw sel rs (left-vf sel r left);rw [part,ng,ng,mv]
  constructor
  ·split <;> simp <;> omega
  ·split <;> simp <;> omega
abbrev qiu:FT:=bOr (zl (oIs false) (eV 2) (eC .non)) (zl oEq (eV 7) (eV 2))
theorem q9p(sel:Run->Bool)(ch:D)(ht:∀(r:Run) (x0 x1 x3 x4 x5 x6 x8:Option B),qiu [x0,x1,some (.fz ch),x3,x4,x5,x6,some (.fz (TI r.2)),x8]=some (sel r))(x0 x1:Option B): ∀(rs:List Run) (left:Int) (ga ka:List Run) (b6 b7 b8:Option B),ga.length+rs.length<=1000->ka.length+rs.length<=1000->∃l' b6' b7' b8',
  runFor (xj 2 (zh (bN 6) (zh (bN 7) xi))) q1m (rs.map runD) [x0,x1,some (.fz ch),some (.ow (ga.map runD)),some (.ow (ka.map runD)),some (.fz (.int left)),b6,b7,b8] =
   some (.nx,[x0,x1,some (.fz ch),some (.ow ((ga++(part sel rs left).1).map runD)),some (.ow ((ka++(part sel rs left).2).map runD)),some (.fz (.int l')),b6',b7',b8'])
 | [],left,ga,ka,b6,b7,b8,_,_=>⟨left,b6,b7,b8,by simp [runFor,part]⟩
 | r :: rs,left,ga,ka,b6,b7,b8,hg,hk=>by
  rw [mv] at hg hk;have e0:xj 2 (zh (bN 6) (zh (bN 7) xi)) (runD r) [x0,x1,some (.fz ch),some (.ow (ga.map runD)),some (.ow (ka.map runD)),some (.fz (.int left)),b6,b7,b8]=some [x0,x1,some (.fz ch),some (.ow (ga.map runD)),some (.ow (ka.map runD)),some (.fz (.int left)),some (.fz (.int r.1)),some (.fz (TI r.2)),b8]:=rfl;have e1:eIf qiu (qk oMin (qc (eV 6) (qc (eV 5) qh))) (eC (.int 0)) [x0,x1,some (.fz ch),some (.ow (ga.map runD)),some (.ow (ka.map runD)),some (.fz (.int left)),some (.fz (.int r.1)),some (.fz (TI r.2)),b8]=some (.int (vf sel r left)):=by
   have t:=ht r x0 x1 (some (.ow (ga.map runD))) (some (.ow (ka.map runD))) (some (.fz (.int left))) (some (.fz (.int r.1))) b8;unfold vf;cases hs:sel r with
   | true=>rw [hs] at t;exact ql4 t rfl (x_call (qf (x_v rfl) (qf (x_v rfl) ql)) (q6a _ _))
   | false=>rw [hs] at t;exact ql5 t rfl x_c
  have hg':(ga.map runD).length<lim:=by rw [gv];show _<1000000;omega
  have hk':(ka.map runD).length<lim:=by rw [gv];show _<1000000;omega
  generalize hgo:vf sel r left=g at e1;obtain⟨l',b6',b7',b8',er⟩:=q9p sel ch ht x0 x1 rs (left-g) (ga++if 0<g then [(g,r.2)] else []) (ka++if g<r.1 then [(r.1-g,r.2)] else []) (some (.fz (.int r.1))) (some (.fz (TI r.2))) (some (.fz (.int g)))
   (by rw [ng];split <;> simp <;> omega) (by rw [ng];split <;> simp <;> omega)
  have body:q1m [x0,x1,some (.fz ch),some (.ow (ga.map runD)),some (.ow (ka.map runD)),some (.fz (.int left)),some (.fz (.int r.1)),some (.fz (TI r.2)),b8]=some (.nx,[x0,x1,some (.fz ch),some (.ow ((ga++if 0<g then [(g,r.2)] else []).map runD)),some (.ow ((ka++if g<r.1 then [(r.1-g,r.2)] else []).map runD)),some (.fz (.int (left-g))),some (.fz (.int r.1)),some (.fz (TI r.2)),some (.fz (.int g))]):=by
   refine z7 (j7 e1) (z7 (j7 (qu (x_v rfl) (x_v rfl) rfl)) (z7 (ρ1:=[x0,x1,some (.fz ch),some (.ow ((ga++if 0<g then [(g,r.2)] else []).map runD)),some (.ow (ka.map runD)),some (.fz (.int (left-g))),some (.fz (.int r.1)),some (.fz (TI r.2)),some (.fz (.int g))]) ?_ ?_))
   ·by_cases hc:0<g
    ·rw [gw hc,pw]
     exact yi (zq (x_v rfl) x_c (vq _ _)) (mj hc) (q6d rfl (yb (qf (x_v rfl) (qf (x_v rfl) ql)) (by show 2<=1000000;decide)) hg')
    ·rw [mf hc,ny]
     exact jr (zq (x_v rfl) x_c (vq _ _)) (mm hc) jk
   ·by_cases hc:g<r.1
    ·rw [gw hc,show(ka++[(r.1-g,r.2)]).map runD=ka.map runD++[runD (r.1-g,r.2)] from by rw [pw];rfl]
     exact yi (zq (x_v rfl) (x_v rfl) (ke _ _)) (mj hc) (q6d rfl (yb (qf (qu (x_v rfl) (x_v rfl) rfl) (qf (x_v rfl) ql)) (by show 2<=1000000;decide)) hk')
    ·rw [mf hc,ny]
     exact jr (zq (x_v rfl) (x_v rfl) (ke _ _)) (mm hc) jk
  refine⟨l',b6',b7',b8',?_⟩;rw [m5,wd e0 body,er,part,hgo,td,td]
theorem qev(sel:Run->Bool)(ch:D)(ht:∀(r:Run) (x0 x1 x3 x4 x5 x6 x8:Option B),qiu [x0,x1,some (.fz ch),x3,x4,x5,x6,some (.fz (TI r.2)),x8]=some (sel r))(rs:List Run)(left:Int)(hl:rs.length<=900):
  q60 [.tup (rs.map runD),.int left,ch]=some (.tup [.tup ((part sel rs left).1.map runD),.tup ((part sel rs left).2.map runD)]):=by
 obtain⟨l',b6,b7,b8,e⟩:=q9p sel ch ht (some (.fz (.tup (rs.map runD)))) (some (.fz (.int left))) rs left [] [] none none none (by simp;omega) (by simp;omega);rw [uz,uz] at e;refine xx (ρ':=_) (z7 (qco (q1q ql (by decide))) (z7 (qco (q1q ql (by decide))) (z7 (j7 (x_v rfl)) (z7 (qfw (vy (x_v rfl) rfl) e) (qcp rfl (qcp rfl (xa (yb (qf (x_call (qf (x_v rfl) ql) rfl) (qf (x_call (qf (x_v rfl) ql) rfl) ql)) (by show 2<=1000000;decide)))))))))
theorem qvy(r:Run)(x0 x1 x3 x4 x5 x6 x8:Option B): qiu [x0,x1,some (.fz .non),x3,x4,x5,x6,some (.fz (TI r.2)),x8]=some ((fun _=>true) r):=qvq (c:=true) (zq (x_v rfl) x_c rfl) rfl
theorem z0t(b:List Int)(r:Run)(x0 x1 x3 x4 x5 x6 x8:Option B): qiu [x0,x1,some (.fz (TI b)),x3,x4,x5,x6,some (.fz (TI r.2)),x8]=some ((fun r:Run=>decide (r.2=b)) r):=
 qvr (c:=false) (zq (x_v rfl) x_c rfl) rfl (zq (x_v rfl) (x_v rfl) (qcs r.2 b))
end My
open PySem PyProof.Rows L2 DL
namespace My
open PySem PyProof.Rows L2 DL
def v3(rs:List Run): Prop:=rs.length<=1000/\∀r∈rs,(∀x∈r.2,0<=x/\x<100)/\r.2.length<=1000/\0<=r.1/\∃t,t<64/\r.2=qq 12 t
abbrev mrD(r:Run): D:=.tup [.int r.1,.int (mk r.2)]
theorem qew(w:Nat)(rs:List Run)(h:v3 rs): q62 [ve w rs]=some (.lst (rs.map mrD)):=by
 have hl':rs.length<=lim:=by have:=h.1;show _<=1000000;omega
 have c:zg (xj 2 (zh (bN 0) (zh (bN 1) xi))) zu (jd (qc (eV 0) (qc (qk (qt 1 [] q0l) (qc (eV 1) qh)) qh))) [none,none] (rs.map runD)=some (rs.map mrD):=by
  have hr:=h.2;clear hl' h
  induction rs with
  | nil=>rfl
  | cons r rs ih=>
   have ih':=ih fun x hx=>hr x (gz _ hx);have m:=qcr r.2 (hr r ma).1 (hr r ma).2.1;rw [m5];simp! [zg,ih',m,zu]
 (refine jw ?_;simp! [qag,zi,hl',c])
def cM(rs:List Run)(k:Nat): Int:=((rs.filter fun r=>decide (Builtin.bitAnd (mk r.2) (k:Int)=(k:Int))).map (·.1)).sum
theorem qvz(rs:List Run)(k:Nat): zg (xj 2 (zh (bN 0) (zh (bN 1) xi))) (zl oEq (eOp oBand (eV 1) (eV 2)) (eV 2)) (eV 0) [none,none,some (.fz (.int (k:Int)))] (rs.map mrD)
  = some (((rs.filter fun r=>decide (Builtin.bitAnd (mk r.2) (k:Int)=(k:Int))).map (·.1)).map D.int):=by
 induction rs with
 | nil=>rfl
 | cons r rs ih=>
  rw [m5]
  by_cases hb:Builtin.bitAnd (mk r.2) (k:Int)=(k:Int)
  ·simp! [zg,ih,qet,hb,p8,g56,uh]
  ·simp! [zg,ih,qet,hb,p8,g4r,g11,my]
theorem qct(rs:List Run)(h:v3 rs)(k:Nat)(hk:k<64): yg [.lst (rs.map mrD),TI (qq 12 k)]=some (.int (cM rs k)):=by
 have hl':rs.length<=lim:=by have:=h.1;show _<=1000000;omega
 have m:q0l [TI (qq 12 k)]=some (.int (k:Int)):=by
  rw [qcr _ (fun x hx=>?_) (mi (q6e 12 k) (by decide)),(q2i k hk).2];obtain⟨i,rfl,hi⟩:=qir hx;omega
 have c:=qvz rs k;have a:=q0m ((rs.filter fun r=>decide (Builtin.bitAnd (mk r.2) (k:Int)=(k:Int))).map (·.1))
 (refine jw ?_;simp! [q1g,zi,hl',m,c,a])
 rfl
abbrev pairD(rs:List Run)(k:Nat): D:=.tup [qw k,.int (cM rs k)]
theorem q9q(rs:List Run)(L:Int)(l:List Nat)(hl:l.length<=1000): wk [.lst (l.map (pairD rs)),.int L]=some (.tup ((l.filter fun k=>decide (L<=cM rs k)).map (pairD rs))):=by
 have hl':l.length<=lim:=by show _<=1000000;omega
 have c:zg (bN 0) (zl oGe (eOp oIx (eV 0) (eC (.int 1))) (eV 1)) (eV 0) [none,some (.fz (.int L))] (l.map (pairD rs))=some ((l.filter fun k=>decide (L<=cM rs k)).map (pairD rs)):=by
  clear hl hl'
  induction l with
  | nil=>rfl
  | cons k l ih=>
   rw [m5]
   by_cases hb:L<=cM rs k
   ·simp! [zg,ih,hb,p8,g56,uh]
   ·simp! [zg,ih,hb,p8,g4r,g11,my]
 (refine jw ?_;simp! [q2g,zi,hl',c,q0e])
theorem qiv(rs:List Run)(L:Int)(l:List Nat)(hl:l.length<=1000): wk [.tup (l.map (pairD rs)),.int L]=some (.tup ((l.filter fun k=>decide (L<=cM rs k)).map (pairD rs))):=by
 have hl':l.length<=lim:=by show _<=1000000;omega
 have c:zg (bN 0) (zl oGe (eOp oIx (eV 0) (eC (.int 1))) (eV 1)) (eV 0) [none,some (.fz (.int L))] (l.map (pairD rs))=some ((l.filter fun k=>decide (L<=cM rs k)).map (pairD rs)):=by
  clear hl hl'
  induction l with
  | nil=>rfl
  | cons k l ih=>
   rw [m5]
   by_cases hb:L<=cM rs k
   ·simp! [zg,ih,hb,p8,g56,uh]
   ·simp! [zg,ih,hb,p8,g4r,g11,my]
 (refine jw ?_;simp! [q2g,zi,hl',c,q0e])
def sub(k:Nat)(r:Run): Bool:=decide (Builtin.bitAnd (mk r.2) (k:Int)=(k:Int))
theorem qw0:∀a:Nat,a<16->∀b:Nat,b<16->q6f (q15 [qw a,qw b]) (sub a (0,qq 12 b))=true:=by decide +kernel
abbrev qtx:FT:=zl oEq (eL (zi (jm (eV 2)) [none,some 1] (bN 0) (zl (oIn true) (eV 0) (eV 1)) (eV 0))) (eL (ye qh))
theorem qw1:∀a:Nat,a<16->∀b:Nat,b<16->qtx [none,some (.fz (qw b)),some (.fz (qw a))]=some (sub a (0,qq 12 b)):=by decide +kernel
def Runs(w:Nat)(rs:List Run): Prop:=rs.length<=62/\∀r∈rs,GoodR w r
theorem q2j{w t:Nat}(hw:w<5)(h:t<2 ^ w): t<16:=gx h (g3l (by decide) (by omega:w<=4))
theorem sums{b:FB}{c:FT}{k:Nat}{s:Rho}{rs:List Run}(hb:∀r:Run,b (runD r) (none :: none :: s)=some (some (.fz (.int r.1)) :: some (.fz (TI r.2)) :: s))(hc:∀r∈rs,c (some (.fz (.int r.1)) :: some (.fz (TI r.2)) :: s)=some (sub k r)): zg b c (eV 0) (none :: none :: s) (rs.map runD)=some (((rs.filter (sub k)).map (·.1)).map D.int):=by
 have h:=xr (b:=b) (c:=c) (e:=eV 0) (ρ :=none :: none :: s) runD (sub k) (fun r=>D.int r.1) rs fun r hr=>⟨_,hb r,hc r hr,fun _=>rfl⟩
 rw [h,p6];rfl
theorem q3f{w:Nat}{rs:List Run}(hw:w<5)(h:Runs w rs){k:Nat}(hk:k<16): kc [.lst (rs.map runD),qw k]=some (.int (cM rs k)):=by
 have hl2:(rs.map runD).length<=lim:=by rw [gv];exact mi h.1 (by decide)
 have c:=sums (b:=xj 2 (zh (bN 0) (zh (bN 1) xi))) (c:=qtx) (k:=k) (s:=[some (.fz (qw k))]) (rs:=rs) (fun _=>rfl) fun r hr=>by
  obtain⟨t,ht,e⟩:=(h.2 r hr).b;have:=qw1 k hk t (q2j hw ht);unfold sub at this ⊢;rw [e];exact this
 exact xx (ρ':=_) (xa (x_call (qf (x_l (we (cap:=[none,none,some 1]) (vy (x_v rfl) rfl) hl2 c)) ql) (q0m _)))
theorem count_eq{w:Nat}{rs:List Run}(hw:w<5)(h:Runs w rs){k:Nat}(hk:k<16): qdw [ve w rs,qw k]=some (.int (cM rs k)):=by
 have hl2:(rs.map runD).length<=lim:=by rw [gv];exact mi h.1 (by decide)
 have c:=sums (b:=xj 2 (zh (bN 0) (zh (bN 1) xi))) (c:=bT (qk (qt 2 [] q15) (qc (eV 2) (qc (eV 1) qh)))) (k:=k) (s:=[some (.fz (qw k))]) (rs:=rs) (fun _=>rfl) fun r hr=>by
  obtain⟨t,ht,e⟩:=(h.2 r hr).b;have:=qe3 (qw0 k hk t (q2j hw ht));unfold sub at this ⊢;rw [e];exact q6b (zm (qf (x_v rfl) (qf (x_v rfl) ql)) rfl this) rfl
 exact xx (ρ':=_) (xa (x_call (qf (x_l (we (cap:=[none,none,some 1]) (vy (qu (x_v rfl) x_c rfl) rfl) hl2 c)) ql) (q0m _)))
theorem qw2{w:Nat}(hw:w<5){rs:List Run}(h:Runs w rs): v3 rs:=⟨by have:=h.1;omega,fun r hr=>by
 have g:=h.2 r hr;obtain⟨t,ht,e⟩:=g.b;rw [e];refine⟨fun x hx=>?_,mi (q6e _ _) (by decide),by have:=g.lo;omega,t,gx (q2j hw ht) (by decide),rfl⟩;obtain⟨i,rfl,hi⟩:=qir hx;omega⟩
abbrev kh:Run->Bool:=fun _=>true
abbrev q4f(b:List Int): Run->Bool:=fun r=>decide (r.2=b)
theorem qzd{w:Nat}{m:D}{many:Int}{rs:List Run}{b:List Int}(hw:w<5)(hm:q8u m)(hl:rs.length<200)(g:GoodR w (many,b)):
  q1n (stF w m rs) [.int many,TI b]=some (stF w m (part kh (rs++[(many,b)]) (ovr m (rs++[(many,b)]))).2,.tup ((part kh (rs++[(many,b)]) (ovr m (rs++[(many,b)]))).1.map runD)):=by
 have e1:=qav (m:=m) (rs:=rs) hw g;have hl2:(rs++[(many,b)]).length<=900:=by rw [ng];simp;omega
 have e2:=qzc w m rs (rs++[(many,b)]) hm (by omega);have e3:=qev kh .non qvy (rs++[(many,b)]) (ovr m (rs++[(many,b)])) hl2;generalize hp:part kh (rs++[(many,b)]) (ovr m (rs++[(many,b)]))=P at e3 ⊢;have hx:rs.map runD++[runD (many,b)]=(rs++[(many,b)]).map runD:=by rw [pw];rfl
 have e4:zw (.tup (rs.map runD)) (.tup [runD (many,b)])=some (.tup ((rs++[(many,b)]).map runD)):=by
  rw [q8c _ _ (by rw [gv];simp;omega),hx]
 have hge:qk yo (qc (wo "Store" 0 "runs") qh) [oS (stF w m rs),some (.fz (.int many)),some (.fz (TI b)),none,none]=some (.int (rs.length:Int)):=by
  refine x_call (qf (q08 rfl rfl) ql) ?_;rw [qmr,gv]
 refine xy (ρ':=[oS (stF w m P.2),some (.fz (.int many)),some (.fz (TI b)),some (.fz (.tup ((rs++[(many,b)]).map runD))),some (.fz (.tup [.tup (P.1.map runD),.tup (P.2.map runD)]))]) ?_ rfl;refine z7 (ρ1:=[oS (stF w m rs),some (.fz (.int many)),some (.fz (TI b)),none,none]) (q58 (kr rfl (qf (x_v rfl) (qf (x_v rfl) ql)) rfl rfl e1)) ?_;refine z7 (jr (zq hge x_c (ql2 _ _)) (mm (by omega)) jk) ?_;refine z7 (ρ1:=[oS (stF w m rs),some (.fz (.int many)),some (.fz (TI b)),some (.fz (.tup ((rs++[(many,b)]).map runD))),none]) (j7 (qu (q08 rfl rfl) (yb (qf (yb (qf (x_v rfl) (qf (x_v rfl) ql)) (by show 2<=1000000;decide)) ql) (by show 1<=1000000;decide)) e4)) ?_;refine z7 (ρ1:=[oS (stF w m rs),some (.fz (.int many)),some (.fz (TI b)),some (.fz (.tup ((rs++[(many,b)]).map runD))),some (.fz (.tup [.tup (P.1.map runD),.tup (P.2.map runD)]))]) (qzb (qe1 (q3d (qat (x_v rfl)) (q3d (kr rfl (qf (x_v rfl) ql) rfl rfl e2) (qfx ql))) rfl e3)) ?_;refine z7 (ρ1:=[oS (stF w m P.2),some (.fz (.int many)),some (.fz (TI b)),some (.fz (.tup ((rs++[(many,b)]).map runD))),some (.fz (.tup [.tup (P.1.map runD),.tup (P.2.map runD)]))]) (q8d (fs:=stF w m rs) (qu (x_v rfl) x_c rfl) rfl (by show 3<100;decide)) ?_;exact xa (qu (x_v rfl) x_c rfl)
def there(rs:List Run)(b:List Int): Int:=q4e (q1j rs b)
theorem qw3{w:Nat}{m:D}{many:Int}{rs:List Run}{b:List Int}(hw:w<5)(hl:rs.length<200)(g:GoodR w (many,b))(ht:many<=there rs b):
  q0z (stF w m rs) [.int many,TI b]=some (stF w m (part (q4f b) rs many).2,.non):=by
 have e1:=qav (m:=m) (rs:=rs) hw g;have e2:=like_eq rs b (by omega);have hll:(q1j rs b).length<=1000:=mi (nt _ _) (by omega);have e3:=q6g (.lst ((q1j rs b).map runD)) (q1j rs b) rfl hll;have e4:=qev (q4f b) (TI b) (z0t b) rs many (by omega);generalize hp:part (q4f b) rs many=P at e4 ⊢;refine q8e (ρ':=[oS (stF w m P.2),some (.fz (.int many)),some (.fz (TI b)),some (.fz (.int (there rs b)))]) ?_ rfl;refine z7 (ρ1:=[oS (stF w m rs),some (.fz (.int many)),some (.fz (TI b)),none]) (q58 (kr rfl (qf (x_v rfl) (qf (x_v rfl) ql)) rfl rfl e1)) ?_;refine z7 (ρ1:=[oS (stF w m rs),some (.fz (.int many)),some (.fz (TI b)),some (.fz (.int (there rs b)))]) (j7 (zm (qf (zm (qf (q08 rfl rfl) (qf (x_v rfl) ql)) rfl e2) ql) rfl e3)) ?_;refine z7 (jr (zq (x_v rfl) (x_v rfl) (ke _ _)) (mm (by omega)) jk) ?_;exact q8d (fs:=stF w m rs) (qu (zm (qf (q08 rfl rfl) (qf (x_v rfl) (qf (x_v rfl) ql))) rfl e4) x_c rfl) rfl (by show 3<100;decide)
theorem qcu(b:List Int)(x0:Option B): ∀(rs:List Run) (left:Int) (ka:List Run) (b4 b5 b6:Option B),ka.length+rs.length<=1000->∃l' b4' b5' b6',
  runFor (xj 2 (zh (bN 4) (zh (bN 5) xi))) wj (rs.map runD) [x0,some (.fz (.int left)),some (.fz (TI b)),some (.ow (ka.map runD)),b4,b5,b6] =
   some (.nx,[x0,some (.fz (.int l')),some (.fz (TI b)),some (.ow ((ka++(part (q4f b) rs left).2).map runD)),b4',b5',b6'])
 | [],left,ka,b4,b5,b6,_=>⟨left,b4,b5,b6,by simp [runFor,part]⟩
 | r :: rs,left,ka,b4,b5,b6,hk=>by
  rw [mv] at hk;have e0:xj 2 (zh (bN 4) (zh (bN 5) xi)) (runD r) [x0,some (.fz (.int left)),some (.fz (TI b)),some (.ow (ka.map runD)),b4,b5,b6]=some [x0,some (.fz (.int left)),some (.fz (TI b)),some (.ow (ka.map runD)),some (.fz (.int r.1)),some (.fz (TI r.2)),b6]:=rfl;have hk':(ka.map runD).length<lim:=by rw [gv];show _<1000000;omega
  have hg:∃g,vf (q4f b) r left=g/\qz (zj 6 (eC (.int 0))) (sIf (zl oEq (eV 5) (eV 2)) (zj 6 (qk oMin (qc (eV 4) (qc (eV 1) qh)))) j9) [x0,some (.fz (.int left)),some (.fz (TI b)),some (.ow (ka.map runD)),some (.fz (.int r.1)),some (.fz (TI r.2)),b6]=some (.nx,[x0,some (.fz (.int left)),some (.fz (TI b)),some (.ow (ka.map runD)),some (.fz (.int r.1)),some (.fz (TI r.2)),some (.fz (.int g))]):=by
   refine⟨_,rfl,z7 (ρ1:=[x0,some (.fz (.int left)),some (.fz (TI b)),some (.ow (ka.map runD)),some (.fz (.int r.1)),some (.fz (TI r.2)),some (.fz (.int 0))]) rfl ?_⟩;unfold vf q4f
   by_cases hs:r.2=b
   ·rw [mj hs,gw rfl]
    exact yi (zq (x_v rfl) (x_v rfl) (qcs r.2 b)) (mj hs) (j7 (x_call (qf (x_v rfl) (qf (x_v rfl) ql)) (q6a _ _)))
   ·rw [mm hs,mf gy]
    exact jr (zq (x_v rfl) (x_v rfl) (qcs r.2 b)) (mm hs) jk
  obtain⟨g,hgo,eg⟩:=hg;obtain⟨l',b4',b5',b6',er⟩:=qcu b x0 rs (left-g) (ka++if g<r.1 then [(r.1-g,r.2)] else []) (some (.fz (.int r.1))) (some (.fz (TI r.2))) (some (.fz (.int g))) (by rw [ng];split <;> simp <;> omega);have body:wj [x0,some (.fz (.int left)),some (.fz (TI b)),some (.ow (ka.map runD)),some (.fz (.int r.1)),some (.fz (TI r.2)),b6]=some (.nx,[x0,some (.fz (.int (left-g))),some (.fz (TI b)),some (.ow ((ka++if g<r.1 then [(r.1-g,r.2)] else []).map runD)),some (.fz (.int r.1)),some (.fz (TI r.2)),some (.fz (.int g))]):=by
   have sq:∀ {u v z:FS} {ρ ρ1:Rho},qz u v ρ = some (.nx, ρ1)->qz u (qz v z) ρ = z ρ1:=by
    intro u v z ρ ρ1 h;unfold qz at h ⊢;cases hu:u ρ with
    | none=>rw [hu] at h;cases h
    | some p=>
     obtain⟨fl, ρ2⟩:=p;rw [hu,gj] at h;rw [gj];cases fl <;> dsimp only at h ⊢ <;> first|(rw [h];rfl)|(injection h with h;injection h with h1 h2;cases h1)
   refine(sq eg).trans ?_;refine z7 (j7 (qu (x_v rfl) (x_v rfl) rfl)) ?_
   by_cases hc:g<r.1
   ·rw [gw hc,pw]
    exact yi (zq (x_v rfl) (x_v rfl) (vq _ _)) (mj hc) (q6d rfl (yb (qf (qu (x_v rfl) (x_v rfl) rfl) (qf (x_v rfl) ql)) (by show 2<=1000000;decide)) hk')
   ·rw [mf hc,ny]
    exact jr (zq (x_v rfl) (x_v rfl) (vq _ _)) (mm hc) jk
  refine⟨l',b4',b5',b6',?_⟩;rw [m5,wd e0 body,er,part,hgo,td]
theorem qss(rs:List Run)(many:Int)(b:List Int)(hl:rs.length<=900): q4b [.lst (rs.map runD),.int many,TI b]=some (.lst ((part (q4f b) rs many).2.map runD)):=by
 obtain⟨l',b4,b5,b6,e⟩:=qcu b (some (.fz (.lst (rs.map runD)))) rs many [] none none none (by simp;omega);rw [uz] at e;exact xx (ρ':=_) (z7 (qco (q1q ql (by decide))) (z7 (qfw (vy (x_v rfl) rfl) e) (qcp rfl (xa (x_v rfl)))))
theorem qst{r:Run}(h:1<=r.1)(ov:Int): (if 0<(if ov<r.1 then ov else r.1) then(if ov<r.1 then ov else r.1) else 0)=vf kh r (if 0<ov then ov else 0):=by
 unfold vf kh;rw [gw rfl]
 split <;> split <;> (try split) <;> (try split) <;> omega
theorem qex(x0 x1:Option B): ∀(rs:List Run),(∀r∈rs,1<=r.1)->∀(ov:Int) (ka:List Run) (b5 b6 b7:Option B),ka.length+rs.length<=1000->∃l' b5' b6' b7',
  runFor (xj 2 (zh (bN 4) (zh (bN 5) xi))) kj (rs.map runD) [x0,x1,some (.fz (.int ov)),some (.ow (ka.map runD)),b5,b6,b7] =
   some (.nx,[x0,x1,some (.fz (.int l')),some (.ow ((ka++(part kh rs (if 0<ov then ov else 0)).2).map runD)),b5',b6',b7'])
 | [],_,ov,ka,b5,b6,b7,_=>⟨ov,b5,b6,b7,by simp [runFor,part]⟩
 | r :: rs,hp,ov,ka,b5,b6,b7,hk=>by
  rw [mv] at hk;have h1:=hp r ma;have e0:xj 2 (zh (bN 4) (zh (bN 5) xi)) (runD r) [x0,x1,some (.fz (.int ov)),some (.ow (ka.map runD)),b5,b6,b7]=some [x0,x1,some (.fz (.int ov)),some (.ow (ka.map runD)),some (.fz (.int r.1)),some (.fz (TI r.2)),b7]:=rfl;have e1:qk oMax (qc (eC (.int 0)) (qc (qk oMin (qc (eV 4) (qc (eV 2) qh))) qh)) [x0,x1,some (.fz (.int ov)),some (.ow (ka.map runD)),some (.fz (.int r.1)),some (.fz (TI r.2)),b7]=some (.int (vf kh r (if 0<ov then ov else 0))):=by
   rw [<- qst h1 ov];exact x_call (qf x_c (qf (x_call (qf (x_v rfl) (qf (x_v rfl) ql)) (q6a _ _)) ql)) (q3e _ _)
  have hk':(ka.map runD).length<lim:=by rw [gv];show _<1000000;omega
  have hnx:(if 0<ov-vf kh r (if 0<ov then ov else 0) then ov-vf kh r (if 0<ov then ov else 0) else 0)=(if 0<ov then ov else 0)-vf kh r (if 0<ov then ov else 0):=by
   unfold vf kh;rw [gw rfl]
   split <;> split <;> (try split) <;> (try split) <;> omega
  generalize hgo:vf kh r (if 0<ov then ov else 0)=g at e1 hnx;obtain⟨l',b5',b6',b7',er⟩:=qex x0 x1 rs (fun x hx=>hp x (gz _ hx)) (ov-g) (ka++if g<r.1 then [(r.1-g,r.2)] else []) (some (.fz (.int r.1))) (some (.fz (TI r.2))) (some (.fz (.int g))) (by rw [ng];split <;> simp <;> omega);have body:kj [x0,x1,some (.fz (.int ov)),some (.ow (ka.map runD)),some (.fz (.int r.1)),some (.fz (TI r.2)),b7]=some (.nx,[x0,x1,some (.fz (.int (ov-g))),some (.ow ((ka++if g<r.1 then [(r.1-g,r.2)] else []).map runD)),some (.fz (.int r.1)),some (.fz (TI r.2)),some (.fz (.int g))]):=by
   refine z7 (j7 e1) (z7 (j7 (qu (x_v rfl) (x_v rfl) rfl)) ?_)
   by_cases hc:g<r.1
   ·rw [gw hc,pw]
    exact yi (zq (x_v rfl) (x_v rfl) (vq _ _)) (mj hc) (q6d rfl (yb (qf (qu (x_v rfl) (x_v rfl) rfl) (qf (x_v rfl) ql)) (by show 2<=1000000;decide)) hk')
   ·rw [mf hc,ny]
    exact jr (zq (x_v rfl) (x_v rfl) (vq _ _)) (mm hc) jk
  refine⟨l',b5',b6',b7',?_⟩;rw [m5,wd e0 body,er,part,hgo,hnx,td]
theorem qsu(rs:List Run): zg (xj 2 (zh (bN 0) (zh (bN 1) xi))) zu (eV 0) [none,none] (rs.map runD)=some ((rs.map (·.1)).map D.int):=by
 have h:=xr (b:=xj 2 (zh (bN 0) (zh (bN 1) xi))) (c:=zu) (e:=eV 0) (ρ :=[none,none]) runD (fun _=>true) (fun r=>D.int r.1) rs fun r _=>⟨_,rfl,rfl,fun _=>rfl⟩
 rw [g1g.mpr (fun _ _=>rfl)] at h;rw [h,p6];rfl
theorem qpl{rs:List Run}{m:D}(hm:q8u m)(hp:∀r∈rs,1<=r.1)(hl:rs.length<=900): q11 [.lst (rs.map runD),m]=some (.lst ((part kh rs (ovr m rs)).2.map runD)):=by
 have hl2:(rs.map runD).length<=lim:=by rw [gv];exact mi hl (by decide)
 have key:∀ov:Int,(if 0<ov then ov else 0)=ovr m rs->sIf (zl (oIs true) (eV 1) (eC .non)) (zj 2 (eOp oSub (qk q43 (qc (eL (zi (jm (eV 0)) [none,none] (xj 2 (zh (bN 0) (zh (bN 1) xi))) zu (eV 0))) qh)) (eV 1))) j9 [some (.fz (.lst (rs.map runD))),some (.fz m),some (.fz (.int (-1))),none,none,none,none]=some (.nx,[some (.fz (.lst (rs.map runD))),some (.fz m),some (.fz (.int ov)),none,none,none,none])->q11 [.lst (rs.map runD),m]=some (.lst ((part kh rs (ovr m rs)).2.map runD)):=fun ov ho hs=>by
  obtain⟨l',b5,b6,b7,e⟩:=qex (some (.fz (.lst (rs.map runD)))) (some (.fz m)) rs hp ov [] none none none (by simp;omega);rw [uz,ho] at e;exact xx (ρ':=_) (z7 (j7 (qz7 x_c rfl)) (z7 hs (z7 (qco (q1q ql (by decide))) (z7 (qfw (vy (x_v rfl) rfl) e) (qcp rfl (xa (x_v rfl)))))))
 rcases hm with rfl|⟨M,rfl,_⟩
 ·exact key (-1) rfl (jr (c:=false) (zq (x_v rfl) x_c rfl) rfl jk)
 ·exact key (q4e rs-M) rfl (yi (c:=true) (zq (x_v rfl) x_c rfl) rfl (j7 (qu (x_call (qf (x_l (we (cap:=[none,none]) (vy (x_v rfl) rfl) hl2 (qsu rs))) ql) (q0m _)) (x_v rfl) rfl)))
theorem qze(m:D)(rs:List Run): 0<=ovr m rs:=by
 unfold ovr
 split
 ·split <;> omega
 ·omega
theorem qw4{sel:Run->Bool}{r:Run}{left:Int}(h:1<=r.1)(h0:0<=left): 0<=vf sel r left/\vf sel r left<=left/\vf sel r left<=r.1:=by
 unfold vf
 split
 ·split <;> omega
 ·omega
theorem q8f{w:Nat}(sel:Run->Bool): ∀(rs:List Run) (left:Int),(∀r∈rs,GoodR w r)->0<=left->∀r∈(part sel rs left).2,GoodR w r
 | [],_,_,_,r,hr=>by cases hr
 | r0 :: rs,left,hg,h0,r,hr=>by
  have g0:=hg r0 ma;obtain⟨q1,q2,q3⟩:=qw4 (sel:=sel) g0.lo h0;rw [part] at hr;rcases ud.mp hr with hr|hr
  ·split at hr
   ·cases g00.mp hr
    have:=g0.hi;exact⟨by show 1<=r0.1-_;omega,by show r0.1-_<=_;omega,g0.b⟩
   ·cases hr
  ·exact q8f sel rs _ (fun x hx=>hg x (gz _ hx)) (by omega) r hr
theorem qey(r:Run)(rs:List Run): q4e (r :: rs)=r.1+q4e rs:=by unfold q4e;rw [m5,g45]
theorem qe4:∀(rs:List Run),(∀r∈rs,1<=r.1)->0<=q4e rs
 | [],_=>Int.le_refl _
 | r :: rs,h=>by
  have:=qe4 rs fun x hx=>h x (gz _ hx);have:=h r ma;rw [qey];omega
end My
open PySem PyProof.Rows L2 DL
namespace My
open PySem PyProof.Rows L2 DL
def firstOf(b:List Int): Int:=match b.getLast? with
 | some x=>x+1
 | none=>0
theorem qpm:∀i:Nat,i<6->∀m:Nat,m<2 ^ i->qq 12 (m+2 ^ i)=qq 12 m++[(i:Int)]:=by decide +kernel
theorem qw5(b:List Int)(x:Int): oIx (TI (b++[x])) (.int (-1))=some (.int x):=by
 rw [qza,qsm,pw,m5,g0u,List.getLast?_append];simp
theorem qw6{fa:FA}{ρ : Rho}{i j:Int}(ha:fa ρ = some [.int i,.int j])(h1 : -(2 ^ 62)<=i)(h2:i<2 ^ 62)(h3 : -(2 ^ 62)<=j)(h4:j<2 ^ 62): iR2 fa ρ = some (zy i (j-i).toNat):=by
 unfold iR2;rw [ha,gj];dsimp only;rw [mj h1,mj h2,mj h3,mj h4]
 rfl
theorem qjz(b:List Int)(w s:Nat)(hs:firstOf b=(s:Int))(hb:b.length<=100)(hw:w<=100)(hs2:s<=100): km [TI b,.int (w:Int)]=some (.lst ((List.range (w-s)).map fun i:Nat=>TI (b++[((s+i:Nat):Int)]))):=by
 have e:eIf (bT (eV 0)) (eOp zw (eOp oIx (eV 0) (eUn qa2 (eC (.int 1)))) (eC (.int 1))) (eC (.int 0)) [some (.fz (TI b)),some (.fz (.int (w:Int))),none]=some (.int (s:Int)):=by
  rw [<- hs];cases b with
  | nil=>rfl
  | cons x r=>
   have hx:∃b' y,x :: r=b'++[y]:=⟨(x :: r).dropLast,(x :: r).getLast (by simp),(List.dropLast_concat_getLast (by simp)).symm⟩
   obtain⟨b',y,e⟩:=hx;have ht:bT (eV 0) [some (.fz (TI (x :: r))),some (.fz (.int (w:Int))),none]=some true:=rfl;unfold eIf;rw [ht,gj,gw rfl,e];have hf:firstOf (b'++[y])=y+1:=by unfold firstOf;rw [List.getLast?_append];simp
   rw [hf];exact qu (qu (x_v rfl) (qz7 x_c rfl) (qw5 b' y)) x_c rfl
 have r:iR2 (qc (eV 2) (qc (eV 1) qh)) [some (.fz (TI b)),some (.fz (.int (w:Int))),some (.fz (.int (s:Int)))]=some (zy (s:Int) (w-s)):=by
  rw [qw6 (qf (x_v rfl) (qf (x_v rfl) ql)) (by omega) (by omega) (by omega) (by omega),show((w:Int)-(s:Int)).toNat=w-s by omega]
 have hl:(zy (s:Int) (w-s)).length<=lim:=by rw [qcm];show _<=1000000;omega
 have c:zg (bN 0) zu (eOp zw (eV 1) (jd (qc (eV 0) qh))) [none,some (.fz (TI b))] (zy (s:Int) (w-s))=some ((List.range (w-s)).map fun i:Nat=>TI (b++[((s+i:Nat):Int)])):=by
  have:=q4d (b:=bN 0) (f:=eOp zw (eV 1) (jd (qc (eV 0) qh))) (ρ :=[none,some (.fz (TI b))]) (fun d=>match d with | .int x=>TI (b++[x])|_=>.non) (ds:=zy (s:Int) (w-s)) fun d hd=>by
   simp only [zy,p7] at hd;obtain⟨i,_,rfl⟩:=hd;refine⟨_,rfl,qu (x_v rfl) (yb (qf (x_v rfl) ql) (by show 1<=1000000;decide)) ?_⟩;rw [q8c _ _ (by rw [gv];simp;omega)];simp only [TI,pw,m5,g0u]
  rw [this,zy,p6]
  congr 1
 have lc:zi (iR2 (qc (eV 2) (qc (eV 1) qh))) [none,some 0] (bN 0) zu (eOp zw (eV 1) (jd (qc (eV 0) qh))) [some (.fz (TI b)),some (.fz (.int (w:Int))),some (.fz (.int (s:Int)))]=some ((List.range (w-s)).map fun i:Nat=>TI (b++[((s+i:Nat):Int)])):=by
  unfold zi;rw [r,gj,gw hl];exact c
 have k1:zj 2 (eIf (bT (eV 0)) (eOp zw (eOp oIx (eV 0) (eUn qa2 (eC (.int 1)))) (eC (.int 1))) (eC (.int 0))) [some (.fz (TI b)),some (.fz (.int (w:Int))),none]=some (.nx,[some (.fz (TI b)),some (.fz (.int (w:Int))),some (.fz (.int (s:Int)))]):=by
  unfold zj;rw [e]
  rfl
 have k2:ze (eL (zi (iR2 (qc (eV 2) (qc (eV 1) qh))) [none,some 0] (bN 0) zu (eOp zw (eV 1) (jd (qc (eV 0) qh))))) [some (.fz (TI b)),some (.fz (.int (w:Int))),some (.fz (.int (s:Int)))]=some (.rt (.lst ((List.range (w-s)).map fun i:Nat=>TI (b++[((s+i:Nat):Int)]))),[some (.fz (TI b)),some (.fz (.int (w:Int))),some (.fz (.int (s:Int)))]):=by
  unfold ze;rw [x_l lc]
  rfl
 have k3:kl [some (.fz (TI b)),some (.fz (.int (w:Int))),none]=some (.rt (.lst ((List.range (w-s)).map fun i:Nat=>TI (b++[((s+i:Nat):Int)]))),[some (.fz (TI b)),some (.fz (.int (w:Int))),some (.fz (.int (s:Int)))]):=by
  unfold kl qz;simp (config:={implicitDefEqProofs:=false}) only [k1,gj,k2]
 refine jw ?_;have k4:([TI b,.int (w:Int)].map (fun d=>some (B.fz d))++List.replicate (3 - [TI b,D.int (w:Int)].length) none:Rho)=[some (.fz (TI b)),some (.fz (.int (w:Int))),none]:=rfl;rw [k4,k3,mx]
def firstN(k:Nat): Nat:=((List.range 7).find? fun s=>decide (k<2 ^ s)).getD 6
def k6(w k:Nat): List Nat:=(List.range (w-firstN k)).map fun i=>k+2 ^ (firstN k+i)
def xl(k:Nat): List Nat:=((List.range 6).filter fun j=>bit k j).map fun j=>k-2 ^ j
theorem qsv:∀k:Nat,k<64->firstOf (qq 12 k)=(firstN k:Int)/\k<2 ^ firstN k/\firstN k<=6:=by decide +kernel
theorem qw7(w k:Nat)(hw:w<=6)(hk:k<64): km [qw k,.int (w:Int)]=some (.lst ((k6 w k).map qw)):=by
 obtain⟨h1,h2,h3⟩:=qsv k hk;rw [qjz (qq 12 k) w (firstN k) h1 (mi (q6e 12 k) (by decide)) (by omega) (by omega)];unfold k6;rw [p6]
 congr 2
 refine g3o fun i hi=>?_;have hi':=g0n.mp hi;have h4:k<2 ^ (firstN k+i):=gx h2 (g3l (by decide) (by omega));show TI _=TI (qq 12 (k+2 ^ (firstN k+i)));rw [qpm (firstN k+i) (by omega) k h4]
theorem qmu:∀k:Nat,k<64->((List.range (qq 12 k).length).map fun p=>(qq 12 k).take p++(qq 12 k).drop (p+1))=(xl k).map (qq 12):=by decide +kernel
theorem qsw(k:Nat)(hk:k<64): yx [qw k]=some (.lst ((xl k).map qw)):=by
 have hb:=q6e 12 k;have c:zg (bN 0) zu (eOp zw (eSl (eV 1) oNo (oAt (eV 0))) (eSl (eV 1) (oAt (eOp zw (eV 0) (eC (.int 1)))) oNo)) [none,some (.fz (qw k))] (zy 0 (qq 12 k).length) =
   some ((xl k).map qw):=by
  have:=q4d (b:=bN 0) (f:=eOp zw (eSl (eV 1) oNo (oAt (eV 0))) (eSl (eV 1) (oAt (eOp zw (eV 0) (eC (.int 1)))) oNo)) (ρ :=[none,some (.fz (qw k))]) (fun d=>match d with | .int x=>TI ((qq 12 k).take x.toNat++(qq 12 k).drop (x.toNat+1))|_=>.non) (ds:=zy 0 (qq 12 k).length) fun d hd=>by
   rw [ql6] at hd;obtain⟨i,hi,rfl⟩:=p7.mp hd;have s1:oSl (qw k) none (some (i:Int))=some (TI ((qq 12 k).take i)):=by
    show some (D.tup (DL.cutD ((qq 12 k).map D.int) none (some (i:Int))))=_;rw [qjx (α :=D), <- List.map_take]
   have s2:oSl (qw k) (some ((i+1:Nat):Int)) none=some (TI ((qq 12 k).drop (i+1))):=by
    show some (D.tup (DL.cutD ((qq 12 k).map D.int) (some ((i+1:Nat):Int)) none))=_;rw [qsn (α :=D), <- List.map_drop]
   have s3:zw (TI ((qq 12 k).take i)) (TI ((qq 12 k).drop (i+1)))=some (TI ((qq 12 k).take i++(qq 12 k).drop (i+1))):=by
    rw [q8c _ _ (by rw [gv,gv,u9,g31];omega), <- pw]
   refine⟨_,rfl,?_⟩;show eOp zw (eSl (eV 1) oNo (oAt (eV 0))) (eSl (eV 1) (oAt (eOp zw (eV 0) (eC (.int 1)))) oNo) [some (.fz (.int (i:Int))),some (.fz (qw k))]=some (TI ((qq 12 k).take (i:Int).toNat++(qq 12 k).drop ((i:Int).toNat+1)));rw [uq];have e1:(i:Int)+1=((i+1:Nat):Int):=by omega
   simp! [s1,e1,s2,s3]
  rw [this,ql6,p6];have hf:=ui (List.map TI) (qmu k hk);rw [p6,p6] at hf;exact ui some hf
 have hr:iR1 (qc (qk yo (qc (eV 0) qh)) qh) [some (.fz (qw k))]=some (zy 0 (qq 12 k).length):=by
  have ha:qc (qk yo (qc (eV 0) qh)) qh [some (.fz (qw k))]=some [.int ((qq 12 k).length:Int)]:=by
   refine qf (x_call (qf (x_v rfl) ql) ?_) ql;rw [qmr,gv]
  rw [ql3 _ _ _ ha (by omega) (by omega),uq]
 have hl:(zy 0 (qq 12 k).length).length<=lim:=by rw [qcm];show _<=1000000;omega
 (refine jw ?_;simp! [q0d,zi,hr,hl,c])
theorem q9r{A:List Nat}(hn:A.Nodup)(hA:∀k∈A,k<64): (A.map (qq 12)).Nodup:=by
 rw [List.Nodup,g2u];refine g4q (fun {a b} ha hb hne e=>hne (qiq a (hA a ha) b (hA b hb) e)) hn
theorem qez:∀A:List Nat,q2y (A.map fun k=>D.tup [qw k,.bl true])=some (A.map (qq 12),A.map fun _=>.bl true)
 | []=>rfl
 | k :: A=>by
  have hi:jq ((qq 12 k).map D.int)=some (qq 12 k):=kx _;rw [m5];show(jq ((qq 12 k).map D.int)).bind (fun q=>(q2y (A.map fun k=>D.tup [qw k,.bl true])).map fun p=>(q :: p.1,D.bl true :: p.2))=_;rw [hi,qez A]
  rfl
abbrev vc(A:List Nat): D:=.dtt (A.map (qq 12)) (A.map fun _=>.bl true)
theorem qmv(A:List Nat)(hn:A.Nodup)(hA:∀k∈A,k<64)(hl:A.length<=1000): qfr [.lst (A.map fun k=>D.tup [qw k,.bl true])]=some (vc A):=by
 show(q2y (A.map fun k=>D.tup [qw k,.bl true])).bind (fun p=>if p.1.Nodup/\(A.map fun k=>D.tup [qw k,.bl true]).length<=lim then some (D.dtt p.1 p.2) else none)=_;rw [qez];show(if(A.map (qq 12)).Nodup/\_ then _ else _)=_;rw [gw ⟨q9r hn hA,by rw [gv];show _<=1000000;omega⟩]
theorem qsx(A:List Nat)(hA:∀k∈A,k<64)(m:Nat)(hm:m<64): q7m (qw m) (vc A)=some (.bl (decide (m∈A))):=by
 have hi:jq ((qq 12 m).map D.int)=some (qq 12 m):=kx _;show(jq ((qq 12 m).map D.int)).map (fun k=>D.bl (decide (k∈A.map (qq 12))))=_;rw [hi,mx]
 congr 2
 rw [g0d,tf,tf]
 constructor
 ·intro h
  obtain⟨a,ha,e⟩:=p7.mp h;exact qiq a (hA a ha) m hm e ▸ ha
 ·exact fun h=>g3p h
theorem qsy:∀k:Nat,k<64->∀m∈xl k,m<64:=by decide +kernel
def chk(A:List Nat)(l:Nat): Bool:=(xl l).all fun m=>decide (m∈A)
theorem qzf(A:List Nat)(hA:∀k∈A,k<64)(l:Nat)(hl:l<64)(x0 x1 x3 x4:Option B): qk q44 (qc (eL (zi (jm (qk (qt 1 [] yx) (qc (eV 5) qh))) [none,some 2] (bN 0) zu (eOp q7m (eV 0) (eV 1)))) qh)
  [x0,x1,some (.fz (vc A)),x3,x4,some (.fz (qw l))]=some (.bl (chk A l)):=by
 have f:=qsw l hl;have hlen:((xl l).map qw).length<=lim:=by
  rw [gv];unfold xl;rw [gv];exact mi (nt _ _) (by simp;decide)
 have c:zg (bN 0) zu (eOp q7m (eV 0) (eV 1)) [none,some (.fz (vc A))] ((xl l).map qw)=some (((xl l).map fun m=>decide (m∈A)).map D.bl):=by
  have hf:=qsy l hl;generalize xl l=q at hf;clear f hlen
  induction q with
  | nil=>rfl
  | cons m q ih=>
   have ih':=ih fun x hx=>hf x (gz _ hx);have hi:=qsx A hA m (hf m ma);rw [m5];simp! [zg,ih',hi,zu]
 have a:q44 [.lst (((xl l).map fun m=>decide (m∈A)).map D.bl)]=some (.bl (chk A l)):=by rw [qck,List.all_map];rfl
 rw [gv] at hlen;simp! [f,zi,hlen,c,a]
theorem qw8:∀w:Nat,w<7->∀k:Nat,k<64->∀l∈k6 w k,l<64:=by decide +kernel
theorem qsz:∀w:Nat,w<7->∀k:Nat,k<64->(k6 w k).length<=6:=by decide +kernel
theorem q4g(A:List Nat)(hA:∀k∈A,k<64)(x0 x1 x4:Option B): ∀(q acc:List Nat) (b5:Option B),(∀l∈q,l<64)->acc.length+q.length<=1000->∃b5',
  runFor (bN 5) yy (q.map qw) [x0,x1,some (.fz (vc A)),some (.ow (acc.map qw)),x4,b5]=some (.nx,[x0,x1,some (.fz (vc A)),some (.ow ((acc++q.filter (chk A)).map qw)),x4,b5'])
 | [],acc,b5,_,_=>⟨b5,by simp [runFor]⟩
 | l :: q,acc,b5,hq,hl=>by
  simp only [mv] at hl;have hla:acc.length<lim:=by show _<1000000;omega
  have ck:=qzf A hA l (hq l ma) x0 x1 (some (.ow (acc.map qw))) x4;have hq':∀x∈q,x<64:=fun x hx=>hq x (gz _ hx);have e0:bN 5 (qw l) [x0,x1,some (.fz (vc A)),some (.ow (acc.map qw)),x4,b5]=some [x0,x1,some (.fz (vc A)),some (.ow (acc.map qw)),x4,some (.fz (qw l))]:=by
   unfold bN
   rfl
  cases hc:chk A l with
  | true=>
   rw [hc] at ck;obtain⟨b5',ih⟩:=q4g A hA x0 x1 x4 q (acc++[l]) (some (.fz (qw l))) hq' (by simp;omega);have body:yy [x0,x1,some (.fz (vc A)),some (.ow (acc.map qw)),x4,some (.fz (qw l))]=some (.nx,[x0,x1,some (.fz (vc A)),some (.ow ((acc++[l]).map qw)),x4,some (.fz (qw l))]):=by
    unfold yy;refine yi (q6b ck rfl) rfl ?_;simp! [q5i,qtu,qtv,hla,pw]
   refine⟨b5',?_⟩;rw [m5,wd (b:=bN 5) e0 body,ih,p8,gw hc];simp
  | false=>
   rw [hc] at ck;obtain⟨b5',ih⟩:=q4g A hA x0 x1 x4 q acc (some (.fz (qw l))) hq' (by omega);have body:yy [x0,x1,some (.fz (vc A)),some (.ow (acc.map qw)),x4,some (.fz (qw l))]=some (.nx,[x0,x1,some (.fz (vc A)),some (.ow (acc.map qw)),x4,some (.fz (qw l))]):=by
    unfold yy;exact jr (q6b ck rfl) rfl jk
   refine⟨b5',?_⟩;rw [m5,wd (b:=bN 5) e0 body,ih,p8,mf (by rw [hc];exact gy)]
def qfy(w:Nat)(A:List Nat): List Nat:=A.flatMap fun s=>(k6 w s).filter (chk A)
theorem q9s(w:Nat)(hw:w<=6)(A:List Nat)(hA:∀k∈A,k<64)(x0:Option B): ∀(q acc:List Nat) (b4 b5:Option B),(∀l∈q,l<64)->acc.length+q.length*6<=1000->∃b4' b5',
  runFor (bN 4) q12 (q.map qw) [x0,some (.fz (.int (w:Int))),some (.fz (vc A)),some (.ow (acc.map qw)),b4,b5]=some (.nx,[x0,some (.fz (.int (w:Int))),some (.fz (vc A)),some (.ow ((acc++q.flatMap fun s=>(k6 w s).filter (chk A)).map qw)),b4',b5'])
 | [],acc,b4,b5,_,_=>⟨b4,b5,by simp [runFor]⟩
 | s :: q,acc,b4,b5,hq,hl=>by
  simp only [mv] at hl;have hs:=hq s ma;have m:=qw7 w s hw hs;have hml:=qsz w (by omega) s hs;obtain⟨c5,e⟩:=q4g A hA x0 (some (.fz (.int (w:Int)))) (some (.fz (qw s))) (k6 w s) acc b5 (qw8 w (by omega) s hs) (by omega);have hfl:((k6 w s).filter (chk A)).length<=6:=mi (nt _ _) hml;obtain⟨b4',b5',ih⟩:=q9s w hw A hA x0 q (acc++(k6 w s).filter (chk A)) (some (.fz (qw s))) c5 (fun x hx=>hq x (gz _ hx)) (by rw [ng];omega);have body:q12 [x0,some (.fz (.int (w:Int))),some (.fz (vc A)),some (.ow (acc.map qw)),some (.fz (qw s)),b5]=some (.nx,[x0,some (.fz (.int (w:Int))),some (.fz (vc A)),some (.ow ((acc++(k6 w s).filter (chk A)).map qw)),some (.fz (qw s)),c5]):=by
   simp! [q12,m,e]
  refine⟨b4',b5',?_⟩;rw [m5,wd (b:=bN 4) rfl body,ih,g0j,td]
theorem qt0(w:Nat)(hw:w<=6)(A:List Nat)(hn:A.Nodup)(hA:∀k∈A,k<64)(hl:A.length<=100): qdp [.lst (A.map qw),.int (w:Int)]=some (.lst ((qfy w A).map qw)):=by
 have hl':A.length<=lim:=by show _<=1000000;omega
 have c:zg (bN 0) zu (jd (qc (eV 0) (qc (eC (.bl true)) qh))) [none] (A.map qw)=some (A.map fun k=>D.tup [qw k,.bl true]):=by
  clear hl hl' hn hA
  induction A with
  | nil=>rfl
  | cons k A ih=>
   rw [m5];simp! [zg,ih,zu]
 have d:=qmv A hn hA (by omega);obtain⟨b4,b5,e⟩:=q9s w hw A hA (some (.fz (.lst (A.map qw)))) A [] none none hA (by simp;omega);simp only [g0u,uz] at e
 (refine jw ?_;simp! [qdo,zi,hl',c,d,e])
 rfl
end My
open PySem PyProof.Rows L2 DL
namespace My
open PySem PyProof.Rows L2 DL
theorem qax(p q:Run->Bool): ∀rs:List Run,(∀r∈rs,0<=r.1)->(∀r∈rs,p r=true->q r=true)->((rs.filter p).map (·.1)).sum<=((rs.filter q).map (·.1)).sum
 | [],_,_=>Int.le_refl _
 | r :: rs,h,hpq=>by
  have ih:=qax p q rs (fun x hx=>h x (gz _ hx)) fun x hx=>hpq x (gz _ hx);have h0:=h r ma;have h1:=hpq r ma;rw [p8,p8];cases hp:p r with
  | true=>
   rw [hp] at h1;rw [gw rfl,gw (h1 rfl),m5,m5,g45,g45];omega
  | false=>
   rw [mf gy]
   split
   ·rw [m5,g45];omega
   ·exact ih
def wm(rs:List Run)(L:Int)(k:Nat): Bool:=decide (L<=cM rs k)
theorem qpn:∀t:Nat,t<64->∀k:Nat,k<64->∀m∈xl k,t &&& k=k->t &&& m=m:=by decide +kernel
theorem z0u(rs:List Run)(h:v3 rs)(k:Nat)(hk:k<64)(m:Nat)(hm:m∈xl k): cM rs k<=cM rs m:=by
 unfold cM;refine qax _ _ rs (fun r hr=>(h.2 r hr).2.2.1) fun r hr hq=>?_;obtain⟨t,ht,e⟩:=(h.2 r hr).2.2.2;have e2:mk r.2=(t:Int):=by rw [e];exact(q2i t ht).2
 rw [tf,e2,qvw] at hq ⊢;have:=qpn t ht k hk m hm (by exact_mod_cast hq);rw [this]
theorem qf0(rs:List Run)(L:Int)(h:v3 rs)(k:Nat)(hk:k<64)(hp:wm rs L k=true): ∀m∈xl k,wm rs L m=true:=fun m hm=>by
 have:=z0u rs h k hk m hm;unfold wm at hp ⊢;rw [tf] at hp ⊢;omega
def cnd(rs:List Run)(L:Int)(l:Nat): Bool:=(xl l).all (wm rs L)
def lv(w:Nat): Nat->List Nat
 | 0=>[0]
 | d+1=>(lv w d).flatMap (k6 w)
def yj(w:Nat): List Nat:=(List.range (w+1)).flatMap (lv w)
theorem q1r:∀w:Nat,w<7->(∀k∈yj w,k<2 ^ w)/\(yj w).Nodup/\(yj w).length<=64:=by decide +kernel
theorem z0v{w:Nat}(hw:w<=6): 2 ^ w<=64:=mi (g3l (by decide) hw) (by decide)
theorem qiw{w:Nat}(hw:w<=6): ∀k∈yj w,k<64:=fun k hk=>gx ((q1r w (by omega)).1 k hk) (z0v hw)
def oft(w:Nat)(rs:List Run)(L:Int): List Nat:=(yj w).filter fun k=>decide (L<=cM rs k)
theorem qix:∀w:Nat,w<7->lv w (w+1)=[]/\∀d:Nat,d<8->(∀k∈lv w d,k<64)/\(lv w d).Nodup/\(lv w d).length<=20:=by decide +kernel
theorem qmw:∀w:Nat,w<7->∀k:Nat,k<64->∀l∈k6 w k,k∈xl l:=by decide +kernel
theorem qt1:∀w:Nat,w<7->∀d:Nat,d<7->∀l∈lv w (d+1),∀m∈xl l,m∈lv w d:=by decide +kernel
theorem q9t{α β : Type}(q : α -> Bool)(g : α -> List β): ∀l:List α,(∀s∈l,q s=false->g s=[])->(l.filter q).flatMap g=l.flatMap g
 | [],_=>rfl
 | s :: l,h=>by
  have ih:=q9t q g l fun x hx=>h x (gz _ hx);rw [p8,g0j];cases c:q s with
  | true=>rw [gw rfl,g0j,ih]
  | false=>rw [mf gy,ih,h s ma c,uz]
theorem q4h{α β : Type}(p : β -> Bool)(g : α -> List β): ∀l:List α,(l.flatMap g).filter p=l.flatMap fun s=>(g s).filter p
 | []=>rfl
 | s :: l=>by rw [g0j,g0j,List.filter_append,q4h p g l]
def layer(w:Nat)(rs:List Run)(L:Int)(d:Nat): List Nat:=(lv w d).filter (cnd rs L)
theorem step(w:Nat)(hw:w<=6)(rs:List Run)(L:Int)(h:v3 rs)(d:Nat)(hd:d<7): qfy w ((layer w rs L d).filter (wm rs L))=layer w rs L (d+1):=by
 obtain⟨_,lf⟩:=qix w (by omega);obtain⟨l1,l2,l3⟩:=lf d (by omega);obtain⟨k1,k2,k3⟩:=lf (d+1) (by omega);have eA:(layer w rs L d).filter (wm rs L)=(lv w d).filter fun k=>wm rs L k&&cnd rs L k:=by
  unfold layer;rw [List.filter_filter]
 rw [eA];unfold qfy;rw [q9t _ _ (lv w d) fun s hs hq=>?_]
 ·unfold layer
  show _=((lv w d).flatMap (k6 w)).filter (cnd rs L);have e1:(lv w d).flatMap (fun s=>(k6 w s).filter (chk ((lv w d).filter fun k=>wm rs L k&&cnd rs L k)))=((lv w d).flatMap (k6 w)).filter (chk ((lv w d).filter fun k=>wm rs L k&&cnd rs L k)):=(q4h _ _ _).symm;rw [e1];refine List.filter_congr fun l hl=>?_;have hl':l∈lv w (d+1):=hl;have hf:=qt1 w (by omega) d (by omega) l hl';unfold chk cnd;rw [g0d,t4,t4]
  constructor
  ·intro z m hm
   have:=z m hm;rw [tf,t6,mn] at this;exact this.2.1
  ·intro z m hm
   rw [tf,t6,mn];refine⟨hf m hm,z m hm,?_⟩;show(xl m).all (wm rs L)=true;rw [t4];exact qf0 rs L h m (l1 m (hf m hm)) (z m hm)
 ·refine List.filter_eq_nil_iff.mpr fun l hl hc=>?_
  have hm:=qmw w (by omega) s (l1 s hs) l hl;unfold chk at hc;have:=t4.mp hc s hm;rw [tf,t6] at this;rw [this.2] at hq;cases hq
theorem qf1(w:Nat)(hw:w<=6)(rs:List Run)(L:Int)(h:v3 rs): ∀n d:Nat,d+n<=w+1->layer w rs L d=[]->(List.range' d n).flatMap (layer w rs L)=[]
 | 0,d,_,_=>rfl
 | n+1,d,hd,e=>by
  have s:=step w hw rs L h d (by omega);rw [e] at s;have e1:layer w rs L (d+1)=[]:=s.symm;rw [g4o,g0j,e,uz];exact qf1 w hw rs L h n (d+1) (by omega) e1
theorem qf2(rs:List Run)(h:v3 rs)(A:List Nat)(hA:∀k∈A,k<64): zg (bN 0) zu (jd (qc (eV 0) (qc (qk (qt 2 [] yg) (qc (eV 1) (qc (eV 0) qh))) qh))) [none,some (.fz (.lst (rs.map mrD)))] (A.map qw)=some (A.map (pairD rs)):=by
 induction A with
 | nil=>rfl
 | cons k l ih=>
  have ih':=ih fun x hx=>hA x (gz _ hx);have cm:=qct rs h k (hA k ma);rw [m5];simp! [zg,ih',cm,zu]
theorem qt2(rs:List Run)(A:List Nat): zg (bN 0) zu (eOp oIx (eV 0) (eC (.int 0))) [none] (A.map (pairD rs))=some (A.map qw):=by
 induction A with
 | nil=>rfl
 | cons k l ih=>
  rw [m5];simp! [zg,ih,zu]
theorem turn(w:Nat)(hw:w<=6)(rs:List Run)(L:Int)(h:v3 rs)(x0:Option B)(A acc:List Nat)(hn:A.Nodup)(hA:∀k∈A,k<64)(hl:A.length<=100)(hacc:acc.length<=1000)(b6:Option B):
  x9 [x0,some (.fz (ve w rs)),some (.fz (.int L)),some (.fz (.lst (rs.map mrD))),some (.ow (acc.map (pairD rs))),some (.fz (.lst (A.map qw))),b6] =
   some (.nx,[x0,some (.fz (ve w rs)),some (.fz (.int L)),some (.fz (.lst (rs.map mrD))),some (.ow ((acc++A).map (pairD rs))),some (.fz (.lst ((qfy w (A.filter (wm rs L))).map qw))),some (.fz (.lst (A.map (pairD rs))))]):=by
 have hl':A.length<=lim:=by show _<=1000000;omega
 have hfl:(A.filter fun k=>decide (L<=cM rs k)).length<=lim:=mi (nt _ _) hl';have he:acc.length+A.length<=lim:=by show _<=1000000;omega
 have c1:=qf2 rs h A hA;have al:=q9q rs L A (by omega);have c2:=qt2 rs (A.filter fun k=>decide (L<=cM rs k));have g:=qt0 w hw (A.filter fun k=>decide (L<=cM rs k)) (g19 _ hn) (fun k hk=>hA k (t6.mp hk).1) (mi (nt _ _) hl);have e:(A.filter (wm rs L))=A.filter fun k=>decide (L<=cM rs k):=rfl;rw [e];simp! [x9,zi,hl',c1,qr7,qtu,qtv,he,al,hfl,c2,g,pw]
theorem qiy(w:Nat)(hw:w<=6)(rs:List Run)(L:Int)(h:v3 rs)(x0:Option B): ∀(n d f:Nat) (acc:List Nat) (b6:Option B),d+n=w+1->n<f->acc.length+n*20<=1000->∃b5' b6',
  yn (bT (eV 5)) x9 f [x0,some (.fz (ve w rs)),some (.fz (.int L)),some (.fz (.lst (rs.map mrD))),some (.ow (acc.map (pairD rs))),some (.fz (.lst ((layer w rs L d).map qw))),b6] =
   some (.nx,[x0,some (.fz (ve w rs)),some (.fz (.int L)),some (.fz (.lst (rs.map mrD))),some (.ow ((acc++(List.range' d n).flatMap (layer w rs L)).map (pairD rs))),b5',b6'])
 | n,d,0,acc,b6,_,hf,_=>by omega
 | n,d,f+1,acc,b6,hd,hf,hl=>by
  obtain⟨le,lf⟩:=qix w (by omega);have ht:bT (eV 5) [x0,some (.fz (ve w rs)),some (.fz (.int L)),some (.fz (.lst (rs.map mrD))),some (.ow (acc.map (pairD rs))),some (.fz (.lst ((layer w rs L d).map qw))),b6]=some (!((layer w rs L d).map qw).isEmpty):=q6b (x_v rfl) rfl
  by_cases hc:layer w rs L d=[]
  ·rw [hc] at ht
   have hz:=qf1 w hw rs L h n d (by omega) hc;rw [hz,ny];refine⟨some (.fz (.lst ((layer w rs L d).map qw))),b6,?_⟩;unfold yn;rw [hc];rw [ht]
   rfl
  ·have hne:(!((layer w rs L d).map qw).isEmpty)=true:=by
    cases e:layer w rs L d with
    | nil=>exact absurd e hc
    | cons a l=>rfl
   rw [hne] at ht;cases n with
   | zero=>
    have:d=w+1:=by omega
    subst this;exact absurd (by unfold layer;rw [le];rfl) hc
   | succ n=>
    obtain⟨k1,k2,k3⟩:=lf d (by omega);have hll:(layer w rs L d).length<=20:=mi (nt _ _) k3;have t:=turn w hw rs L h x0 (layer w rs L d) acc (g19 _ k2) (fun k hk=>k1 k (t6.mp hk).1) (by omega) (by omega) b6;rw [step w hw rs L h d (by omega)] at t;obtain⟨b5',b6',ih⟩:=qiy w hw rs L h x0 n (d+1) f (acc++layer w rs L d) (some (.fz (.lst ((layer w rs L d).map (pairD rs))))) (by omega) (by omega) (by rw [ng];omega);refine⟨b5',b6',?_⟩;unfold yn;rw [ht,gj,gw rfl,t,gj];dsimp only;rw [ih,g4o,g0j,td]
theorem z39(r:Rho): frz 0 (none :: r)=none :: r:=rfl
theorem z3a(d:D)(r:Rho): frz 0 (some (.fz d) :: r)=some (.fz d) :: r:=rfl
theorem z3b(d:Str×List (Str×D))(r:Rho): frz 0 (some (.od d) :: r)=some (.od d) :: r:=rfl
def q4i(w:Nat)(rs:List Run)(L:Int): List Nat:=(yj w).filter (cnd rs L)
theorem qcv(self:D)(w:Nat)(hw:w<=6)(rs:List Run)(L:Int)(h:v3 rs): ya [self,ve w rs,.int L]=some (.tup ((q4i w rs L).map (pairD rs))):=by
 have m:=qew w rs h;obtain⟨b5,b6,e⟩:=qiy w hw rs L h (some (.fz self)) (w+1) 0 100000 [] none (by omega) (by omega) (by simp;omega);have e0:layer w rs L 0=[0]:=rfl;rw [e0, <- List.range_eq_range',uz] at e;have e1:(List.range (w+1)).flatMap (layer w rs L)=q4i w rs L:=by
  unfold q4i;unfold yj;rw [q4h]
  rfl
 rw [e1] at e;simp only [g0u,m5] at e;rw [show qw 0=D.tup [] from rfl] at e;cases b6 with
 | none=>(refine jw ?_;simp! [xh,m,e,q0e,z39])
 | some z=>cases z with
  | fz z=>(refine jw ?_;simp! [xh,m,e,q0e,z3a])
  | ow z=>(refine jw ?_;simp! [xh,m,e,q0e])
  | od z=>(refine jw ?_;simp! [xh,m,e,q0e,z3b])
theorem qmx(rs:List Run)(L:Int)(h:v3 rs)(k:Nat)(hk:k<64)(hp:wm rs L k=true): cnd rs L k=true:=by
 unfold cnd;rw [t4];exact qf0 rs L h k hk hp
theorem qt3(w:Nat)(hw:w<=6)(rs:List Run)(L:Int)(h:v3 rs): (q4i w rs L).filter (fun k=>decide (L<=cM rs k))=oft w rs L:=by
 unfold q4i oft;rw [List.filter_filter];refine List.filter_congr fun k hk=>?_;cases hp:decide (L<=cM rs k) with
 | false=>rfl
 | true=>rw [qmx rs L h k (qiw hw k hk) hp];rfl
theorem qiz(w:Nat)(hw:w<=6)(rs:List Run)(L:Int): (q4i w rs L).length<=64:=by
 unfold q4i;exact mi (nt _ _) (q1r w (by omega)).2.2
theorem qcw:isO "Growing" (.obj "Growing")=true:=by decide
theorem qj0(w:Nat)(hw:w<=6)(rs:List Run)(L:Int)(h:v3 rs): v5 [.obj "Growing",ve w rs,.int L]=some (.tup ((oft w rs L).map (pairD rs))):=by
 have c:=qcv (.obj "Growing") w hw rs L h;have a:=qiv rs L (q4i w rs L) (by have:=qiz w hw rs L;omega);rw [qt3 w hw rs L h] at a
 (refine jw ?_;simp! [q13,q5q,qcw,c,a])
structure Rf(n:Nat)(d:D): Prop where
 ok:okE d d=true
 eq:eqD d d=true
 dp:kg d<=n
theorem qcx(n:Nat)(i:Int): Rf n (.int i):=⟨rfl,by show(i==i)=true;exact g32 _,u6 _⟩
theorem ql8{n:Nat}: ∀ {ds:List D},(∀d∈ds,Rf n d)->xo ds ds=true/\eqL ds ds=true/\xp ds<=n
 | [],_=>⟨rfl,rfl,u6 _⟩
 | d :: ds,h=>by
  obtain⟨a,b,c⟩:=ql8 (ds:=ds) fun x hx=>h x (gz _ hx);have q:=h d ma;simp only [xo,eqL,xp,a,b,q.ok,q.eq,g5c,true_and];have:=q.dp;omega
theorem qj1{n:Nat}{ds:List D}(h:∀d∈ds,Rf n d): Rf (n+1) (.tup ds):=by
 obtain⟨a,b,c⟩:=ql8 h;exact⟨by rw [okE];exact a,by rw [eqD];exact b,by rw [kg];omega⟩
theorem qj2{n:Nat}{a b:D}(h1:Rf n a)(h2:Rf n b): Rf (n+1) (.tup [a,b]):=qj1 fun d hd=>by
 rcases mh.mp hd with rfl|hd
 ·exact h1
 ·cases g00.mp hd;exact h2
theorem qty(n:Nat)(l:List Int): Rf (n+1) (TI l):=qj1 fun d hd=>by
 obtain⟨i,_,rfl⟩:=p7.mp hd;exact qcx _ _
theorem qpo{α : Type}{n:Nat}{f : α -> D}(h:∀a,Rf n (f a))(l:List α): Rf (n+1) (.tup (l.map f)):=qj1 fun d hd=>by
 obtain⟨a,_,rfl⟩:=p7.mp hd;exact h a
theorem qfz{ds:List D}(h:Rf 60 (.tup ds)): qa3 (.tup ds) (.tup ds)=some (.bl false):=by
 obtain⟨a,b,c⟩:=h;rw [okE] at a;rw [eqD] at b;rw [kg] at c;show(none:Option D).or (if(xo ds ds&&decide (xp ds<=60))=true then some (D.bl (!eqL ds ds)) else none)=_;rw [a,b,mj (by omega)];rfl
theorem qtz{ds:List D}(h:Rf 60 (.tup ds)): oEq (.tup ds) (.tup ds)=some (.bl true):=by
 obtain⟨a,b,c⟩:=h;rw [okE] at a;rw [eqD] at b;rw [kg] at c;show(none:Option D).or (if(xo ds ds&&decide (xp ds<=60))=true then some (D.bl (eqL ds ds)) else none)=_;rw [a,b,mj (by omega)];rfl
theorem ql9(w:Nat)(rs:List Run): Rf 60 (ve w rs):=qj2 (n:=59) (qcx _ _) (qpo (n:=58) (fun r=>qj2 (n:=57) (qcx _ _) (qty 56 r.2)) rs)
theorem q6h(rs:List Run)(l:List Nat): Rf 60 (.tup (l.map (pairD rs))):=qpo (n:=59) (fun k=>qj2 (n:=58) (qty 57 _) (qcx _ _)) l
def qg0:List D->Option (List (List Int))
 | []=>some []
 | .tup l :: r=>(jq l).bind fun a=>(qg0 r).map fun s=>a :: s
 | _=>none
def qg1:Option D->Option (List (List Int))
 | some (.lst ds)=>qg0 ds
 | _=>none
theorem qj3:∀ {ds:List D} {l:List (List Int)},qg0 ds=some l->ds=l.map TI
 | [],l,h=>by cases h;rfl
 | d :: r,l,h=>by
  cases d <;> simp only [qg0] at h <;> first|(cases h;done)|skip
  obtain⟨a,h1,h⟩:=gc.mp h;obtain⟨s,h2,rfl⟩:=gp.mp h
  letI:Lam:=⟨[]⟩
  rw [m5, <- qj3 h2,q0r h1]
theorem qay{o:Option D}{l:List Nat}(h:qg1 o=some (l.map (qq 12))): o=some (.lst (l.map qw)):=by
 unfold qg1 at h
 split at h
 ·rw [qj3 h,p6];rfl
 ·cases h
theorem z0w:∀w:Nat,w<5->qg1 (q66 [.int (w:Int)])=some ((yj w).map (qq 12)):=by decide +kernel
def anyM(w k:Nat): List Nat:=((List.range w).filter fun i=> !bit k i).map fun i=>k+2 ^ i
theorem qu0:∀w:Nat,w<5->∀k:Nat,k<16->qg1 (ko [qw k,.int (w:Int)])=some ((anyM w k).map (qq 12)):=by decide +kernel
theorem z0x:isO "Way" (.obj "Way")=true:=by decide
theorem qzg{w:Nat}(hw:w<5){rs:List Run}(h:v3 rs)(L:Int): q4c [.obj "Way",ve w rs,.int L]=some (.tup ((oft w rs L).map (pairD rs))):=by
 have hml:=(q1r w (by omega)).2.2;have c:=qf2 rs h (yj w) (qiw (by omega));have hl:((yj w).map qw).length<=lim:=by rw [gv];exact mi hml (by decide)
 exact xx (ρ':=_) (z7 (j7 (zm (qf (x_v rfl) ql) rfl (qew w rs h))) (xa (zm (qf (x_l (we (cap:=[none,some 3]) (vy (zm (qf (qu (x_v rfl) x_c rfl) ql) rfl (qay (z0w w hw))) rfl) hl c)) (qf (x_v rfl) ql)) rfl (q9q rs L (yj w) (by omega)))))
abbrev cD(rs:List Run)(A:List Nat): D:=.dtt (A.map (qq 12)) (A.map fun k=>.int (cM rs k))
theorem qf3(rs:List Run): ∀A:List Nat,q2y (A.map (pairD rs))=some (A.map (qq 12),A.map fun k=>.int (cM rs k))
 | []=>rfl
 | k :: A=>by
  have hi:jq ((qq 12 k).map D.int)=some (qq 12 k):=kx _;show((jq ((qq 12 k).map D.int)).bind fun x=>(q2y (A.map (pairD rs))).map fun p=>(x :: p.1,D.int (cM rs k) :: p.2))=_;rw [hi,qf3 rs A]
  rfl
theorem qmy(rs:List Run)(A:List Nat)(hn:A.Nodup)(hA:∀k∈A,k<64)(hl:A.length<=1000): q7n [.tup (A.map (pairD rs))]=some (cD rs A):=by
 show(q2y (A.map (pairD rs))).bind (fun p=>if p.1.Nodup/\(A.map (pairD rs)).length<=lim then some (D.dtt p.1 p.2) else none)=_;rw [qf3];show(if(A.map (qq 12)).Nodup/\_ then _ else _)=_;rw [gw ⟨q9r hn hA,by rw [gv];show _<=1000000;omega⟩]
theorem qpp(rs:List Run)(A:List Nat){k:List Int}(h:k∈A.map (qq 12)): ∃c:Int,(A.map fun k=>D.int (cM rs k))[(A.map (qq 12)).idxOf k]? = some (.int c):=by
 have hi:=g1z h;rw [gv] at hi;exact⟨_,by rw [mq,mw hi];rfl⟩
theorem qt4{w:Nat}(hw:w<5)(rs:List Run)(A:List Nat){k:Nat}(hk:k∈A)(hk2:k<16): ∃c,q14 [qw k,cD rs A,.int (w:Int)]=some (.bl c):=by
 have hi:∀m:Nat,jq ((qq 12 m).map D.int)=some (qq 12 m):=fun m=>kx _;obtain⟨c0,e0⟩:=qpp rs A (p7.mpr ⟨k,hk,rfl⟩);have ix:q8r (cD rs A) (qw k)=some (.int c0):=by
  show(jq ((qq 12 k).map D.int)).bind (fun q=>if q∈A.map (qq 12) then(A.map fun k=>D.int (cM rs k))[(A.map (qq 12)).idxOf q]? else none)=_;rw [hi,gj,gw (p7.mpr ⟨k,hk,rfl⟩),e0]
 have ne:∀m:Nat,∃c,(q3n (cD rs A) [qw m]).bind (fun x=>q20 x (.int c0))=some (.bl c):=fun m=>by
  show ∃c,((jq ((qq 12 m).map D.int)).bind (fun q=>if q∈A.map (qq 12) then(A.map fun k=>D.int (cM rs k))[(A.map (qq 12)).idxOf q]? else some .non)).bind (fun x=>q20 x (.int c0))=some (.bl c);rw [hi,gj]
  by_cases h:qq 12 m∈A.map (qq 12)
  ·obtain⟨c1,e1⟩:=qpp rs A h
   rw [gw h,e1,gj];exact⟨_,ql1 _ _⟩
  ·rw [mf h]
   exact⟨_,rfl⟩
 have c:=xr (b:=bN 0) (c:=zu) (e:=eOp q20 (qm9 (eV 1) (qc (eV 0) qh)) (eOp q8r (eV 1) (eV 2))) (ρ :=[none,some (.fz (cD rs A)),some (.fz (qw k))]) qw (fun _=>true) (fun m=>D.bl (q6f ((q3n (cD rs A) [qw m]).bind fun x=>q20 x (.int c0)) true)) (anyM w k) fun m _=>by
  obtain⟨c,ec⟩:=ne m;obtain⟨x,e1,e2⟩:=gc.mp ec;have hg:qm9 (eV 1) (qc (eV 0) qh) [some (.fz (qw m)),some (.fz (cD rs A)),some (.fz (qw k))]=some x:=e1;refine⟨[some (.fz (qw m)),some (.fz (cD rs A)),some (.fz (qw k))],rfl,rfl,fun _=>(qu hg (qu (x_v rfl) (x_v rfl) ix) e2).trans ?_⟩;rw [ec];cases c <;> rfl
 rw [g1g.mpr (fun _ _=>rfl),show((anyM w k).map fun m=>D.bl (q6f ((q3n (cD rs A) [qw m]).bind fun x=>q20 x (.int c0)) true))=((anyM w k).map fun m=>q6f ((q3n (cD rs A) [qw m]).bind fun x=>q20 x (.int c0)) true).map D.bl from by rw [p6];rfl] at c;have hl:((anyM w k).map qw).length<=lim:=by
  unfold anyM;rw [gv,gv];exact mi (nt _ _) (by rw [g4b];show _<=1000000;omega)
 exact⟨_,xx (ρ':=_) (xa (x_call (qf (x_l (we (cap:=[none,some 1,some 0]) (vy (zm (qf (x_v rfl) (qf (x_v rfl) ql)) rfl (qay (qu0 w hw k hk2))) rfl) hl c)) ql) (qck _)))⟩
theorem qt5{w:Nat}(hw:w<5)(rs:List Run)(A:List Nat){k:Nat}(hk2:k<16): ∃c,q26 [qw k,cD rs A,.int (w:Int)]=some (.bl c):=by
 have hi:∀m:Nat,jq ((qq 12 m).map D.int)=some (qq 12 m):=fun m=>kx _;have c:=xr (b:=bN 0) (c:=zu) (e:=eOp q7m (eV 0) (eV 1)) (ρ :=[none,some (.fz (cD rs A))]) qw (fun _=>true) (fun m=>.bl (decide (qq 12 m∈A.map (qq 12)))) (anyM w k) fun m _=>⟨_,rfl,rfl,fun _=>qu (x_v rfl) (x_v rfl) (by
  show(jq ((qq 12 m).map D.int)).map (fun q=>D.bl (decide (q∈A.map (qq 12))))=_;rw [hi];rfl)⟩
 rw [g1g.mpr (fun _ _=>rfl),show((anyM w k).map fun m=>D.bl (decide (qq 12 m∈A.map (qq 12))))=((anyM w k).map fun m=>decide (qq 12 m∈A.map (qq 12))).map D.bl from by rw [p6];rfl] at c;have hl:((anyM w k).map qw).length<=lim:=by
  unfold anyM;rw [gv,gv];exact mi (nt _ _) (by rw [g4b];show _<=1000000;omega)
 exact⟨_,xx (ρ':=_) (xa (z0s (x_call (qf (x_l (we (cap:=[none,some 1]) (vy (zm (qf (x_v rfl) (qf (x_v rfl) ql)) rfl (qay (qu0 w hw k hk2))) rfl) hl c)) ql) (qmq _))))⟩
theorem qla{op:Ti}{w:Nat}{rs:List Run}{A:List Nat}{x:D}(h:∀k∈A,∃c,op [qw k,x,.int (w:Int)]=some (.bl c)): zg (bN 0) (bT (qk (qt 3 [] op) (qc (eOp oIx (eV 0) (eC (.int 0))) (qc (eV 1) (qc (eOp oIx (eV 2) (eC (.int 0))) qh))))) (eV 0) [none,some (.fz x),some (.fz (ve w rs))] (A.map (pairD rs))=some ((A.filter fun k=>q6f (op [qw k,x,.int (w:Int)]) true).map (pairD rs)):=
 xr (pairD rs) _ (pairD rs) A fun k hk=>by
  obtain⟨c,e⟩:=h k hk;refine⟨_,rfl,q6b (zm (qf (qu (x_v rfl) x_c rfl) (qf (x_v rfl) (qf (qu (x_v rfl) x_c rfl) ql))) rfl e) ?_,fun _=>rfl⟩;rw [e];cases c <;> rfl
theorem qpq{w:Nat}(hw:w<5)(rs:List Run)(L:Int): (oft w rs L).Nodup/\(∀k∈oft w rs L,k<16)/\(oft w rs L).length<=64:=by
 obtain⟨h1,h2,h3⟩:=q1r w (by omega);exact⟨h2.filter _,fun k hk=>q2j hw (h1 k (t6.mp hk).1),mi (nt _ _) h3⟩
theorem qcy{ρ : Rho}{f:FE}{ga:FA}{x:Str}{ar:Nat}{op:Ti}{o d:D}{ds:List D}(h1:f ρ = some o)(h2:ga ρ = some ds)(ho:isO x o=true)(hl:(o :: ds++[]).length=ar)(h3:op (o :: ds++[])=some d): q5q x ar op f ga ρ = some d:=by
 unfold q5q qt;rw [h1,gj,h2,gj,gw ho,gw hl,h3]
theorem qpr{w:Nat}(hw:w<5){rs:List Run}(h:v3 rs)(L:Int): ∃l:List Nat,q67 [ve w rs,.int L]=some (.tup (l.map (pairD rs)))/\∃l':List Nat,q2h [ve w rs,.int L]=some (.tup (l'.map (pairD rs))):=by
 obtain⟨q1,q2,q3⟩:=qpq hw rs L;have em:=qj0 w (by omega) rs L h;have ed:=qmy rs _ q1 (fun k hk=>g5f (q2 k hk) (by decide)) (by omega);have hl:((oft w rs L).map (pairD rs)).length<=lim:=by rw [gv];exact mi q3 (by decide)
 exact⟨_,xx (ρ':=_) (z7 (j7 (qcy x_c (qf (x_v rfl) (qf (x_v rfl) ql)) qcw rfl em)) (z7 (j7 (x_call (qf (x_v rfl) ql) ed)) (xa (x_call (qf (x_l (we (cap:=[none,some 3,some 0]) (vy (x_v rfl) rfl) hl (qla fun k hk=>qt4 hw rs _ hk (q2 k hk)))) ql) rfl)))),
  _,xx (ρ':=_) (z7 (j7 (qcy x_c (qf (x_v rfl) (qf (x_v rfl) ql)) qcw rfl em)) (z7 (j7 (x_call (qf (x_v rfl) ql) ed)) (xa (x_call (qf (x_l (we (cap:=[none,some 3,some 0]) (vy (x_v rfl) rfl) hl (qla fun k hk=>qt5 hw rs _ (q2 k hk)))) ql) rfl))))⟩
theorem qps{w:Nat}(hw:w<5){rs:List Run}(h:v3 rs)(L:Int): ∃l:List Nat,q68 [ve w rs,.int L]=some (.tup (l.map (pairD rs))):=by
 have em:=qcv (.obj "Growing") w (by omega) rs L h;have hl:((q4i w rs L).map (pairD rs)).length<=lim:=by rw [gv];exact mi (qiz w (by omega) rs L) (by decide)
 have c:=xr (b:=bN 0) (c:=zl oLt' (eOp oIx (eV 0) (eC (.int 1))) (eV 1)) (e:=eV 0) (ρ :=[none,some (.fz (.int L))]) (pairD rs) (fun k=>decide (cM rs k<L)) (pairD rs) (q4i w rs L) fun k _=>⟨_,rfl,zq (qu (x_v rfl) x_c rfl) (x_v rfl) (ke _ _),fun _=>rfl⟩
 exact⟨_,xx (ρ':=_) (xa (x_call (qf (x_l (we (cap:=[none,some 1]) (vy (qcy x_c (qf (x_v rfl) (qf (x_v rfl) ql)) qcw rfl em) rfl) hl c)) ql) rfl))⟩
end My
open PySem PyProof.Rows L2 DL
namespace My
open PySem PyProof.Rows L2 DL
section
variable{ρ ρ1 ρ2:Rho}{f g:FE}{d x y k:D}{i n ar:Nat}{ga gb:FA}{ds es:List D}{c nm:Str}{fs fs':Flds}{fm gm:FM}{am:FAM}{l:List (Str×Flds)}{op:Th}
theorem qzh{oq:Ti}{o:D}(h1:f ρ = some o)(h2:am ρ = some (ds, ρ1))(ho:isO c o=true)(hl:(o :: ds++[]).length=ar)(h3:oq (o :: ds++[])=some d): qft c ar oq f am ρ = some (d, ρ1):=by
 unfold qft qt;rw [h1,gj,h2,gj,gw ho,gw hl,h3];rfl
theorem qpt{r:Option (D×Rho)}(h1:fm ρ = some (.bl true, ρ1))(h2:gm ρ1=r): qho fm gm ρ = r:=by
 unfold qho;rw [h1,gj];exact h2
theorem qu1{o:D->D->Option D}(h1:fm ρ = some (x, ρ1))(h2:gm ρ1=some (y, ρ2))(h3:o x y=some d): mOp o fm gm ρ = some (d, ρ2):=by
 unfold mOp;rw [h1,gj,h2,gj,h3];rfl
theorem q8g(h : ρ[i]? = some (some (.od (.many l))))(hg:g ρ = some k)(hk:qac l k=some (n,c,fs))(ha:ga ρ = some ds)(hl:ds.length=ar)(h2:op fs ds=some (fs',d)): q1k c i ar op g ga ρ = some (d, ρ.set i (some (.od (.many (l.set n (c,fs')))))):=by
 unfold q1k qdl;rw [h];dsimp only;rw [gj,hg,gj,hk,gj,ha,gj,gw ⟨rfl,hl⟩,h2];rfl
theorem qzi(h : ρ[i]? = some (some (.od (.many l))))(hg:g ρ = some k)(hk:qac l k=some (n,c,fs))(hn:fs.lookup nm=none)(h2:op fs []=some (fs',d)): qbv c nm i op g ρ = some (d, ρ.set i (some (.od (.many (l.set n (c,fs')))))):=by
 unfold qbv qdl;rw [h];dsimp only;rw [gj,hg,gj,hk,gj,gw ⟨rfl,by rw [hn];rfl⟩,h2];rfl
theorem qw9{j:Int}(h1:fm ρ = some (d, ρ1))(h2 : ρ1[i]? = some (some (.ow ds)))(h3:g ρ1=some (.int j))(h4:ixN ds.length j=some n): qbw i g fm ρ = some (.nx, ρ1.set i (some (.ow (ds.set n d)))):=by
 unfold qbw q23;rw [h1,gj];dsimp only;rw [h2];dsimp only;rw [gj,h3,gj];dsimp only;rw [h4];rfl
theorem qzj{d1 d2:List D}(h1:ga ρ = some ds)(h2:gb ρ = some es)(no:qh4 i ρ = true)(hn:(ds++d1).length=ar)(hm:(es++d2).length=ar)(h3:op [] (ds++d1)=some (fs,.non))(h4:op [] (es++d2)=some (fs',.non)): qfs c i ar d1 d2 op ga gb ρ = some (.nx, ρ.set i (some (.od (.many [(c,fs),(c,fs')])))):=by
 unfold qfs;rw [h1,gj,h2,gj,gw ⟨no,hn,hm⟩,h3,gj,h4,gj];rfl
end
section
variable{w:Nat}{m:D}{rs:List Run}
theorem qmz{u:FS}{op:Ti}{a d:D}(hu:u=q0t (q0s (qt 2 [] op) (k8 (xv "Store" "pile" 0 0 ji qh) (amP (qc (eV 1) qh)))))(h:op [ve w rs,a]=some d): jy 2 "Store" u (stF w m rs) [a]=some (stF w m rs,d):=by
 subst hu;exact xy (ρ':=[oS (stF w m rs),some (.fz a)]) (qcq (qe1 (q3d (kr rfl ql rfl rfl (q8v w m rs)) (qfx (qf (x_v rfl) ql))) rfl h)) rfl
theorem qwa{L:Int}{d:D}(h:v5 [.obj "Growing",ve w rs,.int L]=some d): q25 (stF w m rs) [.int L]=some (stF w m rs,d):=
 xy (ρ':=[oS (stF w m rs),some (.fz (.int L))]) (qcq (qzh x_c (q3d (kr rfl ql rfl rfl (q8v w m rs)) (qfx (qf (x_v rfl) ql))) qcw rfl h)) rfl
end
def qn0:Option D->Option (List Int)
 | some (.tup l)=>jq l
 | _=>none
theorem qt6{o:Option D}{l:List Int}(h:qn0 o=some l): o=some (TI l):=by
 unfold qn0 at h
 split at h
 ·letI:Lam:=⟨[]⟩
  rw [q0r h]
 ·cases h
theorem z0y:∀w:Nat,w<5->∀n:Nat,n<32->qn0 (q0k [.int (n:Int),.int (w:Int)])=some (qq 12 (n%2 ^ w)):=by decide +kernel
theorem qj4{w:Nat}(hw:w<5)(x:Int): ∃t,t<2 ^ w/\q0k [.int (x%32),.int (w:Int)]=some (qw t):=by
 refine⟨(x%32).toNat%2 ^ w,g5a _ (Nat.pow_pos (by decide)),?_⟩;have:=qt6 (z0y w hw (x%32).toNat (by omega));rw [g1e (by omega)] at this;exact this
theorem z0z(a:Int): qaq [.int a,.int a]=some (.bl true):=by
 (refine jw ?_;simp! [qap])
theorem qe5{w:Nat}{m:D}{rs:List Run}(hw:w<5)(h:Runs w rs)(x:Int): v7 (stF w m rs) [.int (w:Int),.lst (rs.map runD),.int x]=some (stF w m rs,.bl true):=by
 have ho:=qw2 hw h;obtain⟨t,ht,et⟩:=qj4 hw x;obtain⟨t2,ht2,et2⟩:=qj4 hw (x / 32);have c1:=q3f hw h (q2j hw ht);have c2:=q3f hw h (q2j hw ht2);have c3:=count_eq hw h (q2j hw ht);have d32:oDiv (.int x) (.int 32)=some (.int (x / 32)):=jv _ _ (by decide) (by decide);have hp:oPow (.int 10) (.int 13)=some (.int (10 ^ 13)):=q1i 10 13 (by decide) (by decide) (by decide);have h3:∀L0:Int,∃L:Int,sIf (zl oEq (eOp oMod (eOp oDiv (eV 3) (eC (.int 2048))) (eC (.int 8))) (eC (.int 0))) (zj 5 (eOp zw (eC (.int 1)) (eOp oMod (eOp oDiv (eV 3) (eC (.int 16384))) (eOp oPow (eC (.int 10)) (eC (.int 13)))))) j9 [oS (stF w m rs),some (.fz (.int (w:Int))),some (.fz (.lst (rs.map runD))),some (.fz (.int x)),some (.fz (qw t)),some (.fz (.int L0)),none]=some (.nx,[oS (stF w m rs),some (.fz (.int (w:Int))),some (.fz (.lst (rs.map runD))),some (.fz (.int x)),some (.fz (qw t)),some (.fz (.int L)),none]):=fun L0=>by
  by_cases hc:x / 2048%8=0
  ·exact⟨_,yi (zq (qu (qu (x_v rfl) x_c (jv _ _ (by decide) (by decide))) x_c (j5 _ _ (by decide))) x_c (yh _ _)) (mj hc) (j7 (qu x_c (qu (qu (x_v rfl) x_c (jv _ _ (by decide) (by decide))) (qu x_c x_c hp) (j5 _ _ (by decide))) (wc _ _)))⟩
  ·exact⟨L0,jr (zq (qu (qu (x_v rfl) x_c (jv _ _ (by decide) (by decide))) x_c (j5 _ _ (by decide))) x_c (yh _ _)) (mm hc) jk⟩
 obtain⟨L,h3⟩:=h3 _;obtain⟨l1,e1,l2,e2⟩:=qpr hw ho L;obtain⟨l3,e3⟩:=qps hw ho L;have e4:=qj0 w (by omega) rs L ho;have e5:=qzg hw ho L;refine xy (ρ':=[oS (stF w m rs),some (.fz (.int (w:Int))),some (.fz (.lst (rs.map runD))),some (.fz (.int x)),some (.fz (qw t)),some (.fz (.int L)),some (.fz (ve w rs))]) ?_ rfl;refine z7 (j7 (zm (qf (qu (x_v rfl) x_c (j5 _ _ (by decide))) (qf (x_v rfl) ql)) rfl et)) ?_;refine z7 (j7 (x_call (qf x_c (qf (qu (zm (qf (x_v rfl) (qf (zm (qf (qu (qu (x_v rfl) x_c d32) x_c (j5 _ _ (by decide))) (qf (x_v rfl) ql)) rfl et2) ql)) rfl c2) (qu (qu (x_v rfl) x_c (jv _ _ (by decide) (by decide))) x_c (j5 _ _ (by decide))) (wc _ _)) ql)) (q3e _ _))) ?_;refine z7 h3 ?_;refine z7 (j7 (yb (qf (x_v rfl) (qf (x_call (qf (x_v rfl) ql) rfl) ql)) (by show 2<=1000000;decide))) ?_;refine z7 (q57 (qip (qe2 (qmt (qe1 (q3d (kr rfl (qf (x_v rfl) ql) rfl rfl (qmz rfl c3)) (qfx (qf (zm (qf (x_v rfl) (qf (x_v rfl) ql)) rfl c1) ql))) rfl (z0z _)) rfl)) rfl (q8t (kr rfl ql rfl rfl (q8v w m rs)) (qat (x_v rfl)) (qfz (ql9 w rs)))) rfl jk) ?_;refine z7 (q57 (qip (q8t (kr rfl (qf (x_v rfl) ql) rfl rfl (qwa e4)) (qat (qcy x_c (qf (x_v rfl) (qf (x_v rfl) ql)) z0x rfl e5)) (qfz (q6h rs _))) rfl (q8t (kr rfl (qf (x_v rfl) ql) rfl rfl (qmz rfl e1)) (qat (zm (qf (x_v rfl) (qf (x_v rfl) ql)) rfl e1)) (qfz (q6h rs _)))) rfl jk) ?_;exact qcq (qpt (qu1 (kr rfl (qf (x_v rfl) ql) rfl rfl (qmz rfl e2)) (qat (zm (qf (x_v rfl) (qf (x_v rfl) ql)) rfl e2)) (qtz (q6h rs _))) (qu1 (kr rfl (qf (x_v rfl) ql) rfl rfl (qmz rfl e3)) (qat (zm (qf (x_v rfl) (qf (x_v rfl) ql)) rfl e3)) (qtz (q6h rs _))))
theorem qzk{u:FS}{v:FX}{ρ ρ1:Rho}{r:Option (XV×Rho)}(h:u ρ = some (.nx, ρ1))(h2:v ρ1=r): q24 u q0u v ρ = r:=by
 unfold q24 q0u;rw [h,g2n];exact h2
theorem qpu{u:FS}{v v':FX}{ρ : Rho}{p:XV×Rho}(h:v ρ = some p): q24 u v v' ρ = some p:=by unfold q24;rw [h,g2m]
theorem qe6{t:FT}{a b:FX}{ρ : Rho}{c:Bool}{r:Option (XV×Rho)}(h:t ρ = some c)(hc:c=true)(h2:a ρ = r): xIf t a b ρ = r:=by subst hc;unfold xIf;rw [h,gj];exact h2
abbrev qpv(i:Int): XV:=("NotThere",some ("there",i))
theorem qlb{t:FT}{a b:FX}{ρ : Rho}{c:Bool}{r:Option (XV×Rho)}(h:t ρ = some c)(hc:c=false)(h2:b ρ = r): xIf t a b ρ = r:=by subst hc;unfold xIf;rw [h,gj];exact h2
theorem qwb{u:FS}{v v':FX}{ρ ρ1:Rho}{r:Option (XV×Rho)}(h0:v ρ = none)(h:u ρ = some (.nx, ρ1))(h2:v' ρ1=r): q24 u v v' ρ = r:=by
 unfold q24;rw [h0,h,g2n];exact h2
theorem qcz{c nm:Str}{i ar:Nat}{op:Flds->List D->Option (XV×Flds)}{fa:FA}{ρ : Rho}{fs:Flds}{ds:List D}{r:Option (XV×Flds)}(h : ρ[i]? = some (some (.od (.one (c,fs)))))(h1:fa ρ = some ds)(hl:ds.length=ar)(hn:fs.lookup nm=none)(h2:op fs ds=r): q2e c nm i ar op fa ρ = r.map fun p=>(p.1, ρ.set i (some (.od (.one (c,p.2))))):=by
 unfold q2e yp;rw [h];dsimp only;rw [gj,h1,gj,gw ⟨rfl,hl,by rw [hn];rfl⟩,h2]
abbrev qn1:XV:=("NoRun",none)
theorem qlc(w:Nat)(m:D)(rs:List Run)(d e:D){c:Bool}(h:w8 [.tup [d,e],.int (w:Int)]=some (.bl c)): xg (stF w m rs) [d,e]=if c then none else some (qn1,stF w m rs):=by
 have ht:q21 (bT (qk (qt 2 [] w8) (qc (jd (qc (eV 1) (qc (eV 2) qh))) (qc (wo "Store" 0 "wares") qh)))) [oS (stF w m rs),some (.fz d),some (.fz e)]=some (!c):=qcn (q6b (zm (qf (yb (qf (x_v rfl) (qf (x_v rfl) ql)) (by show 2<=1000000;decide)) (qf (q08 rfl rfl) ql)) rfl h) rfl);unfold xg;rw [show ki 3 "Store" (stF w m rs) [d,e]=[oS (stF w m rs),some (.fz d),some (.fz e)] from rfl];cases c with
 | true=>rw [show xc [oS (stF w m rs),some (.fz d),some (.fz e)]=none from qlb ht rfl rfl];rfl
 | false=>rw [show xc [oS (stF w m rs),some (.fz d),some (.fz e)]=some (qn1,[oS (stF w m rs),some (.fz d),some (.fz e)]) from qe6 ht rfl rfl];rfl
theorem z3c{w:Nat}{m:D}{many:Int}{rs:List Run}{b:List Int}(hw:w<5)(g:GoodR w (many,b)): xg (stF w m rs) [.int many,TI b]=none:=by
 rw [qlc w m rs _ _ (qit hw g)];rfl
theorem z10(w:Nat)(m:D)(rs:List Run)(d e:D)(h:w8 [.tup [d,e],.int (w:Int)]=some (.bl false)): q1o (stF w m rs) [d,e]=some (qn1,stF w m rs):=by
 have h0:=qlc w m rs d e h;have hv:q01 [oS (stF w m rs),some (.fz d),some (.fz e),none,none]=some (qn1,[oS (stF w m rs),some (.fz d),some (.fz e),none,none]):=
  qpu (qcz rfl (qf (x_v rfl) (qf (x_v rfl) ql)) rfl rfl h0)
 unfold q1o;rw [show ki 5 "Store" (stF w m rs) [d,e]=[oS (stF w m rs),some (.fz d),some (.fz e),none,none] from rfl,hv]
 rfl
theorem qzl{w:Nat}{m:D}{many:Int}{rs:List Run}{b:List Int}(hw:w<5)(hl:rs.length<200)(g:GoodR w (many,b))(ht:there rs b<many)(hb:(there rs b).natAbs.log2<1920):
  q10 (stF w m rs) [.int many,TI b]=some (qpv (there rs b),stF w m rs):=by
 have e1:=qav (m:=m) (rs:=rs) hw g;have e2:=like_eq rs b (by omega);have hll:(q1j rs b).length<=1000:=mi (nt _ _) (by omega);have e3:=q6g (.lst ((q1j rs b).map runD)) (q1j rs b) rfl hll;have hv:wb [oS (stF w m rs),some (.fz (.int many)),some (.fz (TI b)),none]=some (qpv (there rs b),[oS (stF w m rs),some (.fz (.int many)),some (.fz (TI b)),some (.fz (.int (there rs b)))]):=by
  refine qwb (ρ1:=[oS (stF w m rs),some (.fz (.int many)),some (.fz (TI b)),none]) (qcz rfl (qf (x_v rfl) (qf (x_v rfl) ql)) rfl rfl (z3c hw g)) (q58 (kr rfl (qf (x_v rfl) (qf (x_v rfl) ql)) rfl rfl e1)) ?_;refine qzk (ρ1:=[oS (stF w m rs),some (.fz (.int many)),some (.fz (TI b)),some (.fz (.int (there rs b)))]) (j7 (zm (qf (zm (qf (q08 rfl rfl) (qf (x_v rfl) ql)) rfl e2) ql) rfl e3)) ?_;refine qpu (qe6 (zq (x_v rfl) (x_v rfl) (ke _ _)) (mj ht) ?_);unfold qde;rw [x_v (d:=.int (there rs b)) rfl,gj];dsimp only;rw [gw hb]
 unfold q10;rw [show ki 4 "Store" (stF w m rs) [.int many,TI b]=[oS (stF w m rs),some (.fz (.int many)),some (.fz (TI b)),none] from rfl,hv]
 rfl
theorem qpw{ub:FS}{vb:FX}{xs:List Str}{hd:Str->Option (Str×Int)->FS}{ρ ρ1:Rho}{p:XV}{r:Option (Fl×Rho)}(h:vb ρ = some (p, ρ1))(hm:p.1∈xs)(h2:hd p.1 p.2 ρ1=r): qbn ub vb xs hd ρ = r:=by
 unfold qbn;rw [h];dsimp only;rw [gw hm,h2]
theorem z11:∀w:Nat,w<5->jq (zy 0 w)=some (qq 12 (2 ^ w-1)):=by decide +kernel
theorem qu2{ρ : Rho}{f:FE}{w:Nat}(hw:w<5)(h:f ρ = some (.int (w:Int))): q5o f ρ = some (qw (2 ^ w-1)):=by
 unfold q5o;rw [h,gj];dsimp only;rw [mj (show(0:Int)<=(w:Int) by omega),mj (show(w:Int)<=1000 by omega)]
 letI:Lam:=⟨[]⟩
 show some (D.tup (zy 0 (w:Int).toNat))=_;rw [uq,q0r (z11 w hw)]
theorem sub_self:∀t:Nat,t<16->sub t (0,qq 12 t)=true:=by decide +kernel
theorem qld{w:Nat}(hw:w<5): 2 ^ w-1<2 ^ w:=Nat.sub_lt (Nat.pow_pos (by decide)) (by decide)
theorem qwc{w:Nat}{rs:List Run}(h:Runs w rs){t:Nat}(ht:t<16): there rs (qq 12 t)<=cM rs t:=by
 unfold there q4e q1j cM;refine qax _ _ rs (fun r hr=>by have:=(h.2 r hr).lo;omega) fun r hr e=>?_;have:=sub_self t ht;unfold sub at this;rw [ur e];exact this
theorem qzm{t:Int}(h0:0<=t)(h1:t<18446744073709551616): t.natAbs.log2<1920:=by
 by_cases hz:t.natAbs=0
 ·rw [hz];decide
 ·refine g5f ((Nat.log2_lt hz).mpr (show t.natAbs<2 ^ 64 from ?_)) (by decide)
  omega
theorem qn2{w:Nat}{m:D}{rs:List Run}(hw:w<5)(h:Runs w rs)(x:Int)(hc:cM rs (2 ^ w-1)<1000000000000-9): q07 (stF w m rs) [.int x,.int (w:Int)]=some (stF w m rs,.bl true):=by
 have m9:=g06 (x / 4) (show(9:Int)≠0 by decide);have m9':=g02 (x / 4) (show(0:Int)<9 by decide);have d4:oDiv (.int x) (.int 4)=some (.int (x / 4)):=jv _ _ (by decide) (by decide);have q9:oMod (.int (x / 4)) (.int 9)=some (.int (x / 4%9)):=j5 _ _ (by decide);have hp:oPow (.int 10) (.int 12)=some (.int (10 ^ 12)):=q1i 10 12 (by decide) (by decide) (by decide);refine xy (ρ':=[oS (stF w m rs),some (.fz (.int x)),some (.fz (.int (w:Int))),some (.fz (.bl true))]) ?_ rfl;refine z7 (ρ1:=[oS (stF w m rs),some (.fz (.int x)),some (.fz (.int (w:Int))),some (.fz (.bl false))]) (j7 x_c) ?_;refine z7 (ρ1:=[oS (stF w m rs),some (.fz (.int x)),some (.fz (.int (w:Int))),some (.fz (.bl true))]) ?_ (xa (x_v rfl));have tst:zl oEq (eOp oMod (eV 1) (eC (.int 2))) (eC (.int 0)) [oS (stF w m rs),some (.fz (.int x)),some (.fz (.int (w:Int))),some (.fz (.bl false))]=some (decide (x%2=0)):=zq (qu (x_v rfl) x_c (j5 _ _ (by decide))) x_c (yh _ _)
 by_cases h2:x%2=0
 ·have e:=z10 w m rs (.int (1+x / 4%9)) (.tup [.int (w:Int)]) (qis (by omega) (by omega) (qe3 (qsr w hw)))
  exact qpw (qe6 tst (mj h2) ((qcz rfl (qf (qu x_c (qu (qu (x_v rfl) x_c d4) x_c q9) (wc _ _)) (qf (yb (qf (x_v rfl) ql) (by show 1<=1000000;decide)) ql)) rfl rfl e).trans rfl)) (.head _) rfl
 ·have hf:=qld hw
  have hle:=qwc h (q2j hw hf);have hnn:=qe4 (q1j rs (qq 12 (2 ^ w-1))) fun r hr=>(h.2 r (t6.mp hr).1).lo;have hlog:=qzm (t:=there rs (qq 12 (2 ^ w-1))) hnn (by omega);have e:=qzl (m:=m) (b:=qq 12 (2 ^ w-1)) (many:=10 ^ 12-x / 4%9) hw (by have:=h.1;omega) ⟨by show 1<=10 ^ 12-x / 4%9;omega,by show 10 ^ 12-x / 4%9<=_;omega,_,hf,rfl⟩ (by omega) hlog;exact qpw (qlb tst (mm h2) ((qcz rfl (qf (qu (qu x_c x_c hp) (qu (qu (x_v rfl) x_c d4) x_c q9) (q69 _ _)) (qf (qu2 hw (x_v rfl)) ql)) rfl rfl e).trans rfl)) (.tail _ (.head _)) rfl
theorem qt7{w:Nat}{rs:List Run}(h:∀r∈rs,GoodR w r){r:Run}(hr:r∈rs): r.1<=there rs r.2:=by
 unfold there;have hm:r∈q1j rs r.2:=t6.mpr ⟨hr,mj rfl⟩;have hg:∀x∈q1j rs r.2,1<=x.1:=fun x hx=>(h x (t6.mp hx).1).lo;generalize q1j rs r.2=l at hm hg
 induction l with
 | nil=>cases hm
 | cons y l ih=>
  rw [qey];have h2:=qe4 l fun x hx=>hg x (gz _ hx);rcases mh.mp hm with rfl|hm
  ·omega
  ·have:=ih hm fun x hx=>hg x (gz _ hx)
   have:=hg y ma;omega
theorem z3d:∀k:Nat,k<2->∃q:Int,1<=q/\q<=1000000000000/\oIx (.lst [.int 9,.int (10 ^ 12)]) (.int (k:Int))=some (.int q):=by
 intro k hk;have:k=0\/k=1:=by omega
 rcases this with rfl|rfl
 ·exact⟨9,by decide,by decide,rfl⟩
 ·exact⟨10 ^ 12,by decide,by decide,rfl⟩
theorem qwd{w:Nat}{m:D}{rs:List Run}(hw:w<5)(hm:q8u m)(hl:rs.length<=100)(h:∀r∈rs,GoodR w r)(x:Int): ∃rs':List Run,q61 (stF w m rs) [.lst (rs.map runD),.int x,.int (w:Int),m]=some (stF w m rs',.lst (rs'.map runD))/\rs'.length<=rs.length+1/\∀r∈rs',GoodR w r:=by
 have d1k:oDiv (.int x) (.int 1024)=some (.int (x / 1024)):=jv _ _ (by decide) (by decide);have m8:oMod (.int x) (.int 8)=some (.int (x%8)):=j5 _ _ (by decide);have elen:∀s6 s7:Option B,qk yo (qc (eV 1) qh) [oS (stF w m rs),some (.fz (.lst (rs.map runD))),some (.fz (.int x)),some (.fz (.int (w:Int))),some (.fz m),some (.fz (.int (x / 1024))),s6,s7]=some (.int (rs.length:Int)):=fun s6 s7=>by
  refine x_call (qf (x_v rfl) ql) ?_;rw [qms,gv]
 by_cases h4:x%8<4
 ·obtain⟨k,hk,ek⟩:=qe0 (x:=x / 512) (n:=2) (by decide)
  obtain⟨q,q1,q2,eq⟩:=z3d k hk;have hp:oPow (.int 10) (.int 12)=some (.int (10 ^ 12)):=q1i 10 12 (by decide) (by decide) (by decide);have hmq:oMod (.int (x / 1024)) (.int q)=some (.int (x / 1024%q)):=j5 _ _ (by omega);have n0:=g06 (x / 1024) (show q≠0 by omega);have n1:=g02 (x / 1024) (show 0<q by omega);obtain⟨t,ht,et⟩:=qj4 hw (x / 8);have g:GoodR w (1+x / 1024%q,qq 12 t):=⟨by show 1<=1+x / 1024%q;omega,by show 1+x / 1024%q<=_;omega,t,ht,rfl⟩
  have hg:∀r∈rs++[(1+x / 1024%q,qq 12 t)],GoodR w r:=fun r hr=>by
   rcases ud.mp hr with hr|hr
   ·exact h r hr
   ·cases g00.mp hr;exact g
  have e1:=qzd (rs:=rs) hw hm (by omega) g;have hl2:(rs++[(1+x / 1024%q,qq 12 t)]).length=rs.length+1:=by rw [ng];rfl
  have e2:=qpl hm (fun r hr=>(hg r hr).lo) (show _<=900 by rw [hl2];omega);have e3:zw (.lst (rs.map runD)) (.lst [runD (1+x / 1024%q,qq 12 t)])=some (.lst ((rs++[(1+x / 1024%q,qq 12 t)]).map runD)):=by
   rw [qpi _ _ (by rw [gv];simp;omega),pw];rfl
  have pl:=(qaw kh (rs++[(1+x / 1024%q,qq 12 t)]) (ovr m (rs++[(1+x / 1024%q,qq 12 t)]))).2;refine⟨_,?_,by rw [<- hl2];exact pl,q8f kh _ _ hg (qze _ _)⟩;generalize part kh (rs++[(1+x / 1024%q,qq 12 t)]) (ovr m (rs++[(1+x / 1024%q,qq 12 t)]))=P at e1 e2;refine xy (ρ':=[oS (stF w m P.2),some (.fz (.lst (rs.map runD))),some (.fz (.int x)),some (.fz (.int (w:Int))),some (.fz m),some (.fz (.int (x / 1024))),some (.fz (.int (1+x / 1024%q))),some (.fz (qw t))]) ?_ rfl;refine z7 (j7 (qu (x_v rfl) x_c d1k)) (qio (yi (zq (qu (x_v rfl) x_c m8) x_c (ke _ _)) (mj h4) ?_));refine z7 (j7 (qu x_c (qu (x_v rfl) (qu (x_l (q1q (qf x_c (qf (qu x_c x_c hp) ql)) (by show 2<=1000000;decide))) (qu (qu (x_v rfl) x_c (jv _ _ (by decide) (by decide))) x_c ek) eq) hmq) (wc _ _))) ?_;refine z7 (j7 (zm (qf (qu (qu (x_v rfl) x_c (jv _ _ (by decide) (by decide))) x_c (j5 _ _ (by decide))) (qf (x_v rfl) ql)) rfl et)) ?_;refine z7 (q58 (kr rfl (qf (x_v rfl) (qf (x_v rfl) ql)) rfl rfl e1)) ?_;exact xa (zm (qf (qu (x_v rfl) (x_l (q1q (qf (yb (qf (x_v rfl) (qf (x_v rfl) ql)) (by show 2<=1000000;decide)) ql) (by show 1<=1000000;decide))) e3) (qf (x_v rfl) ql)) rfl e2)
 by_cases h5:x%8=4/\0<rs.length
 ·obtain⟨j,hj,ej⟩:=qe0 (x:=x / 1024) (n:=rs.length) h5.2
  have hix:oIx (.lst (rs.map runD)) (.int (j:Int))=some (runD rs[j]):=by
   rw [qz9,qso,mq,mw hj];rfl
  have hrj:=h rs[j] (g0p hj);have hge:=qt7 h (g0p hj);generalize hr:rs[j]=r at hix hrj hge;have r1:=hrj.lo;have r2:=hrj.hi;have hdv:oDivB (.int (x / 1024)) (.int (rs.length:Int))=some (.int (x / 1024 / (rs.length:Int))):=qpj _ _ (by omega) (by omega);have hmd:oMod (.int (x / 1024 / (rs.length:Int))) (.int r.1)=some (.int (x / 1024 / (rs.length:Int)%r.1)):=j5 _ _ (by omega);have n0:=g06 (x / 1024 / (rs.length:Int)) (show r.1≠0 by omega);have n1:=g02 (x / 1024 / (rs.length:Int)) (show 0<r.1 by omega);generalize x / 1024 / (rs.length:Int)%r.1=z at hmd n0 n1;have e1:=qw3 (m:=m) (rs:=rs) (b:=r.2) (many:=1+z) hw (by omega) ⟨by show 1<=1+z;omega,by show 1+z<=_;omega,hrj.b⟩ (by omega);have e2:=qss rs (1+z) r.2 (by omega);have pl:=(qaw (q4f r.2) rs (1+z)).2;refine⟨_,?_,by omega,q8f (q4f r.2) rs (1+z) h (by omega)⟩;generalize part (q4f r.2) rs (1+z)=P at e1 e2;refine xy (ρ':=[oS (stF w m P.2),some (.fz (.lst (rs.map runD))),some (.fz (.int x)),some (.fz (.int (w:Int))),some (.fz m),some (.fz (.int (x / 1024))),some (.fz (.int (1+z))),some (.fz (TI r.2))]) ?_ rfl;refine z7 (j7 (qu (x_v rfl) x_c d1k)) (z7 (jr (zq (qu (x_v rfl) x_c m8) x_c (ke _ _)) (mm h4) jk) (qio (yi (q3c (zq (qu (x_v rfl) x_c m8) x_c (yh _ _)) (mj h5.1) (zq (elen _ _) x_c (vq _ _))) (mj (by omega)) ?_)));refine z7 (qz8 (d:=runD r) (qu (x_v rfl) (qu (x_v rfl) (elen _ _) ej) hix) rfl) ?_;refine z7 (j7 (qu x_c (qu (qu (x_v rfl) (elen _ _) hdv) (x_v rfl) hmd) (wc _ _))) ?_;refine z7 (q58 (kr rfl (qf (x_v rfl) (qf (x_v rfl) ql)) rfl rfl e1)) ?_;exact xa (zm (qf (x_v rfl) (qf (x_v rfl) (qf (x_v rfl) ql))) rfl e2)
 ·refine⟨rs,?_,by omega,h⟩
  refine xy (ρ':=[oS (stF w m rs),some (.fz (.lst (rs.map runD))),some (.fz (.int x)),some (.fz (.int (w:Int))),some (.fz m),some (.fz (.int (x / 1024))),none,none]) ?_ rfl;refine z7 (j7 (qu (x_v rfl) x_c d1k)) (z7 (jr (zq (qu (x_v rfl) x_c m8) x_c (ke _ _)) (mm h4) jk) (z7 (jr (c:=false) ?_ rfl jk) (xa (x_v rfl))))
  by_cases h6:x%8=4
  ·exact(q3c (zq (qu (x_v rfl) x_c m8) x_c (yh _ _)) (mj h6) (zq (elen none none) x_c (vq _ _))).trans (by rw [mm (by omega)])
  ·exact q6c (zq (qu (x_v rfl) x_c m8) x_c (yh _ _)) (mm h6)
end My
open PySem PyProof.Rows L2 DL
namespace My
open PySem PyProof.Rows L2 DL
theorem q03(ns:List Int)(k:Int)(h0:0<=k): ∃c:Int,jz [.lst (ns.map .int),.int k]=some (.int c):=by
 by_cases h:k<(ns.length:Int)
 ·have hk:k.toNat<ns.length:=by omega
  have hi:atI (ns.map D.int) k=some (.int ns[k.toNat]):=by rw [qdz h0,mq,mw hk];rfl
  refine⟨ns[k.toNat],?_⟩
  (refine jw ?_;simp! [q2f,h,hi])
 ·refine⟨0,?_⟩
  (refine jw ?_;simp! [q2f,h])
theorem q16(c k:Int)(h0:0<=k)(h1:k<=1000000): ∃m,y8 [.int c,.int k]=some (.int m)/\0<=m/\m<2147483579:=by
 have hkk:jx (.int k) (.int k)=some (.int (k*k)):=vd _ _ ⟨by omega,by omega⟩;have hx:∀x:Int,jx (.int (x%2147483647)) (.int (x%2147483647))=some (.int ((x%2147483647)*(x%2147483647))):=fun x=>
  vd _ _ ⟨by have:=g06 x (show(2147483647:Int)≠0 by decide);omega,by have:=g02 x (show(0:Int)<2147483647 by decide);omega⟩
 have hy:∀x y:Int,jx (.int x) (.int (y%2147483629))=some (.int (x*(y%2147483629))):=fun x y=>
  vd _ _ ⟨by have:=g06 y (show(2147483629:Int)≠0 by decide);omega,by have:=g02 y (show(0:Int)<2147483629 by decide);omega⟩
 have hl:∀x:Int,jx (.int x) (.int 48271)=some (.int (x*48271)):=fun x=>vd _ _ ⟨by decide,by decide⟩;have hl2:∀x:Int,jx (.int x) (.int 7919)=some (.int (x*7919)):=fun x=>vd _ _ ⟨by decide,by decide⟩;have hl3:∀x:Int,jx (.int x) (.int 69621)=some (.int (x*69621)):=fun x=>vd _ _ ⟨by decide,by decide⟩;have hl4:∀x:Int,jx (.int x) (.int 40692)=some (.int (x*40692)):=fun x=>vd _ _ ⟨by decide,by decide⟩;have fin:∀x:Int,0<=x%2147483579/\x%2147483579<2147483579:=fun x=>⟨g06 x (by decide),g02 x (by decide)⟩
 simp! [y8,q49,hkk,hx,hy,hl,hl2,hl3,hl4];exact⟨_,rfl,fin _⟩
theorem qt8(ns:List Int)(hl:ns.length<=63): ∃n:Nat,n<=62/\yw [.lst (ns.map .int)]=some (.int (n:Int)):=by
 obtain⟨c,ec⟩:=q03 ns 0 (by decide)
 by_cases h:c%2=0
 ·refine⟨((ns.length:Int)-1).toNat,by omega,?_⟩
  have e:(if 0<(if 62<(ns.length:Int)-1 then 62 else(ns.length:Int)-1) then(if 62<(ns.length:Int)-1 then 62 else(ns.length:Int)-1) else 0)=((((ns.length:Int)-1).toNat:Nat):Int):=by
   split <;> split <;> omega
  rw [<- e]
  (refine jw ?_;simp! [yu,ec,h,q6a,q3e])
 ·obtain⟨m,em,hm,_⟩:=q16 c 3 (by decide) (by decide)
  refine⟨(6+m%10).toNat,by omega,?_⟩;rw [g1e (by omega)]
  (refine jw ?_;simp! [yu,ec,h,em])
theorem qpx(ns:List Int)(hl:ns.length<=63)(k:Nat)(hk:k<=100): ∃x:Int,q36 [.lst (ns.map .int),.int (k:Int)]=some (.int x):=by
 obtain⟨c,ec⟩:=q03 ns 0 (by decide)
 by_cases h:c%2=0
 ·obtain⟨c2,ec2⟩:=q03 ns (1+(k:Int)) (by omega)
  have hp:oPow (.int 10) (.int 60)=some (.int (10 ^ 60)):=q1i 10 60 (by decide) (by decide) (by decide);have hm:oMod (.int c2) (.int (10 ^ 60))=some (.int (c2%10 ^ 60)):=j5 _ _ (by decide);refine⟨c2%10 ^ 60,?_⟩;refine xx (ρ':=_) (qio (yi (zq (qu (zm (qf (x_v rfl) (qf x_c ql)) rfl ec) x_c (j5 _ _ (by decide))) x_c (yh _ _)) (mj h) (xa (qu (zm (qf (x_v rfl) (qf (qu x_c (x_v rfl) rfl) ql)) rfl ec2) (qu x_c x_c hp) hm))))
 ·have hmx:∃q:Int,1<=q/\oMax [.int 1,.int ((ns.length:Int)-1)]=some (.int q):=⟨_,by split <;> omega,q3e _ _⟩
  obtain⟨q,hq,eq⟩:=hmx;have hmod:oMod (.int (k:Int)) (.int q)=some (.int ((k:Int)%q)):=j5 _ _ (by omega);have hnn:=g06 (k:Int) (show q≠0 by omega);obtain⟨c2,ec2⟩:=q03 ns (1+(k:Int)%q) (by omega);obtain⟨m1,em1,_⟩:=q16 c2 ((k:Int)+5) (by omega) (by omega);obtain⟨m2,em2,_⟩:=q16 (k:Int) 9 (by decide) (by decide);have ht:jx (.int m1) (.int 2147483647)=some (.int (m1*2147483647)):=vd _ _ ⟨by decide,by decide⟩;have eln:qk yo (qc (eV 0) qh) [some (.fz (.lst (ns.map .int))),some (.fz (.int (k:Int)))]=some (.int (ns.length:Int)):=by
   refine x_call (qf (x_v rfl) ql) ?_;rw [qms,gv]
  refine⟨m1*2147483647+m2,?_⟩;refine xx (ρ':=_) (z7 (jr (zq (qu (zm (qf (x_v rfl) (qf x_c ql)) rfl ec) x_c (j5 _ _ (by decide))) x_c (yh _ _)) (mm h) jk) (xa ?_));refine qu (qu (zm (qf (zm (qf (x_v rfl) (qf (qu x_c (qu (x_v rfl) (x_call (qf x_c (qf (qu eln x_c rfl) ql)) eq) hmod) rfl) ql)) rfl ec2) (qf (qu (x_v rfl) x_c rfl) ql)) rfl em1) x_c ht) (zm (qf (x_v rfl) (qf x_c ql)) rfl em2) rfl
theorem qg2{ρ : Rho}{i:Nat}{g:FE}{ds:List D}{j:Int}{d:D}(h : ρ[i]? = some (some (.ow ds)))(hg:g ρ = some (.int j))(h2:atI ds j=some d): q45 i g ρ = some d:=by
 unfold q45 q23;rw [h];dsimp only;rw [gj,hg,gj];exact h2
section
variable{w:Nat}{M:Int}{rr:Bool->List Run}{a:Bool}
abbrev ixB(a:Bool): Int:=if a then 1 else 0
abbrev ixM(a:Bool): Nat:=if a then 1 else 0
abbrev win(M:Int)(a:Bool): D:=if a then .int M else .non
abbrev sts(w:Nat)(M:Int)(rr:Bool->List Run): List (Str×Flds):=[("Store",stF w .non (rr false)),("Store",stF w (.int M) (rr true))]
abbrev own(rr:Bool->List Run): List D:=[.lst ((rr false).map runD),.lst ((rr true).map runD)]
def put(rr:Bool->List Run)(a:Bool)(rs:List Run): Bool->List Run:=fun b=>if b=a then rs else rr b
theorem qd0:qac (sts w M rr) (.int (ixB a))=some (ixM a,("Store" : Str),stF w (win M a) (rr a)):=by cases a <;> rfl
theorem qd1:atI (own rr) (ixB a)=some (.lst ((rr a).map runD)):=by cases a <;> rfl
theorem qwe(rs:List Run): (sts w M rr).set (ixM a) ("Store",stF w (win M a) rs)=sts w M (put rr a rs):=by cases a <;> rfl
theorem set_same:(sts w M rr).set (ixM a) ("Store",stF w (win M a) (rr a))=sts w M rr:=by cases a <;> rfl
theorem set_own(rs:List Run): (own rr).set (ixM a) (.lst (rs.map runD))=own (put rr a rs):=by cases a <;> rfl
theorem qzn:ixN (own rr).length (ixB a)=some (ixM a):=by cases a <;> rfl
theorem qzo:oIx (.lst [.non,.int M]) (.int (ixB a))=some (win M a):=by cases a <;> rfl
theorem qpy:oSub (.int 1) (.int (ixB a))=some (.int (ixB (!a))):=by cases a <;> rfl
theorem qzp(h1:1<=M)(h2:M<=60): q8u (win M a):=by
 cases a
 ·exact .inl rfl
 ·exact .inr ⟨M,rfl,h1,h2⟩
end
abbrev rho(s:D)(w:Nat)(M:Int)(rr:Bool->List Run)(left:Int)(b6 b7 b8:Option B): Rho:=[some (.fz s),some (.fz (.int (w:Int))),some (.fz (.lst [.non,.int M])),some (.od (.many (sts w M rr))),some (.ow (own rr)),some (.fz (.int left)),b6,b7,b8,none]
section
variable{s:D}{w:Nat}{M:Int}{rr:Bool->List Run}{left:Int}{b6 b7 b8:Option B}{a:Bool}{x:Int}
theorem qk0(hw:w<5)(h:Runs w (rr a)): sIf (q22 (zl oEq (eOp oMod (eV 7) (eC (.int 8))) (eC (.int 5))) (zl oLt' (qk (qt 2 [] kc) (qc (q45 4 (eV 8)) (qc (q5o (eV 1)) qh))) (eOp oSub (eOp oPow (eC (.int 10)) (eC (.int 12))) (eC (.int 9))))) (q2w (q3j (mbT (q1k "Store" 3 2 q07 (eV 8) (qc (eOp oDiv (eV 7) (eC (.int 512))) (qc (eV 1) qh))))) (ze (eC (.bl false))) j9) j9
  (rho s w M rr left b6 (some (.fz (.int x))) (some (.fz (.int (ixB a)))))=some (.nx,rho s w M rr left b6 (some (.fz (.int x))) (some (.fz (.int (ixB a))))):=by
 have m8:oMod (.int x) (.int 8)=some (.int (x%8)):=j5 _ _ (by decide);have hp:oPow (.int 10) (.int 12)=some (.int (10 ^ 12)):=q1i 10 12 (by decide) (by decide) (by decide)
 by_cases h5:x%8=5
 ·have ec:=q3f hw h (q2j hw (qld hw))
  have t1:=q3c (ρ :=rho s w M rr left b6 (some (.fz (.int x))) (some (.fz (.int (ixB a))))) (zq (qu (x_v (i:=7) rfl) x_c m8) x_c (yh _ 5)) (mj h5) (zq (zm (qf (qg2 (i:=4) (g:=eV 8) rfl (x_v rfl) qd1) (qf (qu2 hw (x_v (i:=1) rfl)) ql)) rfl ec) (qu (qu (x_c (d:=.int 10)) (x_c (d:=.int 12)) hp) (x_c (d:=.int 9)) (q69 _ _)) (ke _ _))
  by_cases hc:cM (rr a) (2 ^ w-1)<10 ^ 12-9
  ·have er:=qn2 (m:=win M a) hw h (x / 512) (by omega)
   refine yi t1 (mj hc) (q57 (qe2 (qmt (q8g rfl (x_v rfl) qd0 (qf (qu (x_v rfl) x_c (jv _ _ (by decide) (by decide))) (qf (x_v rfl) ql)) rfl er) rfl)) rfl ?_);rw [set_same]
   rfl
  ·exact jr t1 (mm hc) jk
 ·exact jr (q6c (zq (qu (x_v rfl) x_c m8) x_c (yh _ _)) (mm h5)) rfl jk
theorem qt9(hw:w<5)(h:∀a,Runs w (rr a)): ∃left':Int,sIf (q22 (zl oGt (eOp oMod (eV 7) (eC (.int 8))) (eC (.int 5))) (zl oGt (eV 5) (eC (.int 0)))) (qz (zj 5 (eOp oSub (eV 5) (eC (.int 1)))) (qz (q2w (q3j (mbT (q1k "Store" 3 3 v7 (eV 8) (qc (eV 1) (qc (q45 4 (eV 8)) (qc (eOp oDiv (eV 7) (eC (.int 512))) qh)))))) (ze (eC (.bl false))) j9) (q2w (q3k qa3 (qbv "Store" "pile" 3 ji (eOp oSub (eC (.int 1)) (eV 8))) (mP (jd (qc (eV 1) (qc (qk xu (qc (q45 4 (eOp oSub (eC (.int 1)) (eV 8))) qh)) qh))))) (ze (eC (.bl false))) j9))) j9
  (rho s w M rr left b6 (some (.fz (.int x))) (some (.fz (.int (ixB a)))))=some (.nx,rho s w M rr left' b6 (some (.fz (.int x))) (some (.fz (.int (ixB a))))):=by
 have m8:oMod (.int x) (.int 8)=some (.int (x%8)):=j5 _ _ (by decide)
 by_cases h5:5<x%8
 ·have t1:=q3c (ρ :=rho s w M rr left b6 (some (.fz (.int x))) (some (.fz (.int (ixB a))))) (zq (qu (x_v (i:=7) rfl) x_c m8) x_c (vq _ 5)) (mj h5) (zq (x_v (i:=5) rfl) x_c (vq _ 0))
  by_cases h0:0<left
  ·have et:=qe5 (m:=win M a) hw (h a) (x / 512)
   refine⟨left-1,yi t1 (mj h0) ?_⟩;refine z7 (ρ1:=rho s w M rr (left-1) b6 (some (.fz (.int x))) (some (.fz (.int (ixB a))))) (j7 (qu (x_v rfl) x_c (q69 _ _))) ?_;refine z7 (ρ1:=rho s w M rr (left-1) b6 (some (.fz (.int x))) (some (.fz (.int (ixB a))))) (q57 (qe2 (qmt (q8g rfl (x_v rfl) qd0 (qf (x_v rfl) (qf (qg2 rfl (x_v rfl) qd1) (qf (qu (x_v rfl) x_c (jv _ _ (by decide) (by decide))) ql))) rfl et) rfl)) rfl (by rw [set_same];rfl)) ?_;refine q57 (b:=false) (q8t (qzi rfl (qu x_c (x_v rfl) qpy) qd0 rfl (q8v _ _ _)) (qat ?_) (qfz (ql9 w (rr !a)))) rfl ?_
   ·rw [set_same]
    exact yb (qf (x_v rfl) (qf (x_call (qf (qg2 rfl (qu x_c (x_v rfl) qpy) qd1) ql) rfl) ql)) (by show 2<=1000000;decide)
   ·rw [set_same]
    rfl
  ·exact⟨left,jr t1 (mm h0) jk⟩
 ·exact⟨left,jr (q6c (zq (qu (x_v rfl) x_c m8) x_c (vq _ _)) (mm h5)) rfl jk⟩
end
theorem qj5(ns:List Int)(hns:ns.length<=63)(w:Nat)(hw:w<5)(M:Int)(hM:1<=M)(hM2:M<=60): ∀(n k:Nat) (rr:Bool->List Run) (left:Int) (b6 b7 b8:Option B),k+n<=62->(∀a,(rr a).length<=k/\∀r∈rr a,GoodR w r)->∃rr' left' b6' b7' b8',(∀a,Runs w (rr' a)) /\
  runFor (bN 6) qas (zy (k:Int) n) (rho (.lst (ns.map .int)) w M rr left b6 b7 b8)=some (.nx,rho (.lst (ns.map .int)) w M rr' left' b6' b7' b8')
 | 0,k,rr,left,b6,b7,b8,hk,h=>⟨rr,left,b6,b7,b8,fun a=>⟨by have:=(h a).1;omega,(h a).2⟩,rfl⟩
 | n+1,k,rr,left,b6,b7,b8,hk,h=>by
  obtain⟨x,ex⟩:=qpx ns hns k (by omega);have hat:∃a:Bool,oMod (.int (x / 256)) (.int 2)=some (.int (ixB a)):=by
   rw [j5 _ _ (by decide)]
   by_cases h2:x / 256%2=0
   ·exact⟨false,by rw [h2];rfl⟩
   ·exact⟨true,by rw [show x / 256%2=1 by omega];rfl⟩
  obtain⟨a,ea⟩:=hat;obtain⟨rs',ed,hl',hg'⟩:=qwd (m:=win M a) hw (qzp hM hM2) (by have:=(h a).1;omega) (h a).2 x;have h':∀b,(put rr a rs' b).length<=k+1/\∀r∈put rr a rs' b,GoodR w r:=fun b=>by
   unfold put
   split
   ·exact⟨by have:=(h a).1;omega,hg'⟩
   ·exact⟨by have:=(h b).1;omega,(h b).2⟩
  have hR:∀b,Runs w (put rr a rs' b):=fun b=>⟨by have:=(h' b).1;omega,(h' b).2⟩
  obtain⟨left',el⟩:=qt9 (s:=.lst (ns.map .int)) (M:=M) (left:=left) (b6:=some (.fz (.int (k:Int)))) (a:=a) (x:=x) hw hR;obtain⟨rr2,left2,c6,c7,c8,hr2,ih⟩:=qj5 ns hns w hw M hM hM2 n (k+1) (put rr a rs') left' (some (.fz (.int (k:Int)))) (some (.fz (.int x))) (some (.fz (.int (ixB a)))) (by omega) h';refine⟨rr2,left2,c6,c7,c8,hr2,?_⟩;rw [qjw];refine(wd (ρ1:=rho (.lst (ns.map .int)) w M rr left (some (.fz (.int (k:Int)))) b7 b8) (ρ2:=rho (.lst (ns.map .int)) w M (put rr a rs') left' (some (.fz (.int (k:Int)))) (some (.fz (.int x))) (some (.fz (.int (ixB a))))) rfl ?_).trans ih;refine z7 (ρ1:=rho (.lst (ns.map .int)) w M rr left (some (.fz (.int (k:Int)))) (some (.fz (.int x))) b8) (j7 (zm (qf (x_v rfl) (qf (x_v rfl) ql)) rfl ex)) ?_;refine z7 (ρ1:=rho (.lst (ns.map .int)) w M rr left (some (.fz (.int (k:Int)))) (some (.fz (.int x))) (some (.fz (.int (ixB a))))) (j7 (qu (qu (x_v rfl) x_c (jv _ _ (by decide) (by decide))) x_c ea)) ?_;refine z7 (ρ1:=rho (.lst (ns.map .int)) w M (put rr a rs') left (some (.fz (.int (k:Int)))) (some (.fz (.int x))) (some (.fz (.int (ixB a))))) ?_ (z7 (qk0 hw (hR a)) el);have e:=qw9 (i:=4) (g:=eV 8) (q8g (ρ :=rho (.lst (ns.map .int)) w M rr left (some (.fz (.int (k:Int)))) (some (.fz (.int x))) (some (.fz (.int (ixB a))))) (i:=3) (g:=eV 8) rfl (x_v rfl) qd0 (qf (qg2 (i:=4) (g:=eV 8) rfl (x_v rfl) qd1) (qf (x_v (i:=7) rfl) (qf (x_v (i:=1) rfl) (qf (qu (x_v (i:=2) rfl) (x_v (i:=8) rfl) qzo) ql)))) rfl ed) rfl (x_v rfl) qzn;rw [qwe,set_own] at e;exact e
theorem qta(ns:List Int)(hl:ns.length<=63): qmp [.lst (ns.map .int)]=some (.bl true):=by
 obtain⟨c,ec⟩:=q03 ns 0 (by decide);obtain⟨w,hw,ew⟩:=qe0 (x:=c / 2) (n:=5) (by decide);have m60:=g06 (c / 12) (show(60:Int)≠0 by decide);have m60':=g02 (c / 12) (show(0:Int)<60 by decide);obtain⟨n,hn,en⟩:=qt8 ns hl;obtain⟨rr,left,b6,b7,b8,hr,eL⟩:=qj5 ns hl w hw (1+c / 12%60) (by omega) (by omega) n 0 (fun _=>[]) 3 none none none (by omega) fun a=>⟨m6 _,fun r hr=>by cases hr⟩
 obtain⟨x,ex,_⟩:=q16 c 77 (by decide) (by decide);have i1:=ql7 (m:=.non) hw (.inl rfl);have i2:=ql7 (m:=.int (1+c / 12%60)) hw (.inr ⟨_,rfl,by omega,by omega⟩);have t1:=qe5 (m:=.non) hw (hr false) x;have t2:=qe5 (m:=.int (1+c / 12%60)) hw (hr true) x;have er:iR1 (qc (qk (qt 1 [] yw) (qc (eV 0) qh)) qh) (rho (.lst (ns.map .int)) w (1+c / 12%60) (fun _=>[]) 3 none none none)=some (zy 0 n):=(ql3 _ _ (n:Int) (qf (zm (qf (x_v rfl) ql) rfl en) ql) (by omega) (by omega)).trans (by rw [uq]);have ecx:∀r:Rho,qk (qt 2 [] jz) (qc (eV 0) (qc (eC (.int 0)) qh)) (some (.fz (.lst (ns.map .int))) :: r)=some (.int c):=fun r=>zm (qf (x_v rfl) (qf x_c ql)) rfl ec;refine xx (ρ':=[some (.fz (.lst (ns.map .int))),some (.fz (.int (w:Int))),some (.fz (.lst [.non,.int (1+c / 12%60)])),some (.od (.many (sts w (1+c / 12%60) rr))),some (.fz (.lst (own rr))),some (.fz (.int left)),b6,b7,b8,some (.fz (.int x))]) ?_;refine z7 (j7 (qu (qu (ecx _) x_c (jv _ _ (by decide) (by decide))) x_c ew)) ?_;refine z7 (j7 (x_l (q1q (qf x_c (qf (qu x_c (qu (qu (ecx _) x_c (jv _ _ (by decide) (by decide))) x_c (j5 _ _ (by decide))) (wc _ _)) ql)) (by show 2<=1000000;decide)))) ?_;refine z7 (qzj (qf (x_v rfl) ql) (qf (x_v rfl) (qf (qu (x_v rfl) x_c rfl) ql)) rfl rfl rfl i1 i2) ?_;refine z7 (qco (q1q (qf (x_l (q1q ql (by decide))) (qf (x_l (q1q ql (by decide))) ql)) (by show 2<=1000000;decide))) ?_;refine z7 (ρ1:=rho (.lst (ns.map .int)) w (1+c / 12%60) (fun _=>[]) 3 none none none) (j7 x_c) ?_;refine z7 (qfw er eL) ?_;refine qcp (ρ1:=[some (.fz (.lst (ns.map .int))),some (.fz (.int (w:Int))),some (.fz (.lst [.non,.int (1+c / 12%60)])),some (.od (.many (sts w (1+c / 12%60) rr))),some (.fz (.lst (own rr))),some (.fz (.int left)),b6,b7,b8,none]) rfl ?_;refine z7 (j7 (zm (qf (ecx _) (qf x_c ql)) rfl ex)) ?_;refine qcq (qpt (ρ1:=[some (.fz (.lst (ns.map .int))),some (.fz (.int (w:Int))),some (.fz (.lst [.non,.int (1+c / 12%60)])),some (.od (.many (sts w (1+c / 12%60) rr))),some (.fz (.lst (own rr))),some (.fz (.int left)),b6,b7,b8,some (.fz (.int x))]) ?_ ?_)
 ·exact q8g (n:=0) (l:=sts w (1+c / 12%60) rr) rfl x_c rfl (qf (x_v rfl) (qf (qu (x_v rfl) x_c rfl) (qf (x_v rfl) ql))) rfl t1
 ·exact q8g (n:=1) (l:=sts w (1+c / 12%60) rr) rfl x_c rfl (qf (x_v rfl) (qf (qu (x_v rfl) x_c rfl) (qf (x_v rfl) ql))) rfl t2
end My
namespace My
open PySem PySem.Spec PyProof.Rows L2 DL
open PySem.W (nsIn fnOf keepIn codeIn mg_of subIn mg_none_of findIn plainGet)
theorem all_mk[Lam]{l:PySem.W.OpenLaw}{w:World}{K:Frag}{mg:Tc}{fa:Addr}(Z:Zs K mg)(hfa:mg "law" = some (.ref fa))(hm:∀ns:List Int,ns.length<=63->qmp [.lst (ns.map .int)]=some (.bl true)): ∃fd:FuncData,(∀(s:Shared) (v:Value),BindsTo s fd ⟨[v],[]⟩ [("_law_script",v)])/\∀base:Heap,K.In base->base.Ns mainGlobals mg->FnOk l.prog w K mg base CX0 8 fa fd ["_law_script"] (qfp K):=by
 cases hfa.symm.trans Z.dlaw.m;refine⟨_,Z.dlaw.F.bindsTo (P:=fun fd=>∀(s:Shared) (v:Value),BindsTo s fd ⟨[v],[]⟩ [("_law_script",v)]) (fun _ _ _ _ _ _ s v=>.of_eq rfl),fun base _ _=>?_⟩;exact qxu (qz5 (P:=l.prog) (w:=w) (base:=base) Z) hm
end My
structure PySem.W.Fast:Prop where(tw15968883321179210246 tw16170157152139381311 tw7472067112581675418 tw12917269911342607980 tw1544392804566058494 tw4825360294289385249 tw18018296135532597730 tw8295419469326384891 tw185718704349795274 tw9535037365902472415 tw8010015080721421879 tw7217771164998514505 tw15405854677388436222 tw5318904004278938248 tw6905425962408010405 tw15364268072644074887 tw980108365041241104 tw8884627254745594620 tw13904158815653143469 tw10541623232815886014 tw15260739592202829244 tw15256787788774883165 tw700829786222431369 tw14978215279358179440 tw2958030099032063863 tw3800631363913002035 tw6322856517064646636 tw11479613613911779391 tw10629078278997528257 tw12334537930982550824 tw2887050203369152332 tw7390440937649181683 tw12310614520436856438 tw6082280868693505715 tw5383020911925070154 tw17464914113829900973 tw11260968042373806386 tw5401961553445490335 tw13761719145860635346 tw4480220232535199990 tw3231935127109221786 tw4365832274067301371 tw10347004491624068448 tw15356592254412858847 tw15140777388729668137 tw1165640950193391863 tw17718613609256670987 tw315582343439691151 tw16514379616593011588 tw7827150502215993662 tw15496751129893570147 tw14459330022675833745 tw33730636214414796 tw11560075526081801185 tw15818179127930120621 tw5844681940971042488 tw3427929126150905938 tw9829557326928585022 tw2359958845804847907 tw16874216740883908252 tw7930120536713169921 tw18417897557397344808 tw11071757023652058864 tw16918470549082781452 tw11977627836719531838 tw6490882612571156743 tw8238712588926675955 tw14843716426005456478 tw131652732954081588 tw7922553568308078307 tw14598244207122754873 tw9457655729525237381 tw7339685547334246186 tw16532390972652245661 tw16312690070464216112 tw13651172698743547269 tw9070833172112926631 tw8358519238115120797 tw11963502135624674246 tw4035318985011033480 tw7664318260766948907 tw17788075502154756692 tw7908195548073212885 tw10455224755903936100 tw1439551661262226384 tw2465594134108210531 tw7204027805844778769 tw8143011564481770264 tw2428089081146153218 tw15736282588941057197 tw1299536638939807864 tw10127771736305428410 tw16791882070616657219 tw1043730347648817403 tw2834561490978848180 tw5604948725084198531 tw13658786277094191241 tw17487573105667255048 tw7149264573310130874 tw6424308925645202779 tw13012520085593572523 tw16960087187823410930 tw14662932844353965610 tw4004794443857216959 tw11790380467457080990 tw6889210169419375676 tw477824841843796264 tw4280773863958871597 tw5418736577261145227 tw1479174165612527941 tw1450008636801911698 tw13638908568226155121 tw4157215379310447182 tw3855631754230038516 tw13486661225894609411 tw14269535554262520202 tw2594915608149745187 tw7079411127230729161 tw3306904020743011719 tw12529788593948484115 tw13916328080677484898 tw8221379184953226679 tw6663068971764118809 tw4207269728025993481 tw2993640087157058276 tw4948980230083532389 tw14311850556308076900 tw10744302223812635684 tw13206463242372161277 tw9778642811818956094 tw1336921452139150867 tw7828594603821352681 tw8936888036303587871 tw7454092312513924130 tw10910555808942879716 tw236673650203733799 tw641319700687852731 tw5533760512894334812 tw3180255564671425533 tw2370752232440226494 tw4981847769656417181 tw12308164085817878433 tw2015974777661268586 tw103673858602417012 tw18195611235574873565 tw2142666761661437546 tw18416375716345067220 tw13495258753267272684 tw12333246980570229789 tw10476359913789597863 tw16392696230282993780 tw8759867342676565083 tw17438587041747667053 tw3938870590062214554 tw13823872484630130287 tw12797730307052229663 tw7915157722108111021 tw16009461020998636848 tw6164576617403830991 tw9553152196521413779 tw5511002066362444458 tw17409876094486140107 tw551795147269875881 tw11524959814577211072 tw16803118974625366202 tw9348783263955498489 tw17224680953321030315 tw6502815830469157457 tw16921778481579430370 tw16578075806642971274 tw691895945465446229 tw17507247139030190750 tw14579227938192763448 tw10012296772906717456 tw12000557016291531679 tw740283619020372841 tw13597881920322513668 tw15850361263289039713 tw8410031292162378923 tw9854706965535714136 tw11980675202163645897 tw16605608327297471717 tw14643939194737513573 tw9001609369248659931 tw17701580302698727960 tw9191847255277917474 tw4939582250829543836 tw16844621647125705406 tw5347635247479255529 tw9316508030756547340 tw3397854531459712956 tw6194585418391468494:True)
open PySem PySem.W PyProof.Rows
local macro_rules | `(tactic| walk_at "K")=> `(tactic| first|k_is|kernel_rfl|rfl)
local macro_rules | `(tactic| walk_at "F")=> `(tactic| exact DL.quq (by k_is) (by k_is) (by k_is))
set_option maxHeartbeats 0 in
theorem PySem.Challenge.cw_oftentogether_k44_whole_store_anew_holds : PySem.Challenge.rw_oftentogether_k44_whole_store_anew.Holds := by
 w_on;o_law;k_head;(case hw=>w_witness2)
 k_fill
 letI:DL.Lam:=⟨[]⟩
 refine DL.qxv rfl (l:=PySem.Challenge.rw_oftentogether_k44_whole_store_anew) (k:=8) (x:="_law_script") rfl rfl ⟨rfl,by decide,by decide⟩ (fun w h Y=>PySem.W.kIn_of Y) ?F
 case F=>
  intro w mg fa h KX G hmg;refine' My.all_mk (.mk ..) hmg My.qta
  all_goals try first|exact⟨g30 KX G (by k_is),by walk_at "F"⟩|(try dsimp only);exact⟨by k_is,by k_is,by walk_at "F"⟩|exact PySem.W.mg_none_of KX G (by k_is)|exact g30 KX G (by k_is)|exact⟨_,g30 KX G (by k_is)⟩|exact⟨g30 KX G (by k_is),⟨by k_is,by k_is,by k_is,by k_is,⟨by k_is,by k_is,by k_is,by k_is⟩,by k_is,by k_is,by k_is,by k_is,by k_is,by k_is,DL.qvb (by k_is) (by k_is) (by k_is) (by k_is) (by k_is) (by k_is)⟩⟩|exact⟨g30 KX G (by k_is),⟨by k_is,⟨by k_is,by k_is,by k_is,by k_is⟩,fun f hf=>(by simp only [mh,g34,g0o] at hf;rcases hf with rfl|rfl|rfl <;> (show PySem.W.findIn _ _ _=_;k_is))⟩,by k_is,by k_is⟩|exact⟨⟨by walk_at "K",by walk_at "K",by walk_at "K",by walk_at "K",by walk_at "K",by walk_at "K",by walk_at "K"⟩,DL.qux (by walk_at "K") (by walk_at "K") (by walk_at "K") (by walk_at "K") (by walk_at "K") (by walk_at "K")⟩|exact⟨by walk_at "K",by walk_at "K",by walk_at "K",by walk_at "K"⟩|exact⟨_,_,_,_,_,rfl,by k_is⟩|exact⟨_,_,_,_,_,_,rfl,by k_is⟩|walk_at "K"
